import PyProof.Rows.All
import Wide.All
import KE.KDictOf
import KE.LcSums
import KE.KRevIter
import KE.KDictList
import KE.KUnpack
import KE.KSortTup
import KE.KIntText
import KE.KTryMore
import KE.KFromBytes
import Wide.FinOn
import KE.RegKIsAll
import Lean
import PySem.Challenge.RW_ringbeat_k83_texts_refused
set_option Elab.async false
set_option linter.all false
set_option compiler.extract_closed false
set_option genSizeOf false
set_option maxRecDepth 100000
set_option maxHeartbeats 4000000
open Array renaming length_toList→iY,getElem?_eq_some_iff→lO,toList_inj→mS,mem_toList_iff→nQ,all_eq_true'→wN,append_assoc→wO,all_toList→yT,replicate→zZ
open Bool renaming and_eq_true→cx,false_ne_true→cD,false_eq_true→eM,or_eq_true→jD,and_false→rR,and_true→sR,or_false→sS,or_eq_false_iff→vH,eq_false_iff→yU,false_and→Br,true_and→B6
open Int renaming emod_lt_of_pos→hZ,emod_nonneg→jG,toNat_natCast→kj,toNat_of_nonneg→oP,fdiv_eq_ediv_of_nonneg→sk
open List renaming mem_cons_self→b9,mem_cons_of_mem→cj,length_map→ck,length_cons→cm,mem_cons→cn,length_append→cp,mem_singleton→cz,replicate→cE,mem_append→cG,size_toArray→cJ,mem_append_right→cK,map_cons→cL,getElem?_eq_some_iff→cM,mem_append_left→cN,append_nil→cS,getElem?_eq_getElem→cX,mem_map→cZ,nodup_append→c8,lookup_cons→de,not_mem_nil→df,nodup_nil→dk,all_eq_true→dB,nodup_cons→dC,getElem?_map→dG,map_append→dO,range→dQ,length_drop→dW,mem_filter→d8,length_take→ef,append_assoc→eh,mem_range→eu,replicate_succ→eE,length_replicate→eF,length_singleton→eG,contains→eO,find?_cons→fk,length_range→fD,map_map→fE,mem_iff_getElem?→fK,set→fL,length_nil→fY,all_cons→gp,getD_eq_getElem?_getD→gA,contains_iff_mem→gB,getElem?_append_left→gG,getElem?_set_self→hG,take_of_length_le→hJ,zip_cons_cons→hV,any_cons→ip,flatten_cons→iw,getElem?_append_right→iI,getElem?_set_ne→iJ,lookup→iK,mem_iff_getElem→iL,getElem_mem→iS,flatMap_append→iZ,of_mem_zip→jE,length→jL,findIdx?_eq_some_iff_getElem→jT,drop_of_length_le→ke,countP_cons→kI,getElem_inj→kJ,nodup_range→kK,mem_of_mem_take→kU,forIn_cons→kY,length_zip→kZ,filterMap_cons→lg,length_reverse→ll,countP_append→lQ,drop_eq_getElem_cons→ml,ext_getElem?→my,flatMap_cons→mz,getElem?_take_of_lt→mF,cons_ne_nil→mX,getElem?_replicate→mY,drop_eq_nil_of_le→nq,foldl_cons→nD,forIn_nil→nY,getElem?_of_mem→nZ,mem_of_mem_drop→n6,length_pos_iff→oB,map_drop→oQ,contains_cons→oW,reverse_cons→pC,set_set→pD,take_length→qA,zipIdx_cons→qB,take_append_of_le_length→qQ,nil_append→qW,perm_ext_iff_of_nodup→rS,sublist_append_right→sm,Pairwise→sT,filter_cons_of_neg→tP,filter_cons_of_pos→tQ,getElem?_cons_succ→tR,length_eq_zero_iff→tS,all_map→t6,any_map→t7,range_succ_eq_map→t8,sublist_cons_self→uA,countP_singleton→uP,getElem_toArray→vJ,length_dropLast→vK,getElem?_range→wR,find?_eq_none→xN,findIdx?_cons→xO,foldl→xP,map_singleton→xQ,mem_filterMap→xR,mem_replicate→xS,any_eq_false→yW,findIdx?_map→yX,foldl_append→yY,getElem?_set→yZ,getElem_take→zJ,idxOf_append→zK,any_eq_true→Aa,ext_getElem→Ab,map_reverse→Ac,find?_some→AW,length_set→AX,mem_zipIdx→AY,range_succ→AZ,zipIdx_nil→A6,zip_append→A7,drop_zero→Bt,take_succ→Bu,sum_cons→B7
open Nat renaming le_refl→cI,ne_of_lt→cW,lt_of_lt_of_le→dg,le_trans→d9,zero_le→eI,lt_irrefl→gP,ne_of_gt→kl,lt_succ_self→kQ,min_eq_left→lm,lt_succ_of_lt→mG,min_eq_right→m8,le_succ→oq,lt_of_le_of_lt→pf,le_of_lt→pU,le_of_succ_le→pV,le_total→pW,min_self→pX,zero_add→pY,log2_lt→qX,le_of_eq→uQ,succ_mul→uR,pow_le_pow_right→wU,log2_le_self→A8,mul_le_mul→B8
open Option renaming bind_some→cP,map_eq_some_iff→eP,isSome_iff_exists→mm,isSome_map→oX,map_some→qC,getD_none→xT,getD_some→xU
open PyProof.Rows renaming callWith_type1→ej,callWith_builtin1→n9
open PySem renaming Value→bV,wpAny_bind→bW,Addr→ce,Shared→cq,wpAny_pure→cw,Heap→cB,model→cC,wpAny→cF,FuncData→cH,PyData→cU,Around→c7,starEach→c9,NameKind→dh,World→dw,sizeLine_eq→dD,Program→dH,bootBuiltins→dY,eval→ei,Stmt→ek,assignEach→eK,wpAny_Call_Name_kw→eT,wpAny_mono→e8,mainGlobals→fq,strIterType→fu,behindInMarks→fX,Obj→f9,PassesOwn→gj,compareOp→gk,binaryOp→gz,swapsWith→gQ,codeAny_mono→gR,keywordEach→iu,codeAny→ix,wpAny_passesOwn→iG,wpAny_holding→iM,wpAny_newObj_type→iT,wpAny_pyIter_list→iU,wpAny_truthy_bool→iV,backTo→jM,wpAny_standAt→kc,holding→kh,sysModules→km,getMethod→kz,sliceBounds→kA,cLine→kR,call_meets→lq,standAt→lz,backToKw→lP,letOwnedTupleGo→lV,callWith→mT,tupleKind_room_in1→mU,Pos→m9,Data→ot,Scope→oC,wpAny_execs_nil→oE,assign→pj,recursionLimit→pq,BindsTo→pE,getItem→pF,attributeBase→qD,swappedStores→qE,swapsWithSole→qF,typeLookup→qR,Code→rG,callerA→rH,seqIndex_neg→rJ,slot_list_getitem→rK,valueAt→rL,tupleKind→sq,seqIndex_of→sU,subscripted→sV,wpAny_specialOf→tT,Operator→uS,atKey→uT,newFunctionEnv→uU,evalPart_none→wV,CmpOp→xV,bindC→xW,bindL→xX,concat_meets→zL,isTrue→zN,Sem→Ad,builtinsNs→B9,revObj→Ca,typeIs_int→Cb,wpAny_Name→Cc
open PySem.Heap renaming get?_push_of_some→bY,lt_size→cy,get?_push_size→cO,get?_update_other→eR,get?_update_self→eZ,size_push→e7,SameBut→gK,IsList→mx,update_setField_same→sj,get?_none_of_le→vI,get?_update_ne→wQ,get?_push_at→yV,IsSliceOf→Bs
open PySem.W renaming Frag→bZ,findIn→cT,kitOne→cV,keepIn→dn,hasDictIn→dL,kia_one→d7,Looks→et,takerIn→eL,mroIn→eX,emptyDict→fB,specialIn→fC,callWith_K→fJ,exmOne→fO,looks_findIn→fP,instObj→gE,methodCall_KW→ie,InstAt→iy,isFn→iH,cellsFrom_some→jN,fnOf→jO,clsIn→kB,findCls→kS,readsIn→kT,check_slot→lu,any_some→mC,plainGet→mD,codeIn→nE,lookIn→nF,looks_clsIn→nS,looks_mroIn→nU,plainGet_of→nV,kitx_list→oR,methodObj→oT,handedIn→pv,OpenLaw→pZ,findObj→p3,makesIn→p4,takesIn→p5,findObj_own→uB,codeRec_of→uV,looks_find→uW,method_cls→uX,cls_value→vL,kitx_dict→vM,kitx_none→vN,plainOver→vO,set_plain→vP,InitBack→wW,bind_fn→xY,isClsIn→xZ,notCls→zO,typeIn→zP,WalkO→Ae,subIn→Af
local macro_rules| `(tactic|walk_at "v1")=>`(tactic|first|exact Or.inl rfl|exact Or.inr (Or.inl rfl)|exact Or.inr (Or.inr rfl))
local macro_rules| `(tactic|walk_at "v2")=>`(tactic|first|exact .inl rfl|exact .inr rfl|assumption)
local macro_rules| `(tactic|walk_at "v3")=>`(tactic|first|exact Or.inl rfl|exact Or.inr rfl)
abbrev lx (x:PySem.Str):Prop:=(x==("__debug__":PySem.Str))=false
abbrev yE (x:PySem.Str):Prop:=(x==("__classdict__":PySem.Str))=false
namespace L2
open PySem PySem.Spec PyProof.Rows
abbrev iW:=Sum Int Str
def sJ:iW->bV->Bool
 |.inl k,v=>bV.isInt k v
 |.inr x,v=>bV.isStrOf x v
def KF (w:dw):iW->Int
 |.inl k=>hashInt k
 |.inr x=>hashStr w x
theorem yc:∀{k:iW} {v:bV},sJ k v=true->(∃i t,k=Sum.inl i/\v=bV.int i t)\/(∃x t,k=Sum.inr x/\v=bV.str x t)
 |.inl i,v,h=>by obtain⟨t,e⟩:=bV.isInt_shape (k:=i) (v:=v) h;exact .inl ⟨i,t,rfl,e⟩
 |.inr x,v,h=>by obtain⟨t,e⟩:=bV.isStrOf_shape (x:=x) (v:=v) h;exact .inr ⟨x,t,rfl,e⟩
theorem WJ (i:Int)(t:Tok):sJ (.inl i) (.int i t)=true:=by simp[sJ,bV.isInt]
theorem WK (x:Str)(t:Tok):sJ (.inr x) (.str x t)=true:=by simp[sJ,bV.isStrOf]
theorem zsr (a b:Int):decide ((Sum.inl a:iW)=Sum.inl b)=(a==b):=by
 by_cases e:a=b
 ·subst e;simp
 ·have h:¬(Sum.inl a:iW)=Sum.inl b:=λq=>e (Sum.inl.inj q);rw[decide_eq_false h];exact(beq_eq_false_iff_ne.mpr e).symm
theorem zss (a b:Str):decide ((Sum.inr a:iW)=Sum.inr b)=decide (a=b):=by
 by_cases e:a=b
 ·subst e;simp
 ·have h:¬(Sum.inr a:iW)=Sum.inr b:=λq=>e (Sum.inr.inj q);rw[decide_eq_false h,decide_eq_false e]
theorem zst (a:Int)(b:Str):decide ((Sum.inl a:iW)=Sum.inr b)=false:=decide_eq_false (λq=>nomatch q)
theorem zsu (a:Str)(b:Int):decide ((Sum.inr a:iW)=Sum.inl b)=false:=decide_eq_false (λq=>nomatch q)
def iP (prog:dH)(w:dw):PySem.KeyKind prog w iW where
 is:=sJ
 hash:=KF w
 inj:=λv a b ha hb=>by
  rcases yc ha with⟨i,t,rfl,rfl⟩|⟨x,t,rfl,rfl⟩
  ·rcases yc hb with⟨j,u,rfl,e⟩|⟨y,u,rfl,e⟩
   ·injection e with e1 _;rw[e1]
   ·exact nomatch e
  ·rcases yc hb with⟨j,u,rfl,e⟩|⟨y,u,rfl,e⟩
   ·exact nomatch e
   ·injection e with e1 _;rw[e1]
 byValue:=λk v h=>by rcases yc h with⟨i,t,rfl,rfl⟩|⟨x,t,rfl,rfl⟩<;>rfl
 pyHash:=λhv h=>by
  rcases yc hv with⟨i,t,rfl,rfl⟩|⟨x,t,rfl,rfl⟩
  ·exact wpAny_pyHash_int h
  ·exact wpAny_pyHash_str h
 eqBool:=λhu hv h=>by
  rcases yc hu with⟨i,t,rfl,rfl⟩|⟨x,t,rfl,rfl⟩
  ·rcases yc hv with⟨j,u,rfl,rfl⟩|⟨y,u,rfl,rfl⟩
   ·rw[zsr]at h;exact wpAny_eqBool_int h
   ·rw[zst]at h;exact SeqAt.EqAt.int_str i t y u _ _ _ _ h
  ·rcases yc hv with⟨j,u,rfl,rfl⟩|⟨y,u,rfl,rfl⟩
   ·rw[zsu]at h;exact SeqAt.EqAt.str_int x t j u _ _ _ _ h
   ·rw[zss]at h;exact wpAny_eqBool_str h
 «strs»:=λk x t v h=>by
  rcases yc h with⟨i,u,rfl,e⟩|⟨y,u,rfl,e⟩
  ·exact nomatch e
  ·injection e with e1 _;subst e1;cases v<;>rfl
theorem VR (prog:dH)(w:dw)(i:Int)(t:Tok):(iP prog w).is (.inl i) (.int i t)=true:=WJ i t
theorem VS (prog:dH)(w:dw)(x:Str)(t:Tok):(iP prog w).is (.inr x) (.str x t)=true:=WK x t
inductive V where
 |non|bl (b:Bool)|int (i:Int)|str (x:Str)|byt (b:Array UInt8)|flt (b:UInt64)|ref (a:ce)|ty (n:String)
 deriving DecidableEq
def RelV:V->bV->Prop
 |.non,u=>u=bV.none
 |.bl b,u=>u=bV.bool b
 |.int i,u=>∃t,u=bV.int i t
 |.str x,u=>∃t,u=bV.str x t
 |.byt b,u=>∃t,u=bV.bytes b t
 |.flt b,u=>∃t,u=bV.float b t
 |.ref a,u=>u=bV.ref a
 |.ty n,u=>u=bV.type n
abbrev dA:List V->List bV->Prop:=Paired RelV
variable {us:List bV}{xs:List V}
theorem dA.length (r:dA xs us):xs.length=us.length:=Paired.length r
theorem dA.get:∀{xs:List V} {us:List bV} {i:Nat} {x:V},dA xs us->xs[i]?=some x->∃u,us[i]?=some u/\RelV x u
 |_,_,_,_,.nil,e=>by simp at e
 |_,_,0,_,.cons r _,e=>by simp at e;subst e;exact⟨_,rfl,r⟩
 |_,_,i+1,x,.cons _ t,e=>by obtain⟨u,h1,h2⟩:=dA.get (i:=i) (x:=x) t (by simpa using e);exact⟨u,by simpa using h1,h2⟩
variable {u:bV}
theorem dA.set {x:V}{u:bV}(r:RelV x u):∀{xs:List V} {us:List bV} (i:Nat),dA xs us->dA (xs.set i x) (us.set i u)
 |_,_,_,.nil=>.nil
 |_,_,0,.cons _ t=>.cons r t
 |_,_,i+1,.cons q t=>.cons q (dA.set r i t)
theorem dA.append:∀{xs ys:List V} {us ws:List bV},dA xs us->dA ys ws->dA (xs++ys) (us++ws)
 |_,_,_,_,.nil,s=>s
 |_,_,_,_,.cons r t,s=>.cons r (dA.append t s)
theorem dA.take:∀{xs:List V} {us:List bV} (n:Nat),dA xs us->dA (xs.take n) (us.take n)
 |_,_,0,_=>.nil
 |_,_,_+1,.nil=>.nil
 |_,_,n+1,.cons r t=>.cons r (dA.take n t)
theorem dA.drop:∀{xs:List V} {us:List bV} (n:Nat),dA xs us->dA (xs.drop n) (us.drop n)
 |_,_,0,r=>r
 |_,_,_+1,.nil=>.nil
 |_,_,n+1,.cons _ t=>dA.drop n t
def oh:Option V->Option bV->Prop
 |some v,some u=>RelV v u
 |none,none=>True
 |_,_=>False
variable {κ:Type}
def KV:List (κ×V)->List (κ×bV)->Prop:=Paired λ(p:κ×V) (q:κ×bV)=>p.1=q.1/\RelV p.2 q.2
def kV:iW->V
 |.inl i=>.int i
 |.inr x=>.str x
inductive HO where
 |lst (xs:List V)
 |tup (xs:List V)
 |dK (eQ:List (iW×V))|dT (eQ:List (List iW×V))
 |set (S:Int->Bool) (n:Nat)
 |ins (C dx:ce) (fs:List (Str×V))
 |own (x:ce)
 |xd (fs:List (Str×V))
 |met (f x:ce)
 |rng (lo hi:Int)
 |frz (o:f9) (u:HO)
 |tbl (ps:Array bV)
 |ext (φ:cB->Prop)
abbrev Hp:=ce->Option HO
def eS (H:Hp)(a:ce)(o:HO):Hp:=λb=>if b=a then some o else H b
variable {H:Hp}{a:ce}
theorem zk {o:HO}:eS H a o a=some o:=by unfold eS;rw[if_pos rfl]
variable {b:ce}
theorem zj {o:HO}(h:b≠a):eS H a o b=H b:=by unfold eS;rw[if_neg h]
theorem zvm {o u:HO}(h:H a=some o)(h':H b=some u)(d:o≠u):a≠b:=by intro e;subst e;rw[h]at h';exact d (Option.some.inj h')
theorem zl {o:HO}(h:H a=some o)(h':H b=none):a≠b:=by intro e;subst e;rw[h]at h';cases h'
section
variable (P:dH)(w:dw)
def gM (H:Hp)(h:cB)(a:ce):HO->Prop
  |.lst xs=>xs.length<=sizeLine/\∃(dJ:List bV) (n:Nat),dA xs dJ/\h.get? a=some { cls:=.type "list",data:=.seq dJ.toArray n }
  |.tup xs=>xs.length<=sizeLine/\∃dJ:List bV,dA xs dJ/\IsTup h a dJ.toArray
  |.dK eQ=>eQ.length<=sizeLine/\(a==km)=false/\∃vs,KV eQ vs/\h.DictOf (iP P w) a vs
  |.dT eQ=>eQ.length<=sizeLine/\(a==km)=false/\∃xs:List (List iW×ce×bV),
      Paired (λ(p:List iW×V) (q:List iW×ce×bV)=>p.1=q.1/\H q.2.1=some (.tup (p.1.map kV))/\RelV p.2 q.2.2) eQ xs /\
      ∃o es ep,h.get? a=some o/\o.ExactDict/\o.data=.dict es ep/\es.toList=xs.map (entryOfKey (sq (iP P w)))/\(xs.map (·.1)).Nodup
  |.set S n=>h.SetOf (intKind P w) a S n
  |.ins C dx fs=>H dx=some (.own a)/\fs.length<=1000/\dx≠a/\h.get? a=some (gE C dx) /\
      ∃mA,h.Ns1 dx mA/\(∀f,oh (fs.lookup f) (mA f))/\PySem.Within mA (fs.map (·.1))
  |.own _=>∃o,h.get? a=some o
  |.xd fs=>∃mA,h.Ns1 a mA/\∀f,oh (fs.lookup f) (mA f)
  |.rng lo hi=>∃t u v,h.get? a=some { cls:=.type "range",data:=.fields #[.int lo t,.int hi u,.int 1 v] }
  |.frz o u=>h.get? a=some o/\gM H h a u
  |.tbl ps=>h.get? a=some { cls:=.none,data:=.fields ps }
  |.met f x=>h.get? a=some (oT (.ref f) (.ref x))
  |.ext φ=>φ h/\(∃o,h.get? a=some o)/\∀h1 h2:cB,φ h1->(∀o,h1.get? a=some o->h2.get? a=some o)->φ h2
def oF (H:Hp)(h:cB):Prop:=∀a o,H a=some o->gM P w H h a o
end
variable {α β:Type}{H':Hp}{P:dH}{h h':cB}
section
variable {w:dw}{o:HO}
theorem gM.lt (x:gM P w H h a o):a<h.objs.size:=by
 cases o with
 |lst xs=>obtain⟨_,_,_,_,e⟩:=x;exact cy e
 |tup xs=>obtain⟨_,_,_,p⟩:=x;exact p.lt
 |dK eQ=>obtain⟨_,_,_,_,o,_,_,e,_⟩:=x;exact cy e
 |dT eQ=>obtain⟨_,_,_,_,o,_,_,e,_⟩:=x;exact cy e
 |set S n=>obtain⟨o,_,_,_,e,_⟩:=x;exact cy e
 |ins C dx fs=>obtain⟨_,_,_,e,_⟩:=x;exact cy e
 |own y=>obtain⟨_,e⟩:=x;exact cy e
 |xd fs=>obtain⟨_,⟨_,_,_,e,_⟩,_⟩:=x;exact cy e
 |rng lo hi=>obtain⟨_,_,_,e⟩:=x;exact cy e
 |frz ob u=>obtain⟨e,_⟩:=x;exact cy e
 |tbl ps=>exact cy (show h.get? a=some _ from x)
 |met f y=>exact cy (show h.get? a=some _ from x)
 |ext φ=>obtain⟨_,⟨_,e⟩,_⟩:=x;exact cy e
theorem Paired.mapP {α β:Type}{F G:α->β->Prop}:∀{l₁:List α} {l₂:List β},Paired F l₁ l₂->(∀a b,F a b->G a b)->Paired G l₁ l₂
 |_,_,.nil,_=>.nil
 |_,_,.cons r t,f=>.cons (f _ _ r) (Paired.mapP t f)
theorem gM.stay (x:gM P w H h a o)(k:∀b u,(b=a\/H b=some (.own a))->h.get? b=some u->h'.get? b=some u)
    (ho:∀b,H b=some (.own a)->H' b=some (.own a)) (ht:∀b xs,H b=some (.tup xs)->H' b=some (.tup xs)):gM P w H' h' a o:=by
  induction o with
  |lst xs=>obtain⟨z,dJ,n,r,e⟩:=x;exact⟨z,dJ,n,r,k _ _ (.inl rfl) e⟩
  |tup xs=>obtain⟨z,dJ,r,ob,e,c⟩:=x;exact⟨z,dJ,r,ob,k _ _ (.inl rfl) e,c⟩
  |dK eQ=>obtain⟨z,y,vs,r,ob,es,ep,e,c⟩:=x;exact⟨z,y,vs,r,ob,es,ep,k _ _ (.inl rfl) e,c⟩
  |dT eQ=>obtain⟨z,y,xs,r,ob,es,ep,e,c⟩:=x;exact⟨z,y,xs,Paired.mapP r λp q z=>⟨z.1,ht _ _ z.2.1,z.2.2⟩,ob,es,ep,k _ _ (.inl rfl) e,c⟩
  |set S n=>obtain⟨ob,es,ep,t,e,c⟩:=x;exact⟨ob,es,ep,t,k _ _ (.inl rfl) e,c⟩
  |ins C dx fs=>obtain⟨d,z,ne,e,mA,⟨od,es,ep,e2,c⟩,r⟩:=x;exact⟨ho _ d,z,ne,k _ _ (.inl rfl) e,mA,⟨od,es,ep,k _ _ (.inr d) e2,c⟩,r⟩
  |own y=>obtain⟨ob,e⟩:=x;exact⟨ob,k _ _ (.inl rfl) e⟩
  |xd fs=>obtain⟨mA,⟨od,es,ep,e,c⟩,r⟩:=x;exact⟨mA,⟨od,es,ep,k _ _ (.inl rfl) e,c⟩,r⟩
  |rng lo hi=>obtain⟨t,u,v,e⟩:=x;exact⟨t,u,v,k _ _ (.inl rfl) e⟩
  |frz ob u ih=>obtain⟨e,q⟩:=x;exact⟨k _ _ (.inl rfl) e,ih q⟩
  |tbl ps=>have e:h.get? a=some { cls:=.none,data:=.fields ps }:=x;show h'.get? a=some { cls:=.none,data:=.fields ps };exact k a _ (.inl rfl) e
  |met f y=>have e:h.get? a=some (oT (.ref f) (.ref y)):=x;show h'.get? a=some (oT (.ref f) (.ref y));exact k a _ (.inl rfl) e
  |ext φ=>obtain⟨p,⟨o,e⟩,st⟩:=x;exact⟨st _ _ p λo q=>k _ _ (.inl rfl) q,⟨o,k _ _ (.inl rfl) e⟩,st⟩
theorem oF.lt (x:oF P w H h)(e:H a=some o):a<h.objs.size:=(x a o e).lt
theorem oF.fresh (x:oF P w H h)(e:h.objs.size<=a):H a=none:=by
 cases q:H a with
 |none=>rfl
 |some u=>exact absurd (dg (x.lt q) e) (gP _)
theorem oF.kept (x:oF P w H h)(k:∀b u,h.get? b=some u->h'.get? b=some u):oF P w H h':=λa o e=>(x a o e).stay (λb u _ q=>k b u q) (λ_ q=>q) λ_ _ q=>q
theorem oF.laid (x:oF P w H h)(k:∀b u,h.get? b=some u->h'.get? b=some u)(hp:h.objs.size<=a)(new:gM P w (eS H a o) h' a o):oF P w (eS H a o) h':=λb u e=>by
 have hn:=x.fresh hp;by_cases hb:b=a
 ·subst hb;rw[zk]at e;cases e;exact new
 ·rw[zj hb]at e;exact(x b u e).stay (λc v _ q=>k c v q) (λc q=>by rw[zj (zl q hn)];exact q) λc xs q=>by rw[zj (zl q hn)];exact q
end
def Rd (H:Hp)(a:ce)(u:HO):Prop:=H a=some u\/∃o,H a=some (.frz o u)
theorem Rd.ok {w:dw}{u:HO}(r:Rd H a u)(x:oF P w H h):gM P w H h a u:=by
 rcases r with r|⟨o,r⟩
 ·exact x a u r
 ·obtain⟨_,q⟩:=x a _ r;exact q
def EY:Option HO->Prop
 |some (.lst _)=>True
 |some (.dK _)=>True
 |some (.dT _)=>True
 |some (.set _ _)=>True
 |some (.ins _ _ _)=>True
 |some (.ext _)=>True
 |_=>False
section
variable {w:dw}{x e:ce}{o':HO}
theorem oF.write (ok:oF P w H h)(mu:EY (H x))(he:e=x\/H e=some (.own x))(k:∀b u,b≠e->h.get? b=some u->h'.get? b=some u)(Eh:∃u,h'.get? e=some u)
  (new:gM P w (eS H x o') h' x o'):oF P w (eS H x o') h':=λb u q=>by
 have F7:∀c y,H c=some (.own y)->c≠x:=λc y r z=>by subst z;rw[r]at mu;exact mu
 have KO:∀c xs,H c=some (.tup xs)->c≠x:=λc xs r z=>by subst z;rw[r]at mu;exact mu
 by_cases hb:b=x
 ·subst hb;rw[zk]at q;cases q;exact new
 ·rw[zj hb]at q;by_cases C6:b=e
  ·have q':H b=some (.own x):=by
    rcases he with z|z
    ·exact absurd (C6.trans z) hb
    ·rw[C6];exact z
   rw[q]at q';cases q';obtain⟨v,hv⟩:=Eh;exact⟨v,by rw[C6];exact hv⟩
  ·refine(ok b u q).stay (λc v hc r=>k c v ?_ r) (λc r=>by rw[zj (F7 c b r)];exact r) λc xs r=>by rw[zj (KO c xs r)];exact r
   rcases hc with rfl|hc
   ·exact C6
   ·rintro rfl;rcases he with z|z
    ·exact F7 c b hc z
    ·rw[hc]at z;cases z;exact hb rfl
end
structure Un (fs ex:List ce)(H H':Hp)(h h':cB):Prop where
 keep:∀b o,h.get? b=some o->H b=none->b∉fs->b∉ex->h'.get? b=some o
 slot:∀b o,h.get? b=some o->H b=none->b∈fs->b∉ex->∃sl,h'.get? b=some { o with slots:=sl }
 free:∀b o,h.get? b=some o->H b=none->b∉ex->H' b=none
 there:∀b o,h.get? b=some o->b∉ex->∃o',h'.get? b=some o'
 tups:∀b xs,H b=some (.tup xs)->H' b=some (.tup xs)
 frzs:∀b o u,H b=some (.frz o u)->H' b=some (.frz o u)
 tbls:∀b ps,H b=some (.tbl ps)->∃more,H' b=some (.tbl (ps++more))
section
variable {fs Sv ex ex':List ce}{H1 H2:Hp}{h1 h2:cB}{x e:ce}{o:HO}
theorem Un.any (u:Un fs ex H H1 h h1){ob:f9}(q:h.get? b=some ob)(n:H b=none)(hx:b∉ex):∃sl,h1.get? b=some { ob with slots:=sl }:=by
 by_cases hb:b∈fs
 ·exact u.slot b ob q n hb hx
 ·exact⟨ob.slots,u.keep b ob q n hb hx⟩
theorem Un.kept (k:∀b u,h.get? b=some u->h'.get? b=some u):Un fs ex H H h h' :=
 ⟨λb ob q _ _ _=>k b ob q,λb ob q _ _ _=>⟨ob.slots,k b ob q⟩,λ_ _ _ n _=>n,λb ob q _=>⟨ob,k b ob q⟩,λ_ _ q=>q,λ_ _ _ q=>q,λ_ ps q=>⟨#[],by rw[q];simp⟩⟩
theorem Un.refl:Un fs ex H H h h:=Un.kept λ_ _ q=>q
theorem Un.laid (k:∀b u,h.get? b=some u->h'.get? b=some u)(hp:h.objs.size<=a)(hn:H a=none):Un fs ex H (eS H a o) h h' where
 keep:=λb u q _ _ _=>k b u q
 slot:=λb u q _ _ _=>⟨u.slots,k b u q⟩
 free:=λb u q n _=>by rw[zj (cW (dg (cy q) hp))];exact n
 there:=λb u q _=>⟨u,k b u q⟩
 tups:=λb xs q=>by rw[zj (zl q hn)];exact q
 frzs:=λb u xs q=>by rw[zj (zl q hn)];exact q
 tbls:=λb ps q=>⟨#[],by rw[zj (zl q hn),q];simp⟩
theorem Un.write (mu:EY (H x))(he:e=x\/H e=some (.own x))(k:∀b u,b≠e->h.get? b=some u->h'.get? b=some u)(Eh:∃u,h'.get? e=some u):Un fs ex H (eS H x o) h h':=by
 have hx:∀b,H b=none->b≠x:=λb n z=>by subst z;rw[n]at mu;exact mu
 have hb:∀b,H b=none->b≠e:=λb n z=>by
  subst z;rcases he with r|r
  ·exact hx b n r
  ·rw[n]at r;cases r
 have hm:∀b u,H b=some u->¬EY (some u)->b≠x:=λb u q nm z=>by subst z;rw[q]at mu;exact nm mu
 refine⟨λb u q n _ _=>k b u (hb b n) q,λb u q n _ _=>⟨u.slots,k b u (hb b n) q⟩,λb u q n _=>by rw[zj (hx b n)];exact n,λb u q _=>?_,
  λb xs q=>by rw[zj (hm b _ q λz=>z)];exact q,λb u xs q=>by rw[zj (hm b _ q λz=>z)];exact q,λb ps q=>⟨#[],by rw[zj (hm b _ q λz=>z),q];simp⟩⟩
 by_cases C6:b=e
 ·subst C6;exact Eh
 ·exact⟨u,k b u C6 q⟩
end
def Ik (h:cB)(H:Hp):List ce:=(dQ h.objs.size).filter λa=>(H a).isSome
def tw (h:cB)(H:Hp):cB:=PySem.W.hideAll h (Ik h H)
theorem WL (h:cB)(H:Hp):(tw h H).objs.size=h.objs.size:=PySem.W.hideAll_size _ _
theorem XX {o:f9}(e:h.get? b=some o)(n:H b=none):(tw h H).get? b=some o :=
 PySem.W.hideAll_get _ e λhm=>by have q:(H b).isSome=true:=(d8.mp hm).2;rw[n]at q;simp at q
theorem YR {o:f9}(e:(tw h H).get? b=some o):h.get? b=some o/\H b=none:=by
 have e':h.get? b=some o:=PySem.W.of_hideAll (Ik h H) e;refine⟨e',?_⟩;cases q:H b with
 |none=>rfl
 |some x=>have hm:b∈Ik h H:=d8.mpr ⟨eu.mpr (cy e'),by simp[q]⟩;have z:(tw h H).get? b=none:=PySem.W.hideAll_none (Ik h H) hm;rw[z]at e;cases e
def BA (g h:cB)(L:ce):List (ce×f9):=(dQ h.objs.size).filterMap λa=>if a=L\/(g.get? a).isSome=true then none else(h.get? a).map λo=>(a,o)
def rest (g h:cB)(L d:ce):List (ce×f9):=(BA g h L).filter λp=>decide (p.1≠d)
structure Mod (K:bZ)(mg:Str->Option bV)(base:cB):Prop where
 kin:K.In base
 glob:base.Ns fq mg
 blt:∃mb,base.Ns B9 mb/\∀x:Str,x≠"__name__"->mb x=dY x
 nolimit:base.NoLimit
structure Cx where
 prog:dH
 w:dw
 K:bZ
 mg:Str->Option bV
 base:cB
 A:c7
 N:List Str
 s₀:cq
 H₀:Hp
 env:Env
 outer:List Env
 stack:List Env
 ex:List ce
 fn:Str->Bool
 calm:Bool
 pn:List (ce×f9)
 xe:bV->cq->Prop
abbrev SE (X:Cx)(e:Expr)(es:List Expr):Prop:=c9 (e::es) X.env=(false,ei e X.env)::c9 es X.env
abbrev SN (X:Cx)(e:Expr):Prop:=c9 [e] X.env=[(false,ei e X.env)]
abbrev oa (X:Cx)(p:m9)(es:List Expr):Prop:=(jM p (c9 es X.env)).any (·.1)=false
abbrev uZ (X:Cx)(x:Str):Prop:=X.fn x=true\/X.env.scope.names.lookup x=some .local
abbrev G8 (X:Cx)(e:Expr)(x:Str)(p q:m9):Prop:=gQ e (some (.Name x p)) q.line X.env=pure false
abbrev Aj (X:Cx)(i:Expr):Prop:=∀x,foldedSetIterable i X.env x=pure x
abbrev Ag (X:Cx)(e:Expr)(x:Str):Prop:=qD e x X.env (ei e X.env)=ei e X.env
abbrev DW (X:Cx)(p:m9)(es:List Expr):Prop:=((jM p (c9 es X.env)).all (λx=>!x.1)&&(lP p (iu [] X.env)).all (λx=>x.1.isSome)&&decide (es.length+([]:List Keyword).length+(if([]:List Keyword).isEmpty then 0 else 1)<30))=true
def zT (l:List Env):List ce:=l.filterMap (·.frame)
abbrev Cx.fs (X:Cx):List ce:=zT X.outer
def vU (sc:oC)(x:Str):Prop:=sc.names.lookup x=some .local\/sc.names.lookup x=some .cell\/sc.names.lookup x=some .free
def Loc (sc:oC)(x:Str):Prop:=sc.names.lookup x=some .local\/sc.names.lookup x=some .cell
def Look (env:Env)(h:cB)(m:Str->Option bV)(x:Str)(u:bV):Prop :=
 (env.kindOf x=some .local/\m x=some u)\/((env.kindOf x=some .cell\/env.kindOf x=some .free)/\∃c,env.cells.lookup x=some c/\h.IsCell c (some u))
structure Cx.Ok (X:Cx):Prop where
 mod:Mod X.K X.mg X.base
 kind:X.env.scope.kind=.function
 glob:X.env.globals=fq
 blt:X.env.builtins=B9
 above:X.s₀.heap.objs.size<=X.env.locals
 inj:∀x y c,X.env.cells.lookup x=some c->X.env.cells.lookup y=some c->x=y
 has:∀x,(X.env.kindOf x=some .cell\/X.env.kindOf x=some .free)->∃c,X.env.cells.lookup x=some c
 cab:∀x c,X.fn x=true->X.env.cells.lookup x=some c->X.s₀.heap.objs.size<=c
 hd:X.calm=true->X.A.handled=none
 frames:X.A.frames=some X.stack
 stk:X.stack=X.outer\/(X.stack=X.env::X.outer/\X.env.frame=some X.env.locals)
 exf:∀b∈X.ex,b≠X.env.locals/\∀x c,X.env.cells.lookup x=some c->c≠b
 bs:∀b o,X.base.get? b=some o->X.s₀.heap.get? b=some o/\X.H₀ b=none
 bsz:X.base.objs.size<=X.s₀.heap.objs.size
 noex:∀b o,X.base.get? b=some o->b∉X.ex
 exfs:∀b∈X.ex,b∉X.fs
 funs:X.s₀.heap.FunFrames X.base X.outer
 frf:∀b∈X.fs,X.H₀ b=none
structure Inv (X:Cx)(bX:List (ce×f9))(σ:List (Option V))(H:Hp)(s:cq):Prop where
 ok:X.Ok
 os:s.os=X.s₀.os
 bare:AllBare s.gens
 base:Un X.fs X.ex X.H₀ H X.s₀.heap s.heap
 loc:∃m,s.heap.Ns X.env.locals m/\∀(i:Nat) (x:Str) (v:V),X.N[i]?=some x->σ[i]?=some (some v)->vU X.env.scope x->∃u,RelV v u/\Look X.env s.heap m x u
 cell:∀x c,X.env.cells.lookup x=some c->∃v,s.heap.IsCell c v
 free:H X.env.locals=none
 freeC:∀x c,X.env.cells.lookup x=some c->H c=none
 pin:∀p∈X.pn++bX,s.heap.get? p.1=some p.2/\H p.1=none/\p.1≠X.env.locals/\p.1∉X.fs/\∀v,p.2.data≠.cell v
 hok:oF X.prog X.w H s.heap
 len:σ.length=X.N.length
variable {E:bV->cq->Prop}{M:Model}{X:Cx}{ch:List ce}{i j t':Nat}{it:ce}{bX:List (ce×f9)}{s s':cq}{v:V}{x:Str}
section
variable {σ:List (Option V)}
theorem Cx.Ok.nofr (ok:X.Ok){o:f9}(e:X.base.get? b=some o):b∉X.fs:=λhb=>by have:=(ok.funs.mem hb).1;rw[e]at this;cases this
theorem Inv.bs (I:Inv X bX σ H s):∀b o,X.base.get? b=some o->s.heap.get? b=some o/\H b=none:=λb o e=>⟨I.base.keep b o (I.ok.bs b o e).1 (I.ok.bs b o e).2 (I.ok.nofr e) (I.ok.noex b o e),I.base.free b o (I.ok.bs b o e).1 (I.ok.bs b o e).2 (I.ok.noex b o e)⟩
theorem Inv.bk (I:Inv X bX σ H s):∀b o,X.base.get? b=some o->s.heap.get? b=some o:=λb o e=>(I.bs b o e).1
theorem Inv.mod (I:Inv X bX σ H s):Mod X.K X.mg X.base:=I.ok.mod
theorem Inv.kIn (I:Inv X bX σ H s):X.K.In s.heap:=I.ok.mod.kin.keeps I.bk
theorem Inv.fr (I:Inv X bX σ H s):∃m,Fr X.base X.env.locals s.heap m :=
 let⟨m,hn,_⟩:=I.loc
 ⟨m,hn,I.bk,d9 I.ok.bsz I.ok.above⟩
theorem Inv.lt (I:Inv X bX σ H s):X.env.locals<s.heap.objs.size:=let⟨_,hn,_⟩:=I.loc;hn.lt
theorem Inv.sz (I:Inv X bX σ H s):X.s₀.heap.objs.size<=s.heap.objs.size:=d9 I.ok.above (pU I.lt)
theorem Inv.nofs (I:Inv X bX σ H s)(h:s.heap.objs.size<=a):a∉X.fs:=λhb=>by obtain⟨_,o,ho,_⟩:=I.ok.funs.mem hb;exact absurd (dg (cy ho) (d9 I.sz h)) (gP _)
theorem Inv.cne (I:Inv X bX σ H s):∀x c,X.env.cells.lookup x=some c->c≠X.env.locals:=λx c e z=>by obtain⟨v,o,ho,hd⟩:=I.cell x c e;obtain⟨m,⟨o',es,ep,Dg,JT,_⟩,_⟩:=I.loc;rw[z,Dg]at ho;cases ho;rw[JT]at hd;cases hd
theorem Inv.funs (I:Inv X bX σ H s):s.heap.FunFrames X.base X.outer:=by
 have all:∀(l:List Env),(∀b∈zT l,b∈X.fs)->X.s₀.heap.FunFrames X.base l->s.heap.FunFrames X.base l:=by
  intro l;induction l with
  |nil=>intro _ _;trivial
  |cons env r ih=>intro hs hl;obtain⟨hk,⟨L,o,hf,hn,ho,hd⟩,hr⟩:=hl;have hL:L∈X.fs:=hs L (by unfold zT;rw[lg,hf];exact b9);obtain⟨sl,e⟩:=I.base.slot L o ho (I.ok.frf L hL) hL λz=>I.ok.exfs L z hL;exact⟨hk,⟨L,_,hf,hn,e,hd⟩,ih (λb hb=>hs b (by unfold zT;rw[lg,hf];exact cj _ hb)) hr⟩
 exact all X.outer (λ_ hb=>hb) I.ok.funs
theorem Inv.stack (I:Inv X bX σ H s):s.heap.FunFrames X.base X.stack:=by
 rcases I.ok.stk with e|⟨e,hf⟩
 ·rw[e];exact I.funs
 ·rw[e];obtain⟨m,hn,_⟩:=I.loc;refine .cons (by rw[I.ok.kind];decide) hf hn ?_ I.funs;exact vI (d9 I.ok.bsz I.ok.above)
theorem Inv.stkSub (I:Inv X bX σ H s):∀b∈zT X.stack,b∈X.env.locals::X.fs:=λb hb=>by
 rcases I.ok.stk with e|⟨e,hf⟩
 ·rw[e]at hb;exact cj _ hb
 ·rw[e]at hb;unfold zT at hb;rw[lg,hf]at hb;exact hb
theorem Inv.stkFree (I:Inv X bX σ H s):∀b∈zT X.stack,H b=none:=λb hb=>by
 rcases cn.mp (I.stkSub b hb)with e|hb
 ·rw[e];exact I.free
 ·obtain⟨_,o,ho,_⟩:=I.ok.funs.mem hb;exact I.base.free b o ho (I.ok.frf b hb) λz=>I.ok.exfs b z hb
theorem Inv.step {g':Array GenState}{d':Drawn}(I:Inv X bX σ H s)
  (o3:∀b∈ch,(b∈X.ex\/X.s₀.heap.objs.size<=b)/\b≠X.env.locals/\(∀x c,X.env.cells.lookup x=some c->c≠b)/\∀p∈X.pn++bX,p.1≠b)
  (keep:∀b o,b≠X.env.locals->b∉X.fs->b∉ch->s.heap.get? b=some o->H b=none->h'.get? b=some o)
  (slot:∀b o,b≠X.env.locals->b∈X.fs->b∉ch->s.heap.get? b=some o->H b=none->∃sl,h'.get? b=some { o with slots:=sl }) (free:∀b o,b∉ch->s.heap.get? b=some o->H b=none->H' b=none)
  (there:∀b o,b∉ch->s.heap.get? b=some o->∃o',h'.get? b=some o')
  (tups:∀b xs,H b=some (.tup xs)->H' b=some (.tup xs)) (frzs:∀b o u,H b=some (.frz o u)->H' b=some (.frz o u)) (tbls:∀b ps,H b=some (.tbl ps)->∃more,H' b=some (.tbl (ps++more)))
  (ns:∀m,s.heap.Ns X.env.locals m->h'.Ns X.env.locals m) (hok:oF X.prog X.w H' h') (hg:AllBare g') :
  Inv X bX σ H' { s with heap:=h',gens:=g',drawn:=d',toks:=t' }:=by
 have Er:∀b o,X.s₀.heap.get? b=some o->b≠X.env.locals:=λb o e=>cW (dg (cy e) I.ok.above);have HV:∀b o,X.s₀.heap.get? b=some o->b∉X.ex->b∉ch:=λb o e hx hb=>by
  rcases(o3 b hb).1 with z|z
  ·exact hx z
  ·exact absurd (dg (cy e) z) (gP _)
 have cellK:∀x c,X.env.cells.lookup x=some c->∀v,s.heap.IsCell c v->h'.IsCell c v:=λx c e v ⟨o,ho,hd⟩=>by
  have FZ:c∉ch:=λz=>(o3 c z).2.2.1 x c e rfl;by_cases hc:c∈X.fs
  ·obtain⟨sl,q⟩:=slot c o (I.cne x c e) hc FZ ho (I.freeC x c e);exact⟨_,q,hd⟩
  ·exact⟨o,keep c o (I.cne x c e) hc FZ ho (I.freeC x c e),hd⟩
 refine⟨I.ok,I.os,hg,⟨λb o e n hb hx=>?_,λb o e n hb hx=>?_,λb o e n hx=>?_,λb o e hx=>?_,λb xs e=>tups b xs (I.base.tups b xs e),λb o xs e=>frzs b o xs (I.base.frzs b o xs e),λb ps e=>?_⟩,?_,λx c e=>?_,?_,λx c e=>?_,λp hp=>?_,hok,I.len⟩
 ·exact keep b o (Er b o e) hb (HV b o e hx) (I.base.keep b o e n hb hx) (I.base.free b o e n hx)
 ·obtain⟨sl,e1⟩:=I.base.slot b o e n hb hx;obtain⟨K2,e2⟩:=slot b _ (Er b o e) hb (HV b o e hx) e1 (I.base.free b o e n hx);exact⟨K2,e2⟩
 ·obtain⟨o',e1⟩:=I.base.there b o e hx;exact free b o' (HV b o e hx) e1 (I.base.free b o e n hx)
 ·obtain⟨o',e1⟩:=I.base.there b o e hx;exact there b o' (HV b o e hx) e1
 ·obtain⟨m1,e1⟩:=I.base.tbls b ps e;obtain⟨m2,e2⟩:=tbls b _ e1;exact⟨m1++m2,by rw[e2,wO]⟩
 ·obtain⟨m,hn,hl⟩:=I.loc;refine⟨m,ns m hn,λi x v e1 e2 e3=>?_⟩;obtain⟨u,r,l⟩:=hl i x v e1 e2 e3;refine⟨u,r,?_⟩;rcases l with l|⟨k,c,e,z⟩
  ·exact .inl l
  ·exact .inr ⟨k,c,e,cellK x c e _ z⟩
 ·obtain⟨v,z⟩:=I.cell x c e;exact⟨v,cellK x c e v z⟩
 ·obtain⟨m,⟨o,_,_,ho,_⟩,_⟩:=I.loc;exact free _ o (λz=>(o3 _ z).2.1 rfl) ho I.free
 ·obtain⟨v,o,ho,hd⟩:=I.cell x c e;exact free c o (λz=>(o3 c z).2.2.1 x c e rfl) ho (I.freeC x c e)
 ·obtain⟨e,n,ne,nf,d⟩:=I.pin p hp;have FZ:p.1∉ch:=λz=>(o3 p.1 z).2.2.2 p hp rfl;exact⟨keep p.1 p.2 ne nf FZ e n,free p.1 p.2 FZ e n,ne,nf,d⟩
theorem Inv.un (I:Inv X bX σ H s)(u:Un X.fs [] H H' s.heap h')(hok:oF X.prog X.w H' h'):Inv X bX σ H' { s with heap:=h',toks:=t' }:=by obtain⟨m,⟨o,es,ep,ho,r⟩,_⟩:=id I.loc;obtain⟨sl,hL⟩:=u.any ho I.free (by simp);exact I.step (g':=s.gens) (d':=s.drawn) (ch:=[]) (λ_ z=>nomatch z) (λb o _ hb _ e n=>u.keep b o e n hb (by simp)) (λb o _ hb _ e n=>u.slot b o e n hb (by simp)) (λb o _ e n=>u.free b o e n (by simp)) (λb o _ e=>u.there b o e (by simp)) u.tups u.frzs u.tbls (λm' hm=>by obtain⟨o',JB,JA,Dg,r'⟩:=hm;rw[ho]at Dg;cases Dg;exact⟨_,JB,JA,hL,r'⟩) hok I.bare
theorem Inv.call {g':Array GenState}{d':Drawn}(I:Inv X bX σ H s)(u:Un (zT X.stack) ch H H' s.heap h')(hok:oF X.prog X.w H' h')(hg:AllBare g')
  (o3:∀b∈ch,(b∈X.ex\/X.s₀.heap.objs.size<=b)/\b≠X.env.locals/\(∀x c,X.env.cells.lookup x=some c->c≠b)/\∀p∈X.pn++bX,p.1≠b) :
  Inv X bX σ H' { s with heap:=h',gens:=g',drawn:=d',toks:=t' }:=by
 obtain⟨m,⟨o,es,ep,ho,r⟩,_⟩:=id I.loc;obtain⟨sl,hL⟩:=u.any ho I.free λz=>(o3 _ z).2.1 rfl;exact I.step (ch:=ch) o3 (λb o hL hb hc e n=>u.keep b o e n (λz=>(cn.mp (I.stkSub b z)).elim hL hb) hc) (λb o _ _ hc e n=>u.any e n hc) (λb o hc e n=>u.free b o e n hc) (λb o hc e=>u.there b o e hc) u.tups u.frzs u.tbls (λm' hm=>by obtain⟨o',JB,JA,Dg,r'⟩:=hm;rw[ho]at Dg;cases Dg;exact⟨_,JB,JA,hL,r'⟩) hok hg
theorem Inv.turned (I:Inv X bX σ H s)(k:∀b o,b≠it->s.heap.get? b=some o->h'.get? b=some o)(hn:H it=none)(hL:it≠X.env.locals)
  (h1:it∈X.ex\/X.s₀.heap.objs.size<=it) (h2:∀x c,X.env.cells.lookup x=some c->c≠it) (h3:∀p∈X.pn++bX,p.1≠it):Inv X bX σ H { s with heap:=h',toks:=t' }:=by
 have NL:∀b u,H b=some u->b≠it:=λb u e z=>by rw[z,hn]at e;cases e
 refine I.step (g':=s.gens) (d':=s.drawn) (ch:=[it]) (λb hb=>?_) (λb o _ _ hc e _=>k b o (λz=>hc (by simp[z])) e) (λb o _ _ hc e _=>⟨o.slots,k b o (λz=>hc (by simp[z])) e⟩) (λ_ _ _ _ n=>n)
  (λb o hc e=>⟨o,k b o (λz=>hc (by simp[z])) e⟩) (λ_ _ e=>e) (λ_ _ _ e=>e) (λb ps e=>⟨#[],by rw[e];simp⟩) (λm hm=>?_) (λb u e=>?_) I.bare
 ·have e:b=it:=by simpa using hb
  subst e;exact⟨h1,hL,h2,h3⟩
 ·obtain⟨o,es,ep,ho,r⟩:=hm;exact⟨o,es,ep,k _ o (Ne.symm hL) ho,r⟩
 ·refine(I.hok b u e).stay (λc v hc q=>k c v ?_ q) (λ_ q=>q) λ_ _ q=>q;rcases hc with z|z
  ·rw[z];exact NL b u e
  ·exact NL c _ z
theorem Inv.tok (I:Inv X bX σ H s)(t:Nat):Inv X bX σ H { s with toks:=t }:=I.un (h':=s.heap) (t':=t) Un.refl I.hok
theorem Inv.kept (I:Inv X bX σ H s)(k:∀b u,s.heap.get? b=some u->h'.get? b=some u):Inv X bX σ H { s with heap:=h',toks:=t' }:=I.un (Un.kept k) (I.hok.kept k)
theorem Inv.laid {o:HO}(I:Inv X bX σ H s)(k:∀b u,s.heap.get? b=some u->h'.get? b=some u)(hp:s.heap.objs.size<=a)(new:gM X.prog X.w (eS H a o) h' a o) :
  Inv X bX σ (eS H a o) { s with heap:=h',toks:=t' }:=I.un (Un.laid k hp (I.hok.fresh hp)) (I.hok.laid k hp new)
theorem Inv.write {x e:ce}{o:HO}(I:Inv X bX σ H s)(mu:EY (H x))(he:e=x\/H e=some (.own x))(k:∀b u,b≠e->s.heap.get? b=some u->h'.get? b=some u)(Eh:∃u,h'.get? e=some u)
  (new:gM X.prog X.w (eS H x o) h' x o):Inv X bX σ (eS H x o) { s with heap:=h',toks:=t' }:=I.un (Un.write mu he k Eh) (I.hok.write mu he k Eh new)
theorem Inv.weak {σ':List (Option V)}(I:Inv X bX σ H s)(hl:σ'.length = σ.length)(w:∀(i:Nat) v,σ'[i]?=some (some v)->σ[i]?=some (some v)):Inv X bX σ' H s :=
 ⟨I.ok,I.os,I.bare,I.base,let⟨m,hn,Cq⟩:=I.loc;⟨m,hn,λi x v e1 e2 e3=>Cq i x v e1 (w i v e2) e3⟩,I.cell,I.free,I.freeC,I.pin,I.hok,hl.trans I.len⟩
theorem Inv.pins_of {CB:List (ce×f9)}(I:Inv X bX σ H s)(h:∀p∈CB,s.heap.get? p.1=some p.2/\H p.1=none/\p.1≠X.env.locals/\p.1∉X.fs/\∀v,p.2.data≠.cell v):Inv X CB σ H s :=
 ⟨I.ok,I.os,I.bare,I.base,I.loc,I.cell,I.free,I.freeC,λp hp=>(cG.mp hp).elim (λz=>I.pin p (cN _ z)) (h p),I.hok,I.len⟩
theorem LD {N:List Str}(hN:N.Nodup)(a:N[i]?=some x)(b:N[j]?=some x):i=j:=by obtain⟨h1,e1⟩:=cM.mp a;obtain⟨h2,e2⟩:=cM.mp b;exact(kJ hN).mp (e1.trans e2.symm)
theorem OA {A:c7}{Q:Unit->cq->Prop}(I:Inv X bX σ H s)(hN:X.N.Nodup)(hi:X.N[i]?=some x)(hx:Loc X.env.scope x)(r:RelV v u)
  (h:∀s',Inv X bX (σ.set i (some v)) H s'->(∃a,gK a s.heap s'.heap/\(a=X.env.locals\/X.env.cells.lookup x=some a))->Q () s') (hf:uZ X x:=by walk_at "v2"):cF M A (storeName X.env x u) Q E s:=by
 obtain⟨m,hn,hl⟩:=id I.loc;have C9:(X.env.scope.kind==.class || (X.env.scope.kind==.module&&X.env.locals != X.env.globals))=false:=by rw[I.ok.kind];rfl
 have Nl:i < σ.length:=by rw[I.len];exact(cM.mp hi).1
 have cne:=I.cne;have tracked:∀{a:ce} {h':cB},(∃o,s.heap.get? a=some o/\H a=none)->gK a s.heap h'->oF X.prog X.w H h':=λ{a h'} ha hs b ob e=>by
  obtain⟨_,_,Cp⟩:=ha;refine(I.hok b ob e).stay (λc w' hc q=>(hs.2 c ?_).trans q) (λ_ q=>q) λ_ _ q=>q;rintro rfl;rcases hc with rfl|hc
  ·rw[Cp]at e;cases e
  ·rw[Cp]at hc;cases hc
 rcases hx with hk|hk
 ·refine wpAny_storeName_local hk hn (λh' Bj hs=>?_) C9;obtain⟨oL,_,_,Nn,_⟩:=id hn;refine h _ ⟨I.ok,I.os,I.bare,⟨λb o e n hb hx=>?_,λb o e n hb hx=>?_,I.base.free,λb o e hx=>?_,I.base.tups,I.base.frzs,I.base.tbls⟩,⟨_,Bj,λj y v' e1 e2 e3=>?_⟩,λy c e=>?_,I.free,I.freeC,λp hp=>?_,tracked ⟨oL,Nn,I.free⟩ hs,by simpa using I.len⟩ ⟨_,hs,.inl rfl⟩
  ·exact(hs.2 b (cW (dg (cy e) I.ok.above))).trans (I.base.keep b o e n hb hx)
  ·obtain⟨sl,e1⟩:=I.base.slot b o e n hb hx;exact⟨sl,(hs.2 b (cW (dg (cy e) I.ok.above))).trans e1⟩
  ·obtain⟨o',e1⟩:=I.base.there b o e hx;exact⟨o',(hs.2 b (cW (dg (cy e) I.ok.above))).trans e1⟩
  ·by_cases hj:j=i
   ·subst hj;rw[hi]at e1;cases e1;rw[hG Nl]at e2;cases e2;exact⟨u,r,.inl ⟨hk,by simp⟩⟩
   ·rw[iJ (Ne.symm hj)]at e2;obtain⟨u',r',q⟩:=hl j y v' e1 e2 e3;refine⟨u',r',?_⟩;rcases q with⟨k,e⟩|⟨k,c,e,z⟩
    ·refine .inl ⟨k,?_⟩;have:y≠x:=λe=>hj (LD hN e1 (e▸hi));simp[this,e]
    ·exact .inr ⟨k,c,e,z.sameBut hs (cne y c e)⟩
  ·obtain⟨w',z⟩:=I.cell y c e;exact⟨w',z.sameBut hs (cne y c e)⟩
  ·obtain⟨e,n,ne,nf,d⟩:=I.pin p hp;exact⟨(hs.2 p.1 ne).trans e,n,ne,nf,d⟩
 ·have vC:X.fn x=true:=by
   rcases hf with z|z
   ·exact z
   ·rw[z]at hk;cases hk
  obtain⟨c,hc⟩:=I.ok.has x (.inl hk);obtain⟨w',z⟩:=I.cell x c hc;refine wpAny_storeName_cell I.ok.kind hk hc z (λh' Cm hs=>?_);obtain⟨oc,Np,Kl⟩:=id z;refine h { s with heap:=h' } ⟨I.ok,I.os,I.bare,⟨λb o e n hb hx=>?_,λb o e n hb hx=>?_,I.base.free,λb o e hx=>?_,I.base.tups,I.base.frzs,I.base.tbls⟩,⟨m,hn.sameBut hs (Ne.symm (cne x c hc)),λj y v' e1 e2 e3=>?_⟩,λy c' e=>?_,I.free,I.freeC,λp hp=>?_,tracked ⟨oc,Np,I.freeC x c hc⟩ hs,by simpa using I.len⟩ ⟨c,hs,.inr hc⟩
  ·exact(hs.2 b (cW (dg (cy e) (I.ok.cab x c vC hc)))).trans (I.base.keep b o e n hb hx)
  ·obtain⟨sl,e1⟩:=I.base.slot b o e n hb hx;exact⟨sl,(hs.2 b (cW (dg (cy e) (I.ok.cab x c vC hc)))).trans e1⟩
  ·obtain⟨o',e1⟩:=I.base.there b o e hx;exact⟨o',(hs.2 b (cW (dg (cy e) (I.ok.cab x c vC hc)))).trans e1⟩
  ·by_cases hj:j=i
   ·subst hj;rw[hi]at e1;cases e1;rw[hG Nl]at e2;cases e2;exact⟨u,r,.inr ⟨.inl hk,c,hc,Cm⟩⟩
   ·rw[iJ (Ne.symm hj)]at e2;obtain⟨u',r',q⟩:=hl j y v' e1 e2 e3;refine⟨u',r',?_⟩;rcases q with q|⟨k,c',e,z'⟩
    ·exact .inl q
    ·refine .inr ⟨k,c',e,z'.sameBut hs ?_⟩;rintro rfl;exact hj (LD hN e1 (I.ok.inj _ _ _ e hc▸hi))
  ·by_cases Nd:c'=c
   ·subst Nd;exact⟨_,Cm⟩
   ·obtain⟨w2,z2⟩:=I.cell y c' e;exact⟨w2,z2.sameBut hs Nd⟩
  ·obtain⟨e,n,ne,nf,d⟩:=I.pin p hp;refine⟨(hs.2 p.1 ?_).trans e,n,ne,nf,d⟩;intro q;rw[q,Np]at e;have q':oc=p.2:=Option.some.inj e;exact d w' (by rw[←q'];exact Kl)
theorem wj {A:c7}{Q:Unit->cq->Prop}(I:Inv X bX σ H s)(hN:X.N.Nodup)(hi:X.N[i]?=some x)(hx:Loc X.env.scope x)(r:RelV v u)
  (h:∀s',Inv X bX (σ.set i (some v)) H s'->Q () s') (hf:uZ X x:=by walk_at "v2"):cF M A (storeName X.env x u) Q E s :=
 OA I hN hi hx r (λs' I' _=>h s' I') hf
theorem Inv.call' (I:Inv X bX σ H s)(ho:s'.os=s.os)(u:Un (zT X.stack) ch H H' s.heap s'.heap)(hok:oF X.prog X.w H' s'.heap)(hg:AllBare s'.gens)
  (o3:∀b∈ch,(b∈X.ex\/X.s₀.heap.objs.size<=b)/\b≠X.env.locals/\(∀x c,X.env.cells.lookup x=some c->c≠b)/\∀p∈X.pn++bX,p.1≠b):Inv X bX σ H' s':=by
 obtain⟨h',g',d',t',o'⟩:=s';have e:o'=s.os:=ho;subst e;exact I.call (g':=g') (t':=t') (d':=d') u hok hg o3
end
abbrev XK:=bV->Option ce->Hp->Prop
abbrev St:=List (Option V)
abbrev VK:=V->Hp->Prop
abbrev TE:=St->Hp->VK->Prop
abbrev TT:=St->Hp->(Bool->Hp->Prop)->Prop
abbrev TA:=St->Hp->(List V->Hp->Prop)->Prop
structure lA where
 nx:St->Hp->Prop
 rt:VK
 bk:St->Hp->Prop:=λ_ _=>False
 ct:St->Hp->Prop:=λ_ _=>False
abbrev TS:=lA->St->Hp->Prop
def EP (X:Cx)(bX:List (ce×f9))(σ:St)(Q:VK)(u:bV)(s':cq):Prop:=∃v H',Inv X bX σ H' s'/\RelV v u/\Q v H'
def TP (X:Cx)(bX:List (ce×f9))(σ:St)(Q:Bool->Hp->Prop)(b:Bool)(s':cq):Prop:=∃H',Inv X bX σ H' s'/\Q b H'
def AP (X:Cx)(bX:List (ce×f9))(σ:St)(Q:List V->Hp->Prop)(us:List bV)(s':cq):Prop:=∃vs H',Inv X bX σ H' s'/\dA vs us/\Q vs H'
def SP (X:Cx)(bX:List (ce×f9))(D:lA)(f:Flow)(s':cq):Prop :=
 match f with
 |.next=>∃σ' H',Inv X bX σ' H' s'/\D.nx σ' H'
 |.brk=>∃σ' H',Inv X bX σ' H' s'/\D.bk σ' H'
 |.cont=>∃σ' H',Inv X bX σ' H' s'/\D.ct σ' H'
 |.ret u=>∃v σ' H',Inv X bX σ' H' s'/\RelV v u/\D.rt v H'
def PE (X:Cx)(e:Expr)(t:TE):Prop :=
 ∀(bX:List (ce×f9)) (s:cq) (σ:St) (H:Hp) (Q:VK),Inv X bX σ H s->t σ H Q->cF (cC X.prog X.w) X.A (ei e X.env) (EP X bX σ Q) X.xe s
def PT (X:Cx)(e:Expr)(t:TT):Prop :=
 ∀(bX:List (ce×f9)) (s:cq) (σ:St) (H:Hp) (Q:Bool->Hp->Prop),Inv X bX σ H s->t σ H Q->cF (cC X.prog X.w) X.A (zN e X.env (ei e X.env)) (TP X bX σ Q) X.xe s
def PW (X:Cx)(e:Expr)(t:TT):Prop :=
 ∀(whole:Ad bV) (bX:List (ce×f9)) (s:cq) (σ:St) (H:Hp) (Q:Bool->Hp->Prop),Inv X bX σ H s->t σ H Q->cF (cC X.prog X.w) X.A (zN e X.env whole) (TP X bX σ Q) X.xe s
variable {e:Expr}
theorem PW.pt {t:TT}(h:PW X e t):PT X e t:=h _
def PA (X:Cx)(es:List Expr)(t:TA):Prop :=
 ∀(pos:m9) (bX:List (ce×f9)) (s:cq) (σ:St) (H:Hp) (Q:List V->Hp->Prop),Inv X bX σ H s->t σ H Q->cF (cC X.prog X.w) X.A (spliced (jM pos (c9 es X.env))) (AP X bX σ Q) X.xe s
def PS (X:Cx)(st:ek)(t:TS):Prop :=
 ∀(bX:List (ce×f9)) (s:cq) (σ:St) (H:Hp) (D:lA),Inv X bX σ H s->t D σ H->cF (cC X.prog X.w) X.A (exec st X.env) (SP X bX D) X.xe s
def rV (X:Cx)(st:List ek)(t:TS):Prop :=
 ∀(bX:List (ce×f9)) (s:cq) (σ:St) (H:Hp) (D:lA),Inv X bX σ H s->t D σ H->cF (cC X.prog X.w) X.A (execs st X.env) (SP X bX D) X.xe s
theorem fN {t:Ad α}{Q Q':α->cq->Prop}{A:c7}(h:cF M A t Q E s)(hQ:∀a s,Q a s->Q' a s):cF M A t Q' E s:=e8 h hQ λ_ _ x=>x
variable {Q:bV->cq->Prop}{c:Expr}{op:xV}{pos:m9}{ta tb:TE}{σ:St}
section
theorem bin {a b:Expr}(ha:PE X a ta)(hb:PE X b tb){R:V->V->Hp->Prop}(I:Inv X bX σ H s)(h:ta σ H λx H1=>tb σ H1 λy H2=>R x y H2)
 {Q:α->cq->Prop} {f:bV->bV->Ad α}
    (hf:∀v u s2 x y H2,Inv X bX σ H2 s2->RelV x v->RelV y u->R x y H2->cF (cC X.prog X.w) X.A (f v u) Q X.xe s2) :
    cF (cC X.prog X.w) X.A (ei a X.env) (λv s₁=>cF (cC X.prog X.w) X.A (ei b X.env) (λu s₂=>cF (cC X.prog X.w) X.A (f v u) Q X.xe s₂) X.xe s₁) X.xe s:=by
  refine fN (ha bX s σ H _ I h) λv s1 gu=>?_;obtain⟨x,H1,I1,r1,q1⟩:=gu;refine fN (hb bX s1 σ H1 _ I1 q1) λu s2 gu=>?_;obtain⟨y,H2,I2,r2,q2⟩:=gu;exact hf v u s2 x y H2 I2 r1 r2 q2
def pR (i:Nat):TE:=λσ H Q=>∃v,σ[i]?=some (some v)/\Q v H
def tC (v:V):TE:=λ_ H Q=>Q v H
theorem yb (hN:X.N[i]?=some x)(hv:vU X.env.scope x)(hd:lx x:=by decide)(lT:yE x:=by decide):PE X (.Name x pos) (pR i):=by
 intro bX s σ H Q I h;obtain⟨v,e,h⟩:=h;obtain⟨m,hn,hl⟩:=I.loc;obtain⟨u,r,l⟩:=hl i x v hN e hv;have fin:EP X bX σ Q u s:=⟨v,H,I,r,h⟩;rcases l with⟨hk,hm⟩|⟨hk,c,hc,xD⟩
 ·exact Cc (wpAny_loadName_local I.ok.kind hk hn hm fin) hd
 ·rcases hk with hk|hk
  ·exact Cc (wpAny_loadName_cell I.ok.kind hk hc xD fin) hd
  ·exact Cc (wpAny_loadName_free I.ok.kind hk hc xD fin lT) hd
theorem zsv {i j pos}:PE X (.Constant (.int i) j pos) (tC (.int i)):=λ_ _ _ H _ I h=>wpAny_Constant_int ⟨.int i,H,I.tok _,⟨_,rfl⟩,h⟩
theorem zvn {b j pos}:PE X (.Constant (.bool b) j pos) (tC (.bl b)):=λ_ _ _ H _ I h=>Constant_bool ⟨.bl b,H,I,rfl,h⟩
theorem zsw {j pos}:PE X (.Constant .none j pos) (tC .non):=λ_ _ _ H _ I h=>Constant_none ⟨.non,H,I,rfl,h⟩
theorem zsx {x j pos}:PE X (.Constant (.str x) j pos) (tC (.str x)):=λ_ _ _ H _ I h=>Calls.Constant_str ⟨.str x,H,I.tok _,⟨_,rfl⟩,h⟩
def Gl (X:Cx)(x:Str):Prop:=X.env.kindOf x=some .globalImplicit
theorem x6 (I:Inv X bX σ H s)(hg:Gl X x)(hm:X.mg x=some u)(h:Q u s)
  (hd:lx x:=by decide):cF (cC X.prog X.w) X.A (ei (.Name x pos) X.env) Q E s :=
 Calls.Name_function_global I.ok.kind hg (Calls.loadGlobal_global (by rw[I.ok.glob];exact I.mod.glob.keeps I.bk) hm h) hd
theorem ux (I:Inv X bX σ H s)(hg:Gl X x)(hm:X.mg x=none)(hv:dY x=some u)(h:Q u s)
  (hn:x≠"__name__":=by decide) (hd:lx x:=by decide):cF (cC X.prog X.w) X.A (ei (.Name x pos) X.env) Q E s:=by
 obtain⟨mb,h1,h2⟩:=I.mod.blt;exact Calls.Name_function_global I.ok.kind hg (Calls.loadGlobal_builtin (by rw[I.ok.glob];exact I.mod.glob.keeps I.bk) hm (by rw[I.ok.blt];exact h1.keeps I.bk) ((h2 x hn).trans hv) h) hd
theorem L6 (hg:Gl X x)(hm:X.mg x=some u)(r:RelV v u)(hd:lx x:=by decide):PE X (.Name x pos) (tC v) :=
 λ_ _ _ H _ I h=>x6 I hg hm ⟨v,H,I,r,h⟩ hd
theorem PR (hg:Gl X x)(hm:X.mg x=none)(hv:dY x=some u)(r:RelV v u)(hn:x≠"__name__":=by decide)(hd:lx x:=by decide):PE X (.Name x pos) (tC v) :=
 λ_ _ _ H _ I h=>ux I hg hm hv ⟨v,H,I,r,h⟩ hn hd
def Ut (ta tb:TE)(k:Int->Int->Hp->Prop):St->Hp->Prop:=λσ H=>ta σ H λx H1=>tb σ H1 λy H2=>∃i j,x=.int i/\y=.int j/\k i j H2
variable {a b:Expr}
def PC (X:Cx)(op:xV)(a b:Expr)(t:TE):Prop :=
 ∀(bX:List (ce×f9)) (s:cq) (σ:St) (H:Hp) (Q:VK),Inv X bX σ H s->t σ H Q ->
  cF (cC X.prog X.w) X.A (ei a X.env) (λv s₁=>cF (cC X.prog X.w) X.A (ei b X.env) (λu s₂=>cF (cC X.prog X.w) X.A (gk op v u) (EP X bX σ Q) X.xe s₂) X.xe s₁) X.xe s
theorem AN (b:Expr)(h:op≠.In)(h2:op≠.NotIn):fX op b=false:=by
 have e1:(op==xV.In)=false:=by cases op<;>first|rfl|exact absurd rfl h
 have e2:(op==xV.NotIn)=false:=by cases op<;>first|rfl|exact absurd rfl h2
 cases b<;>simp[fX,e1,e2]
def DE (p:Int->Int->Bool)(ta tb:TE):TE:=λσ H Q=>Ut ta tb (λi j H2=>Q (.bl (p i j)) H2) σ H
abbrev CJ:TE->TE->TE:=DE λi j=>decide (i<j)
abbrev Ex:TE->TE->TE:=DE λi j=>decide (j<i)
abbrev NW:TE->TE->TE:=DE λi j=>decide (j<=i)
def tB (t:TE):TT:=λσ H Q=>t σ H λx H1=>∃c,x=.bl c/\Q c H1
theorem QW {t:TE}(h:PC X op a b t)(h1:fX op b=false:=by first|exact AN _ (by decide) (by decide)|rfl):PT X (.Compare a [op] [b] pos) (tB t):=by intro bX s σ H Q I hw;refine wpAny_isTrue_Compare1 (fN (h bX s σ H _ I hw) λv s1 h1=>fN h1 λu s2 h2=>fN h2 λc s3 ⟨x,H1,I1,r1,q1⟩=>?_) h1;obtain⟨d,rfl,q⟩:=q1;cases r1;exact iV ⟨H1,I1,q⟩
theorem zsy {t:TE}(h:PE X e t)(he:∀whole,zN e X.env whole=(do let v ← whole;lz e.pos;kh [v] (truthy v)):=by intro _;rfl):PT X e (tB t):=by intro bX s σ H Q I hw;refine isTrue_plain (fN (h bX s σ H _ I hw) λv s1 ⟨x,H1,I1,r1,q1⟩=>?_) (he _);obtain⟨d,rfl,q⟩:=q1;cases r1;exact iV ⟨H1,I1,q⟩
variable {tA Ih:TT}{rest:List Expr}
def K9 (t u:TT):TT:=λσ H Q=>t σ H λc H1=>if c=true then u σ H1 Q else Q false H1
def Ux (t u:TT):TT:=λσ H Q=>t σ H λc H1=>if c=true then Q true H1 else u σ H1 Q
def Lj (t:TT):TT:=λσ H Q=>t σ H λc H1=>Q (!c) H1
theorem YS (ha:PT X a tA):PW X (.BoolOp .And [a] pos) tA:=by
 intro wh bX s σ H Q I h;refine isTrue_and (fN (ha bX s σ H Q I h) λc s1 e=>?_);cases c with
 |true=>exact isTrue_and_nil e
 |false=>exact e
theorem zsz (ha:PT X a tA):PW X (.BoolOp .Or [a] pos) tA:=by
 intro wh bX s σ H Q I h;refine isTrue_or (fN (ha bX s σ H Q I h) λc s1 e=>?_);cases c with
 |false=>exact isTrue_or_nil e
 |true=>exact e
theorem Z4 (ha:PT X a tA)(hb:PW X (.BoolOp .And (b::rest) pos) Ih):PW X (.BoolOp .And (a::b::rest) pos) (K9 tA Ih):=by
 intro wh bX s σ H Q I h;refine isTrue_and (fN (ha bX s σ H _ I h) λc s1 gu=>?_);obtain⟨H1,I1,q1⟩:=gu;cases c with
 |true=>exact hb wh bX s1 σ H1 Q I1 q1
 |false=>exact⟨H1,I1,q1⟩
theorem zvo (ha:PT X a tA)(hb:PW X (.BoolOp .Or (b::rest) pos) Ih):PW X (.BoolOp .Or (a::b::rest) pos) (Ux tA Ih):=by
 intro wh bX s σ H Q I h;refine isTrue_or (fN (ha bX s σ H _ I h) λc s1 gu=>?_);obtain⟨H1,I1,q1⟩:=gu;cases c with
 |true=>exact⟨H1,I1,q1⟩
 |false=>exact hb wh bX s1 σ H1 Q I1 q1
theorem Z5 (ha:PT X a tA):PT X (.UnaryOp .Not a pos) (Lj tA):=by intro bX s σ H Q I h;exact isTrue_not (ha bX s σ H (λc H1=>Q (!c) H1) I h)
def Gv (ta tb:TE):TE:=λσ H Q=>ta σ H λx H1=>∃c,x=.bl c/\if c=true then tb σ H1 Q else Q (.bl false) H1
def Lk (ta tb:TE):TE:=λσ H Q=>ta σ H λx H1=>∃c,x=.bl c/\if c=true then Q (.bl true) H1 else tb σ H1 Q
theorem Z6 {op}{t:TE}(h:PE X a t):PE X (.BoolOp op [a] pos) t:=λbX s σ H Q I hw=>BoolOp_one (h bX s σ H Q I hw)
theorem Z7 (ha:PE X a ta)(hb:PE X (.BoolOp .And (b::rest) pos) tb):PE X (.BoolOp .And (a::b::rest) pos) (Gv ta tb):=by
 intro bX s σ H Q I h;refine BoolOp_and (fN (ha bX s σ H _ I h) λv s1 gu=>?_);obtain⟨x,H1,I1,r1,q1⟩:=gu;obtain⟨c,rfl,q1⟩:=q1;cases r1;refine iV ?_;cases c with
 |true=>exact hb bX s1 σ H1 Q I1 q1
 |false=>exact⟨.bl false,H1,I1,rfl,q1⟩
theorem zvp (ha:PE X a ta)(hb:PE X (.BoolOp .Or (b::rest) pos) tb):PE X (.BoolOp .Or (a::b::rest) pos) (Lk ta tb):=by
 intro bX s σ H Q I h;refine BoolOp_or (fN (ha bX s σ H _ I h) λv s1 gu=>?_);obtain⟨x,H1,I1,r1,q1⟩:=gu;obtain⟨c,rfl,q1⟩:=q1;cases r1;refine iV ?_;cases c with
 |false=>exact hb bX s1 σ H1 Q I1 q1
 |true=>exact⟨.bl true,H1,I1,rfl,q1⟩
def Uw (t:TT)(ta tb:TE):TE:=λσ H Q=>t σ H λc H1=>if c=true then ta σ H1 Q else tb σ H1 Q
theorem XY (hc:PT X c tA)(ha:PE X a ta)(hb:PE X b tb):PE X (.IfExp c a b pos) (Uw tA ta tb):=by
 intro bX s σ H Q I h;refine wpAny_IfExp (fN (hc bX s σ H _ I h) λd s1 gu=>?_);obtain⟨H1,I1,q1⟩:=gu;cases d with
 |true=>exact ha bX s1 σ H1 Q I1 q1
 |false=>exact hb bX s1 σ H1 Q I1 q1
end
def gZ (K:bZ)(H:Hp)(a:ce)(xs:List V):Prop :=
 Rd H a (.lst xs) \/
  ∃(o:f9) (dJ:Array bV) (n:Nat),K.lookup a=some o/\o.cls=.type "list"/\o.dict=none/\o.data=.seq dJ n/\dJ.size<=sizeLine/\dA xs dJ.toList
def oU (K:bZ)(H:Hp)(a:ce)(xs:List V):Prop :=
 Rd H a (.tup xs) \/
  ∃(o:f9) (dJ:Array bV) (n:Nat),K.lookup a=some o/\o.cls=.type "tuple"/\o.data=.seq dJ n/\dJ.size<=sizeLine/\dA xs dJ.toList
def Js:bV->Option V
 |.none=>some .non
 |.bool b=>some (.bl b)
 |.int i _=>some (.int i)
 |.str x _=>some (.str x)
 |.bytes b _=>some (.byt b)
 |.float b _=>some (.flt b)
 |.ref a=>some (.ref a)
 |.type n=>some (.ty n)
 |_=>none
theorem RelV.abs {x:V}(r:RelV x u):Js u=some x:=by
 cases x with
 |non=>cases r;rfl
 |bl _=>cases r;rfl
 |int _=>obtain⟨t,rfl⟩:=r;rfl
 |str _=>obtain⟨t,rfl⟩:=r;rfl
 |byt _=>obtain⟨t,rfl⟩:=r;rfl
 |flt _=>obtain⟨t,rfl⟩:=r;rfl
 |ref _=>cases r;rfl
 |ty _=>cases r;rfl
variable {y:V}
theorem RelV.inj {x:V}(r:RelV x u)(q:RelV y u):x=y:=Option.some.inj (r.abs.symm.trans q.abs)
theorem dA.inj:∀{xs ys:List V} {us:List bV},dA xs us->dA ys us->xs=ys
 |_,_,_,.nil,.nil=>rfl
 |_,_,_,.cons r t,.cons r' t'=>by rw[r.inj r',dA.inj t t']
variable {ys:List V}
theorem gZ.of {K:bZ}(h:H a=some (.lst xs)):gZ K H a xs:=.inl (.inl h)
theorem oU.of {K:bZ}(h:H a=some (.tup xs)):oU K H a xs:=.inl (.inl h)
theorem Inv.list (I:Inv X bX σ H s)(h:gZ X.K H a xs):∃dJ:List bV,dA xs dJ/\PlainL s.heap a dJ.toArray/\xs.length<=sizeLine:=by
 rcases h with h|⟨o,dJ,n,hk,hc,hd,hs,hz,r⟩
 ·obtain⟨z,dJ,n,r,e⟩:=h.ok I.hok;exact⟨dJ,r,⟨_,n,e,rfl,rfl,rfl⟩,z⟩
 ·refine⟨dJ.toList,r,⟨o,n,I.kIn a o hk,hc,hd,by simpa using hs⟩,?_⟩;have e:=r.length;simp only[iY]at e;omega
theorem Inv.tuple (I:Inv X bX σ H s)(h:oU X.K H a xs):∃dJ:List bV,dA xs dJ/\IsTup s.heap a dJ.toArray/\xs.length<=sizeLine:=by
 rcases h with h|⟨o,dJ,n,hk,hc,hs,hz,r⟩
 ·obtain⟨z,dJ,r,p⟩:=h.ok I.hok;exact⟨dJ,r,p,z⟩
 ·refine⟨dJ.toList,r,⟨o,I.kIn a o hk,hc,n,by simpa using hs⟩,?_⟩;have e:=r.length;simp only[iY]at e;omega
theorem Inv.list_inj (I:Inv X bX σ H s)(h:gZ X.K H a xs)(h':gZ X.K H a ys):xs=ys:=by
 obtain⟨dJ,r,⟨o,n,e,_,_,d⟩,_⟩:=I.list h;obtain⟨its',r',⟨o',n',e',_,_,d'⟩,_⟩:=I.list h';rw[e]at e';cases e';rw[d]at d';injection d' with d1 _;have:dJ=its':=by simpa using congrArg Array.toList d1
 subst this;exact r.inj r'
abbrev Cx.wish (X:Cx)(E:bV->cq->Prop):Cx:={ X with xe:=E }
abbrev Cx.nox (X:Cx):Cx:=X.wish λ_ _=>False
theorem Cx.Ok.wish (ok:X.Ok)(E:bV->cq->Prop):(X.wish E).Ok :=
 ⟨ok.mod,ok.kind,ok.glob,ok.blt,ok.above,ok.inj,ok.has,ok.cab,ok.hd,ok.frames,ok.stk,ok.exf,ok.bs,ok.bsz,ok.noex,ok.exfs,ok.funs,ok.frf⟩
theorem Cx.Ok.unwish (ok:(X.wish E).Ok):X.Ok :=
 ⟨ok.mod,ok.kind,ok.glob,ok.blt,ok.above,ok.inj,ok.has,ok.cab,ok.hd,ok.frames,ok.stk,ok.exf,ok.bs,ok.bsz,ok.noex,ok.exfs,ok.funs,ok.frf⟩
theorem Inv.wish (I:Inv X bX σ H s)(E:bV->cq->Prop):Inv (X.wish E) bX σ H s:=⟨I.ok.wish E,I.os,I.bare,I.base,I.loc,I.cell,I.free,I.freeC,I.pin,I.hok,I.len⟩
theorem Inv.unwish (I:Inv (X.wish E) bX σ H s):Inv X bX σ H s:=⟨I.ok.unwish,I.os,I.bare,I.base,I.loc,I.cell,I.free,I.freeC,I.pin,I.hok,I.len⟩
theorem SP.unwish {D:lA}{f:Flow}(h:SP (X.wish E) bX D f s'):SP X bX D f s':=by
 cases f with
 |next=>obtain⟨σ',H',I,q⟩:=h;exact⟨σ',H',I.unwish,q⟩
 |brk=>obtain⟨σ',H',I,q⟩:=h;exact⟨σ',H',I.unwish,q⟩
 |cont=>obtain⟨σ',H',I,q⟩:=h;exact⟨σ',H',I.unwish,q⟩
 |ret u=>obtain⟨v,σ',H',I,r,q⟩:=h;exact⟨v,σ',H',I.unwish,r,q⟩
theorem rV.nox {st:List ek}{t:TS}(h:rV X.nox st t):rV X st t:=λbX s σ H D I hw=>e8 (h bX s σ H D (I.wish _) hw) (λ_ _ q=>q.unwish) λ_ _ z=>False.elim z
variable {te:TE}
section
variable {st:ek}{rest:List ek}{t u:TS}
def GA:TS:=λD σ H=>D.nx σ H
def B0 (t u:TS):TS:=λD σ H=>t { D with nx:=u D } σ H
theorem YT:rV X [] GA:=λ_ _ σ H _ I h=>oE ⟨σ,H,I,h⟩
theorem vx (h1:PS X st t)(h2:rV X rest u):rV X (st::rest) (B0 t u):=by
 intro bX s σ H D I h;refine wpAny_execs_cons (fN (h1 bX s σ H { D with nx:=u D } I h) λf s1 q=>?_);cases f with
 |next=>obtain⟨σ',H',I',q⟩:=q;exact h2 bX s1 σ' H' D I' q
 |ret v=>exact q
 |brk=>exact q
 |cont=>exact q
theorem jc (h1:PS X st t):rV X [st] t:=by
 intro bX s σ H D I h;refine wpAny_execs_cons (fN (h1 bX s σ H D I h) λf s1 q=>?_);cases f with
 |next=>exact oE q
 |ret v=>exact q
 |brk=>exact q
 |cont=>exact q
theorem Inv.quiet (I:Inv X bX σ H s):interactive X.env=false:=by simp[interactive,I.ok.kind]
def xL (te:TE):TS:=λD σ H=>te σ H λ_ H1=>D.nx σ H1
theorem ve (he:PE X e te)(hs:gQ e none pos.line X.env=pure false:=by rfl):PS X (.Expr e pos) (xL te):=by intro bX s σ H D I h;exact wpAny_Expr_any (fN (he bX s σ H _ I h) λv s1 ⟨x,H1,I1,r1,q1⟩=>⟨σ,H1,I1,q1⟩) I.quiet hs
def Lm (te:TE):TS:=λD σ H=>te σ H D.rt
theorem Mp (he:PE X e te):PS X (.Return (some e) pos) (Lm te):=by intro bX s σ H D I h;exact wpAny_Return_some (fN (he bX s σ H _ I h) λv s1 ⟨x,H1,I1,r1,q1⟩=>⟨x,σ,H1,I1,r1,q1⟩)
def Lg (c:TT)(t u:TS):TS:=λD σ H=>c σ H λb H1=>if b=true then t D σ H1 else u D σ H1
theorem Rv {a b:List ek}{tc:TT}(hc:PT X c tc)(ha:rV X a t)(hb:rV X b u):PS X (.If c a b pos) (Lg tc t u):=by
 intro bX s σ H D I h;refine wpAny_If (fN (hc bX s σ H _ I h) λd s1 gu=>?_);obtain⟨H1,I1,q1⟩:=gu;cases d with
 |true=>exact ha bX s1 σ H1 D I1 q1
 |false=>exact hb bX s1 σ H1 D I1 q1
end
abbrev TG:=V->St->Hp->(St->Hp->Prop)->Prop
abbrev Be:=List V->St->Hp->(St->Hp->Prop)->Prop
def PG (X:Cx)(target:Expr)(t:TG):Prop :=
 ∀(bX:List (ce×f9)) (s:cq) (σ:St) (H:Hp) (v:V) (u:bV) (Q:St->Hp->Prop),Inv X bX σ H s->RelV v u->t v σ H Q ->
  cF (cC X.prog X.w) X.A (pj target X.env u) (λ_ s'=>∃σ' H',Inv X bX σ' H' s'/\Q σ' H') X.xe s
def CV (X:Cx)(ts:List Expr)(t:Be):Prop :=
 ∀(bX:List (ce×f9)) (s:cq) (σ:St) (H:Hp) (vs:List V) (us:List bV) (Q:St->Hp->Prop),Inv X bX σ H s->dA vs us->t vs σ H Q ->
  cF (cC X.prog X.w) X.A (assignInOrder ((eK ts X.env).map (·.2)) us) (λ_ s'=>∃σ' H',Inv X bX σ' H' s'/\Q σ' H') X.xe s
abbrev CW:=V->V->V->Hp->(Hp->Prop)->Prop
def E6 (X:Cx)(t:CW):Prop :=
 ∀(bX:List (ce×f9)) (s:cq) (σ:St) (H:Hp) (o i v:V) (ov iv u:bV) (Q:Hp->Prop),Inv X bX σ H s->RelV o ov->RelV i iv->RelV v u->t o i v H Q ->
  cF (cC X.prog X.w) X.A (setItem ov iv u) (λ_ s'=>∃H',Inv X bX σ H' s'/\Q H') X.xe s
abbrev D1:=V->V->Hp->VK->Prop
def D0 (X:Cx)(op:uS)(t:D1):Prop :=
 ∀(bX:List (ce×f9)) (s:cq) (σ:St) (H:Hp) (x y:V) (v u:bV) (Q:VK),Inv X bX σ H s->RelV x v->RelV y u->t x y H Q ->
  cF (cC X.prog X.w) X.A (inplaceOp op v u) (EP X bX σ Q) X.xe s
variable {es:List Expr}{g:TG}{n:Nat}{o tg:Expr}{pos' wL:m9}{to:TE}
def xC (i:Nat):TG:=λv σ H Q=>Q (σ.set i (some v)) H
theorem PK (hN:X.N.Nodup)(hi:X.N[i]?=some x)(hx:Loc X.env.scope x)(hf:uZ X x:=by walk_at "v2"):PG X (.Name x pos) (xC i):=by intro bX s σ H v u Q I r h;exact wpAny_assign_Name (wj I hN hi hx r (λs' I'=>⟨_,H,I',h⟩) hf)
def JD:Be:=λvs σ H Q=>vs=[]/\Q σ H
def Ff (t:TG)(u:Be):Be:=λvs σ H Q=>∃v r,vs=v::r/\t v σ H λσ' H'=>u r σ' H' Q
theorem PL:CV X [] JD:=by intro bX s σ H vs us Q I r h;obtain⟨e,h⟩:=h;subst e;cases r;exact assignInOrder_nil ⟨σ,H,I,h⟩
theorem O5 {t:TG}{u:Be}(h1:PG X e t)(h2:CV X es u)
  (hs:(eK (e::es) X.env).map (·.2)=pj e X.env::(eK es X.env).map (·.2):=by rfl):CV X (e::es) (Ff t u):=by
 intro bX s σ H vs us Q I r h;obtain⟨v,vr,e1,h⟩:=h;subst e1;cases r with
 |cons r rr=>rw[hs];refine assignInOrder_cons (fN (h1 bX s σ H _ _ _ I r h) λ_ s1 gu=>?_);obtain⟨σ1,H1,I1,q1⟩:=gu;exact h2 bX s1 σ1 H1 _ _ Q I1 rr q1
def JE (K:bZ)(n:Nat)(t:Be):TG:=λv σ H Q=>∃a xs,v=.ref a/\oU K H a xs/\xs.length=n/\t xs σ H Q
theorem QX {k:Nat}{t:Be}(hc:X.calm=true)(h:CV X es t)
  (hn:(eK es X.env).length=n:=by rfl) (ky:(eK es X.env).findIdx? (·.1)=none:=by rfl):PG X (.Tuple es k pos) (JE X.K n t):=by
 intro bX s σ H v u Q I r hw;obtain⟨a,xs,e1,hq,hl,hw⟩:=hw;subst e1;cases r;obtain⟨dJ,rv,ht,hz⟩:=I.tuple hq;refine assign_Tuple_tuple (I.ok.hd hc) ht (by simp[hn,←hl,rv.length]) ky λh' hx=>?_;have I1:Inv X bX σ H { s with heap:=h' }:=I.kept (t':=s.toks) λb o e=>hx b o (cW (cy e)) e;exact h bX _ σ H xs _ Q I1 (by simpa using rv) hw
def DC (te:TE)(g:TG):TS:=λD σ H=>te σ H λx H1=>g x σ H1 D.nx
theorem Z8 (he:PE X e te)(hg:PG X tg g)(hs:qF [tg] e pos.line X.env=pure false:=by rfl)(hw:qE [tg] e X.env=pure none:=by rfl)
  (h1:(eK [tg] X.env).map (·.2)=[pj tg X.env]:=by rfl):PS X (.Assign [tg] e pos) (DC te g):=by
 intro bX s σ H D I h;refine wpAny_Assign_stores (fN (he bX s σ H _ I h) λv s1 ⟨x,H1,I1,r1,q1⟩=>?_) hs hw;rw[h1];exact fN (hg bX s1 σ H1 x v _ I1 r1 q1) λ_ s2 q=>q
theorem Z9 (hN:X.N.Nodup)(hi:X.N[i]?=some x)(hx:Loc X.env.scope x)(he:PE X e te)(hs:G8 X e x pos' pos:=by rfl)(hf:uZ X x:=by walk_at "v2") :
  PS X (.Assign [.Name x pos'] e pos) (DC te (xC i)):=by
 intro bX s σ H D I h;refine wpAny_Assign_Name (fN (he bX s σ H _ I h) λv s1 ⟨y,H1,I1,r1,q1⟩=>?_) hs;exact wj I1 hN hi hx r1 (λs2 I2=>⟨_,H1,I2,q1⟩) hf
def Ll (i j:Nat)(ta:TA):TS:=λD σ H=>ta σ H λvs H1=>∃v w,vs=[v,w]/\D.nx ((σ.set i (some v)).set j (some w)) H1
theorem zs7 {y:Str}{a b:Expr}{ta:TA}{px py pt:m9}{kt k2 pO}(hc:X.calm=true)(hN:X.N.Nodup)(hi:X.N[i]?=some x)(hj:X.N[j]?=some y)(J6:i≠j)
    (hx:X.env.scope.names.lookup x=some .local) (hy:X.env.scope.names.lookup y=some .local) (ha:PA X [a,b] ta)
    (hw:qE [.Tuple [.Name x px,.Name y py] kt pt] (.Tuple [a,b] k2 pO) X.env=pure (some [x,y]))
    (hs:qF [.Tuple [.Name x px,.Name y py] kt pt] (.Tuple [a,b] k2 pO) pos.line X.env=pure false:=by rfl) :
    PS X (.Assign [.Tuple [.Name x px,.Name y py] kt pt] (.Tuple [a,b] k2 pO) pos) (Ll i j ta):=by
  intro bX s σ H D I h;rw[exec_Assign_arm];refine bW (kc ?_);rw[hs];refine bW (cw ?_);rw[if_neg (by decide)];refine bW (Tuple_ (fN (ha _ bX s σ H _ I h) λus s1 gu=>?_));obtain⟨vs,H1,I1,r1,q1⟩:=gu;obtain⟨v,w,e1,q1⟩:=q1;subst e1;obtain⟨u1,u2,rfl,rv,tM⟩:∃u1 u2,us=[u1,u2]/\RelV v u1/\RelV w u2:=by
    cases r1 with
    |cons p q=>
      cases q with
      |cons p' q'=>cases q';exact⟨_,_,rfl,p,p'⟩
  refine iT ?_ (by show 2<=sizeLine;decide);have I2:Inv X bX σ H1 { s1 with heap:=s1.heap.push { cls:=.type "tuple",data:=.seq [u1,u2].toArray } }:=I1.kept (t':=s1.toks) λb o e=>bY _ e;rw[hw];refine bW (cw ?_);show cF (cC X.prog X.w) X.A (do rule "assign.swapped-stores";let items ← unpackItems (.ref s1.heap.objs.size) 2 none;assignInOrder [λv=>bindName X.env y v,λv=>bindName X.env x v] items.reverse;pure Flow.next) _ _ _;refine bW (wpAny_rule (bW (unpackItems_tuple (items:=#[u1,u2]) (I.ok.hd hc) (IsTup.new s1.heap _) λh' Cv=>?_)));have I3:=I2.kept (h':=h') (t':=s1.toks) λb o e=>Cv b o (cW (cy e)) e;show cF _ _ (assignInOrder [λv=>bindName X.env y v,λv=>bindName X.env x v] [u2,u1] >>= λ_=>pure Flow.next) _ _ _;refine bW (assignInOrder_cons (wpAny_bindName (wj I3 hN hj (.inl hy) tM (λs2 I4=>?_) (.inr hy))));refine assignInOrder_cons (wpAny_bindName (wj I4 hN hi (.inl hx) rv (λs3 I5=>assignInOrder_nil (cw ?_)) (.inr hx)));rw[List.set_comm _ _ (Ne.symm J6)]at I5;exact⟨_,H1,I5,q1⟩
def La (i:Nat)(te:TE)(ti:D1):TS:=λD σ H=>∃x,σ[i]?=some (some x)/\te σ H λy H1=>ti x y H1 λz H2=>D.nx (σ.set i (some z)) H2
theorem zs8 {op:uS}{ti:D1}(hN:X.N.Nodup)(hi:X.N[i]?=some x)(hx:Loc X.env.scope x)(he:PE X e te)(ho:D0 X op ti)(hf:uZ X x:=by walk_at "v2") :
  PS X (.AugAssign (.Name x pos') op e pos) (La i te ti):=by
 intro bX s σ H D I h;obtain⟨v,e1,h⟩:=h;obtain⟨m,hn,hl⟩:=I.loc;have UI:vU X.env.scope x:=by rcases hx with k|k;exact .inl k;exact .inr (.inl k)
 obtain⟨u,r,l⟩:=hl i x v hi e1 UI;refine wpAny_AugAssign_Name ?_;have go:cF (cC X.prog X.w) X.A (ei e X.env) (λw s₂=>cF (cC X.prog X.w) X.A (inplaceOp op u w) (λr s₃=>cF (cC X.prog X.w) X.A (storeName X.env x r) (λ_=>SP X bX D .next) X.xe s₃) X.xe s₂) X.xe s:=by refine fN (he bX s σ H _ I h) λw s1 gu=>?_;obtain⟨y,H1,I1,r1,q1⟩:=gu;refine fN (ho bX s1 σ H1 v y u w _ I1 r r1 q1) λz s2 gu=>?_;obtain⟨zv,H2,I2,r2,q2⟩:=gu;exact wj I2 hN hi hx r2 (λs3 I3=>⟨_,H2,I3,q2⟩) hf
 rcases l with⟨hk,hm⟩|⟨hk,c,hc,xD⟩
 ·exact wpAny_loadName_local I.ok.kind hk hn hm go
 ·rcases hk with hk|hk
  ·exact wpAny_loadName_cell I.ok.kind hk hc xD go
  ·rcases hx with k|k
   ·have:X.env.scope.names.lookup x=some .free:=hk;rw[k]at this;cases this
   ·have:X.env.scope.names.lookup x=some .free:=hk;rw[k]at this;cases this
def Gw (to ti te:TE)(B3:V->V->Hp->VK->Prop)(Ij:D1)(B4:CW):TS:=λD σ H=>to σ H λo H1=>ti σ H1 λi H2=>B3 o i H2 λx H3=>te σ H3 λy H4=>Ij x y H4 λz H5=>B4 o i z H5 λH6=>D.nx σ H6
def E4 (X:Cx)(t:V->V->Hp->VK->Prop):Prop :=
 ∀(bX:List (ce×f9)) (s:cq) (σ:St) (H:Hp) (o i:V) (ov iv:bV) (Q:VK),Inv X bX σ H s->RelV o ov->RelV i iv->t o i H Q ->
  cF (cC X.prog X.w) X.A (pF ov iv) (EP X bX σ Q) X.xe s
theorem YU {i:Expr}{ti:TE}{B3:V->V->Hp->VK->Prop}{Ij:D1}{B4:CW}{op:uS}(ho:PE X o to)(hi:PE X i ti)(hg:E4 X B3)(he:PE X e te)(hp:D0 X op Ij)(hs:E6 X B4)
  (ha:∀ov iv new,augStore i ov iv new=(do kh [new,ov,iv] (setItem ov iv new);release [new,ov,iv] [];pure .next):=by intros;rfl):PS X (.AugAssign (.Subscript o i wL) op e pos) (Gw to ti te B3 Ij B4):=by
 intro bX s σ H D I h;refine wpAny_AugAssign_SubscriptAny (fN (ho bX s σ H _ I h) λov s1 ⟨x1,H1,I1,r1,q1⟩=>?_) ha;refine fN (hi bX s1 σ H1 _ I1 q1) λiv s2 gu=>?_;obtain⟨x2,H2,I2,r2,q2⟩:=gu;refine fN (hg bX s2 σ H2 x1 x2 ov iv _ I2 r1 r2 q2) λold s3 gu=>?_;obtain⟨x3,H3,I3,r3,q3⟩:=gu;refine fN (he bX s3 σ H3 _ I3 q3) λv s4 gu=>?_;obtain⟨x4,H4,I4,r4,q4⟩:=gu;refine fN (hp bX s4 σ H4 x3 x4 old v _ I4 r3 r4 q4) λnew s5 gu=>?_;obtain⟨x5,H5,I5,r5,q5⟩:=gu;exact fN (hs bX s5 σ H5 x1 x2 x5 ov iv new _ I5 r1 r2 r5 q5) λ_ s6 ⟨H6,I6,q6⟩=>⟨σ,H6,I6,q6⟩
def HC (f:Int->Int->Int):D1:=λx y H Q=>∃i j,x=.int i/\y=.int j/\Q (.int (f i j)) H
theorem QY:D0 X .Add (HC λi j=>i+j):=by intro bX s σ H x y v u Q I r1 r2 h;obtain⟨i,j,e1,e2,q⟩:=h;subst e1;subst e2;obtain⟨t,rfl⟩:=r1;obtain⟨t',rfl⟩:=r2;exact iadd_int ⟨.int _,H,I.tok _,⟨_,rfl⟩,q⟩
theorem zs9:D0 X .Sub (HC λi j=>i-j):=by intro bX s σ H x y v u Q I r1 r2 h;obtain⟨i,j,e1,e2,q⟩:=h;subst e1;subst e2;obtain⟨t,rfl⟩:=r1;obtain⟨t',rfl⟩:=r2;exact isub_int ⟨.int _,H,I.tok _,⟨_,rfl⟩,q⟩
variable {body:List ek}
def DJ (c:TT)(tb:TS):TS:=λD σ H=>∃W:Nat->St->Hp->Prop,(∃m,W m σ H)/\∀m σ H,W m σ H ->
 c σ H λb H1=>if b=true then∃N:St->Hp->Prop,(∀σ' H',N σ' H'->∃m',m'<m/\W m' σ' H')/\tb { D with nx:=N,ct:=N,bk:=D.nx } σ H1 else D.nx σ H1
theorem XZ {tc:TT}{tb:TS}(hp:gj (cC X.prog X.w) X.A X.env X.xe)(hc:PT X c tc)(hb:rV X body tb):PS X (.While c body [] pos) (DJ tc tb):=by
 intro bX s σ H D I h;obtain⟨W,⟨m0,w0⟩,wM⟩:=h;refine wpAny_While (codeAny_whileLoop (λn s'=>∃σ' H',Inv X bX σ' H' s'/\W n σ' H') ?_ m0 ⟨σ,H,I,w0⟩);rintro n s1 ⟨σ1,H1,I1,w1⟩;refine iG hp (fN (hc bX s1 σ1 H1 _ I1 (wM n σ1 H1 w1)) λb s2 gu=>?_);obtain⟨H2,I2,q2⟩:=gu;cases b with
 |true=>
  obtain⟨N,hN,q2⟩:=q2;rw[if_pos rfl];refine iG hp (fN (hb bX s2 σ1 H2 _ I2 q2) λf s3 q3=>?_);cases f with
  |next=>obtain⟨σ3,H3,I3,n3⟩:=q3;obtain⟨m',hm,w3⟩:=hN σ3 H3 n3;exact⟨m',hm,σ3,H3,I3,w3⟩
  |cont=>obtain⟨σ3,H3,I3,n3⟩:=q3;obtain⟨m',hm,w3⟩:=hN σ3 H3 n3;exact⟨m',hm,σ3,H3,I3,w3⟩
  |brk=>exact q3
  |ret v=>exact q3
 |false=>rw[if_neg cD];exact oE ⟨σ1,H2,I2,q2⟩
structure It where
 go:Nat->Hp->Prop
 yld:Nat->Hp->V->Hp->Prop
 stop:Nat->Hp->Prop
def qH (X:Cx)(bX:List (ce×f9))(H:Hp)(b:ce):Prop :=
 H b=none/\b≠X.env.locals/\b∉X.fs/\(b∈X.ex\/X.s₀.heap.objs.size<=b)/\(∀x c,X.env.cells.lookup x=some c->c≠b)/\∀p∈X.pn++bX,p.1≠b
theorem Inv.fpOk (I:Inv X bX σ H s)(hb:s.heap.objs.size<=b)(hn:H' b=none):qH X bX H' b:=by
 refine⟨hn,kl (dg I.lt hb),I.nofs hb,.inr (d9 I.sz hb),λx c e z=>?_,λp hp z=>?_⟩
 ·obtain⟨v,q⟩:=I.cell x c e;exact absurd (dg q.lt (by rw[z];exact hb)) (gP _)
 ·exact absurd (dg (cy (I.pin p hp).1) (by rw[z];exact hb)) (gP _)
structure Am (P:dH)(w:dw)(K:bZ)(tg:Expr)(J:It)(fp:List ce)(it:ce)(tn:Nat->cB->Prop)(Cs:Cx->Prop):Prop where
 mem:it∈fp
 obj:∀i h,tn i h->∀b∈fp,∃o,h.get? b=some o/\∀v,o.data≠.cell v
 keep:∀i h h',tn i h->(∀b∈fp,∀o,h.get? b=some o->h'.get? b=some o)->tn i h'
 item:∀(X:Cx),X.prog=P->X.w=w->X.K=K->Cs X->∀(i:Nat) (bX:List (ce×f9)) (s:cq) (σ:St) (H:Hp) (E:bV->cq->Prop),Inv X bX σ H s->(∀b∈fp,qH X bX H b)->tn i s.heap->J.go i H ->
  cF (cC P w) X.A (pyNext (.ref it)) (λr s1=>∃u,r=some u /\
   cF (cC P w) X.A (lV tg (.ref it) u) (λ_ s2=>∃x H',Inv X bX σ H' s2/\RelV x u/\J.yld i H x H'/\tn (i+1) s2.heap/\∀b∈fp,H' b=none) E s1) E s
 done:∀(X:Cx),X.prog=P->X.w=w->X.K=K->Cs X->∀(i:Nat) (bX:List (ce×f9)) (s:cq) (σ:St) (H:Hp) (E:bV->cq->Prop),Inv X bX σ H s->(∀b∈fp,qH X bX H b)->tn i s.heap->J.stop i H ->
  cF (cC P w) X.A (pyNext (.ref it)) (λr s1=>r=none/\Inv X bX σ H s1) E s
 self:∀(A:c7) (i:Nat) (s:cq) (Q:bV->cq->Prop) (E:bV->cq->Prop),tn i s.heap->Q (.ref it) s->cF (cC P w) A (pyIter (.ref it)) Q E s
abbrev Turn (P:dH)(w:dw)(K:bZ)(tg:Expr)(J:It)(fp:List ce)(it:ce)(tn:Nat->cB->Prop):Prop:=Am P w K tg J fp it tn λX=>X.calm=true
abbrev TI:=St->Hp->(It->Hp->Prop)->Prop
def TurnOk (X:Cx)(c:Prop)(tg:Expr)(J:It)(fp:List ce)(it:ce)(tn:Nat->cB->Prop):Prop:=∃Cs,Am X.prog X.w X.K tg J fp it tn Cs/\(c->∀Y:Cx,Y.A=X.A->Y.calm=X.calm->Cs Y)
variable {fp:List ce}
theorem Turn.ok {J:It}{tn:Nat->cB->Prop}(T:Turn X.prog X.w X.K tg J fp it tn):TurnOk X (X.calm=true) tg J fp it tn:=⟨_,T,λhc _ _ e=>e.trans hc⟩
def E5 (X:Cx)(c:Prop)(bX:List (ce×f9))(σ:St)(tg:Expr)(R:It->Hp->Prop)(KA:bV)(s2:cq):Prop :=
 ∃(it:ce) (fp:List ce) (tn:Nat->cB->Prop) (J:It) (H':Hp),KA=.ref it/\Inv X bX σ H' s2/\TurnOk X c tg J fp it tn/\tn 0 s2.heap/\(∀b∈fp,qH X bX H' b)/\R J H'
abbrev RP (X:Cx):=E5 X (X.calm=true)
def DZ (X:Cx)(c:Prop)(tg iter:Expr)(wi:TI):Prop :=
 ∀(bX:List (ce×f9)) (s:cq) (σ:St) (H:Hp) (R:It->Hp->Prop),Inv X bX σ H s->wi σ H R ->
  cF (cC X.prog X.w) X.A (ei iter X.env) (λv s1=>cF (cC X.prog X.w) X.A (pyIter v) (E5 X c bX σ tg R) X.xe s1) X.xe s
abbrev PI (X:Cx):=DZ X (X.calm=true)
theorem Je {A:c7}{o:f9}{n:String}{vs:Array bV}{Q:Unit->cq->Prop}(ho:s.heap.get? it=some o)(hc:o.cls=.type n)(hd:o.data=.fields vs)
    (hn:["enumerate","zip","dict_itemiterator","dict_reverseitemiterator","odict_iterator","itertools.zip_longest","itertools.pairwise"].contains n=false) (hQ:Q () s):cF M A (lV tg (.ref it) u) Q E s:=by
  unfold lV;cases tg<;>first
    |exact cw hQ
    |(cases u<;>first
        |exact cw hQ
        |(refine bW (wpAny_load ho ?_)
          rw[hc,hd];show cF M A (if(["enumerate","zip","dict_itemiterator","dict_reverseitemiterator","odict_iterator","itertools.zip_longest","itertools.pairwise"].contains n&&vs[0]?==some (rawInt _))=true then _ else _) Q E s;rw[if_neg (by intro h;rw[hn,Br]at h;cases h)];exact cw hQ))
def DX (K:bZ)(a:ce):It :=
 ⟨λi H=>∃xs x,gZ K H a xs/\xs[i]?=some x,λi H x H'=>H'=H/\∀xs,gZ K H a xs->xs[i]?=some x,λi H=>∃xs,gZ K H a xs/\xs.length<=i⟩
def EU (lo:Int)(n:Nat):It:=⟨λi _=>i<n,λi H x H'=>H'=H/\x=.int (lo+i),λi _=>n<=i⟩
theorem uz {w:dw}{K:bZ}(a it:ce):Turn P w K tg (DX K a) [it] it (λi h=>h.IsListIter it a i) where
 mem:=by simp
 obj:=λi h st b hb=>by
  have e:b=it:=by simpa using hb
  subst e;obtain⟨o,e,c,d⟩:=st;exact⟨o,e,λv z=>by rw[d]at z;cases z⟩
 keep:=λi h h' st k=>st.at λo e=>k it (by simp) o e
 item:=by intro X hP hw hK hc i bX s σ H E I hf st hg;subst hP hw hK;obtain⟨xs,x,hq,hx⟩:=hg;obtain⟨dJ,rv,p,hz⟩:=I.list hq;obtain⟨u,hu,ru⟩:=rv.get hx;obtain⟨f0,f1,f2,f3,f4,f5⟩:=hf it (by simp);refine wpAny_pyNext_list_item st p.isList (x:=u) (by simpa using hu) λh' wI sb=>?_;have I1:Inv X bX σ H { s with heap:=h' }:=I.turned (t':=s.toks) (λb o hb e=>(sb.2 b hb).trans e) f0 f1 f3 f4 f5;obtain⟨o,e,c,d⟩:=id wI;exact⟨u,rfl,Je (s:={ s with heap:=h' }) e c d (by decide) ⟨x,H,I1,ru,⟨rfl,λys hy=>by rw[I.list_inj hy hq];exact hx⟩,wI,λb hb=>(hf b hb).1⟩⟩
 done:=by intro X hP hw hK hc i bX s σ H E I hf st hg;subst hP hw hK;obtain⟨xs,hq,hx⟩:=hg;obtain⟨dJ,rv,p,hz⟩:=I.list hq;obtain⟨f0,f1,f2,f3,f4,f5⟩:=hf it (by simp);have hl:=rv.length;exact wpAny_pyNext_list_end (I.ok.hd hc) st p.isList (by simp;omega) λh' eb=>⟨rfl,I.turned (t':=s.toks) (λb o hb e=>eb b o hb e) f0 f1 f3 f4 f5⟩
 self:=λ_ _ _ _ _ st h=>wpAny_pyIter_listiter st h
theorem Wg {w:dw}{K:bZ}(it:ce)(lo:Int)(n:Nat):Turn P w K tg (EU lo n) [it] it (λi h=>IsRangeIter h it (lo+(i:Nat)*1) ((n:Int)-(i:Nat)) 1) where
 mem:=by simp
 obj:=λi h st b hb=>by
  have e:b=it:=by simpa using hb
  subst e;exact⟨_,st,λv z=>by have z':ot.fields _=ot.cell v:=z;cases z'⟩
 keep:=λi h h' st k=>k it (by simp) _ st
 item:=by intro X hP hw hK hc i bX s σ H E I hf st hg;subst hP hw hK;obtain⟨f0,f1,f2,f3,f4,f5⟩:=hf it (by simp);have W:=Walks.range (prog:=X.prog) (w:=X.w) (I.ok.hd hc) it lo 1 n;refine W.item i s _ _ hg st λv h' tk hv wI kk=>?_;obtain⟨t,rfl⟩:=hv;have I1:Inv X bX σ H { s with heap:=h',toks:=tk }:=I.turned (λb o hb e=>kk b o (by simpa using hb) e) f0 f1 f3 f4 f5;refine⟨_,rfl,Je (s:={ s with heap:=h',toks:=tk }) (n:="range_iterator") wI rfl rfl (by decide) ⟨.int (lo+i),H,I1,⟨t,?_⟩,⟨rfl,rfl⟩,wI,λb hb=>(hf b hb).1⟩⟩;rw[Int.mul_one]
 done:=by intro X hP hw hK hc i bX s σ H E I hf st hg;subst hP hw hK;obtain⟨f0,f1,f2,f3,f4,f5⟩:=hf it (by simp);exact wpAny_pyNext_range_end (I.ok.hd hc) st (by have:n<=i:=hg;omega) λh' eb=>⟨rfl,I.turned (t':=s.toks) (λb o hb e=>eb b o hb e) f0 f1 f3 f4 f5⟩
 self:=λ_ _ _ _ _ st h=>wpAny_pyIter_rangeiter st h
variable {iter l:Expr}{p:m9}{wi:TI}
def FM (K:bZ)(tl:TE):TI:=λσ H R=>tl σ H λx H1=>∃a,x=.ref a/\(∃xs,gZ K H1 a xs)/\R (DX K a) H1
theorem PM {tl:TE}(hl:PE X l tl):PI X tg l (FM X.K tl):=by
 intro bX s σ H R I h;refine fN (hl bX s σ H _ I h) λv s1 gu=>?_;obtain⟨x,H1,I1,r1,q1⟩:=gu;obtain⟨a,e,⟨xs,hq⟩,q⟩:=q1;subst e;cases r1;obtain⟨dJ,rv,p,hz⟩:=I1.list hq;refine iU p.isList ?_;refine⟨s1.heap.objs.size,[s1.heap.objs.size],_,_,H1,rfl,I1.kept (t':=s1.toks) λb o e=>bY _ e,(uz a _).ok,⟨_,cO _ rfl,rfl,rfl⟩,λb hb=>?_,q⟩;have e:b=s1.heap.objs.size:=by simpa using hb
 subst e;exact I1.fpOk (cI _) (I1.hok.fresh (cI _))
theorem O6 {R:It->Hp->Prop}{lo hi:Int}{t u v:Tok}{tk:Nat}(I:Inv X bX σ H s)(h1:-(2 ^ 62)<=lo)(h2:lo<2 ^ 62)(h3:-(2 ^ 62)<=hi)(h4:hi<2 ^ 62)
    (q:R (EU lo (hi-lo).toNat) H):cF (cC X.prog X.w) X.A (pyIter (.ref s.heap.objs.size)) (RP X bX σ tg R) E { s with heap:=s.heap.push { cls:=.type "range",data:=.fields #[.int lo t,.int hi u,.int 1 v] },toks:=tk }:=by
  refine wpAny_pyIter_range (IsRange.new ..) (small_one h1 h2 h3 h4) ?_;have I1:Inv X bX σ H { s with heap:=s.heap.push { cls:=.type "range",data:=.fields #[.int lo t,.int hi u,.int 1 v] },toks:=tk }:=I.kept λb o e=>bY _ e;refine⟨(s.heap.push { cls:=.type "range",data:=.fields #[.int lo t,.int hi u,.int 1 v] }).objs.size,[(s.heap.push { cls:=.type "range",data:=.fields #[.int lo t,.int hi u,.int 1 v] }).objs.size],_,_,H,rfl,
    I1.kept (t':=tk) λb o e=>bY _ e,(Wg _ lo (hi-lo).toNat).ok,?_,λb hb=>?_,q⟩
  · have e1:lo+((0:Nat):Int)*1=lo:=by simp
    have e2:(((hi-lo).toNat:Nat):Int)-((0:Nat):Int)=Builtin.Range.rangeSize lo hi 1:=by rw[rangeSize_one];split<;>omega
    show IsRangeIter _ _ (lo+((0:Nat):Int)*1) ((((hi-lo).toNat:Nat):Int)-((0:Nat):Int)) 1;rw[e1,e2];exact cO _ rfl
  · have e:b=(s.heap.push { cls:=.type "range",data:=.fields #[.int lo t,.int hi u,.int 1 v] }).objs.size:=by simpa using hb
    subst e;exact I1.fpOk (cI _) (I1.hok.fresh (cI _))
def FN (ta:TA):TI:=λσ H R=>ta σ H λvs H1=>∃j:Int,vs=[.int j]/\-(2 ^ 62)<=j/\j<2 ^ 62/\R (EU 0 j.toNat) H1
def FO (ta:TA):TI:=λσ H R=>ta σ H λvs H1=>∃i j:Int,vs=[.int i,.int j]/\(-(2 ^ 62)<=i/\i<2 ^ 62/\-(2 ^ 62)<=j/\j<2 ^ 62)/\R (EU i (j-i).toNat) H1
theorem Wl {a:Expr}{ta:TA}(hg:Gl X "range")(hm:X.mg "range"=none)(ha:PA X [a] ta)(hs:SN X a:=by rfl):PI X tg (.Call (.Name "range" p) [a] [] pos) (FN ta):=by
 intro bX s σ H R I h;refine Call_ (ux I hg hm boot_range (ej (fN (ha pos bX s σ H _ I h) λus s1 ⟨vs,H1,I1,r1,q1⟩=>?_) hs rfl));obtain⟨j,e,q1,q2,q⟩:=q1;subst e;cases r1 with
 |cons r rr=>cases rr;obtain⟨t,rfl⟩:=r;exact call_range_1 (O6 I1 (by omega) (by omega) q1 q2 (by simpa using q))
theorem Wm {a b:Expr}{ta:TA}(hg:Gl X "range")(hm:X.mg "range"=none)(ha:PA X [a,b] ta)(hs:c9 [a,b] X.env=[(false,ei a X.env),(false,ei b X.env)]:=by rfl)(o8:SN X b:=by rfl) :
  PI X tg (.Call (.Name "range" p) [a,b] [] pos) (FO ta):=by
 intro bX s σ H R I h;refine Call_ (ux I hg hm boot_range (ej (fN (ha pos bX s σ H _ I h) λus s1 ⟨vs,H1,I1,r1,q1⟩=>?_) (by rw[hs,o8]) (by rw[o8];rfl)));obtain⟨i,j,e,⟨q1,q2,q3,q4⟩,q⟩:=q1;subst e;cases r1 with
 |cons r rr=>
  cases rr with
  |cons r' rr=>cases rr;obtain⟨t,rfl⟩:=r;obtain⟨t',rfl⟩:=r';exact call_range_2 (O6 I1 q1 q2 q3 q4 q)
def Lf (wi:TI)(g:TG)(tb:TS):TS:=λD σ H=>wi σ H λJ H1=>∃W:Nat->Nat->St->Hp->Prop,(∃m,W 0 m σ H1)/\∀i m σ H,W i m σ H ->
 (J.stop i H/\D.nx σ H)\/(J.go i H/\∃N:St->Hp->Prop,(∀σ' H',N σ' H'->∃m',m'<m/\W (i+1) m' σ' H')/\∀x H',J.yld i H x H'->g x σ H' λσ2 H2=>tb { D with nx:=N,ct:=N,bk:=D.nx } σ2 H2)
def rB (fp:List ce)(h:cB):List (ce×f9):=fp.filterMap λb=>(h.get? b).map λo=>(b,o)
theorem vz {o:f9}(hb:b∈fp)(e:h.get? b=some o):(b,o)∈rB fp h:=xR.mpr ⟨b,hb,by rw[e];rfl⟩
theorem Wn {p:ce×f9}(hp:p∈rB fp h):p.1∈fp/\h.get? p.1=some p.2:=by
 obtain⟨b,hb,e⟩:=xR.mp hp;cases q:h.get? b with
 |none=>rw[q]at e;cases e
 |some o=>rw[q]at e;have e':(b,o)=p:=Option.some.inj e;subst e';exact⟨hb,q⟩
theorem Inv.pinned (I:Inv X bX σ H s)(hf:∀b∈fp,qH X bX H b)(ho:∀b∈fp,∃o,s.heap.get? b=some o/\∀v,o.data≠.cell v):Inv X (bX++rB fp s.heap) σ H s :=
 I.pins_of λp hp=>(cG.mp hp).elim (λz=>I.pin p (cK _ z)) λz=>by obtain⟨hb,e⟩:=Wn z;obtain⟨f0,f1,f2,_⟩:=hf p.1 hb;obtain⟨o,e',d⟩:=ho p.1 hb;rw[e]at e';cases e';exact⟨e,f0,f1,f2,d⟩
theorem Inv.unpinned {pl:List (ce×f9)}(I:Inv X (bX++pl) σ H s):Inv X bX σ H s:=I.pins_of λp hp=>I.pin p (cK _ (cN _ hp))
theorem QZ {tb:TS}(hp:gj (cC X.prog X.w) X.A X.env X.xe)(hc:X.calm=true)(hi:PI X tg iter wi)(hg:PG X tg g)(hb:rV X body tb)
  (hs:Aj X iter:=by intro _;rfl):PS X (.For tg iter body [] pos) (Lf wi g tb):=by
 intro bX s σ H D I h;refine wpAny_For (fN (hi bX s σ H _ I h) λv s1 h1=>fN h1 λKA s2 h2=>?_) hs;obtain⟨it,fp,tn,J,H2,e,I2,T,Bo,f2,W,⟨m0,w0⟩,wM⟩:=h2;obtain⟨Cs,T,hT⟩:=T;have hc:=hT hc X rfl rfl;subst e;have wJ:∀{H':Hp},(∀b∈fp,H' b=none)->∀b∈fp,qH X bX H' b:=λhn b hb=>⟨hn b hb,(f2 b hb).2⟩;refine codeAny_forLoop_any (λn s'=>∃i σ' H',Inv X bX σ' H' s'/\tn i s'.heap/\(∀b∈fp,H' b=none)/\W i n σ' H') ?_ m0 ⟨0,σ,H2,I2,Bo,λb hb=>(f2 b hb).1,w0⟩;rintro n s3 ⟨i,σ3,H3,I3,NU,M4,w3⟩;rcases wM i n σ3 H3 w3 with⟨stop,qn⟩|⟨go,N,hN,step⟩
 ·refine iG hp (fN (T.done X rfl rfl rfl hc i bX s3 σ3 H3 X.xe I3 (wJ M4) NU stop) λr s4 gu=>?_);obtain⟨hr,I4⟩:=gu;subst hr;exact oE ⟨σ3,H3,I4,qn⟩
 ·refine iG hp (fN (T.item X rfl rfl rfl hc i bX s3 σ3 H3 X.xe I3 (wJ M4) NU go) λr s4 gu=>?_);obtain⟨u,hr,h4⟩:=gu;subst hr;refine iG hp (fN h4 λ_ s5 gu=>?_);obtain⟨x,H5,I5,r5,y5,Ew,Hg⟩:=gu;have RL:=I5.pinned (wJ Hg) (T.obj _ _ Ew);refine iG hp (fN (hg _ s5 σ3 H5 x u _ RL r5 (step x H5 y5)) λ_ s6 gu=>?_);obtain⟨σ6,H6,I6,q6⟩:=gu;refine iG hp (fN (hb _ s6 σ6 H6 _ I6 q6) λf s7 q7=>?_);have again:∀{σ7:St} {H7:Hp},Inv X (bX++rB fp s5.heap) σ7 H7 s7->N σ7 H7->∃m,m<n/\∃i σ' H',Inv X bX σ' H' s7/\tn i s7.heap/\(∀b∈fp,H' b=none)/\W i m σ' H':=λ{σ7 H7} I7 n7=>by obtain⟨m',hm,w7⟩:=hN σ7 H7 n7;refine⟨m',hm,i+1,σ7,H7,I7.unpinned,T.keep _ _ _ Ew λb hb o e=>(I7.pin (b,o) (cK _ (cK _ (vz hb e)))).1,λb hb=>?_,w7⟩;obtain⟨o,e,d⟩:=T.obj _ _ Ew b hb;exact(I7.pin (b,o) (cK _ (cK _ (vz hb e)))).2.1
  cases f with
  |next=>obtain⟨σ7,H7,I7,n7⟩:=q7;exact again I7 n7
  |cont=>obtain⟨σ7,H7,I7,n7⟩:=q7;exact again I7 n7
  |brk=>obtain⟨σ7,H7,I7,q7⟩:=q7;exact⟨σ7,H7,I7.unpinned,q7⟩
  |ret v=>obtain⟨x7,σ7,H7,I7,r7,q7⟩:=q7;exact⟨x7,σ7,H7,I7.unpinned,r7,q7⟩
abbrev R2:=V->V->Hp->VK->Prop
def lS (X:Cx)(f:bV->bV->Ad bV)(r:R2):Prop :=
 ∀(bX:List (ce×f9)) (s:cq) (σ:St) (H:Hp) (x y:V) (v u:bV) (Q:VK),Inv X bX σ H s->RelV x v->RelV y u->r x y H Q ->
  cF (cC X.prog X.w) X.A (f v u) (EP X bX σ Q) X.xe s
def G9 (X:Cx)(f:bV->Ad bV)(r:V->Hp->VK->Prop):Prop :=
 ∀(bX:List (ce×f9)) (s:cq) (σ:St) (H:Hp) (x:V) (v:bV) (Q:VK),Inv X bX σ H s->RelV x v->r x H Q ->
  cF (cC X.prog X.w) X.A (f v) (EP X bX σ Q) X.xe s
def iq (X:Cx)(f:bV)(r:List V->Hp->VK->Prop):Prop :=
 ∀(bX:List (ce×f9)) (s:cq) (σ:St) (H:Hp) (xs:List V) (us:List bV) (Q:VK),Inv X bX σ H s->dA xs us->r xs H Q ->
  cF (cC X.prog X.w) X.A (call f us) (EP X bX σ Q) X.xe s
def Ii (r:R2)(ta tb:TE):TE:=λσ H Q=>ta σ H λx H1=>tb σ H1 λy H2=>r x y H2 Q
def Uz (r:V->Hp->VK->Prop)(ta:TE):TE:=λσ H Q=>ta σ H λx H1=>r x H1 Q
def rI (C:Int->Int->Prop)(g:Int->Int->V):R2:=λx y H Q=>∃i j,x=.int i/\y=.int j/\C i j/\Q (g i j) H
def vF (g:Int->Int->V):R2:=λx y H Q=>∃i j,x=.int i/\y=.int j/\Q (g i j) H
def rU (g:Int->V):V->Hp->VK->Prop:=λx H Q=>∃i,x=.int i/\Q (g i) H
variable {r:R2}
section
variable {a b:Expr}{tc:TE}
theorem CZ (ha:PE X a ta)(hb:PE X b tb){R:V->V->Hp->Prop}(I:Inv X bX σ H s)
  (h:ta σ H λx H1=>tb σ H1 λy H2=>R x y H2) {f:bV->bV->Ad bV}
  (hf:∀v u s2 x y H2,Inv X bX σ H2 s2->RelV x v->RelV y u->R x y H2->cF (cC X.prog X.w) X.A (f v u) Q X.xe s2) :
  cF (cC X.prog X.w) X.A (ei a X.env) (λv s₁=>cF (cC X.prog X.w) X.A (ei b X.env) (λu s₂=>cF (cC X.prog X.w) X.A (f v u) Q X.xe s₂) X.xe s₁) X.xe s:=by
 refine fN (ha bX s σ H _ I h) λv s1 gu=>?_;obtain⟨x,H1,I1,r1,q1⟩:=gu;refine fN (hb bX s1 σ H1 _ I1 q1) λu s2 gu=>?_;obtain⟨y,H2,I2,r2,q2⟩:=gu;exact hf v u s2 x y H2 I2 r1 r2 q2
theorem Jf {op:uS}(ho:lS X (gz op) r)(ha:PE X a ta)(hb:PE X b tb):PE X (.BinOp a op b pos) (Ii r ta tb):=by intro bX s σ H Q I h;exact wpAny_BinOp (CZ ha hb I h λv u s2 x y H2 I2 rx ry q=>ho bX s2 σ H2 x y v u Q I2 rx ry q)
theorem zvq {op:UnaryOp}{r:V->Hp->VK->Prop}(ho:G9 X (unaryOp op) r)(ha:PE X a ta):PE X (.UnaryOp op a pos) (Uz r ta):=by intro bX s σ H Q I h;exact UnaryOp_ (fN (ha bX s σ H _ I h) λv s1 ⟨x,H1,I1,r1,q1⟩=>ho bX s1 σ H1 x v Q I1 r1 q1)
theorem Eu {f:bV->bV->Ad bV}{C:Int->Int->Prop}{g:Int->Int->Int}
  (rule:∀(i j:Int) (t u:Tok) (s:cq) (Q:bV->cq->Prop) (E:bV->cq->Prop),C i j->Q (.int (g i j) s.toks) { s with toks:=s.toks+1 }->cF (cC X.prog X.w) X.A (f (.int i t) (.int j u)) Q E s) :
  lS X f (rI C λi j=>.int (g i j)):=by
 intro bX s σ H x y v u Q I rx ry h;obtain⟨i,j,rfl,rfl,hc,q⟩:=h;obtain⟨t,rfl⟩:=rx;obtain⟨t',rfl⟩:=ry;exact rule i j t t' s _ _ hc ⟨.int (g i j),H,I.tok _,⟨_,rfl⟩,q⟩
theorem F8 {f:bV->bV->Ad bV}{g:Int->Int->Int}
  (rule:∀(i j:Int) (t u:Tok) (s:cq) (Q:bV->cq->Prop) (E:bV->cq->Prop),Q (.int (g i j) s.toks) { s with toks:=s.toks+1 }->cF (cC X.prog X.w) X.A (f (.int i t) (.int j u)) Q E s) :
  lS X f (vF λi j=>.int (g i j)):=by
 intro bX s σ H x y v u Q I rx ry h;obtain⟨i,j,rfl,rfl,q⟩:=h;obtain⟨t,rfl⟩:=rx;obtain⟨t',rfl⟩:=ry;exact rule i j t t' s _ _ ⟨.int (g i j),H,I.tok _,⟨_,rfl⟩,q⟩
theorem BS {f:bV->bV->Ad bV}{g:Int->Int->Bool}
  (rule:∀(i j:Int) (t u:Tok) (s:cq) (Q:bV->cq->Prop) (E:bV->cq->Prop),Q (.bool (g i j)) s->cF (cC X.prog X.w) X.A (f (.int i t) (.int j u)) Q E s) :
  lS X f (vF λi j=>.bl (g i j)):=by
 intro bX s σ H x y v u Q I rx ry h;obtain⟨i,j,rfl,rfl,q⟩:=h;obtain⟨t,rfl⟩:=rx;obtain⟨t',rfl⟩:=ry;exact rule i j t t' s _ _ ⟨.bl (g i j),H,I,rfl,q⟩
def Bv (i j:Int):Prop:=0<=j/\j<=1000000/\i.natAbs<2 ^ 64
def CP (i j:Int):Prop:=(-(2 ^ 64)<i/\i<2 ^ 64)\/(-(2 ^ 64)<j/\j<2 ^ 64)
theorem CP.ok {i j:Int}(h:CP i j):IntMulOk i j:=by
 rcases h with⟨h1,h2⟩|⟨h1,h2⟩
 ·exact .of_left (intBits_le_64 h1 h2)
 ·exact .of_right (intBits_le_64 h1 h2)
theorem Wi (k:Nat):(0:Int)<=2 ^ k:=by rw[two_pow_cast];exact Int.natCast_nonneg _
theorem zta:lS X (gz .Add) (vF λi j=>.int (i+j)):=F8 λ_ _ _ _ _ _ _ q=>add_int q
theorem ztb:lS X (gz .Sub) (vF λi j=>.int (i-j)):=F8 λ_ _ _ _ _ _ _ q=>sub_int q
theorem YV:lS X (gz .Mod) (rI (λ_ j=>j≠0) λi j=>.int (i.fmod j)):=Eu λ_ _ _ _ _ _ _ hc q=>mod_int' hc q
theorem QK:lS X (gz .Pow) (rI Bv λi j=>.int (i ^ j.toNat)):=Eu λ_ _ _ _ _ _ _ hc q=>pow_int_small hc.1 hc.2.1 hc.2.2 q
theorem ztc:lS X (gz .LShift) (rI Bv λi j=>.int (i*2 ^ j.toNat)):=Eu λ_ _ _ _ _ _ _ hc q=>lshift_int_small hc.1 hc.2.1 hc.2.2 q
theorem QL:lS X (gz .RShift) (rI (λ_ j=>0<=j) λi j=>.int (i/2 ^ j.toNat)):=Eu λi j _ _ _ _ _ hc q=>rshift_int hc (by rw[sk i (Wi _)];exact q)
theorem UD {f:bV->Ad bV}{g:Int->Int}
  (rule:∀(i:Int) (t:Tok) (s:cq) (Q:bV->cq->Prop) (E:bV->cq->Prop),Q (.int (g i) s.toks) { s with toks:=s.toks+1 }->cF (cC X.prog X.w) X.A (f (.int i t)) Q E s) :
  G9 X f (rU λi=>.int (g i)):=by
 intro bX s σ H x v Q I rx h;obtain⟨i,rfl,q⟩:=h;obtain⟨t,rfl⟩:=rx;exact rule i t s _ _ ⟨.int (g i),H,I.tok _,⟨_,rfl⟩,q⟩
theorem ztd:G9 X (unaryOp .USub) (rU λi=>.int (-i)):=UD λ_ _ _ _ _ q=>neg_int q
end
section
variable {a b:Expr}{tc:TE}
theorem Ry:lS X (gk .Lt) (vF λi j=>.bl (decide (i<j))):=BS λ_ _ _ _ _ _ _ q=>lt_int q
theorem zvr:lS X (gk .LtE) (vF λi j=>.bl (decide (i<=j))):=BS λ_ _ _ _ _ _ _ q=>le_int q
theorem MK:lS X (gk .Gt) (vF λi j=>.bl (decide (j<i))):=BS λ_ _ _ _ _ _ _ q=>gt_int q
theorem Rz:lS X (gk .GtE) (vF λi j=>.bl (decide (j<=i))):=BS λ_ _ _ _ _ _ _ q=>ge_int q
theorem lS.or {f:bV->bV->Ad bV}{r':R2}(h:lS X f r)(h':lS X f r'):lS X f (λx y H Q=>r x y H Q\/r' x y H Q):=by
 intro bX s σ H x y v u Q I rx ry q;rcases q with q|q
 ·exact h bX s σ H x y v u Q I rx ry q
 ·exact h' bX s σ H x y v u Q I rx ry q
theorem kb (b:Expr)(h:op≠.In:=by decide)(h2:op≠.NotIn:=by decide):fX op b=false:=by
 have e1:(op==xV.In)=false:=by cases op<;>first|rfl|exact absurd rfl h
 have e2:(op==xV.NotIn)=false:=by cases op<;>first|rfl|exact absurd rfl h2
 cases b<;>simp[fX,e1,e2]
theorem YW (ho:lS X (gk op) r)(ha:PE X a ta)(hb:PE X b tb)(hm:fX op b=false):PE X (.Compare a [op] [b] pos) (Ii r ta tb):=by intro bX s σ H Q I h;exact wpAny_Compare1 (CZ ha hb I h λv u s2 x y H2 I2 rx ry q=>ho bX s2 σ H2 x y v u Q I2 rx ry q) hm
def GD (t:TE):TT:=λσ H Q=>t σ H λx H'=>∃k,x=.bl k/\Q k H'
theorem YX (ho:lS X (gk op) r)(ha:PE X a ta)(hb:PE X b tb)(hm:fX op b=false):PT X (.Compare a [op] [b] pos) (GD (Ii r ta tb)):=by intro bX s σ H Q I h;refine wpAny_isTrue_Compare1 (fN (ha bX s σ H _ I h) λv s1 ⟨x,H1,I1,r1,q1⟩=>fN (hb bX s1 σ H1 _ I1 q1) λu s2 ⟨y,H2,I2,r2,q2⟩=>fN (ho bX s2 σ H2 x y v u _ I2 r1 r2 q2) λc s3 ⟨z,H3,I3,r3,k,e,q3⟩=>?_) hm;subst e;cases r3;exact iV ⟨H3,I3,q3⟩
theorem oM:(sizeLine:Nat)<2 ^ 63:=by rw[dD];decide
theorem Wj:lS X (gz .Add) (λx y H Q=>∃i j,x=.str i/\y=.str j/\i.length+j.length<=sizeLine/\Q (.str (i++j)) H):=by intro bX s σ H x y v u Q I rx ry h;obtain⟨i,j,rfl,rfl,hz,q⟩:=h;obtain⟨t,rfl⟩:=rx;obtain⟨t',rfl⟩:=ry;exact add_str (λt' tk=>⟨.str (i++j),H,I.tok _,⟨_,rfl⟩,q⟩) hz
theorem p9 {x:V}(r:dA [x] us):∃u,us=[u]/\RelV x u:=by
 cases r with
 |cons r1 r2=>cases r2;exact⟨_,rfl,r1⟩
theorem vals2 {x:V}(r:dA [x,y] us):∃u w',us=[u,w']/\RelV x u/\RelV y w':=by
 cases r with
 |cons r1 r2=>
  cases r2 with
  |cons r3 r4=>cases r4;exact⟨_,_,rfl,r1,r3⟩
theorem OB (hc:X.calm=true):iq X (.builtin "max") (λxs H Q=>∃i j,xs=[.int i,.int j]/\Q (.int (if j > i then j else i)) H):=by
 intro bX s σ H xs us Q I r h;obtain⟨i,j,rfl,q⟩:=h;obtain⟨u,w',rfl,⟨t,rfl⟩,⟨t',rfl⟩⟩:=vals2 r;refine max_two_ints (I.ok.hd hc) λh' tk k=>⟨_,H,I.kept k,?_,q⟩;by_cases hj:j > i
 ·rw[if_pos hj,if_pos hj];exact⟨_,rfl⟩
 ·rw[if_neg hj,if_neg hj];exact⟨_,rfl⟩
theorem Wo (hc:X.calm=true):iq X (.builtin "min") (λxs H Q=>∃i j,xs=[.int i,.int j]/\Q (.int (if j<i then j else i)) H):=by
 intro bX s σ H xs us Q I r h;obtain⟨i,j,rfl,q⟩:=h;obtain⟨u,w',rfl,⟨t,rfl⟩,⟨t',rfl⟩⟩:=vals2 r;refine min_two_ints (I.ok.hd hc) λh' tk k=>⟨_,H,I.kept k,?_,q⟩;by_cases hj:j<i
 ·rw[if_pos hj,if_pos hj];exact⟨_,rfl⟩
 ·rw[if_neg hj,if_neg hj];exact⟨_,rfl⟩
theorem OC:iq X (.type "int") (λxs H Q=>(∃i,xs=[.int i]/\Q (.int i) H)\/∃k,xs=[.bl k]/\Q (.int (if k then 1 else 0)) H):=by
 intro bX s σ H xs us Q I r h;rcases h with⟨i,rfl,q⟩|⟨k,rfl,q⟩
 ·obtain⟨u,rfl,t,rfl⟩:=p9 r;exact call_int_int ⟨.int i,H,I,⟨_,rfl⟩,q⟩
 ·obtain⟨u,rfl,r1⟩:=p9 r;cases r1;exact call_int_bool ⟨.int (if k then 1 else 0),H,I.tok _,⟨_,rfl⟩,q⟩
theorem xq:iq X (.type "str") (λxs H Q=>∃i,xs=[.int i]/\i.natAbs.log2<1920/\Q (.str (toString i)) H):=by intro bX s σ H xs us Q I r h;obtain⟨i,rfl,hz,q⟩:=h;obtain⟨u,rfl,t,rfl⟩:=p9 r;exact PySem.P.str_of_int hz ⟨.str _,H,I.tok _,⟨_,rfl⟩,q⟩
end
structure vR (h:cB)(x dx C:ce)(mA:Str->Option bV):Prop where
 obj:h.get? x=some (gE C dx)
 ns:h.Ns1 dx mA
 ne:dx≠x
theorem OD {dx:ce}{mA:Str->Option bV}(n:h.Ns1 dx mA):∃od,h.get? dx=some od/\∀name,nF name od=some (mA name):=by
 obtain⟨o,es,ep,ho,hd,hk,_,hm⟩:=n;refine⟨o,ho,λname=>?_⟩;have e:=hm name;unfold nsFind findBy at e;rw[←Array.find?_toList]at e;unfold nF;rw[hd];dsimp only;split
 ·rename_i y q;rw[q]at e;exact congrArg some e
 ·rename_i q;rw[q]at e;have a:es.toList.any (·.refKey)=false:=by rw[yW];intro y hy;obtain⟨z,t,Ka⟩:=hk y (nQ.mp hy);simp[DictEntry.refKey,Ka]
  have a':¬es.toList.any (·.refKey)=true:=by rw[a];exact cD
  rw[if_neg a'];exact congrArg some e
variable {C:ce}
theorem vR.look {x dx:ce}{mA:Str->Option bV}(I:vR h x dx C mA):∃od,iy h x (gE C dx) C (some od)/\∀name,nF name od=some (mA name) :=
 let⟨od,ho,hl⟩:=OD I.ns
 ⟨od,⟨I.obj,rfl,rfl,ho⟩,hl⟩
variable {R:Result->cq->Prop}{f:ce}{kw:List (Str×bV)}{name:Str}{pl:Ad Bool}
section
variable {prog:dH}{w:dw}{A:c7}{K:bZ}{x dx:ce}{mA:Str->Option bV}{v:bV}
theorem YY {expr:Bool}(X:K.In s.heap)(I:vR s.heap x dx C mA)(hg:mD K C name=true)(hh:dL K C=true)
  (ha:cT K (.ref C) name=some none) (hv:mA name=some v) (Em:pv v=true) (h:Q v { s with toks:=s.toks+1 }) :
  cF (cC prog w) A (getAttr (.ref x) name expr) Q E s:=by
 obtain⟨od,J,hl⟩:=I.look;exact PySem.W.get_value X J (nV hg).1 (uB hh ha rfl (by rw[hl,hv])) Em h
theorem X0 {Q:bV×List bV->cq->Prop}(X:K.In s.heap)(I:vR s.heap x dx C mA)(hg:mD K C name=true)
  (hf:cT K (.ref C) name=some (some (.ref f))) (ht:iH K (.ref f)=true) (hv:mA name=none) (h:Q (.ref f,[.ref x]) s) :
  cF (cC prog w) A (kz (.ref x) name pl) Q E s:=by
 obtain⟨od,J,hl⟩:=I.look;exact PySem.W.method_fn X J (nV hg).1 (nV hg).2 hf (beq_iff_eq.mp ht) (by show(nF name od).map (·.isSome)=some false;rw[hl,hv];rfl) h
theorem Y8 {ns:List Str}{Q:Unit->cq->Prop}(X:K.In s.heap)(I:vR s.heap x dx C mA)
  (hs:cT K (.ref C) "__setattr__"=some (some (.builtin "object.__setattr__"))) (hp:vO K C=true) (ht:eL K C name=some none) (hh:dL K C=true)
  (hw:PySem.Within mA ns) (hsz:ns.length<=sizeLine)
  (h:∀h',vR h' x dx C (λy=>if y=name then some v else mA y)->gK dx s.heap h'->Q () { s with heap:=h',toks:=s.toks+2 }) :
  cF (cC prog w) A (setAttr (.ref x) name v) Q E s:=by
 obtain⟨od,J,hl⟩:=I.look;refine vP X J hs (PySem.W.osa_open (s:={ s with toks:=s.toks+1 }) (r:=none) X J hp ht λb=>?_);obtain⟨cd,hc,JT⟩:=mC hh;have hx:s.heap.get? x=some ⟨.ref C,some dx,.plain,#[]⟩:=I.obj;refine bW (cw (bW (bW (wpAny_loadPart hx (bW (et.here (s:={ s with toks:=s.toks+1 }) (nS X hc) ?_))))));rw[JT];refine cw (a:=some dx) (bW (cw (bW ?_)));refine wpAny_nsSet1 (s:={ s with toks:=s.toks+1 }) I.ns λh' Bk o8=>?_;obtain⟨oD,Sf,RW,Kk,JU,JQ⟩:=Bk.count (PySem.Within.cons name v hw);refine bW (wpAny_lookBehind Kk (by rw[JU];exact pastItsLine_dict (d9 JQ (by rw[cm];omega))) ?_);exact cw (h _ ⟨(o8.2 _ (Ne.symm I.ne)).trans I.obj,Bk,I.ne⟩ o8)
theorem O7 {vs:List bV}(X:K.In s.heap)(hm:p4 K C=true)
  (hi:cT K (.ref C) "__init__"=some (some (.ref f))) (hf:zP K (.ref f)=some (.type "function"))
  (h:ix (cC prog w) (A.under (.builtin "type.__call__" ⟨.ref C::vs,kw⟩)) (.call (.ref f) ⟨.ref (s.heap.objs.size+1)::vs,kw⟩) (wW (s.heap.objs.size+1) R)
   { s with heap:=(s.heap.push fB).push (gE C s.heap.objs.size) }) :
  ix (cC prog w) A (.call (.ref C) ⟨vs,kw⟩) R s:=by
 obtain⟨hh,g,d,t,os⟩:=s;exact PySem.W.make_core (PySem.W.makes_of X hm) (fP X hi) (λself=>xY X self hf) (.inl rfl) h
end
def nz (f:Str)(v:V):List (Str×V)->List (Str×V)
 |[]=>[(f,v)]
 |(g,x)::r=>if g=f then(g,v)::r else(g,x)::nz f v r
theorem Ob (f g:Str)(v:V):∀fs:List (Str×V),(nz f v fs).lookup g=if g=f then some v else fs.lookup g
 |[]=>by
  show iK g [(f,v)]=_;by_cases h:g=f
  ·have hb:(g==f)=true:=beq_iff_eq.mpr h;simp only[iK,hb,if_pos h]
  ·have hb:(g==f)=false:=beq_eq_false_iff_ne.mpr h;simp only[iK,hb,if_neg h]
 |(k,x)::r=>by
  have ih:=Ob f g v r;rw[show nz f v ((k,x)::r)=(if k=f then(k,v)::r else(k,x)::nz f v r)from rfl];by_cases hk:k=f
  ·rw[if_pos hk];by_cases h:g=k
   ·have hb:(g==k)=true:=beq_iff_eq.mpr h;simp only[iK,hb,if_pos (h.trans hk)]
   ·have hb:(g==k)=false:=beq_eq_false_iff_ne.mpr h;simp only[iK,hb,if_neg (λe:g=f=>h (e.trans hk.symm))]
  ·rw[if_neg hk];by_cases h:g=k
   ·have hb:(g==k)=true:=beq_iff_eq.mpr h;simp only[iK,hb,if_neg (λe:g=f=>hk (h.symm.trans e))]
   ·have hb:(g==k)=false:=beq_eq_false_iff_ne.mpr h;simp only[iK,hb];exact ih
theorem Lx (f:Str)(v:V):∀fs:List (Str×V),f∈(nz f v fs).map (·.1)/\∀g,g∈fs.map (·.1)->g∈(nz f v fs).map (·.1)
 |[]=>⟨by simp[nz],λg h=>by simp at h⟩
 |(k,x)::r=>by
  obtain⟨i1,i2⟩:=Lx f v r;rw[show nz f v ((k,x)::r)=(if k=f then(k,v)::r else(k,x)::nz f v r)from rfl];by_cases hk:k=f
  ·rw[if_pos hk];subst hk;exact⟨by simp,λg h=>by simpa using h⟩
  ·rw[if_neg hk];refine⟨?_,λg h=>?_⟩
   ·rw[cL];exact cj _ i1
   ·rw[cL]at h ⊢;rcases cn.mp h with e|e
    ·exact cn.mpr (.inl e)
    ·exact cj _ (i2 g e)
theorem Oc (f:Str)(v:V):∀fs:List (Str×V),(nz f v fs).length<=fs.length+1
 |[]=>by simp[nz]
 |(k,x)::r=>by
  have ih:=Oc f v r;rw[show nz f v ((k,x)::r)=(if k=f then(k,v)::r else(k,x)::nz f v r)from rfl];by_cases hk:k=f
  ·rw[if_pos hk,cm,cm];omega
  ·rw[if_neg hk,cm,cm];omega
theorem oh.some_of {o:Option bV}(r:oh (some v) o):∃u,o=some u/\RelV v u:=by
 cases o with
 |none=>exact(show False from r).elim
 |some u=>exact⟨u,rfl,r⟩
theorem oh.none_of {o:Option bV}(r:oh none o):o=none:=by
 cases o with
 |none=>rfl
 |some u=>exact(show False from r).elim
theorem OE (r:RelV v u):pv u=true:=by
 cases v with
 |non=>cases(show u=bV.none from r);rfl
 |bl b=>cases(show u=bV.bool b from r);rfl
 |int i=>obtain⟨t,e⟩:=(show∃t,u=bV.int i t from r);cases e;rfl
 |str x=>obtain⟨t,e⟩:=(show∃t,u=bV.str x t from r);cases e;rfl
 |byt b=>obtain⟨t,e⟩:=(show∃t,u=bV.bytes b t from r);cases e;rfl
 |flt b=>obtain⟨t,e⟩:=(show∃t,u=bV.float b t from r);cases e;rfl
 |ref a=>cases(show u=bV.ref a from r);rfl
 |ty n=>cases(show u=bV.type n from r);rfl
section
variable {w:dw}{dx:ce}{fs Sv:List (Str×V)}
theorem Iv (hok:oF P w H h)(e:H a=some (.ins C dx fs)):∃mA,vR h a dx C mA/\(∀f,oh (fs.lookup f) (mA f))/\PySem.Within mA (fs.map (·.1))/\fs.length<=1000/\H dx=some (.own a):=by obtain⟨d,z,ne,ob,mA,n,r,q⟩:=(show gM P w H h a (.ins C dx fs)from hok a _ e);exact⟨mA,⟨ob,n,ne⟩,r,q,z,d⟩
end
structure qG (K:bZ)(C:ce):Prop where
 pg:mD K C Str.empty=true
 hd:dL K C=true
 po:vO K C=true
 sa:cT K (.ref C) "__setattr__"=some (some (.builtin "object.__setattr__"))
theorem qG.get {K:bZ}(c:qG K C)(f:Str):mD K C f=true:=c.pg
def iX (K:bZ)(C:ce)(f:Str):Prop:=cT K (.ref C) f=some none
theorem iX.taker {K:bZ}{f:Str}(n:iX K C f):eL K C f=some none:=by unfold eL;rw[show cT K (.ref C) f=some none from n];rfl
structure pI (K:bZ)(C:ce)(m:Str)(f:ce):Prop where
 at_:cT K (.ref C) m=some (some (.ref f))
 fn:iH K (.ref f)=true
 kp:dn K (.ref f)=true
variable {m:Str}
section
variable {dx:ce}{fs:List (Str×V)}{f:Str}{A:c7}
theorem V6 {b:Bool}(I:Inv X bX σ H s)(e:H a=some (.ins C dx fs))(c:qG X.K C)(n:iX X.K C f)(l:fs.lookup f=some v)
  (h:∀u s',Inv X bX σ H s'->RelV v u->Q u s'):cF (cC X.prog X.w) A (getAttr (.ref a) f b) Q E s:=by
 obtain⟨mA,O,r,_,_,_⟩:=Iv I.hok e;obtain⟨u,hu,ru⟩:=oh.some_of (v:=v) (o:=mA f) (by rw[←l];exact r f);exact YY I.kIn O (c.get f) c.hd n hu (OE ru) (h u _ (I.tok _) ru)
theorem jd {g:ce}{Q:bV×List bV->cq->Prop}(I:Inv X bX σ H s)(e:H a=some (.ins C dx fs))(c:qG X.K C)(k:pI X.K C m g)(l:fs.lookup m=none)
  (h:Q (.ref g,[.ref a]) s):cF (cC X.prog X.w) A (kz (.ref a) m pl) Q E s:=by
 obtain⟨mA,O,r,_,_,_⟩:=Iv I.hok e;have hn:mA m=none:=oh.none_of (by rw[←l];exact r m);exact X0 I.kIn O (c.get m) k.at_ k.fn hn h
theorem V7 {Q:Unit->cq->Prop}(I:Inv X bX σ H s)(e:H a=some (.ins C dx fs))(c:qG X.K C)(n:iX X.K C f)(hl:fs.length<1000)(ry:RelV y u)
  (h:∀s',Inv X bX σ (eS H a (.ins C dx (nz f y fs))) s'->Q () s'):cF (cC X.prog X.w) A (setAttr (.ref a) f u) Q E s:=by
 obtain⟨mA,O,r,wi,_,ho⟩:=Iv I.hok e;have hz:(fs.map (·.1)).length<=sizeLine:=by rw[ck,dD];omega
 refine Y8 I.kIn O c.sa c.po n.taker c.hd wi hz λh' O' sb=>h _ ?_;have hd:∃o,h'.get? dx=some o:=let⟨o,_,_,e',_⟩:=O'.ns;⟨o,e'⟩;refine I.write (x:=a) (e:=dx) (by rw[e];exact True.intro) (.inr ho) (λb q hb z=>(sb.2 b hb).trans z) hd ?_;refine⟨by rw[zj O.ne];exact ho,?_,O.ne,O'.obj,_,O'.ns,λg=>?_,λg hg=>?_⟩
 ·have:=Oc f y fs;omega
 ·show oh ((nz f y fs).lookup g) (if g=f then some u else mA g);rw[Ob];by_cases q:g=f
  ·rw[if_pos q,if_pos q];exact ry
  ·rw[if_neg q,if_neg q];exact r g
 ·by_cases q:g=f
  ·rw[q];exact(Lx f y fs).1
  ·refine(Lx f y fs).2 g (wi g λz=>hg ?_);show(if g=f then some u else mA g)=none;rw[if_neg q];exact z
theorem Inv.made (I:Inv X bX σ H s):Inv X bX σ (eS (eS H s.heap.objs.size (.own (s.heap.objs.size+1))) (s.heap.objs.size+1) (.ins C s.heap.objs.size []))
  { s with heap:=(s.heap.push fB).push (gE C s.heap.objs.size) }:=by
 have e1:(s.heap.push fB).get? s.heap.objs.size=some fB:=cO s.heap rfl;have e2:((s.heap.push fB).push (gE C s.heap.objs.size)).get? (s.heap.objs.size+1)=some (gE C s.heap.objs.size):=by have:=cO (s.heap.push fB) (o:=gE C s.heap.objs.size) rfl;rwa[e7]at this
 have e3:(s.heap.push fB).Ns s.heap.objs.size (λ_=>none):=⟨fB,#[],_,e1,rfl,(λe he=>absurd he (by simp)),λ_=>rfl⟩;have I1:=I.laid (a:=s.heap.objs.size) (o:=.own (s.heap.objs.size+1)) (h':=s.heap.push fB) (t':=s.toks) (λb u q=>bY _ q) (cI _) ⟨_,e1⟩;refine I1.laid (a:=s.heap.objs.size+1) (o:=.ins C s.heap.objs.size []) (t':=s.toks) (λb u q=>bY _ q) (uQ (e7 _ _)) ?_;have ne:s.heap.objs.size≠s.heap.objs.size+1:=cW (kQ _);refine⟨by rw[zj ne,zk],eI _,ne,e2,λ_=>none,(cB.Ns1.of_empty e3).at λo q=>bY _ q,λ_=>True.intro,λy hy=>absurd rfl hy⟩
theorem PN {prog:dH}{w:dw}{env:Env}{f:Str}(hb:qD e f env (ei e env)=ei e env)
  (h:cF (cC prog w) A (ei e env) (λo s₁=>cF (cC prog w) A (getAttr o f true) Q E s₁) E s):cF (cC prog w) A (ei (.Attribute e f pos) env) Q E s :=
 Attribute_any_ h (by rw[arm_eval_Attribute,hb])
end
def Le (K:bZ)(ta:TE)(f:Str):TE:=λσ H Q=>ta σ H λx H1=>∃a C dx fs v,x=.ref a/\H1 a=some (.ins C dx fs)/\qG K C/\iX K C f/\fs.lookup f=some v/\Q v H1
def K0 (K:bZ)(ta tv:TE)(f:Str):TS:=λD σ H=>tv σ H λy H1=>ta σ H1 λx H2=>∃a C dx fs,x=.ref a/\H2 a=some (.ins C dx fs)/\qG K C/\iX K C f/\fs.length<1000 /\
 D.nx σ (eS H2 a (.ins C dx (nz f y fs)))
variable {gq:m9}{tv:TE}{value:Expr}
section
variable {f:Str}
theorem ztg (he:PE X e ta)(hb:Ag X e f):PE X (.Attribute e f pos) (Le X.K ta f):=by intro bX s σ H Q I h;refine PN hb (fN (he bX s σ H _ I h) λu s1 gu=>?_);obtain⟨x,H1,I1,rx,a,C,dx,fs,v,ex,ea,c,n,l,q⟩:=gu;subst ex;obtain rfl:u=bV.ref a:=rx;exact V6 I1 ea c n l λu' s2 I2 ru=>⟨v,H1,I2,ru,q⟩
theorem zth (ha:PE X o ta)(hv:PE X value tv)(hs:gQ value (some (.Attribute o f pos')) pos.line X.env=pure false):PS X (.Assign [.Attribute o f pos'] value pos) (K0 X.K ta tv f):=by intro bX s σ H D I h;refine plainObj_wpAny_Assign_Attribute (fN (hv bX s σ H _ I h) λu s1 ⟨y,H1,I1,ry,q⟩=>fN (ha bX s1 σ H1 _ I1 q) λov s2 ⟨x,H2,I2,rx,a,C,dx,fs,ex,ea,c,n,l,q2⟩=>?_) hs;subst ex;obtain rfl:ov=bV.ref a:=rx;exact V7 I2 ea c n l ry λs3 I3=>⟨σ,_,I3,q2⟩
def Du:V->V->Hp->VK->Prop:=λx y H Q=>∃i j,x=.int i/\y=.int j/\Q (.int (i+j)) H
theorem zqb {args:List Expr}(he:PE X e te)(I:Inv X bX σ H s)
  (h:te σ H λx H1=>∃a C dx fs g,x=.ref a/\H1 a=some (.ins C dx fs)/\qG X.K C/\pI X.K C m g/\fs.lookup m=none /\
   ∀s1,Inv X bX σ H1 s1->cF (cC X.prog X.w) X.A (mT pos (.ref g) [.ref a] (jM pos (c9 args X.env)) (lP pos (iu [] X.env))) Q X.xe s1)
  (ht:ei (.Call (.Attribute e m gq) args [] pos) X.env=(do
   let ov ← ei e X.env
   lz gq.atName
   let(f,first) ← kh [ov] (kz ov m pl)
   mT pos f first (jM pos (c9 args X.env)) (lP pos (iu [] X.env)))) :
  cF (cC X.prog X.w) X.A (ei (.Call (.Attribute e m gq) args [] pos) X.env) Q X.xe s:=by
 refine ie (pl:=pl) (fN (he bX s σ H _ I h) λu s1 ⟨x,H1,I1,rx,a,C,dx,fs,g,ex,ea,c,k,l,q⟩=>?_) ht;subst ex;obtain rfl:u=bV.ref a:=rx;exact jd I1 ea c k l (q s1 I1)
end
section
variable {A:c7}{c:bV}{b:Bool}
inductive oG (K:bZ)(H:Hp):V->bV->Prop where
 |non:oG K H .non (.type "NoneType")
 |bl (x:Bool):oG K H (.bl x) (.type "bool")
 |int (i:Int):oG K H (.int i) (.type "int")
 |str (x:Str):oG K H (.str x) (.type "str")
 |flt (x:UInt64):oG K H (.flt x) (.type "float")
 |lst {a:ce} {xs:List V} (e:H a=some (.lst xs)):oG K H (.ref a) (.type "list")
 |frz {a:ce} {o:f9} {xs:List V} (e:H a=some (.frz o (.lst xs))):oG K H (.ref a) (.type "list")
 |tup {a:ce} {xs:List V} (e:H a=some (.tup xs)):oG K H (.ref a) (.type "tuple")
 |dK {a:ce} {eQ:List (iW×V)} (e:H a=some (.dK eQ)):oG K H (.ref a) (.type "dict")
 |dT {a:ce} {eQ:List (List iW×V)} (e:H a=some (.dT eQ)):oG K H (.ref a) (.type "dict")
 |ins {a C dx:ce} {fs:List (Str×V)} (e:H a=some (.ins C dx fs)) (cl:qG K C) (ha:cT K (.ref C) "__class__"=some (some (.builtin "object.__class__")))
   (hn:fC K (.builtin "object.__class__") "__get__"=some (some (.builtin "getset_descriptor.__get__"))) (Hu:p5 K (.builtin "object.__class__")=some true)
   (hm:eX K C (.type "object")=some true):oG K H (.ref a) (.ref C)
theorem OF {x:V}{t:bV}(I:Inv X bX σ H s)(rx:RelV x u)(ty:oG X.K H x t)(e:cV X.K t c=some b)(h:∀tk,Q (.bool b) { s with toks:=tk }) :
  cF (cC X.prog X.w) A (call (.builtin "isinstance") [u,c]) Q E s:=by
 cases ty with
 |non=>cases(show u=bV.none from rx);exact d7 vN I.kIn True.intro e (λz=>nomatch z) h
 |bl y=>cases(show u=bV.bool y from rx);exact d7 PySem.W.kitx_bool I.kIn True.intro e (λz=>nomatch z) h
 |int i=>obtain⟨t,q⟩:=(show∃t,u=bV.int i t from rx);cases q;exact d7 PySem.W.kitx_int I.kIn True.intro e (λz=>nomatch z) h
 |str y=>obtain⟨t,q⟩:=(show∃t,u=bV.str y t from rx);cases q;exact d7 PySem.W.kitx_str I.kIn True.intro e (λz=>nomatch z) h
 |flt y=>obtain⟨t,q⟩:=(show∃t,u=bV.float y t from rx);cases q;exact d7 PySem.W.kitx_float I.kIn True.intro e (λz=>nomatch z) h
 |@lst a xs ea=>cases(show u=bV.ref a from rx);obtain⟨_,_,n,_,h1⟩:=(show gM X.prog X.w H s.heap a (.lst xs)from I.hok a _ ea);exact d7 oR I.kIn ⟨_,h1,rfl⟩ e (λz=>nomatch z) h
 |@frz a ob xs ea=>cases(show u=bV.ref a from rx);obtain⟨_,_,_,n,_,h1⟩:=(show gM X.prog X.w H s.heap a (.frz ob (.lst xs))from I.hok a _ ea);exact d7 oR I.kIn ⟨_,h1,rfl⟩ e (λz=>nomatch z) h
 |@tup a xs ea=>cases(show u=bV.ref a from rx);obtain⟨_,_,_,p⟩:=(show gM X.prog X.w H s.heap a (.tup xs)from I.hok a _ ea);obtain⟨o,h1,h2,_⟩:=p;exact d7 PySem.W.kitx_tuple I.kIn ⟨o,h1,h2⟩ e (λz=>nomatch z) h
 |@dK a eQ ea=>cases(show u=bV.ref a from rx);obtain⟨_,_,vs,_,p⟩:=(show gM X.prog X.w H s.heap a (.dK eQ)from I.hok a _ ea);obtain⟨o,es,ep,h1,h2,_⟩:=p;exact d7 vM I.kIn ⟨o,h1,h2.1⟩ e (λz=>nomatch z) h
 |@dT a eQ ea=>cases(show u=bV.ref a from rx);obtain⟨_,_,xs,_,o,es,ep,h1,h2,_⟩:=(show gM X.prog X.w H s.heap a (.dT eQ)from I.hok a _ ea);exact d7 vM I.kIn ⟨o,h1,h2.1⟩ e (λz=>nomatch z) h
 |@ins a C dx fs ea cl ha hn Hu hm=>cases(show u=bV.ref a from rx);obtain⟨mA,O,_⟩:=Iv I.hok ea;obtain⟨od,J,_⟩:=O.look;exact d7 (PySem.W.kitx_own (cl.get _) cl.hd ha hn Hu hm) I.kIn J e (λz=>nomatch z) h
end
structure fw (k:Nat)(A:c7):Prop where
 hd:A.handled=none
 dp:A.depth+3*k+5<pq
 un:A.units+16*k+200<kR
 gd:A.guards=some []
theorem fw.mono {k:Nat}{A:c7}(r:fw k A)(h:j<=k):fw j A:=⟨r.hd,by have:=r.dp;omega,by have:=r.un;omega,r.gd⟩
theorem fw.deeper {k:Nat}{A:c7}(r:fw (k+1) A)(env:Env):fw k (A.deeper env) :=
 ⟨r.hd,by have:=r.dp;show A.depth+1+3*k+5<_;omega,by have:=r.un;show A.units+3+16*k+200<_;omega,r.gd⟩
theorem V8 {A:c7}:(A.under (.builtin "type.__call__" ⟨.ref C::us,kw⟩)).depth=A.depth+1:=by first|rfl|simp[c7.under,rG.weight,rG.isCreation,rG.isGuard,rG.isCaller,rG.frames,rG.isFrame,guardIds]
theorem V9 {A:c7}:(A.under (.builtin "type.__call__" ⟨.ref C::us,kw⟩)).units=A.units+1:=by first|rfl|simp[c7.under,rG.cUnits,rG.frames,rG.isFrame]
theorem VT {A:c7}:(A.under (.builtin "type.__call__" ⟨.ref C::us,kw⟩)).guards=A.guards:=by first|rfl|simp[c7.under,rG.guards,rG.isGuard,guardIds,pushGuards]
theorem fw.make {k:Nat}{A:c7}(r:fw (k+1) A)(C:ce)(us:List bV)(kw:List (Str×bV)):fw k (A.under (.builtin "type.__call__" ⟨.ref C::us,kw⟩)) :=
 ⟨r.hd,by have:=r.dp;rw[V8];omega,by have:=r.un;rw[V9];omega,by rw[VT];exact r.gd⟩
theorem fw.depth {k:Nat}{A:c7}(r:fw k A):A.depth<pq:=by have:=r.dp;omega
theorem fw.units {k:Nat}{A:c7}(r:fw k A):A.units+64<kR:=by have:=r.un;omega
def DH:TA:=λ_ H Q=>Q [] H
def CI (ta:TE)(tr:TA):TA:=λσ H Q=>ta σ H λx H1=>tr σ H1 λxs H2=>Q (x::xs) H2
section
variable {t:TA}
theorem yy:PA X [] DH:=λ_ _ _ _ H Q I h=>Calls.spliced_nil ⟨[],H,I,.nil,h⟩
theorem zy (ha:PE X e te)(hr:PA X es t)(hs:SE X e es:=by rfl):PA X (e::es) (CI te t):=by intro pos bX s σ H Q I h;rw[hs];show cF _ _ (spliced ((false,ei e X.env)::jM pos (c9 es X.env))) _ _ s;refine Calls.spliced_cons (fN (ha bX s σ H _ I h) λu s1 gu=>?_);obtain⟨x,H1,I1,r1,q1⟩:=gu;exact fN (hr pos bX s1 σ H1 _ I1 q1) λus s2 ⟨xs,H2,I2,r2,q2⟩=>⟨x::xs,H2,I2,.cons r1 r2,q2⟩
def Ln (t:TA):TE:=λσ H Q=>t σ H λxs H1=>xs.length<=sizeLine/\∀p,H1 p=none->Q (.ref p) (eS H1 p (.tup xs))
def Lh (t:TA):TE:=λσ H Q=>t σ H λxs H1=>xs.length<=sizeLine/\∀p,H1 p=none->Q (.ref p) (eS H1 p (.lst xs))
theorem zti {x1}(h:PA X es t):PE X (.Tuple es x1 pos) (Ln t):=by intro bX s σ H Q I hq;refine wpAny_Tuple_spliced (fN (h pos bX s σ H _ I hq) λus s1 ⟨xs,H1,I1,r,z,q⟩=>⟨by rw[←r.length];exact z,?_⟩);have hf:H1 s1.heap.objs.size=none:=I1.hok.fresh (cI _);refine⟨.ref s1.heap.objs.size,eS H1 s1.heap.objs.size (.tup xs),I1.laid (t':=s1.toks) (λb u e=>bY _ e) (cI _) ?_,rfl,q _ hf⟩;exact⟨z,us,r,⟨_,cO _ rfl,rfl,_,rfl⟩⟩
theorem ztj (h:PA X es t):PE X (.List es pos) (Lh t):=by intro bX s σ H Q I hq;refine wpAny_List_spliced (fN (h pos bX s σ H _ I hq) λus s1 ⟨xs,H1,I1,r,z,q⟩=>⟨by rw[←r.length];exact z,?_⟩);have hf:H1 s1.heap.objs.size=none:=I1.hok.fresh (cI _);refine⟨.ref s1.heap.objs.size,eS H1 s1.heap.objs.size (.lst xs),I1.laid (t':=s1.toks) (λb u e=>bY _ e) (cI _) ?_,rfl,q _ hf⟩;exact⟨z,us,0,r,cO _ rfl⟩
end
abbrev Sp:=List V->Hp->VK->XK->Prop
abbrev Ai:=List Env->Hp->cq->XK->bV->cq->Prop
structure sX (P:dH)(w:dw)(K:bZ)(mg:Str->Option bV)(base:cB)(A:c7)(outer:List Env)(s:cq)(H:Hp):Prop where
 frames:A.frames=some outer
 mod:Mod K mg base
 bs:∀b o,base.get? b=some o->s.heap.get? b=some o/\H b=none
 bsz:base.objs.size<=s.heap.objs.size
 funs:s.heap.FunFrames base outer
 frf:∀b∈zT outer,H b=none
 hok:oF P w H s.heap
 bare:AllBare s.gens
def CE (outer:List Env)(P:dH)(w:dw)(H:Hp)(s:cq)(Q:VK)(u:bV)(s':cq):Prop :=
 ∃v H',s'.os=s.os/\AllBare s'.gens/\Un (zT outer) [] H H' s.heap s'.heap/\oF P w H' s'.heap/\RelV v u/\Q v H'
def CR (CX:Ai)(outer:List Env)(P:dH)(w:dw)(H:Hp)(s:cq)(Q:VK)(E:XK)(r:Result)(s':cq):Prop :=
 match r with
 |.ok (.ret u)=>CE outer P w H s Q u s'
 |.ok _=>False
 |.error e=>CX outer H s E e s'
structure dM (P:dH)(w:dw)(K:bZ)(mg:Str->Option bV)(base:cB)(CX:Ai)(k:Nat)(f:ce)(fd:cH)(ps:List Str)(sp:Sp):Prop where
 len:∀vs H Q E,sp vs H Q E->vs.length=ps.length
 run:∀(A:c7) (outer:List Env) (s:cq) (H:Hp) (args:Args) (us:List bV) (vs:List V) (Q:VK) (E:XK),fw k A->sX P w K mg base A outer s H->pE s fd args (ps.zip us)->dA vs us->sp vs H Q E ->
  ix (cC P w) A (.call (.ref f) args) (CR CX outer P w H s Q E) s
theorem sX.make {w:dw}{K:bZ}{mg:Str->Option bV}{base:cB}{A:c7}{outer:List Env}(e:sX P w K mg base A outer s H)(C:ce)(us:List bV)(kw:List (Str×bV)) :
  sX P w K mg base (A.under (.builtin "type.__call__" ⟨.ref C::us,kw⟩)) outer s H:=⟨by first|exact e.frames|(simpa[c7.under,rG.envs,rG.isFrame,pushEnvs]using e.frames),e.mod,e.bs,e.bsz,e.funs,e.frf,e.hok,e.bare⟩
theorem Inv.env0 (I:Inv X bX σ H s):sX X.prog X.w X.K X.mg X.base X.A X.stack s H :=
 ⟨I.ok.frames,I.ok.mod,I.bs,d9 I.ok.bsz I.sz,I.stack,I.stkFree,I.hok,I.bare⟩
theorem Inv.after {Q:VK}(I:Inv X bX σ H s)(h:CE X.stack X.prog X.w H s Q u s'):EP X bX σ Q u s':=by obtain⟨v,H',os,bare,un,hok,r,q⟩:=h;obtain⟨hh,g,d,t,NO⟩:=s';obtain rfl:NO=s.os:=os;exact⟨v,H',I.call (h':=hh) (g':=g) (d':=d) (t':=t) (ch:=[]) un hok bare (λb z=>absurd z (by simp)),r,q⟩
def CH (sp:Sp)(jS:List V)(E:XK)(t:TA):TE:=λσ H Q=>t σ H λvs H1=>sp (vs++jS) H1 Q E
def CK (C:ce)(m:Str)(sp:Sp)(jS:List V)(E:XK)(ta:TE)(t:TA):TE:=λσ H Q=>ta σ H λx H1=>∃a dx fs,x=.ref a/\H1 a=some (.ins C dx fs)/\fs.lookup m=none /\
 t σ H1 λvs H2=>sp (x::(vs++jS)) H2 Q E
def Gz (C:ce)(sp:Sp)(jS:List V)(E:XK)(t:TA):TE:=λσ H Q=>t σ H λvs H1=>∀x dx,H1 x=none->H1 dx=none->dx≠x ->
 sp (.ref x::(vs++jS)) (eS (eS H1 dx (.own x)) x (.ins C dx [])) (λv H2=>v=.non/\Q (.ref x) H2) E
def fF (K:bZ)(fd:cH)(ps:List Str)(ds:List bV):Prop :=
 ∀(s:cq) (us:List bV),K.In s.heap->(us++ds).length=ps.length->pE s fd ⟨us,[]⟩ (ps.zip (us++ds))
variable {fd:cH}{ps:List Str}
theorem fF.all {K:bZ}(h:∀us:List bV,us.length=ps.length->bindArgs fd ⟨us,[]⟩=pure (ps.zip us)):fF K fd ps []:=λs us _ hl=>by rw[cS]at hl ⊢;exact .of_eq (h us hl)
def mn (CX:Ai)(X:Cx)(E:XK):Prop:=∀(bX:List (ce×f9)) (σ:St) (H:Hp) (s:cq) (e:bV) (s':cq),Inv X bX σ H s->CX X.stack H s E e s'->X.xe e s'
variable {CX:Ai}{ds:List bV}{jS vs:List V}
section
variable {k:Nat}{sp:Sp}{E:XK}{t:TA}
theorem IV {Q:VK}(F:dM X.prog X.w X.K X.mg X.base CX k f fd ps sp)(hr:fw k X.A)(hb:fF X.K fd ps ds)(hd:dA jS ds)(hx:mn CX X E)
  (I:Inv X bX σ H s) (r:dA vs us) (h:sp (vs++jS) H Q E):cF (cC X.prog X.w) X.A (call (.ref f) us) (EP X bX σ Q) X.xe s:=by
 have r2:dA (vs++jS) (us++ds):=r.append hd;have hl:(us++ds).length=ps.length:=by rw[←r2.length];exact F.len _ _ _ _ h
 refine wpAny_call (gR (F.run X.A X.stack s H ⟨us,[]⟩ (us++ds) (vs++jS) Q E hr I.env0 (hb s us I.kIn hl) r2 h) λr s' hq=>?_);cases r with
 |error e=>exact hx bX σ H s e s' I hq
 |ok fl=>
  cases fl with
  |ret u=>exact I.after hq
  |next=>exact False.elim hq
  |brk=>exact False.elim hq
  |cont=>exact False.elim hq
theorem Y9 (F:dM X.prog X.w X.K X.mg X.base CX k f fd ps sp)(hr:fw k X.A)(hg:Gl X x)(hm:X.mg x=some (.ref f))(hk:dn X.K (.ref f)=true)(hb:fF X.K fd ps ds)(hd:dA jS ds)(hx:mn CX X E)
  (ha:PA X (e::es) t) (kM:lx x:=by decide) (he:SE X e es:=by rfl) (gW:oa X pos es:=by rfl) :
  PE X (.Call (.Name x p) (e::es) [] pos) (CH sp jS E t):=by
 intro bX s σ H Q I h;refine eT (x6 I hg hm ?_ kM);refine fJ (h₀:=X.base) I.ok.mod.kin hk (fN (ha pos bX s σ H _ I h) λus s1 ⟨vs,H1,I1,r,q⟩=>⟨I1.kIn,?_⟩) he gW;exact IV F hr hb hd hx I1 r q
theorem Za (he:PE X o ta)(c:qG X.K C)(hm:pI X.K C m f)(F:dM X.prog X.w X.K X.mg X.base CX k f fd ps sp)(hr:fw k X.A)(hb:fF X.K fd ps ds)(hd:dA jS ds)(hx:mn CX X E)(ha:PA X (e::es) t)
  (ky:SE X e es:=by rfl) (gW:oa X pos es:=by rfl)
  (ht:ei (.Call (.Attribute o m gq) (e::es) [] pos) X.env=(do
   let ov ← ei o X.env
   lz gq.atName
   let(f,first) ← kh [ov] (kz ov m pl)
   mT pos f first (jM pos (c9 (e::es) X.env)) (lP pos (iu [] X.env))):=by rfl) :
  PE X (.Call (.Attribute o m gq) (e::es) [] pos) (CK C m sp jS E ta t):=by
 intro bX s σ H Q I h;refine ie (pl:=pl) (fN (he bX s σ H _ I h) λu s1 ⟨x,H1,I1,rx,a,dx,fs,ex,ea,l,q⟩=>?_) ht;subst ex;obtain rfl:u=bV.ref a:=rx;refine jd I1 ea c hm l ?_;refine fJ (first:=[.ref a]) (h₀:=X.base) I.ok.mod.kin hm.kp (fN (ha pos bX s1 σ H1 _ I1 q) λus s2 ⟨vs,H2,I2,r,q2⟩=>⟨I2.kIn,?_⟩) ky gW;exact IV (us:=.ref a::us) (vs:=.ref a::vs) F hr hb hd hx I2 (.cons rfl r) q2
theorem X1 (he:PE X o ta)(c:qG X.K C)(hm:pI X.K C m f)(F:dM X.prog X.w X.K X.mg X.base CX k f fd ps sp)(hr:fw k X.A)(hb:fF X.K fd ps ds)(hd:dA jS ds)(hx:mn CX X E)
  (ht:ei (.Call (.Attribute o m gq) [] [] pos) X.env=(do
   let ov ← ei o X.env
   lz gq.atName
   let(f,first) ← kh [ov] (kz ov m pl)
   mT pos f first (jM pos (c9 [] X.env)) (lP pos (iu [] X.env))):=by rfl) :
  PE X (.Call (.Attribute o m gq) [] [] pos) (CK C m sp jS E ta DH):=by
 intro bX s σ H Q I h;refine ie (pl:=pl) (fN (he bX s σ H _ I h) λu s1 ⟨x,H1,I1,rx,a,dx,fs,ex,ea,l,q⟩=>?_) ht;subst ex;obtain rfl:u=bV.ref a:=rx;refine jd I1 ea c hm l ?_;exact PySem.W.callWith_K0 (first:=[.ref a]) I1.kIn hm.kp (IV (us:=[.ref a]) (vs:=[.ref a]) F hr hb hd hx I1 (.cons rfl .nil) q)
structure Mk (K:bZ)(C f:ce):Prop where
 makes:p4 K C=true
 init:cT K (.ref C) "__init__"=some (some (.ref f))
 fn:iH K (.ref f)=true
 kp:dn K (.ref C)=true
theorem X2 {Q:VK}(M:Mk X.K C f)(F:dM X.prog X.w X.K X.mg X.base CX k f fd ps sp)(hr:fw (k+1) X.A)(hb:fF X.K fd ps ds)(hd:dA jS ds)
  (hx:mn CX X E) (I:Inv X bX σ H s) (r:dA vs us)
  (h:∀x dx,H x=none->H dx=none->dx≠x->sp (.ref x::(vs++jS)) (eS (eS H dx (.own x)) x (.ins C dx [])) (λv H2=>v=.non/\Q (.ref x) H2) E) :
  cF (cC X.prog X.w) X.A (call (.ref C) us) (EP X bX σ Q) X.xe s:=by
 have hq:=h (s.heap.objs.size+1) s.heap.objs.size (I.hok.fresh (oq _)) (I.hok.fresh (cI _)) (cW (kQ _));have I2:=Inv.made (C:=C) I;have r2:dA (V.ref (s.heap.objs.size+1)::(vs++jS)) (bV.ref (s.heap.objs.size+1)::(us++ds)):=.cons rfl (r.append hd);have hl:(bV.ref (s.heap.objs.size+1)::us++ds).length=ps.length:=by have e:=r2.length;rw[F.len _ _ _ _ hq]at e;exact e.symm
 refine wpAny_call (O7 (f:=f) I.kIn M.makes M.init (beq_iff_eq.mp M.fn) (gR (F.run _ X.stack _ _ ⟨bV.ref (s.heap.objs.size+1)::us,[]⟩ (bV.ref (s.heap.objs.size+1)::(us++ds)) _ _ E (hr.make C us [])
  (I2.env0.make C us []) (hb _ (bV.ref (s.heap.objs.size+1)::us) I2.kIn hl) r2 hq) λr s' sD=>?_))
 cases r with
 |error e=>exact hx bX σ _ _ e s' I2 sD
 |ok fl=>
  cases fl with
  |ret u=>obtain⟨v,H',I3,rv,ev,q3⟩:=I2.after sD;subst ev;exact⟨rv,⟨V.ref (s.heap.objs.size+1),H',I3,rfl,q3⟩⟩
  |next=>exact False.elim sD
  |brk=>exact False.elim sD
  |cont=>exact False.elim sD
theorem Zb (M:Mk X.K C f)(F:dM X.prog X.w X.K X.mg X.base CX k f fd ps sp)(hr:fw (k+1) X.A)(hg:Gl X x)(hm:X.mg x=some (.ref C))(hb:fF X.K fd ps ds)(hd:dA jS ds)(hx:mn CX X E)
  (ha:PA X (e::es) t) (kM:lx x:=by decide) (he:SE X e es:=by rfl) (gW:oa X pos es:=by rfl) :
  PE X (.Call (.Name x p) (e::es) [] pos) (Gz C sp jS E t):=by
 intro bX s σ H Q I h;refine eT (x6 I hg hm ?_ kM);refine fJ (h₀:=X.base) I.ok.mod.kin M.kp (fN (ha pos bX s σ H _ I h) λus s1 ⟨vs,H1,I1,r,q⟩=>⟨I1.kIn,?_⟩) he gW;exact X2 M F hr hb hd hx I1 r q
end
structure fI (N P:List Str)(sc:oC):Prop where
 kind:sc.kind=.function
 co:sc.isCoroutine=false
 gen:sc.isGenerator=false
 nd:N.Nodup
 pre:N.take P.length=P
 par:∀x∈P,sc.names.lookup x=some .local\/sc.names.lookup x=some .cell
 nofree:∀y∈sc.names,y.2≠.free
variable {kindOf:Str->Option dh}
theorem OG {kindOf:Str->Option dh}{x:Str}:∀{binds:List (Str×bV)} {m:Str->Option bV},(∀v,(x,v)∉binds)->xX kindOf binds m x=m x
 |[],_,_=>rfl
 |(n,v)::r,m,h=>by
  unfold xX;rw[OG λw hw=>h w (cj _ hw)];split
  ·have:x≠n:=by rintro rfl;exact h v b9
   simp[this]
  ·rfl
theorem OH {kindOf:Str->Option dh}{x:Str}:∀{binds:List (Str×bV)} {m:Str->Option bV},(∀v,(x,v)∉binds)->xW kindOf binds m x=m x
 |[],_,_=>rfl
 |(n,v)::r,m,h=>by
  unfold xW;rw[OH λw hw=>h w (cj _ hw)];split
  ·rfl
  ·have:x≠n:=by rintro rfl;exact h v b9
   simp[this]
theorem Ou {kindOf:Str->Option dh}{x:Str}{v:bV}:∀{P:List Str} {vs:List bV} {i:Nat} {m:Str->Option bV},P.Nodup->P[i]?=some x->vs[i]?=some v->kindOf x=some .local ->
  xX kindOf (P.zip vs) m x=some v
 |[],_,_,_,_,h,_,_=>by simp at h
 |_::_,[],_,_,_,_,h,_=>by simp at h
 |p::P,w::vs,0,m,nd,h1,h2,hk=>by simp at h1 h2;subst h1;subst h2;show xX kindOf ((p,w)::P.zip vs) m p=_;unfold xX;rw[OG λv hv=>(dC.mp nd).1 (jE hv).1,if_pos hk];simp
 |p::P,w::vs,i+1,m,nd,h1,h2,hk=>by show xX kindOf ((p,w)::P.zip vs) m x=_;unfold xX;exact Ou (i:=i) (dC.mp nd).2 (by simpa using h1) (by simpa using h2) hk
theorem Ov {kindOf:Str->Option dh}{x:Str}{v:bV}:∀{P:List Str} {vs:List bV} {i:Nat} {m:Str->Option bV},P.Nodup->P[i]?=some x->vs[i]?=some v->kindOf x≠some .local ->
  xW kindOf (P.zip vs) m x=some v
 |[],_,_,_,_,h,_,_=>by simp at h
 |_::_,[],_,_,_,_,h,_=>by simp at h
 |p::P,w::vs,0,m,nd,h1,h2,hk=>by simp at h1 h2;subst h1;subst h2;show xW kindOf ((p,w)::P.zip vs) m p=_;unfold xW;rw[OH λv hv=>(dC.mp nd).1 (jE hv).1,if_neg hk];simp
 |p::P,w::vs,i+1,m,nd,h1,h2,hk=>by show xW kindOf ((p,w)::P.zip vs) m x=_;unfold xW;exact Ov (i:=i) (dC.mp nd).2 (by simpa using h1) (by simpa using h2) hk
def start (N:List Str)(vs:List V):St:=vs.map some++cE (N.length-vs.length) none
def nJ (CX:Ai)(P:dH)(w:dw)(K:bZ)(mg:Str->Option bV)(base:cB)(N:List Str)(qual:Str)(scope:oC)(f:ce)(cd:bV)(A:c7)(outer:List Env)(s:cq)(H:Hp)(E:XK):Cx where
 prog:=P
 w:=w
 K:=K
 mg:=mg
 base:=base
 A:=A.deeper (envOfC qual scope s.heap.objs.size f cd)
 N:=N
 s₀:=s
 H₀:=H
 env:=envOfC qual scope s.heap.objs.size f cd
 outer:=outer
 stack:=envOfC qual scope s.heap.objs.size f cd::outer
 ex:=[]
 calm:=true
 fn:=λ_=>true
 pn:=[]
 xe:=λe s'=>cF (cC P w) (A.deeper (envOfC qual scope s.heap.objs.size f cd)) (leaving (envOfC qual scope s.heap.objs.size f cd) e) (λ_ s''=>CX outer H s E e s'') (λe' s''=>CX outer H s E e' s'') s'
theorem O8 {sc:oC}(h:sc.names.lookup x=some .cell):∃c,(cellsFrom n sc.names []).lookup x=some c:=by have q:=jN sc.names n [] (.inl h);exact mm.mp q
variable {qual:Str}{scope:oC}
theorem Ox {w:dw}{K:bZ}{mg:Str->Option bV}{base:cB}{N:List Str}{cd:bV}{A:c7}{outer:List Env}{s1:cq}{E:XK}
  (S:fI N ps scope) (hd:A.handled=none) (e0:sX P w K mg base A outer s H) (hl:vs.length=ps.length) (r:dA vs us)
  (x:InCallC s s.heap.objs.size (xX (envOfC qual scope s.heap.objs.size f cd).kindOf (ps.zip us) λ_=>none) (cellsFrom (s.heap.objs.size+1) scope.names []) (xW (envOfC qual scope s.heap.objs.size f cd).kindOf (ps.zip us) λ_=>none) s1) :
  Inv (nJ CX P w K mg base N qual scope f cd A outer s H E) [] (start N vs) H s1:=by
 have gW:ps.length<=N.length:=by have:=congrArg jL S.pre;rw[ef]at this;omega
 obtain⟨h1,tk,rfl,hk⟩:=x.done;have noA:∀b:ce,b∉(nJ CX P w K mg base N qual scope f cd A outer s H E).ex:=λb z=>absurd (show b∈([]:List ce)from z) (by simp);refine⟨⟨e0.mod,S.kind,rfl,rfl,cI _,λy z c h1 h2=>?_,λy hy=>?_,λy c _ h=>?_,λ_=>hd,c7.frames_deeper e0.frames,.inr ⟨rfl,rfl⟩,λb z=>absurd z (noA b),e0.bs,e0.bsz,λb _ _=>noA b,λb z=>absurd z (noA b),e0.funs,e0.frf⟩,
  rfl,e0.bare,Un.kept hk,⟨_,x.toInCall.ns,λi y v h1 h2 h3=>?_⟩,λy c h=>⟨_,x.cell y c h⟩,e0.hok.fresh (cI _),λy c h=>?_,λp hp=>absurd (show p∈([]:List (ce×f9))from hp) (by simp),e0.hok.kept hk,?_⟩
 ·exact name_of_addr x.apart (PySem.mem_of_lookup h1) (PySem.mem_of_lookup h2)
 ·have hy:scope.names.lookup y=some .cell\/scope.names.lookup y=some .free:=hy;rcases hy with hy|hy
  ·exact O8 hy
  ·exact absurd rfl (S.nofree _ (PySem.mem_of_lookup hy))
 ·exact pU (x.above y c (PySem.mem_of_lookup h))
 ·have hi:i<vs.length:=by
   unfold start at h2;by_cases hi:i<vs.length
   ·exact hi
   ·rw[iI (by simpa using hi)]at h2;rw[mY]at h2
    split at h2<;>cases h2
  have ha:vs[i]?=some v:=by
   unfold start at h2;rw[gG (by simpa using hi),dG]at h2;cases e:vs[i]? with
   |none=>rw[e]at h2;cases h2
   |some a=>rw[e]at h2;cases h2;rfl
  obtain⟨u,hu,rv⟩:=r.get ha;have hp:ps[i]?=some y:=by rw[←S.pre,mF (by omega)];exact h1
  have NK:ps.Nodup:=by rw[←S.pre];exact S.nd.sublist (List.take_sublist _ _)
  refine⟨u,rv,?_⟩;rcases S.par y (List.mem_of_getElem? hp)with k|k
  ·exact .inl ⟨k,Ou NK hp hu k⟩
  ·obtain⟨c,e⟩:=O8 (n:=s.heap.objs.size+1) k;refine .inr ⟨.inl k,c,e,?_⟩;have q:=x.cell y c e;rw[Ov NK hp hu (by show scope.names.lookup y≠_;rw[k];decide)]at q;exact q
 ·exact e0.hok.fresh (pU (x.above y c (PySem.mem_of_lookup h)))
 ·unfold start;show _=N.length;rw[cp,ck,eF];omega
theorem MM {w:dw}{K:bZ}{mg:Str->Option bV}{base:cB}{k:Nat}{params:Arguments}{dV kV doc pm gN ct oc:bV}{an od:Option ce}
    {xH:Array (Option bV)} {N:List Str} {sp:Sp} (lk:K.lookup f=some ⟨oc,od,.func (jO name qual params body scope dV kV doc pm an gN ct),xH⟩) (lT:nE K gN qual=true) (S:fI N ps scope)
    (len:∀vs H Q E,sp vs H Q E->vs.length=ps.length)
    (uG:∀(A:c7) (outer:List Env) (s:cq) (H:Hp) (vs:List V) (Q:VK) (E:XK),fw k (A.deeper (envOfC qual scope s.heap.objs.size f gN))->sp vs H Q E ->
      ∃t,rV (nJ CX P w K mg base N qual scope f gN A outer s H E) body t/\t { nx:=λ_ H'=>Q .non H',rt:=Q } (start N vs) H) :
    dM P w K mg base CX (k+1) f (jO name qual params body scope dV kV doc pm an gN ct) ps sp:=by
  refine⟨len,λA outer s H args us vs Q E hr e0 hb r AG=>?_⟩;have hl:=len _ _ _ _ AG;have KX:K.In s.heap:=e0.mod.kin.keeps λb o e=>(e0.bs b o e).1;have lim:s.heap.NoLimit:=e0.mod.nolimit.keeps λb o e=>(e0.bs b o e).1;have Az:∀y∈ps.zip us,scope.names.lookup y.1=some .local\/(scope.names.lookup y.1=some .cell/\((cellsFrom (s.heap.objs.size+1) scope.names []).lookup y.1).isSome=true):=λ⟨n,v⟩ hy=>by
    rcases S.par n (jE hy).1 with q|q
    · exact .inl q
    · exact .inr ⟨q,jN _ _ _ (.inl q)⟩
  refine codeAny_call_function hr.depth (KX _ _ lk) rfl S.co S.gen rfl (uV KX lT) (hb _ _ _ _ ?_);refine wpAny_newFunctionEnv_cells S.kind Az λenv he s1 x=>?_;subst he;refine⟨lim.keeps x.toInCall.keep,codeAny_func ?_⟩;obtain⟨t,ht,hq⟩:=uG A outer s H vs Q E (hr.deeper _) AG;have I:Inv (nJ CX P w K mg base N qual scope f gN A outer s H E) [] (start N vs) H s1:=Ox S hr.hd e0 hl r x;refine e8 (ht [] s1 (start N vs) H _ I hq) (λfl s' hs=>?_) λe s' hs=>hs;have fin:∀{σ':St} {H':Hp} {v:V} {u:bV},Inv (nJ CX P w K mg base N qual scope f gN A outer s H E) [] σ' H' s'->RelV v u->Q v H'->CE outer P w H s Q u s' :=
    λ{σ' H' v u} J rv q=>⟨v,H',J.os,J.bare,J.base,J.hok,rv,q⟩
  cases fl with
  |ret u=>obtain⟨v,σ',H',J,rv,q⟩:=hs;exact fin J rv q
  |next=>obtain⟨σ',H',J,q⟩:=hs;exact fin (v:=V.non) (u:=bV.none) J rfl q
  |brk=>obtain⟨_,_,_,q⟩:=hs;exact False.elim q
  |cont=>obtain⟨_,_,_,q⟩:=hs;exact False.elim q
section
variable {t:TA}{id T:String}{r:List V->Hp->VK->Prop}
def Lc (r:List V->Hp->VK->Prop)(t:TA):TE:=λσ H Q=>t σ H λvs H1=>r vs H1 Q
theorem u0 (hc:iq X (.builtin id) r)(hg:Gl X x)(hm:X.mg x=none)(hv:dY x=some (.builtin id))(ha:PA X (e::es) t)(hn:x≠"__name__":=by decide)(kM:lx x:=by decide)
  (he:SE X e es:=by rfl) (gW:oa X pos es:=by rfl):PE X (.Call (.Name x p) (e::es) [] pos) (Lc r t):=by
 intro bX s σ H Q I h;refine eT (ux I hg hm hv ?_ hn kM);exact n9 (fN (ha pos bX s σ H _ I h) λus s1 ⟨vs,H1,I1,r1,q1⟩=>hc bX s1 σ H1 vs us Q I1 r1 q1) he gW
theorem Ly (hc:iq X (.type T) r)(hg:Gl X x)(hm:X.mg x=none)(hv:dY x=some (.type T))(ha:PA X (e::es) t)(hn:x≠"__name__":=by decide)(kM:lx x:=by decide)
  (he:SE X e es:=by rfl) (gW:oa X pos es:=by rfl):PE X (.Call (.Name x p) (e::es) [] pos) (Lc r t):=by
 intro bX s σ H Q I h;refine eT (ux I hg hm hv ?_ hn kM);exact ej (fN (ha pos bX s σ H _ I h) λus s1 ⟨vs,H1,I1,r1,q1⟩=>hc bX s1 σ H1 vs us Q I1 r1 q1) he gW
end
end L2
namespace HT
open PySem PyProof.Rows
open PySem.SeqAt
open PySem.AutoSeq1 (wpAny_loadPart')
open PySem.MeetsSeq PySem.MeetsSeq2 PySem.MeetsSeq3
section
variable {prog:dH}{w:dw}{A:c7}{E:bV->cq->Prop}{s:cq}
theorem cat_tup {t b:ce}{vs ws:List bV}{Q:bV->cq->Prop}(ht:IsTup s.heap t vs.toArray)(hb:IsTup s.heap b ws.toArray)(hv:vs≠[])
    (h1:ws=[]->Q (.ref t) s) (h2:ws≠[]->Q (.ref s.heap.objs.size) { s with heap:=s.heap.push { cls:=.type "tuple",data:=.seq (vs++ws).toArray } })
    (hsz:vs.length+ws.length<=sizeLine):cF (cC prog w) A (gz .Add (.ref t) (.ref b)) Q E s:=by
  obtain⟨⟨cls,dd,data,sl⟩,ho,hc,n,hd⟩:=id ht;obtain⟨⟨Jv,Hf,data2,Ig⟩,Ho,C8,n2,hd2⟩:=id hb;simp only at hc hd C8 hd2;subst hc hd C8 hd2;have e:vs.toArray++ws.toArray=(vs++ws).toArray:=by simp
  by_cases hw:ws=[]
  · exact zL ⟨_,ho,rfl⟩ ⟨_,Ho,rfl⟩ noFill_tuple_add seq_tuple_add PySem.F.slot_tuple_add PySem.F.entry_tuple_add (PySem.F.args_tuple_add_2 _ _)
      (tuple_addW1 t b vs.toArray ws.toArray n n2 dd Hf sl Ig (by simpa using hv) (by simp[hw])) ⟨ho,Ho,h1 hw⟩
  · refine zL ⟨_,ho,rfl⟩ ⟨_,Ho,rfl⟩ noFill_tuple_add seq_tuple_add PySem.F.slot_tuple_add PySem.F.entry_tuple_add (PySem.F.args_tuple_add_2 _ _)
      (tuple_addW2 t b vs.toArray ws.toArray n n2 dd Hf sl Ig (by simpa using hv) (by simpa using hw) (by rw[cJ,cJ];exact hsz)) ⟨ho,Ho,?_⟩
    rw[e];exact h2 hw
def sIx (n d:Nat):Option Int->Nat
 |none=>d
 |some v=>if v<0 then(v+(n:Int)).toNat else min v.toNat n
theorem sIx_none (n d:Nat):sIx n d none=d:=rfl
theorem sIx_nat (n d k:Nat):sIx n d (some (k:Int))=min k n:=by show(if(k:Int)<0 then((k:Int)+(n:Int)).toNat else min (k:Int).toNat n)=min k n;rw[if_neg (by omega),kj]
end
end HT
namespace L2
open PySem PySem.Spec PyProof.Rows
abbrev TO:=St->Hp->(Option Int->Hp->Prop)->Prop
def PO (X:Cx)(e:Option Expr)(t:TO):Prop :=
 ∀(bX:List (ce×f9)) (s:cq) (σ:St) (H:Hp) (Q:Option Int->Hp->Prop),Inv X bX σ H s->t σ H Q ->
  cF (cC X.prog X.w) X.A (evalPart e X.env) (λu s'=>∃o H',Inv X bX σ H' s'/\IsPart u o/\Q o H') X.xe s
def BY:TO:=λ_ H Q=>Q none H
def GB (t:TE):TO:=λσ H Q=>t σ H λx H1=>∃i,x=.int i/\Q (some i) H1
variable {X:Cx}{e:Expr}{p2 pos:m9}{te:TE}{us:List bV}{xs:List V}
section
variable {lo hi:Option Expr}{tl th:TO}
theorem Zc:PO X none BY:=by intro bX s σ H Q I h;rw[wV];exact cw ⟨none,H,I,.none,h⟩
theorem L7 (h:PE X e te):PO X (some e) (GB te):=by intro bX s σ H Q I hw;rw[evalPart_some];refine fN (h bX s σ H _ I hw) λu s1 gu=>?_;obtain⟨x,H1,I1,r1,q1⟩:=gu;obtain⟨i,rfl,q⟩:=q1;obtain⟨t,rfl⟩:=r1;exact⟨some i,H1,I1,.int i t,q⟩
def Jq (X:Cx)(r:V->Option Int->Option Int->Hp->VK->Prop):Prop :=
 ∀(bX:List (ce×f9)) (s:cq) (σ:St) (H:Hp) (x:V) (v vl vu:bV) (lo hi:Option Int) (sl:ce) (Q:VK),Inv X bX σ H s->RelV x v->s.heap.IsSliceOf sl vl vu .none->IsPart vl lo->IsPart vu hi->r x lo hi H Q ->
  ∃T id,qR (.type T) "__getitem__"=pure (some (.builtin id))/\s.TypeIs v T/\cF (cC X.prog X.w) X.A (pF v (.ref sl)) (EP X bX σ Q) X.xe s
def Uy (r:V->Option Int->Option Int->Hp->VK->Prop)(te:TE)(tl th:TO):TE:=λσ H Q=>te σ H λx H1=>tl σ H1 λl H2=>th σ H2 λu H3=>r x l u H3 Q
theorem O9 {r:V->Option Int->Option Int->Hp->VK->Prop}(hr:Jq X r)(he:PE X e te)(hl:PO X lo tl)(hu:PO X hi th):PE X (.Subscript e (.Slice lo hi none p2) pos) (Uy r te tl th):=by intro bX s σ H Q I h;refine Subscript_ (fN (he bX s σ H _ I h) λv s1 gu=>?_);obtain⟨x,H1,I1,r1,q1⟩:=gu;refine wpAny_Slice (fN (hl bX s1 σ H1 _ I1 q1) λvl s2 ⟨l,H2,I2,pl,q2⟩=>fN (hu bX s2 σ H2 _ I2 q2) λvu s3 gu=>?_);obtain⟨u,H3,I3,pu,q3⟩:=gu;rw[wV];refine cw ?_;have I4:Inv X bX σ H3 { s3 with heap:=s3.heap.push { cls:=.type "slice",data:=.fields #[vl,vu,.none] } }:=I3.kept (t':=s3.toks) λb ob q=>bY _ q;obtain⟨T,id,hT,ht,hg⟩:=hr bX { s3 with heap:=s3.heap.push { cls:=.type "slice",data:=.fields #[vl,vu,.none] } } σ H3 x v vl vu l u s3.heap.objs.size Q I4 r1 (Bs.new ..) pl pu q3;show cF (cC X.prog X.w) X.A (subscriptTail e (.Slice lo hi none p2) v (.ref s3.heap.objs.size)) (EP X bX σ Q) X.xe { s3 with heap:=s3.heap.push { cls:=.type "slice",data:=.fields #[vl,vu,.none] } };exact tail_any (ops:=[.ref s3.heap.objs.size,v]) ht hT hg (by with_unfolding_all rfl)
def yG (xs:List V)(lo hi:Option Int):List V:=(xs.drop (HT.sIx xs.length 0 lo)).take (HT.sIx xs.length xs.length hi-HT.sIx xs.length 0 lo)
theorem VU (xs:List V)(lo hi:Option Int):(yG xs lo hi).length<=xs.length:=by unfold yG;rw[ef,dW];omega
def CD (K:bZ):R2:=λx y H Q=>∃a b xs ys,x=.ref a/\y=.ref b/\oU K H a xs/\oU K H b ys/\xs≠[]/\xs.length+ys.length<=sizeLine /\
 (ys=[]->Q (.ref a) H)/\(ys≠[]->∀p,H p=none->Q (.ref p) (eS H p (.tup (xs++ys))))
theorem dA.nil_iff (r:dA xs us):us=[]↔xs=[]:=by
 cases r with
 |nil=>simp
 |cons _ _=>simp
theorem Zd:lS X (gz .Add) (CD X.K):=by intro bX s σ H x y v u Q I rx ry h;obtain⟨a,b,xs,ys,rfl,rfl,ha,hb,hx,hz,q1,q2⟩:=h;cases rx;cases ry;obtain⟨dJ,r1,p1,_⟩:=I.tuple ha;obtain⟨qO,r2,p2,_⟩:=I.tuple hb;refine HT.cat_tup p1 p2 (λz=>hx (r1.nil_iff.mp z)) (λz=>⟨.ref a,H,I,rfl,q1 (r2.nil_iff.mp z)⟩) (λz=>?_) (by rw[←r1.length,←r2.length];exact hz);refine⟨.ref s.heap.objs.size,_,I.laid (t':=s.toks) (o:=.tup (xs++ys)) (λb ob q=>bY _ q) (cI _) ?_,rfl,q2 (λw=>z (r2.nil_iff.mpr w)) _ (I.hok.fresh (cI _))⟩;exact⟨by rw[cp];exact hz,_,r1.append r2,IsTup.new _ _⟩
end
def ixN (n:Nat)(i:Int):Option Nat:=if 0<=i then(if i<n then some i.toNat else none)else if -(n:Int)<=i then some (i+n).toNat else none
variable {α:Type}
def atI (xs:List α)(i:Int):Option α:=(ixN xs.length i).bind λj=>xs[j]?
variable {j n:Nat}
theorem PQ {i:Int}(h:ixN n i=some j):seqIndex? i n=some j/\j<n/\-(n:Int)<=i/\i<n:=by
 unfold ixN at h;by_cases h0:0<=i
 ·rw[if_pos h0]at h;by_cases h1:i<n
  ·rw[if_pos h1]at h;have e:i.toNat=j:=Option.some.inj h;exact⟨by rw[sU h0 h1,e],by omega,by omega,h1⟩
  ·rw[if_neg h1]at h;cases h
 ·rw[if_neg h0]at h;by_cases h1:-(n:Int)<=i
  ·rw[if_pos h1]at h;have e:(i+n).toNat=j:=Option.some.inj h;exact⟨by rw[rJ (by omega) h1,e],by omega,h1,by omega⟩
  ·rw[if_neg h1]at h;cases h
theorem Iw {xs:List α}{i:Int}{v:α}(h:atI xs i=some v):∃j,seqIndex? i xs.length=some j/\xs[j]?=some v/\j<xs.length/\-(xs.length:Int)<=i/\i<xs.length:=by
 unfold atI at h;cases e:ixN xs.length i with
 |none=>rw[e]at h;cases h
 |some j=>rw[e]at h;obtain⟨h1,h2,h3,h4⟩:=PQ e;exact⟨j,h1,h,h2,h3,h4⟩
theorem ye {xs:List α}{v:α}(h:xs[j]?=some v):atI xs (j:Int)=some v:=by
 have hj:j<xs.length:=(cM.mp h).1;have e:ixN xs.length (j:Int)=some j:=by unfold ixN;rw[if_pos (by omega),if_pos (by omega)];simp
 unfold atI;rw[e];exact h
def qS (b:Expr):Prop:=∀o i,sV b false o i=operate [o,i] (pF o i)
def Bb (X:Cx)(r:R2):Prop :=
 ∀(value slice:Expr) (bX:List (ce×f9)) (s:cq) (σ:St) (H:Hp) (x y:V) (v u:bV) (Q:VK),Inv X bX σ H s->RelV x v->RelV y u->r x y H Q ->
  sV slice false v u=operate [v,u] (pF v u)->cF (cC X.prog X.w) X.A (subscriptTail value slice v u) (EP X bX σ Q) X.xe s
def DY (X:Cx)(id:String)(r:V->List V->Hp->VK->Prop):Prop :=
 ∀(bX:List (ce×f9)) (s:cq) (σ:St) (H:Hp) (x:V) (xs:List V) (v:bV) (us:List bV) (Q:VK),Inv X bX σ H s->RelV x v->dA xs us->r x xs H Q ->
  cF (cC X.prog X.w) X.A (call (.builtin id) (v::us)) (EP X bX σ Q) X.xe s
variable {H:Hp}{gq:m9}{es:List Expr}{dJ:List bV}{name:Str}{o:Expr}{bX:List (ce×f9)}{r:R2}{s:cq}{ta tb to:TE}{u:bV}{y:V}{ys:List V}{σ:St}
section
variable {a b:Expr}
theorem Bb.or {r':R2}(h:Bb X r)(h':Bb X r'):Bb X (λx y H Q=>r x y H Q\/r' x y H Q):=by
 intro value slice bX s σ H x y v u Q I rx ry q hs;rcases q with q|q
 ·exact h value slice bX s σ H x y v u Q I rx ry q hs
 ·exact h' value slice bX s σ H x y v u Q I rx ry q hs
theorem zvs (hr:Bb X r)(ha:PE X a ta)(hb:PE X b tb)(hs:qS b):PE X (.Subscript a b pos) (Ii r ta tb):=by intro bX s σ H Q I h;exact Subscript_ (CZ ha hb I h λv u s2 x y H2 I2 rx ry q=>hr a b bX s2 σ H2 x y v u Q I2 rx ry q (hs _ _))
def Gh (K:bZ):R2:=λx y H Q=>∃p xs i v,x=.ref p/\y=.int i/\gZ K H p xs/\atI xs i=some v/\Q v H
def Gj (K:bZ):R2:=λx y H Q=>∃p xs i v,x=.ref p/\y=.int i/\oU K H p xs/\atI xs i=some v/\Q v H
def Gi:R2:=λx y H Q=>∃z i c,x=.str z/\y=.int i/\z.length<=sizeLine/\atI z.cps.toList i=some c/\Q (.str ⟨#[c]⟩) H
theorem Ze:Bb X (Gh X.K):=by
 intro value slice bX s σ H x y v u Q I rx ry h hs;obtain⟨p,xs,i,z,rfl,rfl,hq,he,q⟩:=h;cases rx;obtain⟨t,rfl⟩:=ry;obtain⟨dJ,r,pl,hz⟩:=I.list hq;obtain⟨j,h1,h2,h3,h4,h5⟩:=Iw he;obtain⟨w,ew,tM⟩:=r.get h2;have hl:=r.length;have hn:=oM;have fin:EP X bX σ Q w s:=⟨z,H,I,tM,q⟩;by_cases h0:0<=i
 ·have hj:i.toNat=j:=by rw[sU h0 h5]at h1;exact Option.some.inj h1
  exact item_listR pl.isList h0 (by omega) (by rw[hj];simpa using ew) fin hs
 ·have hj:(i+(dJ.toArray.size:Int)).toNat=j:=by rw[rJ (by omega) h4]at h1;rw[cJ,←hl];exact Option.some.inj h1
  exact subscriptTail_builtinR (x:=w) pl.isList.typeIs rK.lookup
   (wpAny_getItem_list_neg (Q:=λr s'=>r=w/\EP X bX σ Q r s') pl.isList (by omega) (by rw[cJ]<;>omega) (by omega) (by rw[hj];simpa using ew) ⟨rfl,fin⟩) hs
theorem ztk:Bb X (Gj X.K):=by
 intro value slice bX s σ H x y v u Q I rx ry h hs;obtain⟨p,xs,i,z,rfl,rfl,hq,he,q⟩:=h;cases rx;obtain⟨t,rfl⟩:=ry;obtain⟨dJ,r,pl,hz⟩:=I.tuple hq;obtain⟨j,h1,h2,h3,h4,h5⟩:=Iw he;obtain⟨w,ew,tM⟩:=r.get h2;have hl:=r.length;have hn:=oM;have fin:EP X bX σ Q w s:=⟨z,H,I,tM,q⟩;exact subscriptTail_builtinR (x:=w) pl.typeIs slot_tuple_getitem.lookup
  (getItem_tuple (j:=j) (Q:=λr s'=>r=w/\EP X bX σ Q r s') pl (by omega) (by omega) (by rw[cJ,←hl];exact h1) (by simpa using ew) ⟨rfl,fin⟩) hs
theorem tF:Bb X Gi:=by
 intro value slice bX s σ H x y v u Q I rx ry h hs;obtain⟨z,i,c,rfl,rfl,hz,he,q⟩:=h;obtain⟨t,rfl⟩:=rx;obtain⟨t',rfl⟩:=ry;obtain⟨j,h1,h2,h3,h4,h5⟩:=Iw he;have hl:z.cps.toList.length=z.length:=by simp[Str.length]
 rw[hl]at h1 h4 h5;have hn:=oM;exact tail_any (typeIs_str s z t) slot_str_getitem.lookup (getItem_str (c:=c) (by have e1:decide (i < -(2 ^ 63:Int))=false:=decide_eq_false (by omega);have e2:decide (i >= 2 ^ 63)=false:=decide_eq_false (by omega);rw[e1,e2,sS]) (by rw[h1];simpa using h2) ⟨.str ⟨#[c]⟩,H,I.tok _,⟨_,rfl⟩,q⟩) hs
def NS (K:bZ):R2:=λx y H Q=>Gh K x y H Q\/Gj K x y H Q\/Gi x y H Q
theorem QM:Bb X (NS X.K):=Ze.or (ztk.or tF)
theorem Wb (dJ:List bV)(n j:Nat)(u:bV):f9.mapSeq (·.setIfInBounds j u) { cls:=.type "list",data:=.seq dJ.toArray n } = { cls:=.type "list",data:=.seq (dJ.set j u).toArray n }:=by simp[f9.mapSeq]
theorem Inv.lst {p:ce}(I:Inv X bX σ H s)(h:H p=some (.lst xs)) :
    ∃(dJ:List bV) (n:Nat),dA xs dJ/\s.heap.get? p=some { cls:=.type "list",data:=.seq dJ.toArray n }/\xs.length<=sizeLine:=by
  obtain⟨z,dJ,n,r,e⟩:=I.hok p _ h;exact⟨dJ,n,r,e,z⟩
theorem Inv.lstUpd {p:ce}{its':List bV}{n':Nat}{f:f9->f9}(I:Inv X bX σ H s)(h:H p=some (.lst xs))
    (ho:s.heap.get? p=some { cls:=.type "list",data:=.seq dJ.toArray n }) (hf:f { cls:=.type "list",data:=.seq dJ.toArray n } = { cls:=.type "list",data:=.seq its'.toArray n' }) (r:dA ys its') (hz:ys.length<=sizeLine) (t:Nat) :
    Inv X bX σ (eS H p (.lst ys)) { s with heap:=s.heap.update p f,toks:=t }:=by
  have e:(s.heap.update p f).get? p=some { cls:=.type "list",data:=.seq its'.toArray n' }:=by rw[eZ f ho (by rw[hf]<;>rfl),hf]
  refine I.write (x:=p) (e:=p) (by rw[h];trivial) (.inl rfl) (λb u hb q=>(eR _ _ (Ne.symm hb)).trans q) ⟨_,e⟩ ?_;exact⟨hz,its',n',r,e⟩
def Gn:V->V->V->Hp->(Hp->Prop)->Prop:=λo i v H Q=>∃p xs k j,o=.ref p/\i=.int k/\H p=some (.lst xs)/\ixN xs.length k=some j/\Q (eS H p (.lst (xs.set j v)))
theorem X3:E6 X Gn:=by
 intro bX s σ H o i v ov iv u Q I ro ri rv h;obtain⟨p,xs,k,j,rfl,rfl,hp,hj,q⟩:=h;cases ro;obtain⟨t,rfl⟩:=ri;obtain⟨dJ,n,r,ho,hz⟩:=I.lst hp;obtain⟨h1,h2,h3,h4⟩:=PQ hj;have hl:=r.length;have hn:=oM;have I':Inv X bX σ (eS H p (.lst (xs.set j v))) { s with heap:=s.heap.update p (f9.mapSeq (·.setIfInBounds j u)) } :=
  I.lstUpd hp ho (Wb dJ n j u) (r.set rv j) (by rw[AX];exact hz) s.toks
 by_cases h0:0<=k
 ·have hk:k.toNat=j:=by rw[sU h0 h4]at h1;exact Option.some.inj h1
  exact PySem.W.ki_setAt ho h0 (by omega) (by rw[cJ,←hl];exact h4) (by rw[hk];exact⟨_,I',q⟩)
 ·have hk:(k+(dJ.toArray.size:Int)).toNat=j:=by rw[rJ (by omega) h3]at h1;rw[cJ,←hl];exact Option.some.inj h1
  exact PySem.W.ki_setBack ho (by omega) (by rw[cJ,←hl];exact h3) (by omega) (by rw[hk];exact⟨_,I',q⟩)
theorem Vu (lo hi:Option Int)(n:Nat):(kA lo hi none n).1=((HT.sIx n 0 lo:Nat):Int)/\(kA lo hi none n).2.1=((HT.sIx n n hi:Nat):Int)/\(kA lo hi none n).2.2=1:=by
 refine⟨?_,?_,rfl⟩
 ·cases lo with
  |none=>simp[kA,HT.sIx]
  |some i=>
   simp only[kA,HT.sIx,xT,show(1:Int) > 0 by decide,if_true];by_cases h:i<0
   ·simp only[h,if_true]<;>omega
   ·simp only[h,if_false]<;>omega
 ·cases hi with
  |none=>simp[kA,HT.sIx]
  |some i=>
   simp only[kA,HT.sIx,xT,show(1:Int) > 0 by decide,if_true];by_cases h:i<0
   ·simp only[h,if_true]<;>omega
   ·simp only[h,if_false]<;>omega
theorem Vp (dJ:List bV)(lo hi:Option Int):slicePick dJ.toArray lo hi none=((dJ.drop (HT.sIx dJ.length 0 lo)).take (HT.sIx dJ.length dJ.length hi-HT.sIx dJ.length 0 lo)).toArray:=by obtain⟨h1,h2,h3⟩:=Vu lo hi dJ.toArray.size;unfold slicePick;rw[h1,h2,h3];simp only[sliceRange_one,pick_run,cJ]<;>rfl
def KY (K:bZ):V->Option Int->Option Int->Hp->VK->Prop:=λx lo hi H Q=>∃a xs,x=.ref a/\gZ K H a xs/\∀p,H p=none->Q (.ref p) (eS H p (.lst (yG xs lo hi)))
theorem Zf:Jq X (KY X.K):=by intro bX s σ H x v vl vu lo hi sl Q I rx hs pl pu h;obtain⟨a,xs,rfl,hx,q⟩:=h;cases rx;obtain⟨dJ,r,ht,hz⟩:=I.list hx;have ki:=r.length;refine⟨"list",_,rK.lookup,ht.isList.typeIs,?_⟩;refine wpAny_getItem_list_slice ht.isList hs pl pu .none (by simp) ?_ (by rw[cJ]<;>omega);rw[Vp,←ki];refine⟨.ref s.heap.objs.size,_,I.laid (t':=s.toks) (o:=.lst (yG xs lo hi)) (λb ob q=>bY _ q) (cI _) ?_,rfl,q _ (I.hok.fresh (cI _))⟩;exact⟨d9 (VU xs lo hi) hz,_,0,(r.drop (HT.sIx xs.length 0 lo)).take (HT.sIx xs.length xs.length hi-HT.sIx xs.length 0 lo),cO _ rfl⟩
def mL:V->Bool
 |.non=>true
 |.bl _=>true
 |.int _=>true
 |.str _=>true
 |_=>false
def yI:V->V->Bool
 |.non,.non=>true
 |.bl a,.bl b=>a==b
 |.bl a,.int b=>(if a then 1 else 0)==b
 |.int a,.bl b=>a==(if b then 1 else 0)
 |.int a,.int b=>a==b
 |.str a,.str b=>a==b
 |_,_=>false
theorem ztl {A:c7}{x:V}{v:bV}(ry:RelV y u)(rx:RelV x v)(fy:mL y=true)(fx:mL x=true):SeqAt.EqAt A s u v (yI y x):=by
 cases y with
 |non=>
  cases ry;cases x with
  |non=>cases rx;exact SeqAt.EqAt.same _
  |bl b=>cases rx;exact SeqAt.EqAt.none_bool b
  |int b=>obtain⟨t,rfl⟩:=rx;exact SeqAt.EqAt.none_int b t
  |str b=>obtain⟨t,rfl⟩:=rx;exact SeqAt.EqAt.none_str b t
  |_=>exact absurd (show false=true from fx) cD
 |bl a=>
  cases ry;cases x with
  |non=>cases rx;exact SeqAt.EqAt.bool_none a
  |bl b=>cases rx;exact SeqAt.EqAt.bool_bool a b
  |int b=>obtain⟨t,rfl⟩:=rx;exact SeqAt.EqAt.bool_int a b t
  |str b=>obtain⟨t,rfl⟩:=rx;exact SeqAt.EqAt.bool_str a b t
  |_=>exact absurd (show false=true from fx) cD
 |int a=>
  obtain⟨t',rfl⟩:=ry;cases x with
  |non=>cases rx;exact SeqAt.EqAt.int_none a t'
  |bl b=>cases rx;exact SeqAt.EqAt.int_bool a t' b
  |int b=>obtain⟨t,rfl⟩:=rx;exact SeqAt.EqAt.int_int a t' b t
  |str b=>obtain⟨t,rfl⟩:=rx;exact SeqAt.EqAt.int_str a t' b t
  |_=>exact absurd (show false=true from fx) cD
 |str a=>
  obtain⟨t',rfl⟩:=ry;cases x with
  |non=>cases rx;exact SeqAt.EqAt.str_none a t'
  |bl b=>cases rx;exact SeqAt.EqAt.str_bool a t' b
  |int b=>obtain⟨t,rfl⟩:=rx;exact SeqAt.EqAt.str_int a t' b t
  |str b=>obtain⟨t,rfl⟩:=rx;exact SeqAt.EqAt.str_str a t' b t
  |_=>exact absurd (show false=true from fx) cD
 |_=>exact absurd (show false=true from fy) cD
def zS (x:V)(u:bV):Bool:=match u with
 |.none=>yI .non x
 |.bool b=>yI (.bl b) x
 |.int i _=>yI (.int i) x
 |.str z _=>yI (.str z) x
 |_=>false
theorem Mn {x:V}(r:RelV y u)(f:mL y=true):zS x u=yI y x:=by
 cases y with
 |non=>cases r;rfl
 |bl b=>cases r;rfl
 |int i=>obtain⟨t,rfl⟩:=r;rfl
 |str z=>obtain⟨t,rfl⟩:=r;rfl
 |_=>exact absurd (show false=true from f) cD
theorem L8 {x:V}:∀{xs:List V} {us:List bV},dA xs us->xs.all mL=true->us.any (zS x)=xs.any λy=>yI y x
 |_,_,.nil,_=>rfl
 |y::xs,u::us,.cons r t,f=>by rw[gp,cx]at f;rw[ip,ip,Mn r f.1,L8 t f.2]
theorem qk {A:c7}{s:cq}{x:V}{v:bV}(rx:RelV x v)(fx:mL x=true):∀{xs:List V} {us:List bV},dA xs us->xs.all mL=true->∀u∈us,SeqAt.EqAt A s u v (zS x u)
 |_,_,.nil,_=>λu hu=>by cases hu
 |y::xs,u::us,.cons r t,f=>λu' hu=>by
  rw[gp,cx]at f;rcases cn.mp hu with rfl|hu
  ·rw[Mn r f.1];exact ztl r rx f.1 fx
  ·exact qk rx fx t f.2 u' hu
def HB (x:V)(xs:List V):Bool:=xs.any λy=>yI y x
def NR (K:bZ)(neg:Bool):R2:=λx y H Q=>∃p xs,y=.ref p/\(gZ K H p xs\/oU K H p xs)/\mL x=true/\xs.all mL=true/\Q (.bl (if neg then !HB x xs else HB x xs)) H
theorem vf:lS X (gk .NotIn) (NR X.K true):=by
 intro bX s σ H x y v u Q I rx ry h;obtain⟨p,xs,rfl,hq,fx,fs,q⟩:=h;cases ry;rcases hq with hq|hq
 ·obtain⟨dJ,r,pl,hz⟩:=I.list hq;refine SeqAt.notIn_listAt (zS x) pl.isList (λw hw=>qk rx fx r fs w (by simpa using hw)) ⟨.bl _,H,I,rfl,?_⟩;rw[show dJ.toArray.any (zS x)=dJ.any (zS x)by simp,L8 r fs];exact q
 ·obtain⟨dJ,r,pl,hz⟩:=I.tuple hq;refine SeqAt.notIn_tupleAt (zS x) pl (λw hw=>qk rx fx r fs w (by simpa using hw)) ⟨.bl _,H,I,rfl,?_⟩;rw[show dJ.toArray.any (zS x)=dJ.any (zS x)by simp,L8 r fs];exact q
theorem Vv:iq X (.builtin "len") (λxs H Q=>∃p ys,xs=[.ref p]/\(gZ X.K H p ys\/oU X.K H p ys)/\Q (.int ys.length) H):=by
 intro bX s σ H xs us Q I r h;obtain⟨p,ys,rfl,hq,q⟩:=h;obtain⟨u,rfl,rx⟩:=p9 r;cases rx;have hn:=oM;rcases hq with hq|hq
 ·obtain⟨dJ,r',pl,hz⟩:=I.list hq;have ki:=r'.length;exact Calls.call_len_list pl.isList (by simp only[cJ]<;>omega) ⟨.int ys.length,H,I.tok _,⟨s.toks+1,by rw[cJ,ki]⟩,q⟩
 ·obtain⟨dJ,r',pl,hz⟩:=I.tuple hq;have ki:=r'.length;exact len_tuple pl (by simp only[cJ]<;>omega) ⟨.int ys.length,H,I.tok _,⟨s.toks+1,by rw[cJ,ki]⟩,q⟩
theorem Vw:iq X (.builtin "len") (λxs H Q=>∃z,xs=[.str z]/\z.length<=sizeLine/\Q (.int z.length) H):=by intro bX s σ H xs us Q I r h;obtain⟨z,rfl,hz,q⟩:=h;obtain⟨u,rfl,t,rfl⟩:=p9 r;have hn:=oM;exact len_str (by omega) ⟨.int z.length,H,I.tok _,⟨_,rfl⟩,q⟩
theorem iq.or {f:bV}{r r':List V->Hp->VK->Prop}(h:iq X f r)(h':iq X f r'):iq X f (λxs H Q=>r xs H Q\/r' xs H Q):=by
 intro bX s σ H xs us Q I rs q;rcases q with q|q
 ·exact h bX s σ H xs us Q I rs q
 ·exact h' bX s σ H xs us Q I rs q
theorem vg:iq X (.type "list") (λxs H Q=>∃p ys,xs=[.ref p]/\(gZ X.K H p ys\/oU X.K H p ys)/\∀l,H l=none->Q (.ref l) (eS H l (.lst ys))):=by
  intro bX s σ H xs us Q I r h;obtain⟨p,ys,rfl,hq,q⟩:=h;obtain⟨u,rfl,rx⟩:=p9 r;cases rx;have fin:∀(dJ:List bV),dA ys dJ->ys.length<=sizeLine->∀(h':cB) (c':Nat),(∀b o',s.heap.get? b=some o'->h'.get? b=some o') ->
      h'.get? s.heap.objs.size=some { cls:=.type "list",dict:=none,data:=.seq dJ.toArray c',slots:=#[] }->EP X bX σ Q (.ref s.heap.objs.size) { s with heap:=h' }:=λdJ r' hz h' c' kp e=>
    ⟨.ref s.heap.objs.size,_,I.laid (t':=s.toks) kp (cI _) (show gM X.prog X.w _ h' _ (.lst ys)from⟨hz,dJ,c',r',e⟩),rfl,q _ (I.hok.fresh (cI _))⟩
  rcases hq with hq|hq
  · obtain⟨dJ,r',pl,hz⟩:=I.list hq;have ki:=r'.length;obtain⟨o,ho,hc,n,hd⟩:=pl.isList;exact call_list_seq p (.inl rfl) ho hc hd (λh' c' kp e=>fin dJ r' hz h' c' kp e) (by simp only[cJ]<;>omega)
  · obtain⟨dJ,r',pl,hz⟩:=I.tuple hq;have ki:=r'.length;obtain⟨o,ho,hc,n,hd⟩:=pl;exact call_list_seq p (.inr rfl) ho hc hd (λh' c' kp e=>fin dJ r' hz h' c' kp e) (by simp only[cJ]<;>omega)
def Lr (K:bZ)(T:String)(x:V)(H:Hp):Prop:=match x with
 |.str _=>T = "str"
 |.int _=>T = "int"
 |.ref p=>(T = "list"/\∃xs,gZ K H p xs)\/(T = "tuple"/\∃o,K.lookup p=some o/\o.cls=.type "tuple"/\o.dict=none) \/
   (T = "dict"/\((∃eQ,H p=some (.dK eQ))\/∃eQ,H p=some (.dT eQ)))\/(T = "set"/\∃S n,H p=some (.set S n))
 |_=>False
theorem QN {T:String}{x:V}{v:bV}(I:Inv X bX σ H s)(r:RelV x v)(ty:Lr X.K T x H) :
  s.TypeIs v T/\∀a,v=.ref a->∃ob,s.heap.get? a=some ob/\ob.dict=none:=by
 cases x with
 |str z=>obtain⟨t,rfl⟩:=r;cases(show T = "str" from ty);exact⟨typeIs_str s z t,λ_ e=>nomatch e⟩
 |int i=>obtain⟨t,rfl⟩:=r;cases(show T = "int" from ty);exact⟨Cb s i t,λ_ e=>nomatch e⟩
 |ref p=>
  cases r;rcases ty with⟨rfl,xs,hq⟩|⟨rfl,o,hk,hc,hd⟩|⟨rfl,hk⟩|⟨rfl,S,n,hk⟩
  ·obtain⟨dJ,_,pl,_⟩:=I.list hq;refine⟨pl.isList.typeIs,λa e=>?_⟩;cases e;obtain⟨o,n,e,c,hd,_⟩:=pl;exact⟨o,e,hd⟩
  ·refine⟨⟨o,I.kIn p o hk,hc⟩,λa e=>?_⟩;cases e;exact⟨o,I.kIn _ o hk,hd⟩
  ·have z:∃o,s.heap.get? p=some o/\o.ExactDict:=by
    rcases hk with⟨eQ,hk⟩|⟨eQ,hk⟩
    ·obtain⟨_,_,_,_,o,_,_,e,ex,_⟩:=I.hok p _ hk;exact⟨o,e,ex⟩
    ·obtain⟨_,_,_,_,o,_,_,e,ex,_⟩:=I.hok p _ hk;exact⟨o,e,ex⟩
   obtain⟨o,e,ex⟩:=z;refine⟨⟨o,e,ex.1⟩,λa e2=>?_⟩;cases e2;exact⟨o,e,ex.2.1⟩
  ·obtain⟨o,_,_,_,e,ex,_⟩:=I.hok p _ hk;refine⟨⟨o,e,ex.1⟩,λa e2=>?_⟩;cases e2;exact⟨o,e,ex.2.1⟩
 |_=>exact False.elim ty
def Lb (K:bZ)(T:String)(r:V->List V->Hp->VK->Prop)(to:TE):TE:=λσ H Q=>to σ H λx H1=>Lr K T x H1/\r x [] H1 Q
def Uv (K:bZ)(T:String)(r:V->List V->Hp->VK->Prop)(to:TE)(t:TA):TE:=λσ H Q=>to σ H λx H1=>Lr K T x H1/\t σ H1 λxs H2=>r x xs H2 Q
variable {t:TA}{gU:m9}{T id:String}{r:V->List V->Hp->VK->Prop}
theorem ztm (pa:PlainAttrs T)(slot:Slot T name id)(Kr:typeOf (.builtin id)=pure (.type "method_descriptor"))(hm:DY X id r)(ho:PE X o to)
  (lD:Ag X o name:=by rfl) (lE:(gq.endLine==gU.line)=true:=by rfl):PE X (.Call (.Attribute o name gq) [] [] gU) (Lb X.K T r to):=by
 intro bX s σ H Q I h;refine wpAny_Call_method0_late lD lE (fN (ho bX s σ H _ I h) λv s1 gu=>?_);obtain⟨x,H1,I1,r1,ty,q1⟩:=gu;obtain⟨h1,h2⟩:=QN I1 r1 ty;exact⟨T,id,pa,slot,Kr,h1,h2,Calls.callWith_builtin rfl (PySem.evalArgs_none (hm bX s1 σ H1 x [] v [] Q I1 r1 .nil q1))⟩
theorem G1 (pa:PlainAttrs T)(slot:Slot T name id)(Kr:typeOf (.builtin id)=pure (.type "method_descriptor"))(hm:DY X id r)(ho:PE X o to)(ha:PA X (e::es) t)
  (lD:Ag X o name:=by rfl)
  (rm:DW X gU (e::es):=by rfl)
  (lE:(gq.endLine==gU.line)=true:=by rfl) (hs:SE X e es:=by rfl) (lF:oa X gU es:=by rfl) :
  PE X (.Call (.Attribute o name gq) (e::es) [] gU) (Uv X.K T r to t):=by
 intro bX s σ H Q I h;refine wpAny_Call_method_late lD rm lE rfl (fN (ho bX s σ H _ I h) λv s1 gu=>?_);obtain⟨x,H1,I1,r1,ty,q1⟩:=gu;obtain⟨h1,h2⟩:=QN I1 r1 ty;refine⟨T,id,pa,slot,Kr,h1,h2,?_⟩;have hA:=ha gU bX s1 σ H1 _ I1 q1;rw[hs]at hA ⊢;refine Calls.callWith_builtin (by show(false || (jM gU (c9 es X.env)).any (·.1))=false;rw[lF]<;>rfl) (Calls.evalArgs_plain ?_);exact fN hA λus s2 ⟨vs,H2,I2,r2,q2⟩=>hm bX s2 σ H2 x vs v us Q I2 r1 r2 q2
end
def MW (X:Cx)(id:String)(r:V->List V->Hp->VK->Prop):Prop :=
 ∀(bX:List (ce×f9)) (s:cq) (σ:St) (H:Hp) (x:V) (xs:List V) (v:bV) (us:List bV) (Q:VK),Inv X bX σ H s->RelV x v->dA xs us->r x xs H Q ->
  cF (cC X.prog X.w) X.A (call (.builtin id) (v::us)) (EP X bX σ Q) X.xe s
theorem dA.one:∀{x:V} {us:List bV},dA [x] us->∃u,us=[u]/\RelV x u
 |_,_,.cons r .nil=>⟨_,rfl,r⟩
theorem dA.rep {xs:List V}{us:List bV}(h:dA xs us):∀k:Nat,dA (cE k xs).flatten (cE k us).flatten
 |0=>.nil
 |k+1=>by rw[eE,eE,iw,iw];exact dA.append h (dA.rep h k)
theorem foldl_rep (dJ:List bV):∀(k:Nat) (jR:List bV),
  xP (λx1 x2=>x1++x2) jR.toArray (cE k dJ.toArray)=(jR++(cE k dJ).flatten).toArray
 |0,jR=>by simp
 |k+1,jR=>by
  have e:jR.toArray++dJ.toArray=(jR++dJ).toArray:=by simp
  have e2:(jR++dJ)++(cE k dJ).flatten=jR++(cE (k+1) dJ).flatten:=by rw[eE,iw,eh]
  rw[←e2,←foldl_rep dJ k (jR++dJ),←e,eE,nD]
variable {b:ce}{t':Nat}
section
variable {l:ce}{zs:List V}
theorem Inv.lset {its':List bV}{f:Array bV->Array bV}(I:Inv X bX σ H s)(hH:H l=some (.lst xs))
    (e:s.heap.get? l=some { cls:=.type "list",data:=.seq dJ.toArray n }) (hf:f dJ.toArray=its'.toArray) (hv:dA ys its') (hz:ys.length<=sizeLine) :
    Inv X bX σ (eS H l (.lst ys)) { s with heap:=s.heap.update l (f9.mapSeq f),toks:=t' }:=by
  have q:=PySem.IsL.update e f;rw[hf]at q;refine I.write (x:=l) (e:=l) (by rw[hH];exact trivial) (.inl rfl) (λb' u hb hu=>(eR s.heap (f9.mapSeq f) (Ne.symm hb)).trans hu) ⟨_,q⟩ ?_;exact⟨hz,its',_,hv,q⟩
theorem Inv.lnew (I:Inv X bX σ H s)(hv:dA ys dJ)(hz:ys.length<=sizeLine) :
    Inv X bX σ (eS H s.heap.objs.size (.lst ys)) { s with heap:=s.heap.push { cls:=.type "list",data:=.seq dJ.toArray },toks:=t' } :=
  I.laid (λ_ _ q=>bY _ q) (cI _) ⟨hz,dJ,0,hv,cO _ rfl⟩
theorem Inv.fresh (I:Inv X bX σ H s):H s.heap.objs.size=none:=I.hok.fresh (cI _)
theorem Inv.lstM (I:Inv X bX σ H s)(hH:H l=some (.lst xs)):xs.length<=sizeLine/\∃(dJ:List bV) (n:Nat),dA xs dJ/\xs.length=dJ.length/\s.heap.get? l=some { cls:=.type "list",data:=.seq dJ.toArray n }:=by obtain⟨z,dJ,n,r,e⟩:=I.hok l _ hH;exact⟨z,dJ,n,r,r.length,e⟩
theorem uI (h:n<=sizeLine):Builtin.List.listTooLong n=false:=by unfold Builtin.List.listTooLong;exact decide_eq_false (by omega)
end
def BU:V->List V->Hp->VK->Prop:=λx vs H Q=>∃l xs y,x=.ref l/\vs=[y]/\H l=some (.lst xs)/\xs.length<sizeLine/\Q .non (eS H l (.lst (xs++[y])))
theorem Oy:MW X "list.append" BU:=by intro bX s σ H x vs v us Q I rx rv h;obtain⟨l,xs,y,rfl,rfl,hH,hz,q⟩:=h;cases rx;obtain⟨u,rfl,ru⟩:=rv.one;obtain⟨z,dJ,n,r,hl,e⟩:=I.lstM hH;refine lq F.slot_list_append ⟨_,e,rfl⟩ F.entry_list_append (F.args_list_append_2 _ _) (PySem.list_append l dJ.toArray n u (by rw[cJ];omega)) ⟨e,?_⟩;refine⟨.non,_,I.lset (its':=dJ++[u]) hH e (by simp) (r.append (.cons ru .nil)) ?_,rfl,q⟩;rw[cp,eG];omega
def BV:V->List V->Hp->VK->Prop:=λx vs H Q=>∃l b xs zs,x=.ref l/\vs=[.ref b]/\H l=some (.lst xs)/\H b=some (.lst zs)/\xs.length+zs.length<=sizeLine/\Q .non (eS H l (.lst (xs++zs)))
theorem WN:MW X "list.extend" BV:=by
 intro bX s σ H x vs v us Q I rx rv h;obtain⟨l,b,xs,zs,rfl,rfl,hH,hB,hz,q⟩:=h;cases rx;obtain⟨u,rfl,ru⟩:=rv.one;cases ru;obtain⟨z,dJ,n,r,hl,e⟩:=I.lstM hH;obtain⟨z2,qO,n2,r2,rO,e2⟩:=I.lstM hB;have hsz:dJ.toArray.size+qO.toArray.size<=sizeLine:=by rw[cJ,cJ];omega
 have AC:¬(!dJ.toArray.isEmpty&&Builtin.List.listTooLong (dJ.toArray.size+qO.toArray.size))=true:=by rw[uI hsz,rR];exact cD
 refine lq F.slot_list_extend ⟨_,e,rfl⟩ F.entry_list_extend (F.args_list_extend_2 _ _)
  (AutoSeq1.list_extend_list_list_0 l dJ.toArray n b qO.toArray n2 AC (by rw[cJ];omega) (by omega)) ⟨e,e2,?_⟩
 refine⟨.non,_,I.lset (its':=dJ++qO) hH e (by simp) (r.append r2) ?_,rfl,q⟩;rw[cp];omega
theorem Zg (xs:List α)(k:Nat):(cE k xs).flatten.length=k*xs.length:=by
 induction k with
 |zero=>simp
 |succ k ih=>rw[eE,iw,cp,ih,uR,Nat.add_comm]
variable {E:bV->cq->Prop}
end L2
namespace Att
open PySem PySem.W PySem.Calls PyProof.Rows
theorem U3 {P:Params}{h:cB}:∀(ns:List Int) (vs:List bV),WellAll P h vs (ns.map WData.int)->IntsAre vs ns:=by
 intro ns;induction ns with
 |nil=>intro vs w;rw[List.map_nil]at w;cases w;exact .nil
 |cons n ns ih=>
  intro vs w;rw[cL]at w;cases w with
  |cons a b=>cases a;exact .cons _ _ (ih _ b)
theorem WO {l:OpenLaw}{n:Nat}(hn:l.most=some n){P:Params}{h:cB}{args:List WData}{vals:List bV}
    (BL:l.row.toRowW.claim.pre args=true) (FH:WellAll P h vals args) :
    ∃a vs ns,vals=[bV.ref a]/\args=[WData.list (ns.map WData.int)]/\h.get? a=some { cls:=.type "list",data:=.seq vs.toArray }/\IntsAre vs ns/\ns.length<=n:=by
  have TB:WShape.hasAll [] args [.list .int]=true:=(pre_splitW BL).1;have hc:l.pre.holds [] { args:=args }=true:=(pre_splitW BL).2;obtain⟨d,r,rfl,h1,h2⟩:=hasAllW_cons TB;obtain rfl:=hasAllW_nil h2;obtain⟨xs,rfl,h3⟩:=hasW_list h1;obtain⟨ns,rfl⟩:=items_int h3;have ki:ns.length<=n:=by
    unfold OpenLaw.pre at hc;have h4:(WTm.not (.lt (.lit (.int (n:Int))) (.len (.arg 0)))).holds [] { args:=[.list (ns.map .int)] }=true:=by have h4:=(holds_andW hc).1;rw[hn]at h4;exact h4
    have h5:=condW_of h4 (w_not (w_lt w_lit (w_len_list (w_arg rfl))));rw[ck]at h5;refine Nat.le_of_not_lt λq=>?_;have q':(n:Int)<((ns.length:Nat):Int):=by omega
    first
      |(rw[decide_eq_true q']at h5;exact absurd h5 (by decide))
      |(simp at h5;omega)
  cases FH with
  |cons w1 w2=>
    cases w2;cases w1 with
    |list ho JL=>exact⟨_,_,ns,rfl,rfl,ho,U3 ns _ JL,ki⟩
theorem WP (l:OpenLaw)(args:List WData):l.row.toRowW.claim.post args (.bool true) args=true :=
  postW_of (r:=l.row.toRowW) (X:=(true==true))
    (show WShape.has [] (.bool true) .bool=true by first|rfl|decide|simp[WShape.has,WShape.arms,WShape.armsAll])
    (show(WTm.eq .res (.lit (.bool true))).value [] { args:=args,res:=some (.bool true),after:=args }=some (.bool (true==true))from w_eq_bool (w_res rfl) w_lit) rfl
theorem attach_call {l:OpenLaw}{n:Nat}{q:dH}{loose:List Str}{XP:(Str->Option bV)->cB->Prop}{YP:dw->cB->Prop}{d:DefRec}
    (hn:l.most=some n) (Fp:d.params.defaults=[])
    (call:∀(w:dw) (s₀ s₁:cq) (mg mb:Str->Option bV) (fa:ce) (o:f9) (pm cd doc:bV) (a:ce) (vs:List bV) (ns:List Int),
      Ground q loose [] XP w s₀ mg mb s₁.heap->YP w s₁.heap ->
      s₁.heap.get? fa=some o->o.data=.func (docDef d.name d.params d.body d.scope pm cd doc)->s₁.heap.CodeRec cd d.name->mg d.name=some (.ref fa) ->
      s₁.heap.get? a=some { cls:=.type "list",data:=.seq vs.toArray }->IntsAre vs ns->ns.length<=n->s₁.gens = #[] ->
      ix (cC l.prog w) rH (.call (.ref fa) ⟨[.ref a],[]⟩) (λr s'=>r=.ok (.ret (.bool true))/\OldK s₁.heap s'.heap/\s'.os=s₁.os/\AllBare s'.gens) s₁) :
    WalkO q loose XP YP l.row.toRowW d [] (λf vs=>PySem.call f vs):=by
  intro w s₀ s₁ mg mb G Y fa o pm cd doc dV kV ho hd lT hD hmg hg args vals as BL Tr hrd FH hlo;obtain rfl:dV=.none:=Dflts.none hD Fp;obtain rfl:kV=.none:=Dflts.noKw hD;obtain⟨a,vs,ns,rfl,rfl,Dh,Ax,ki⟩:=WO hn BL FH;refine enter_call (gR (call w s₀ s₁ mg mb fa o pm cd doc a vs ns G Y ho (fd_plain hd) lT hmg Dh Ax ki hg) λr s' hq=>?_);obtain⟨rfl,h2,h3,h4⟩:=hq;exact⟨.inl ⟨.bool true,.bool true,[],rfl,λ_=>rfl,.bool true,WP l _,λ_=>⟨sT.nil,λ_ hm=>(nomatch hm)⟩⟩,h2,h3,h4⟩
end Att
namespace L2
open PySem PySem.Spec PyProof.Rows
theorem Oz:∀{vs:List bV} {ns:List Int},IntsAre vs ns->dA (ns.map V.int) vs
 |_,_,.nil=>.nil
 |_,_,.cons n t h=>.cons ⟨t,rfl⟩ (Oz h)
def CU (H:Hp):Prop:=∀b,H b=none\/∃o xs,H b=some (.frz o (.lst xs))
variable {CX:Ai}{P:dH}{a:ce}{fd:cH}{x:Str}
theorem X4 {w:dw}{K:bZ}{mg mb:Str->Option bV}{k:Nat}{fa:ce}{sp:Sp}{s₁:cq}{vs:List bV}{ns:List Int}
    (KX:K.In s₁.heap) (zU:s₁.heap.Ns fq mg) (hb:s₁.heap.Ns B9 mb) (Hl:∀x:Str,x≠"__name__"->mb x=dY x) (Kc:s₁.heap.NoLimit) (hg:s₁.gens = #[])
    (ha:s₁.heap.get? a=some { cls:=.type "list",data:=.seq vs.toArray }) (hi:IntsAre vs ns) (hl:ns.length<=sizeLine) (hr:fw k rH)
    (F:∀base:cB,K.In base->base.Ns fq mg->dM P w K mg base CX k fa fd [x] sp) (Fl:∀(s:cq) (u:bV),pE s fd ⟨[u],[]⟩ [(x,u)])
    (AG:∀H:Hp,CU H->gZ K H a (ns.map V.int)->sp [.ref a] H (λv _=>v=.bl true) λ_ _ _=>False)
    (JG:∀H e s',CX [] H s₁ (λ_ _ _=>False) e s'->False) :
    ix (cC P w) rH (.call (.ref fa) ⟨[.ref a],[]⟩) (λr s'=>r=.ok (.ret (.bool true))/\OldK s₁.heap s'.heap/\s'.os=s₁.os/\AllBare s'.gens) s₁:=by
  have rv:=Oz hi;have KG:=hi.length;have core:∀H:Hp,CU H->gZ K H a (ns.map V.int)->oF P w H s₁.heap->(∀b,H b≠none->b=a)->(H a≠none->K.lookup a=none) ->
      ix (cC P w) rH (.call (.ref fa) ⟨[.ref a],[]⟩) (λr s'=>r=.ok (.ret (.bool true))/\OldK s₁.heap s'.heap/\s'.os=s₁.os/\AllBare s'.gens) s₁:=by
    intro H hO hS hok hA hK;have wY:∀{b:ce} {o:f9},s₁.heap.get? b=some o->H b=none->(tw s₁.heap H).get? b=some o:=λe n=>XX e n;have noA:∀{b:ce} {o:f9} {es:Array DictEntry} {ep:Nat},s₁.heap.get? b=some o->o.data=.dict es ep->H b=none:=λ{b o es ep} e d=>by
      cases q:H b with
      |none=>rfl
      |some u=>have e':b=a:=hA b (by rw[q];simp);subst e';rw[ha]at e;cases e;have d':ot.seq vs.toArray _=ot.dict es ep:=d;cases d'
    have HX:∀{b:ce} {m:Str->Option bV},s₁.heap.Ns b m->(tw s₁.heap H).Ns b m:=λ{b m} ⟨o,es,ep,e,d,r⟩=>⟨o,es,ep,wY e (noA e d),d,r⟩;have M8:K.In (tw s₁.heap H):=λb o e=>wY (KX b o e) (by
      cases q:H b with
      |none=>rfl
      |some u=>have e':b=a:=hA b (by rw[q];simp);subst e';rw[hK (by rw[q];simp)]at e;cases e)
    have hM:Mod K mg (tw s₁.heap H):=⟨M8,HX zU,⟨mb,HX hb,Hl⟩,let⟨mc,h1,h2⟩:=Kc;⟨mc,HX h1,h2⟩⟩;have e0:sX P w K mg (tw s₁.heap H) rH [] s₁ H:=⟨rfl,hM,λb o e=>YR e,uQ (WL _ _),trivial,λb hb=>absurd (show b∈([]:List ce)from hb) (by simp),hok,.of_eq hg⟩;refine gR ((F _ M8 (HX zU)).run rH [] s₁ H ⟨[.ref a],[]⟩ [.ref a] [.ref a] _ _ hr e0 (Fl s₁ (.ref a)) (.cons rfl .nil) (AG H hO hS)) λr s' h=>?_;cases r with
    |error e=>exact(JG H e s' h).elim
    |ok fl=>
      cases fl with
      |next=>exact False.elim h
      |brk=>exact False.elim h
      |cont=>exact False.elim h
      |ret u=>
        obtain⟨v,H',os,bare,un,Km,r',q⟩:=h;have q':v=.bl true:=q;subst q';obtain rfl:u=bV.bool true:=r';refine⟨rfl,OldK.of_keep λb o e=>?_,os,bare⟩;cases q:H b with
        |none=>exact un.keep b o e q (by intro z;exact absurd (show b∈([]:List ce)from z) (by simp)) (by simp)
        |some u=>
          rcases hO b with z|⟨ob,xs,z⟩
          · rw[q]at z;cases z
          · have z2:=un.frzs b ob _ z;obtain⟨e1,_⟩:=hok b _ z;obtain⟨e2,_⟩:=Km b _ z2;rw[e]at e1;cases e1;exact e2
  cases hk:K.lookup a with
  |some o=>have e:=KX a o hk;rw[ha]at e;cases e;refine core (λ_=>none) (λ_=>.inl rfl) (.inr ⟨_,vs.toArray,_,hk,rfl,rfl,rfl,by rw[cJ,KG];exact hl,by simpa using rv⟩) (λb u z=>by have z':(none:Option HO)=some u:=z;cases z') (λb z=>absurd rfl z) λz=>absurd rfl z
  |none=>
    refine core (λb=>if b=a then some (.frz { cls:=.type "list",data:=.seq vs.toArray } (.lst (ns.map V.int)))else none) (λb=>?_) (.inl (.inr ⟨{ cls:=.type "list",data:=.seq vs.toArray },if_pos rfl⟩)) (λb u z=>?_) (λb z=>?_) λ_=>hk
    · by_cases hb:b=a
      · exact .inr ⟨_,_,if_pos hb⟩
      · exact .inl (if_neg hb)
    · by_cases hb:b=a
      · have z':=(if_pos hb).symm.trans z;cases z';subst hb;exact⟨ha,by rw[ck];exact hl,vs,_,rv,ha⟩
      · have z':=(if_neg hb).symm.trans z;cases z'
    · by_cases hb:b=a
      · exact hb
      · exact absurd (if_neg hb) z
variable {n:Nat}
theorem walk_of {l:pZ}{k:Nat}{q:dH}{loose:List Str}{XP:(Str->Option bV)->cB->Prop}{YP:dw->cB->Prop}{d:DefRec}{K:Params->bZ}{CX:dw->Ai}{sp:dw->Sp}
  (hn:l.most=some n) (Bk:n<=sizeLine) (Fp:d.params.defaults=[]) (hr:fw k rH)
  (hY:∀(w:dw) (h:cB),YP w h->(K w.params).In h)
  (F:∀(w:dw) (mg:Str->Option bV) (fa:ce) (h:cB),(K w.params).In h->h.Ns fq mg->mg d.name=some (.ref fa) ->
   ∃fd:cH,(∀(s:cq) (u:bV),pE s fd ⟨[u],[]⟩ [(x,u)]) /\
    ∀base:cB,(K w.params).In base->base.Ns fq mg->dM l.prog w (K w.params) mg base (CX w) k fa fd [x] (sp w))
  (AG:∀(w:dw) (H:Hp) (a:ce) (ns:List Int),ns.length<=n->CU H->gZ (K w.params) H a (ns.map V.int)->sp w [.ref a] H (λv _=>v=.bl true) λ_ _ _=>False)
  (JG:∀(w:dw) (H:Hp) (s:cq) (e:bV) (s':cq),CX w [] H s (λ_ _ _=>False) e s'->False) :
  Ae q loose XP YP l.row.toRowW d [] (λf vs=>PySem.call f vs):=by
 refine Att.attach_call hn Fp λw s₀ s₁ mg mb fa o pm cd doc a vs ns G Y ho hd lT hmg Dh Ax ki hg=>?_;have KX:=hY w _ Y;obtain⟨fd,hb,hF⟩:=F w mg fa _ KX G.T.g hmg;exact X4 KX G.T.g G.T.b G.T.builtins G.T.nolimit hg Dh Ax (d9 ki Bk) hr hF hb (λH hO hS=>AG w H a ns ki hO hS) λH e s'=>JG w H s₁ e s'
def inClass (s:ek)(j:Nat):ek:=match s with
 |.ClassDef _ _ _ body _ _ _ _ _ _ _=>body.getD j (.Pass ⟨0,0,0,0⟩)
 |_=>.Pass ⟨0,0,0,0⟩
def la (s:ek):Arguments:=match s with
  |.FunctionDef _ a _ _ _ _ _ _ _ _=>a
  |_=>{ posonlyargs:=[],args:=[],vararg:=none,kwonlyargs:=[],kw_defaults:=[],kwarg:=none,defaults:=[] }
def fU (s:ek):List ek:=match s with
 |.FunctionDef _ _ b _ _ _ _ _ _ _=>b
 |_=>[]
def dc (s:ek):oC:=match s with
  |.FunctionDef _ _ _ _ _ _ sc _ _ _=>sc
  |_=>{ kind:=.function,names:=[],isGenerator:=false,isCoroutine:=false }
abbrev gC:Ai:=λ_ _ _ _ _ _=>False
abbrev E0:XK:=λ_ _ _=>False
variable {X:Cx}
theorem sO:mn gC X E0:=λ_ _ _ _ _ _ _ h=>h.elim
theorem CM {A:c7}{k:Nat}(hr:fw k A):A.units+1<kR:=pf (Nat.add_le_add_left (by decide:1<=64) _) hr.units
theorem yR (h:n<=1000):n<sizeLine:=pf h (by decide)
def dz (H H':Hp):Prop:=∀b o,H b=some o->H' b=some o
theorem dz.refl (H:Hp):dz H H:=λ_ _ h=>h
variable {H:Hp}
theorem dz.trans {H1 H2:Hp}(a:dz H H1)(b:dz H1 H2):dz H H2:=λc o h=>b c o (a c o h)
variable {H':Hp}
theorem dz.free (e:dz H H'){l:ce}(h:H' l=Option.none):H l=Option.none:=by
 cases q:H l with
 |none=>rfl
 |some o=>rw[e l o q]at h;cases h
variable {xs:List V}
theorem dz.seq {K:bZ}(e:dz H H')(h:gZ K H a xs):gZ K H' a xs:=by
 rcases h with(h|⟨o,h⟩)|h
 ·exact .inl (.inl (e _ _ h))
 ·exact .inl (.inr ⟨o,e _ _ h⟩)
 ·exact .inr h
def CY (a C:ce)(dx tb:Option ce)(h:cB):Prop :=
  ∃a0,h.get? a=some { cls:=.ref C,dict:=dx,data:=.fields #[a0,tb.elim bV.none .ref,.none,.none,.bool false,.none] }
def E7 (T:ce)(h:cB):Prop:=∃ts,h.get? T=some { cls:=.type "traceback",data:=.fields ts }/\ts[3]?=some .none
variable {C:ce}{dx:Option ce}{h h':cB}
theorem CY.stay {tb:Option ce}(x:CY a C dx tb h)(k:∀o,h.get? a=some o->h'.get? a=some o):CY a C dx tb h' :=
 let⟨a0,e⟩:=x;⟨a0,k _ e⟩
variable {T:ce}
theorem E7.stay (x:E7 T h)(k:∀o,h.get? T=some o->h'.get? T=some o):E7 T h' :=
 let⟨ts,e,q⟩:=x;⟨ts,k _ e,q⟩
abbrev nk (a C:ce)(dx tb:Option ce):HO:=.ext (CY a C dx tb)
abbrev NX (T:ce):HO:=.ext (E7 T)
def vA (H:Hp)(a C:ce)(dx tb:Option ce):Prop:=H a=some (nk a C dx tb)/\∀T,tb=some T->H T=some (NX T)/\T≠a
def gY (H:Hp)(a C:ce)(dx:Option ce)(T:ce):Hp:=eS (eS H T (NX T)) a (nk a C dx (some T))
theorem L9 {tb:Option ce}(x:vA H a C dx tb)(hT:H T=none):vA (gY H a C dx T) a C dx (some T):=by
 have ne:T≠a:=λe=>by rw[e,x.1]at hT;cases hT
 refine⟨zk,λT' e=>?_⟩;cases e;exact⟨by unfold gY;rw[zj ne,zk],ne⟩
variable {M:Model}{bX:List (ce×f9)}{s:cq}{σ:St}
section
variable {tb:Option ce}{A1 A2:c7}{E1 E2:bV->cq->Prop}
theorem Inv.xc (I:Inv X bX σ H s)(x:vA H a C dx tb):CY a C dx tb s.heap:=(I.hok a _ x.1).1
theorem Inv.tbo (I:Inv X bX σ H s)(x:vA H a C dx (some T)):E7 T s.heap:=(I.hok T _ (x.2 T rfl).1).1
theorem Inv.entry {head:bV}{Hk:Bool}{Q:Unit->cq->Prop}(I:Inv X bX σ H s)(ky:X.stack=X.env::X.outer)(hf:X.env.frame=some X.env.locals)(hA:A1.frames=some X.stack)(x:vA H a C dx tb)
    (h:∀s' T,H T=none->Inv X bX σ (gY H a C dx T) s'->Q () s') :
    cF M A1 (do let fr ← frameOf X.env;let pl ← entryPlaceOf X.env.locals Hk;let b ← EntryCells.newEntry head fr .none (rawInt X.env.locals) .none pl;setField (.ref a) 1 b) (λ_ s1=>cF M A2 (setFlight (.ref a) none) Q E1 s1) E2 s:=by
  have Fu:=I.stack;rw[ky]at Fu hA;refine bW (wpAny_frameOf_fun hA Fu hf λh1 DB=>bW (wpAny_entryPlaceOf λpl gW=>?_));unfold EntryCells.newEntry newFields;refine bW (iT ?_ (gW.sizeOk5 _ _ _ _ _));have fr:∀b,H b≠none->b∉(X.env::X.outer).filterMap (·.frame):=λb hb hm=>hb (I.stkFree b (by rw[ky];exact hm));obtain⟨a0,he⟩:=I.xc x;have e1:=(DB.2.1 a (fr a (by rw[x.1];simp))).trans he;generalize TJ:([head,bV.ref X.env.locals,.none,rawInt X.env.locals,.none]++(if pl.isEmpty then cE 6 bV.none else pl)).toArray=ts;have S3:ts[3]?=some (rawInt X.env.locals):=by rw[←TJ];simp
  have Na:3<ts.size:=(lO.mp S3).1;have e2:=bY (h:=h1) { cls:=.type "traceback",dict:=none,data:=.fields ts } e1;refine wpAny_setField e2 rfl (by simp) ?_;have neT:h1.objs.size≠a:=kl (cy e1);have e3:=eZ (f9.mapFields (·.setIfInBounds 1 (bV.ref h1.objs.size))) e2 rfl;have t3:=(eR (h1.push { cls:=.type "traceback",dict:=none,data:=.fields ts }) (f9.mapFields (·.setIfInBounds 1 (bV.ref h1.objs.size))) (Ne.symm neT)).trans (cO h1 rfl);unfold setFlight;refine bW (wpAny_field e3 rfl (x:=.ref h1.objs.size) (by simp) ?_);rw[if_pos (show(bV.ref h1.objs.size != bV.none)=true from by simp)];refine wpAny_setField t3 rfl Na ?_
  suffices z:∀h4,h4=((h1.push { cls:=.type "traceback",dict:=none,data:=.fields ts }).update a (f9.mapFields (·.setIfInBounds 1 (bV.ref h1.objs.size)))).update h1.objs.size (f9.mapFields (·.setIfInBounds 3 ((none:Option ce).elim bV.none λf=>rawInt f)))->Q () ⟨h4,s.gens,s.drawn,s.toks,s.os⟩from z _ rfl
  intro h4 Fv;have J1:=Fv.symm;clear Fv;have Dk:h1.objs.size=s.heap.objs.size:=DB.1;have up:∀b o,b≠a->h1.get? b=some o->h4.get? b=some o:=λb o hb q=>by rw[←J1,eR _ _ (kl (cy q)),eR _ _ (Ne.symm hb)];exact bY _ q
  have Ea:H h1.objs.size=none:=I.hok.fresh (by rw[Dk];exact cI _);have e4:h4.get? a=some { cls:=.ref C,dict:=dx,data:=.fields #[a0,.ref h1.objs.size,.none,.none,.bool false,.none] }:=by rw[←J1,eR _ _ neT,e3];simp[f9.mapFields]
  have t4:h4.get? h1.objs.size=some { cls:=.type "traceback",data:=.fields (ts.setIfInBounds 3 .none) }:=by rw[←J1,eZ _ t3 rfl];simp[f9.mapFields]
  have kp:∀b o,H b≠none->b≠a->s.heap.get? b=some o->h4.get? b=some o:=λb o hb ha q=>up b o ha ((DB.2.1 b (fr b hb)).trans q);have nn:∀b,H b=none->b≠a:=λb hb q=>by rw[q,x.1]at hb;cases hb
  have nT:∀b o,s.heap.get? b=some o->b≠h1.objs.size:=λb o q=>by rw[Dk];exact cW (cy q)
  have hm:∀b,b∈(X.env::X.outer).filterMap (·.frame)->b=X.env.locals\/b∈X.fs:=λb hb=>cn.mp (I.stkSub b (by rw[ky];exact hb));refine h _ h1.objs.size Ea (I.step (g':=s.gens) (t':=s.toks) (d':=s.drawn) (ch:=[]) (λb z=>nomatch z) (λb o Hi JF _ q n=>up b o (nn b n) ((DB.2.1 b λz=>(hm b z).elim Hi JF).trans q)) (λb o _ _ _ q n=>?_) (λb o _ q n=>?_) (λb o _ q=>?_) (λb xs q=>?_) (λb o u q=>?_) (λb ps q=>?_) (λm q=>?_) (λb u q=>?_) I.bare)
  · obtain⟨sl,q'⟩:=DB.2.2 b o q;exact⟨sl,up b _ (nn b n) q'⟩
  · unfold gY;rw[zj (nn b n),zj (nT b o q)];exact n
  · by_cases hb:b=a
    · rw[hb];exact⟨_,e4⟩
    · obtain⟨sl,q'⟩:=DB.2.2 b o q;exact⟨_,up b _ hb q'⟩
  · unfold gY;rw[zj (λz=>by rw[z,x.1]at q;cases q),zj (zl q Ea)];exact q
  · unfold gY;rw[zj (λz=>by rw[z,x.1]at q;cases q),zj (zl q Ea)];exact q
  · exact⟨#[],by unfold gY;rw[zj (λz=>by rw[z,x.1]at q;cases q),zj (zl q Ea),q];simp⟩
  · obtain⟨o,es,ep,ho,r⟩:=q;obtain⟨sl,q'⟩:=DB.2.2 _ o ho;exact⟨_,es,ep,up _ _ (nn _ I.free) q',r⟩
  · by_cases hb:b=a
    · subst hb;have q:gY H b C dx h1.objs.size b=some u:=q;unfold gY at q;rw[zk]at q;cases q;exact⟨⟨a0,e4⟩,⟨_,e4⟩,λ_ _ z k=>z.stay k⟩
    · unfold gY at q;rw[zj hb]at q;by_cases Bh:b=h1.objs.size
      · rw[Bh,zk]at q;cases q;rw[Bh];exact⟨⟨_,t4,by simp[Na]⟩,⟨_,t4⟩,λ_ _ z k=>z.stay k⟩
      · rw[zj Bh]at q;refine(I.hok b u q).stay (λc v hc z=>kp c v ?_ ?_ z) (λc z=>?_) (λc xs z=>?_)
        · rcases hc with rfl|hc
          · rw[q];simp
          · rw[hc];simp
        · rcases hc with rfl|hc
          · exact hb
          · intro e;rw[e,x.1]at hc;cases hc
        · unfold gY;rw[zj (λe=>by rw[e,x.1]at z;cases z),zj (zl z Ea)];exact z
        · unfold gY;rw[zj (λe=>by rw[e,x.1]at z;cases z),zj (zl z Ea)];exact z
theorem Inv.note {Q:Unit->cq->Prop}(I:Inv X bX σ H s)(ky:X.stack=X.env::X.outer)(hf:X.env.frame=some X.env.locals)(hA:A1.frames=some X.stack)(x:vA H a C dx tb)
  (h:∀s' T,H T=none->Inv X bX σ (gY H a C dx T) s'->Q () s') :
  cF M A1 (noteFrame (.ref a) X.env) (λ_ s1=>cF M A2 (setFlight (.ref a) none) Q E1 s1) E2 s:=by
 obtain⟨a0,he⟩:=I.xc x;unfold noteFrame;simp only[hf];cases tb with
 |none=>refine bW (wpAny_field he rfl (x:=.none) (by simp) ?_);rw[if_neg (by decide)];exact I.entry ky hf hA x h
 |some T=>obtain⟨ts,ht,h3⟩:=I.tbo x;refine bW (wpAny_field he rfl (x:=.ref T) (by simp) ?_);rw[if_pos (show(bV.ref T != bV.none)=true from by simp)];refine bW (wpAny_field ht rfl h3 ?_);rw[if_neg (show¬((bV.none==rawInt X.env.locals)=true)from by simp[rawInt])];refine bW (wpAny_setField ht rfl (lO.mp h3).1 ?_);rw[sj s.heap T _ ts 3 .none ht rfl h3];exact I.entry ky hf hA x h
end
def uY (P:dH)(w:dw):Ai:=λouter H s E u s'=>∃(a C:ce) (dx:Option ce) (T:ce) (H':Hp),u=.ref a/\s'.os=s.os/\AllBare s'.gens/\Un (zT outer) [] H H' s.heap s'.heap/\oF P w H' s'.heap/\vA H' a C dx (some T)/\E u none H'
abbrev GK:=St->ce->Hp->Prop
def mH (X:Cx)(G:GK):Prop:=∀(bX:List (ce×f9)) (σ:St) (H:Hp) (s:cq) (a C:ce) (dx tb:Option ce),Inv X bX σ H s->vA H a C dx tb->(∀T,H T=none->G σ a (gY H a C dx T))->X.xe (.ref a) s
variable {f:ce}{qual:Str}{scope:oC}
theorem yu {w:dw}{K:bZ}{mg:Str->Option bV}{base:cB}{N:List Str}{cd:bV}{A:c7}{outer:List Env}{E:XK} :
  mH (nJ (uY P w) P w K mg base N qual scope f cd A outer s H E) (λ_ a H'=>E (.ref a) none H'):=by
 intro bX σ H1 s1 a C dx tb I x g;show cF _ _ (leaving _ _) _ _ _;unfold leaving;refine bW (I.note rfl rfl I.ok.frames x λs2 T hT J=>?_);exact⟨a,C,dx,T,_,rfl,J.os,J.bare,J.base,J.hok,L9 x hT,g T hT⟩
def EX (G:GK)(σ:St):XK:=λu _ H'=>∃a C dx T,u=.ref a/\vA H' a C dx (some T)/\∀T',H' T'=none->G σ a (gY H' a C dx T')
variable {gq p pos:m9}{ds us:List bV}{jS vs:List V}{e o:Expr}{es:List Expr}{m:Str}{ps:List Str}{s':cq}{ta:TE}{u:bV}
section
variable {k:Nat}{sp:Sp}{G:GK}{t:TA}
theorem Inv.raised (I:Inv X bX σ H s)(hx:mH X G)(h:uY X.prog X.w X.stack H s (EX G σ) u s'):X.xe u s':=by obtain⟨a,C,dx,T,H',rfl,ho,hg,un,hok,xr,w⟩:=h;have J:Inv X bX σ H' s':=I.call' (ch:=[]) ho un hok hg (λb z=>nomatch z);obtain⟨a2,C2,Jz,T2,e2,Lv,w⟩:=w;cases e2;exact hx bX σ H' s' a C2 Jz (some T2) J Lv w
theorem Zh {Q:VK}(F:dM X.prog X.w X.K X.mg X.base (uY X.prog X.w) k f fd ps sp)(hr:fw k X.A)(hb:fF X.K fd ps ds)(hd:dA jS ds)(hx:mH X G)
  (I:Inv X bX σ H s) (r:dA vs us) (h:sp (vs++jS) H Q (EX G σ)):cF (cC X.prog X.w) X.A (call (.ref f) us) (EP X bX σ Q) X.xe s:=by
 have r2:=r.append hd;have hl:(us++ds).length=ps.length:=by rw[←r2.length];exact F.len _ _ _ _ h
 refine wpAny_call (gR (F.run X.A X.stack s H ⟨us,[]⟩ (us++ds) (vs++jS) Q (EX G σ) hr I.env0 (hb s us I.kIn hl) r2 h) λz s' hq=>?_);cases z with
 |error u=>exact I.raised hx hq
 |ok fl=>cases fl<;>first|exact I.after hq|exact False.elim hq
def DD (sp:Sp)(jS:List V)(G:GK)(t:TA):TE:=λσ H Q=>t σ H λvs H1=>sp (vs++jS) H1 Q (EX G σ)
theorem X5 (F:dM X.prog X.w X.K X.mg X.base (uY X.prog X.w) k f fd ps sp)(hr:fw k X.A)(hg:Gl X x)(hm:X.mg x=some (.ref f))(hk:dn X.K (.ref f)=true)(hb:fF X.K fd ps ds)(hd:dA jS ds)(hx:mH X G)
  (ha:PA X (e::es) t) (kM:lx x:=by decide) (he:SE X e es:=by rfl) (gW:oa X pos es:=by rfl) :
  PE X (.Call (.Name x p) (e::es) [] pos) (DD sp jS G t):=by
 intro bX s σ H Q I h;refine eT (x6 I hg hm (fJ (h₀:=X.base) I.ok.mod.kin hk (fN (ha pos bX s σ H _ I h) λus s1 ⟨vs,H1,I1,r,q⟩=>⟨I1.kIn,?_⟩) he gW) kM);exact Zh F hr hb hd hx I1 r q
def DG (C:ce)(sp:Sp)(jS:List V)(G:GK)(t:TA):TE:=λσ H Q=>t σ H λvs H1=>∀x dx,H1 x=none->H1 dx=none->dx≠x ->
 sp (.ref x::(vs++jS)) (eS (eS H1 dx (.own x)) x (.ins C dx [])) (λv H2=>v=.non/\Q (.ref x) H2) (EX G σ)
theorem WQ {Q:VK}(M:Mk X.K C f)(F:dM X.prog X.w X.K X.mg X.base (uY X.prog X.w) k f fd ps sp)(hr:fw (k+1) X.A)(hb:fF X.K fd ps ds)(hd:dA jS ds)
  (hx:mH X G) (I:Inv X bX σ H s) (r:dA vs us)
  (h:∀x dx,H x=none->H dx=none->dx≠x->sp (.ref x::(vs++jS)) (eS (eS H dx (.own x)) x (.ins C dx [])) (λv H2=>v=.non/\Q (.ref x) H2) (EX G σ)) :
  cF (cC X.prog X.w) X.A (call (.ref C) us) (EP X bX σ Q) X.xe s:=by
 have hq:=h (s.heap.objs.size+1) s.heap.objs.size (I.hok.fresh (oq _)) (I.hok.fresh (cI _)) (cW (kQ _));have I2:=Inv.made (C:=C) I;have r2:dA (V.ref (s.heap.objs.size+1)::(vs++jS)) (bV.ref (s.heap.objs.size+1)::(us++ds)):=.cons rfl (r.append hd);have hl:(bV.ref (s.heap.objs.size+1)::us++ds).length=ps.length:=(F.len _ _ _ _ hq▸r2.length).symm;refine wpAny_call (O7 (f:=f) I.kIn M.makes M.init (beq_iff_eq.mp M.fn) (gR (F.run _ X.stack _ _ ⟨bV.ref (s.heap.objs.size+1)::us,[]⟩ (bV.ref (s.heap.objs.size+1)::(us++ds)) _ _ (EX G σ) (hr.make C us []) (I2.env0.make C us []) (hb _ _ I2.kIn hl) r2 hq) λz s' sD=>?_));cases z with
 |error u=>exact I2.raised hx sD
 |ok fl=>
  cases fl with
  |ret u=>obtain⟨v,H',I3,rv,ev,q3⟩:=I2.after sD;subst ev;exact⟨rv,V.ref (s.heap.objs.size+1),H',I3,rfl,q3⟩
  |_=>exact False.elim sD
theorem X6 (M:Mk X.K C f)(F:dM X.prog X.w X.K X.mg X.base (uY X.prog X.w) k f fd ps sp)(hr:fw (k+1) X.A)(hg:Gl X x)(hm:X.mg x=some (.ref C))(hb:fF X.K fd ps ds)(hd:dA jS ds)(hx:mH X G)
  (ha:PA X (e::es) t) (kM:lx x:=by decide) (he:SE X e es:=by rfl) (gW:oa X pos es:=by rfl) :
  PE X (.Call (.Name x p) (e::es) [] pos) (DG C sp jS G t):=by
 intro bX s σ H Q I h;refine eT (x6 I hg hm (fJ (h₀:=X.base) I.ok.mod.kin M.kp (fN (ha pos bX s σ H _ I h) λus s1 ⟨vs,H1,I1,r,q⟩=>⟨I1.kIn,?_⟩) he gW) kM);exact WQ M F hr hb hd hx I1 r q
end
abbrev vT:=PySem.F.excBase_ValueError
inductive jV:List bV->Prop
 |base:jV [.type "ValueError",.type "Exception",.type "BaseException",.type "object"]
 |own {c:ce} {r:List bV}:jV r->jV (.ref c::r)
theorem jV.refuse {l:List bV}(self:bV)(h:jV l):refuseLoop self "__setattr__" l=pure ():=by
 induction h with
 |base=>exact PySem.F.store_ValueError.passes self
 |own h ih=>rw[refuseLoop_ref];exact ih
theorem jV.obj {l:List bV}(h:jV l):l.contains (.type "object")=true:=by
 induction h with
 |base=>decide
 |own h ih=>rw[oW,ih,Bool.or_true]
structure tV (K:bZ)(C:ce):Prop where
 ob:∃(nm q:Str) (N:ce) (bs bm:List bV) (mP:Bool) (sn:List Str) (sub:List bV) (ab:Bool) (col:Option Bool) (dd:Option ce) (k0 k1 k2 k3 k5:Option bV),
  K.lookup C=some (excClassObj nm q C N bs bm mP sn sub ab col dd k0 k1 k2 k3 k5 "ValueError.__new__")/\jV bm
 mV:eX K C (.type "ValueError")=some true
 mB:eX K C (.type "BaseException")=some true
 mA:eX K C (.type "AttributeError")=some false
 mN:eX K C (.type "NameError")=some false
 sp:fC K (.ref C) "__call__"=some (some (.builtin "type.__call__"))
 ty:PySem.W.instIn K (.ref C) (.type "type")=some true
variable {R:Result->cq->Prop}{ab:Bool}{bm sub:List bV}{col:Option Bool}{dd:Option ce}{k0 k1 k2 k3 k5:Option bV}{nm q:Str}{sn:List Str}
section
variable {N:ce}{bs:List bV}{mP:Bool}
theorem Iy {K:bZ}{b:bV}{v:Bool}(ho:K.lookup C=some (excClassObj nm q C N bs bm mP sn sub ab col dd k0 k1 k2 k3 k5 "ValueError.__new__"))(h:eX K C b=some v):(bV.ref C::bm).contains b=v:=by unfold eX kB at h;rw[ho]at h;simpa using h
variable {prog:dH}{w:dw}{A:c7}{g:Array GenState}{d:Drawn}{t:Nat}{os:OsState}
theorem ztn {rest:List bV}(Ee:(bV.ref C::bm).contains (.type "ValueError")=true)(JP:(bV.ref C::bm).contains (.type "AttributeError")=false)(JR:(bV.ref C::bm).contains (.type "NameError")=false)
    (hC:h.get? C=some (excClassObj nm q C N bs bm mP sn sub ab col dd k0 k1 k2 k3 k5 "ValueError.__new__")) (hz:rest.length<=sizeLine)
    (hq:R (.ok (.ret (.ref (h.objs.size+1)))) ⟨(h.push { cls:=.type "tuple",data:=.seq rest.toArray }).push { cls:=.ref C,data:=.fields #[.ref h.objs.size,.none,.none,.none,.bool false,.none] },g,d,t,os⟩) :
    ix (cC prog w) A (.call (.builtin "ValueError.__new__") ⟨.ref C::rest,[]⟩) R ⟨h,g,d,t,os⟩:=by
  have Nr:=vT.noStar;refine codeAny_call_builtin_code (rG.quiet_builtin _ vT.quiet) ?_;simp only[checkBuiltinCall,vT.newKind,vT.newSplit,vT.newRow]
  repeat (first|refine wpAny_loadPart_at hC ?_|(refine wpAny_isSubtype_exc hC ?_;rw[Ee])|refine wpAny_staticBase_exc hC ?_|refine wpAny_madeBy_exc hC ?_|simp only[bne_self_eq_false,eM,if_false]|wp_step)
  have Ni:=vT.ends;refine codeAny_builtinAt vT.entry ?_;unfold Builtin.«BaseException.__new__»;refine PySem.wpAt_bind ?_;show PySem.wpAt _ _ _ (stack >>= _) _ _ _;refine PySem.wpAt_bind (PySem.wpAt_stack λp below=>PySem.wpAt_of_wpAny ?_)
  wp_walk
  refine PySem.wpAt_of_wpAny ?_;rw[vT.owner]
  repeat (first|with_reducible refine wpAny_madeHere_exc vT.canon hC ?_|with_reducible refine wpAny_loadPart_at hC ?_|(with_reducible refine wpAny_isSubtype_exc hC ?_;first|rw[Ee]|rw[JP]|rw[JR])|wp_step)
  show R _ _;rw[e7];exact hq
theorem Zi {rest:List bV}{init:bV}(Ee:(bV.ref C::bm).contains (.type "ValueError")=true)(JP:(bV.ref C::bm).contains (.type "AttributeError")=false)(JR:(bV.ref C::bm).contains (.type "NameError")=false)
    (hC:h.get? C=some (excClassObj nm q C N bs bm mP sn sub ab col dd k0 k1 k2 k3 k5 "ValueError.__new__")) (call:et (cC prog w) h (specialOf (.ref C) "__call__") (some (.builtin "type.__call__"))) (typ:et (cC prog w) h (isInstance (.ref C) (.type "type")) true)
    (hi:et (cC prog w) h (qR (.ref C) "__init__") (some init)) (hb:∀self,et (cC prog w) h (bindSpecial init self) (init,[self])) (hz:rest.length<=sizeLine)
    (hq:ix (cC prog w) (A.under (.builtin "type.__call__" ⟨.ref C::rest,[]⟩)) (.call init ⟨.ref (h.objs.size+1)::rest,[]⟩) (wW (h.objs.size+1) R)
      ⟨(h.push { cls:=.type "tuple",data:=.seq rest.toArray }).push { cls:=.ref C,data:=.fields #[.ref h.objs.size,.none,.none,.none,.bool false,.none] },g,d,t,os⟩) :
    ix (cC prog w) A (.call (.ref C) ⟨rest,[]⟩) R ⟨h,g,d,t,os⟩:=by
  have self:et (cC prog w) h (isSubtype (.ref C) (.ref C)) true:=λA Q E s k z=>by obtain⟨hh,g',d',t',NO⟩:=s;refine wpAny_isSubtype_exc (k _ _ hC) ?_;rw[show(bV.ref C::bm).contains (.ref C)=true by simp];exact z
  refine codeAny_of_tree ?_;show cF _ _ (callAny (.ref C) _) _ _ _;refine PySem.W.nd_load hC ?_;show cF _ _ (callAny.viaDunder (.ref C) _) _ _ _;unfold callAny.viaDunder;refine bW (call.at ?_);dsimp only;rw[tc_bind];refine bW (cw (bW (cw ?_)));refine cw (a:=Fin.again (.call (.builtin "type.__call__") ⟨.ref C::rest,[]⟩)) (And.intro rfl ?_);refine codeAny_call_builtin_at (rG.quiet_builtin _ (by decide +kernel)) entry_typeCall (lu tc_kind tc_split typ (PySem.W.tc_args _ _ _) ?_);unfold Builtin.«type.__call__»
  repeat (first|with_reducible refine wpAny_loadPart_at hC ?_|with_reducible refine wpAny_madeBy_exc hC ?_|with_reducible refine wpAny_mroOf_exc hC ?_|simp only[List.isEmpty_cons,eM,if_false]|with_reducible refine wpAny_call ?_|wp_step)
  refine ztn Ee JP JR hC hz ?_;have k:∀b o,h.get? b=some o->((h.push { cls:=.type "tuple",data:=.seq rest.toArray }).push { cls:=.ref C,data:=.fields #[.ref h.objs.size,.none,.none,.none,.bool false,.none] }).get? b=some o:=λb o e=>bY _ (bY _ e);have hx:((h.push { cls:=.type "tuple",data:=.seq rest.toArray }).push { cls:=.ref C,data:=.fields #[.ref h.objs.size,.none,.none,.none,.bool false,.none] }).get? (h.objs.size+1)=some { cls:=.ref C,data:=.fields #[.ref h.objs.size,.none,.none,.none,.bool false,.none] }:=by heap_get
  have t1:et (cC prog w) ((h.push { cls:=.type "tuple",data:=.seq rest.toArray }).push { cls:=.ref C,data:=.fields #[.ref h.objs.size,.none,.none,.none,.bool false,.none] }) (typeOf (.ref (h.objs.size+1))) (.ref C):=(et.ld hx).andThen .now;have s1:=self.keeps k;have i1:=hi.keeps k;have b1:=(hb (.ref (h.objs.size+1))).keeps k;unfold isInstance callSpecial? specialOf
  repeat (first|with_reducible refine wpAny_call ?_|lk)
  refine gR hq λr s' z=>?_;rcases r with e|(v|_|_|_)<;>first|exact z|exact z.elim|skip
  obtain⟨rfl,z⟩:=z;exact cw (cw z)
end
variable {E:bV->cq->Prop}
section
variable {N:ce}{bs:List bV}{mP:Bool}
variable {prog:dH}{w:dw}{A:c7}{g:Array GenState}{d:Drawn}{t:Nat}{os:OsState}
theorem X7 {e:ce}{a0 v1 v2 v3 v4 v5:bV}{rest:List bV}(Ee:(bV.ref C::bm).contains (.type "ValueError")=true)
    (hC:h.get? C=some (excClassObj nm q C N bs bm mP sn sub ab col dd k0 k1 k2 k3 k5 "ValueError.__new__")) (he:h.get? e=some { cls:=.ref C,dict:=dx,data:=.fields #[a0,v1,v2,v3,v4,v5] }) (hz:rest.length<=sizeLine)
    (hq:∀h' a1,(∀b o,b≠e->h.get? b=some o->h'.get? b=some o)->h'.get? e=some { cls:=.ref C,dict:=dx,data:=.fields #[a1,v1,v2,v3,v4,v5] }->R (.ok (.ret .none)) ⟨h',g,d,t,os⟩) :
    ix (cC prog w) A (.call (.builtin "ValueError.__init__") ⟨.ref e::rest,[]⟩) R ⟨h,g,d,t,os⟩:=by
  have Kp:=vT.noStar;refine codeAny_call_builtin vT.init.plain vT.initEntry ?_;simp only[checkBuiltinCall,vT.initKind,vT.initSplit,vT.initRow]
  repeat (first|with_reducible refine wpAny_loadPart_at he ?_|with_reducible refine wpAny_loadPart_at hC ?_|(with_reducible refine wpAny_isSubtype_exc hC ?_;rw[Ee])|wp_step)
  refine wpAny_onRaise ?_;rw[show∀(a b:String) (n:Nat),Bind.check ⟨.positional,"*","ValueError",.self,[⟨"args",.varPos,false⟩]⟩ a b n (List.map (λx=>x.fst) ({ pos:=bV.ref e::rest }:Args).kw)=pure ()from
    λa b n=>check_star_args _ _ _ _ _ _]
  refine cw ?_;unfold Builtin.«BaseException.__init__»;dsimp only;rw[if_neg (by decide)];unfold newTuple;refine bW (iT ?_ (by show rest.toArray.size<=sizeLine;rw[cJ];exact hz));have e1:=bY (h:=h) { cls:=.type "tuple",data:=.seq rest.toArray } he;unfold Builtin.BaseException.bexcPut;refine bW (bW (wpAny_field e1 rfl (x:=a0) (by simp) ?_));refine bW (wpAny_setField e1 rfl (by simp) ?_);have e2:=eZ (f9.mapFields (·.setIfInBounds 0 (bV.ref h.objs.size))) e1 rfl;have fin:R (.ok (.ret .none)) ⟨(h.push { cls:=.type "tuple",data:=.seq rest.toArray }).update e (f9.mapFields (·.setIfInBounds 0 (bV.ref h.objs.size))),g,d,t,os⟩:=by
    refine hq _ (.ref h.objs.size) (λb o hb ho=>?_) ?_
    · rw[eR _ _ (Ne.symm hb)];exact bY _ ho
    · rw[e2];simp[f9.mapFields]
  cases a0<;>first|exact wpAny_letGo (cw fin)|exact cw (cw fin)
end
variable {Q:bV->cq->Prop}{name:Str}
section
variable {N:ce}{bs:List bV}
variable {prog:dH}{w:dw}{A:c7}{K:bZ}{x:ce}{dt:ot}{sl:Array (Option bV)}{v:bV}
theorem zto {Q:Unit->cq->Prop}(X:K.In s.heap)(hK:K.lookup C=some (excClassObj nm q C N bs bm true sn sub ab col dd k0 k1 k2 k3 k5 "ValueError.__new__"))(hm:jV bm)(hx:s.heap.get? x=some ⟨.ref C,none,dt,sl⟩)(hd:∀cd,dt≠.cls cd)(De:(⟨.ref C,none,dt,sl⟩:f9).isFreed=false)
    (hs:cT K (.ref C) "__setattr__"=some (some (.builtin "object.__setattr__"))) (ht:eL K C name=some none)
    (h:∀h' dx,s.heap.get? dx=none->dx≠x->s.heap.objs.size<=dx->h'.get? x=some ⟨.ref C,some dx,dt,sl⟩->h'.Ns1 dx (λy=>if y=name then some v else none)->(∀b o,b≠x->s.heap.get? b=some o->h'.get? b=some o)->Q () { s with heap:=h',toks:=s.toks+2 }) :
    cF (cC prog w) A (setAttr (.ref x) name v) Q E s:=by
  have hn:zO ⟨.ref C,none,dt,sl⟩=true:=by unfold zO;cases dt<;>first|rfl|exact absurd rfl (hd _)
  have J:iy s.heap x ⟨.ref C,none,dt,sl⟩ C none:=⟨hx,rfl,hn,trivial⟩;refine vP X J hs ?_;have SF:=PySem.F.store_object;obtain⟨cd,hc,FC,Fs⟩:∃cd,kB K C=some cd/\cd.mro=.ref C::bm/\cd.hasDict=true:=⟨_,by unfold kB;rw[hK],rfl,rfl⟩;have sub:et (cC prog w) s.heap (isInstance (.ref x) (.type "object")) true:=J.type.andThen (nU X (by unfold eX;rw[hc,cP,FC,if_neg (by simp),(jV.own hm).obj]));refine codeAny_call_builtin SF.slot.plain SF.entry (@lu (cC prog w) _ _ { s with toks:=s.toks+1 } "object.__setattr__" "object" "__setattr__" (.ref x) [.str name s.toks,v] [] _ SF.kind SF.split sub (SF.args (.ref x) (.str name s.toks) v) ?_);obtain⟨attr,ha,hr⟩:=Option.bind_eq_some_iff.mp ht;have hM:et (cC prog w) s.heap (mroOf (.ref C)) (.ref C::bm):=FC▸(nS X hc).andThen .now;have L3:et (cC prog w) s.heap (Builtin.ObjectAttr.storeTaker? attr) none:=by
    cases attr with
    |none=>exact .now
    |some a=>
      obtain⟨b,hb,JM⟩:=eP.mp hr;refine(PySem.W.looks_takesIn X hb).andThen ?_;cases b
      · exact .now
      · cases JM
  rw[PySem.W.osa_eq,refuse_eq];refine bW (bW (J.type.here (s:={ s with toks:=s.toks+1 }) (bW (hM.here (s:={ s with toks:=s.toks+1 }) ?_))));rw[(jV.own hm).refuse];refine cw (bW (J.type.here (s:={ s with toks:=s.toks+1 }) (bW ((fP X ha).here (s:={ s with toks:=s.toks+1 }) (bW (L3.here (s:={ s with toks:=s.toks+1 }) ?_))))));refine bW (cw (bW (bW (wpAny_loadPart (s:={ s with toks:=s.toks+1 }) hx (bW ((nS X hc).here (s:={ s with toks:=s.toks+1 }) ?_))))));rw[Fs];have FI:(s.heap.push { cls:=.type "dict",data:=.dict #[] }).get? x=some ⟨.ref C,none,dt,sl⟩:=bY _ hx;have Kw:x≠s.heap.objs.size:=cW (cy hx);show cF _ _ (if(!true || !typeHasDict (.ref C))=true then _ else _) _ _ _;rw[if_neg (by simp[typeHasDict])];have go:cF (cC prog w) A.in1 (do
      let d ← alloc { cls:=.type "dict",data:=.dict #[] }
      update x λo=>{ o with dict:=some d }
      dictMade (.ref C) x d) (λa s'=>cF (cC prog w) A.in1 (match a with
        |some d=>Builtin.ObjectAttr.storeInDict d (.str name s.toks) name v
        |none=>Builtin.ObjectAttr.noDictFor (.ref x) (.ref C) name attr.isSome) (λfin s'=>match fin with|.done f=>(match Except.ok f with|.ok (.ret _)=>Q () s'|.ok _=>False|.error e=>E e s')|.again c'=>c'.quiet=true/\ix (cC prog w) A c' (λr s'=>match r with|.ok (.ret _)=>Q () s'|.ok _=>False|.error e=>E e s') s') E s') E { s with toks:=s.toks+1 }:=by
    refine bW (wpAny_alloc' ?_);refine bW (wpAny_update' FI ?_);refine cw ?_;have Tg:((s.heap.push { cls:=.type "dict",data:=.dict #[] }).update x λo=>{ cls:=o.cls,dict:=some s.heap.objs.size,data:=o.data,slots:=o.slots }).get? s.heap.objs.size=some { cls:=.type "dict",data:=.dict #[] } :=
      (wQ _ _ _ _ Kw.symm).trans (yV rfl rfl)
    have Tt:((s.heap.push { cls:=.type "dict",data:=.dict #[] }).update x λo=>{ cls:=o.cls,dict:=some s.heap.objs.size,data:=o.data,slots:=o.slots }).Ns s.heap.objs.size (λ_=>none):=⟨_,#[],_,Tg,rfl,λe he=>absurd he (by simp),λ_=>rfl⟩;show cF _ _ (Builtin.ObjectAttr.storeInDict s.heap.objs.size (.str name s.toks) name v) _ _ _;unfold Builtin.ObjectAttr.storeInDict Builtin.ObjectAttr.newKeyGuard;refine bW (cw (bW (wpAny_nsSet1 (cB.Ns1.of_empty Tt) λh' Bj Cr=>?_)));obtain⟨oD,Sf,RW,Kk,JU,JQ⟩:=Bj.count (Within.cons name v Within.nil);refine bW (wpAny_lookBehind Kk (by rw[JU];exact pastItsLine_dict (d9 JQ (by rw[cm,fY,dD];omega))) ?_);refine cw (h h' s.heap.objs.size (vI (cI _)) Kw.symm (cI _) ?_ Bj λb o hb ho=>?_)
    · refine(Cr.2 x Kw).trans (eZ _ FI ?_);cases dt<;>first|rfl|exact De
    · exact(Cr.2 b (cW (cy ho))).trans ((wQ _ _ _ _ hb).trans (bY _ ho))
  cases dt<;>first|exact absurd rfl (hd _)|exact go
theorem ztp {expr:Bool}{ox:f9}{od:Option f9}(X:K.In s.heap)(J:iy s.heap x ox C od)(Tf:cT K (.ref C) "__getattribute__"=some (some (.builtin "BaseException.__getattribute__")))
  (hk:cT K (.ref C) "__getattr__"=some none) (hB:eX K C (.type "BaseException")=some true) (hf:p3 K C od name=some (.value v)) (hv:pv v=true) (h:Q v { s with toks:=s.toks+1 }) :
  cF (cC prog w) A (getAttr (.ref x) name expr) Q E s:=by
 obtain⟨hh,g,d,t,os⟩:=s;have L0:=J.type (M:=cC prog w);have L1:=fP (M:=cC prog w) X Tf;have L2:=fP (M:=cC prog w) X hk;have L3:=uW (M:=cC prog w) X J hf;have FX:=PySem.F.excAttr_ValueError;have Dj:(bV.builtin "BaseException.__getattribute__" == bV.builtin "object.__getattribute__")=false:=by decide +kernel
 unfold getAttr getAttrBy;refine bW (wpAny_mkText (iM (bW (L0.at (bW (L1.at ?_))))));dsimp only;rw[Dj,rR,if_neg cD];unfold getAttrByItsOwn hookBefore;rw[if_pos (show onTheHeap (bV.ref C)=true from rfl)];refine bW (L2.at ?_);refine bW (wpAny_attempt (iM ?_));unfold callGetattribute;rw[if_neg (show¬((expr&&onTheHeap (bV.builtin "BaseException.__getattribute__"))=true)by cases expr<;>decide)];unfold boundAndCalled;rw[FX.ga.bind (.ref x)];refine bW (cw ?_);have hi:et (cC prog w) hh (isInstance (.ref x) (.type "BaseException")) true:=L0.andThen (nU X hB);refine wpAny_call (codeAny_call_builtin FX.ga.plain PySem.F.entry_bexc_ga (@lu (cC prog w) _ _ ⟨hh,g,d,t+1,os⟩ "BaseException.__getattribute__" "BaseException" "__getattribute__" (.ref x) [.str name t] [] _ (by decide +kernel) (by decide +kernel) hi (PySem.F.args_bexc_ga _ _) ?_));unfold Builtin.«object.__getattribute__»;refine bW (cw (bW (cw (bW (L0.at (bW (L3.at ?_)))))));refine cw ?_;show cF _ _ (handedOut v) _ _ _;rw[PySem.W.handedOut_of hv];exact cw h
end
variable {pl:Ad Bool}{pos':m9}{t':Nat}{te to tv:TE}{value:Expr}
section
theorem Inv.xmade (I:Inv X bX σ H s)(us:List bV):H (s.heap.objs.size+1)=none/\Inv X bX σ (eS H (s.heap.objs.size+1) (nk (s.heap.objs.size+1) C none none)) { s with heap:=(s.heap.push { cls:=.type "tuple",data:=.seq us.toArray }).push { cls:=.ref C,data:=.fields #[.ref s.heap.objs.size,.none,.none,.none,.bool false,.none] } }:=by have I1:Inv X bX σ H { s with heap:=s.heap.push { cls:=.type "tuple",data:=.seq us.toArray } }:=I.kept (t':=s.toks) λb o e=>bY _ e;have z:(s.heap.push { cls:=.type "tuple",data:=.seq us.toArray }).objs.size=s.heap.objs.size+1:=e7 ..;have e:((s.heap.push { cls:=.type "tuple",data:=.seq us.toArray }).push { cls:=.ref C,data:=.fields #[.ref s.heap.objs.size,.none,.none,.none,.bool false,.none] }).get? (s.heap.objs.size+1)=some { cls:=.ref C,data:=.fields #[.ref s.heap.objs.size,.none,.none,.none,.bool false,.none] }:=yV z.symm rfl;refine⟨I.hok.fresh (oq _),I1.laid (t':=s.toks) (λb o e=>bY _ e) (uQ z) ⟨⟨_,e⟩,⟨_,e⟩,λ_ _ q k=>q.stay k⟩⟩
theorem Inv.xwrite {Jy tb tb':Option ce}(I:Inv X bX σ H s)(he:H a=some (nk a C dx tb))(k:∀b u,b≠a->s.heap.get? b=some u->h'.get? b=some u)(new:CY a C Jy tb' h') :
  Inv X bX σ (eS H a (nk a C Jy tb')) { s with heap:=h',toks:=t' }:=by
 obtain⟨a1,e⟩:=id new;exact I.write (x:=a) (e:=a) (by rw[he];trivial) (.inl rfl) k ⟨_,e⟩ ⟨new,⟨_,e⟩,λ_ _ q k=>q.stay k⟩
variable {k:Nat}{sp:Sp}{t:TA}{G:GK}
def DK (C:ce)(sp:Sp)(t:TA):TE:=λσ H Q=>t σ H λvs H1=>vs.length<=1000/\∀a,H1 a=none->sp (.ref a::vs) (eS H1 a (nk a C none none)) (λv H2=>v=.non/\Q (.ref a) H2) E0
theorem wk {K:bZ}(c:tV K C):∃(nm q:Str) (N:ce) (bs bm:List bV) (mP:Bool) (sn:List Str) (sub:List bV) (ab:Bool) (col:Option Bool) (dd:Option ce) (k0 k1 k2 k3 k5:Option bV),
  K.lookup C=some (excClassObj nm q C N bs bm mP sn sub ab col dd k0 k1 k2 k3 k5 "ValueError.__new__")/\jV bm/\(bV.ref C::bm).contains (.type "ValueError")=true/\(bV.ref C::bm).contains (.type "BaseException")=true/\(bV.ref C::bm).contains (.type "AttributeError")=false/\(bV.ref C::bm).contains (.type "NameError")=false:=by
 obtain⟨nm,q,N,bs,bm,mP,sn,sub,ab,col,dd,k0,k1,k2,k3,k5,ho,hm⟩:=c.ob;exact⟨nm,q,N,bs,bm,mP,sn,sub,ab,col,dd,k0,k1,k2,k3,k5,ho,hm,Iy ho c.mV,Iy ho c.mB,Iy ho c.mA,Iy ho c.mN⟩
theorem WR {Q:VK}(c:tV X.K C)(hi:cT X.K (.ref C) "__init__"=some (some (.ref f)))(vC:iH X.K (.ref f)=true)(F:dM X.prog X.w X.K X.mg X.base gC k f fd ps sp)(hr:fw (k+1) X.A)(hb:fF X.K fd ps [])
  (I:Inv X bX σ H s) (r:dA vs us) (hz:vs.length<=1000) (h:∀a,H a=none->sp (.ref a::vs) (eS H a (nk a C none none)) (λv H2=>v=.non/\Q (.ref a) H2) E0) :
  cF (cC X.prog X.w) X.A (call (.ref C) us) (EP X bX σ Q) X.xe s:=by
 obtain⟨hn,I2⟩:=I.xmade (C:=C) us;have hq:=h _ hn;obtain⟨nm,q,N,bs,bm,mP,sn,sub,ab,col,dd,k0,k1,k2,k3,k5,ho,hm,c1,c2,c3,c4⟩:=wk c;have r2:dA (V.ref (s.heap.objs.size+1)::vs) (bV.ref (s.heap.objs.size+1)::us):=.cons rfl r;have hl:(bV.ref (s.heap.objs.size+1)::us++[]).length=ps.length:=by rw[cS,←r2.length];exact F.len _ _ _ _ hq
 have Hl:=hb _ (bV.ref (s.heap.objs.size+1)::us) I2.kIn hl;rw[cS]at Hl;have Hv:us.length<=sizeLine:=by rw[←r.length];exact d9 hz (by rw[dD];omega)
 obtain⟨h0,g,d,t,os⟩:=s;refine wpAny_call (Zi c1 c3 c4 (I.kIn _ _ ho) (PySem.W.looks_specialIn I.kIn c.sp) (PySem.W.looks_instIn I.kIn c.ty) (fP I.kIn hi) (λself=>xY I.kIn self (beq_iff_eq.mp vC)) Hv (gR (F.run _ X.stack _ _ ⟨bV.ref (h0.objs.size+1)::us,[]⟩ _ _ _ E0 (hr.make C us []) (I2.env0.make C us []) Hl r2 hq) λz s' sD=>?_));cases z with
 |error u=>exact False.elim sD
 |ok fl=>
  cases fl with
  |ret u=>obtain⟨v,H',I3,rv,ev,q3⟩:=I2.after sD;subst ev;exact⟨rv,V.ref (h0.objs.size+1),H',I3,rfl,q3⟩
  |_=>exact False.elim sD
theorem LH (c:tV X.K C)(Df:dn X.K (.ref C)=true)(hi:cT X.K (.ref C) "__init__"=some (some (.ref f)))(vC:iH X.K (.ref f)=true)(F:dM X.prog X.w X.K X.mg X.base gC k f fd ps sp)(hr:fw (k+1) X.A)(hg:Gl X x)(hm:X.mg x=some (.ref C))(hb:fF X.K fd ps [])
  (ha:PA X (e::es) t) (kM:lx x:=by decide) (he:SE X e es:=by rfl) (gW:oa X pos es:=by rfl) :
  PE X (.Call (.Name x p) (e::es) [] pos) (DK C sp t):=by
 intro bX s σ H Q I h;refine eT (x6 I hg hm (fJ (h₀:=X.base) I.ok.mod.kin Df (fN (ha pos bX s σ H _ I h) λus s1 ⟨vs,H1,I1,r,q⟩=>⟨I1.kIn,?_⟩) he gW) kM);exact WR c hi vC F hr hb I1 r q.1 q.2
def DI (K:bZ)(G:GK)(te:TE):TS:=λD σ H=>te σ H λv H1=>∃a C dx,v=.ref a/\tV K C/\vA H1 a C dx none/\∀T,H1 T=none->G σ a (gY H1 a C dx T)
theorem X8 (hc:X.calm=true)(hx:mH X G)(he:PE X e te):PS X (.Raise (some e) none pos) (DI X.K G te):=by
 intro bX s σ H D I h;have main:cF (cC X.prog X.w) X.A (raiseStmt X.env (some (do let v ← ei e X.env;lz pos;pure v)) none) (SP X bX D) X.xe s:=by
  unfold raiseStmt;refine bW (bW (fN (he bX s σ H _ I h) λv s1 ⟨v',H1,I1,r1,a,C,dx,e1,c,xr,w⟩=>bW (kc (cw ?_))));subst e1;cases r1;obtain⟨nm,q,N,bs,bm,mP,sn,sub,ab,col,dd,k0,k1,k2,k3,k5,ho,hm,c1,c2,c3,c4⟩:=wk c;obtain⟨a0,ha⟩:=I1.xc xr;have hC:=I1.kIn _ _ ho;have fin:X.xe (.ref a) s1:=hx bX σ H1 s1 a C dx none I1 xr w;have hh:=I.ok.hd hc;obtain⟨h0,g,d,t,os⟩:=s1
  repeat (first|with_reducible refine wpAny_loadPart_at ha ?_|with_reducible refine wpAny_loadPart_at hC ?_|(with_reducible refine wpAny_isSubtype_exc hC ?_;rw[c2])|wp_step)
  exact wpAny_raiseNew_none hh fin
 rw[arm_exec_Raise];exact bW (kc main)
def tO (K:bZ)(to:TE)(te:TE):TE:=λσ H Q=>to σ H λv H1=>te σ H1 λu H2=>∃a C dx tb,v=.ref a/\tV K C/\H2 a=some (nk a C dx tb)/\Q .non H2
theorem qm {B:ce}(hg:Gl X x)(hm:X.mg x=some (.ref B))
  (h1:fC X.K (.ref B) "__getattribute__"=some (some (.builtin "type.__getattribute__"))) (h2:kT X.K B (.type "type")=true) (h3:kS X.K (.ref B) (.type "type") m=some (.val (.builtin "ValueError.__init__"))) (ho:PE X o to) (he:PE X e te)
  (kM:lx x:=by decide) (ky:c9 [o,e] X.env=[(false,ei o X.env),(false,ei e X.env)]:=by rfl) (BM:SN X e:=by rfl)
  (ht:ei (.Call (.Attribute (.Name x p) m gq) [o,e] [] pos) X.env=(do
   let ov ← ei (.Name x p) X.env
   lz gq.atName
   let(f,first) ← kh [ov] (kz ov m pl)
   mT pos f first (jM pos (c9 [o,e] X.env)) (lP pos (iu [] X.env))):=by rfl) :
  PE X (.Call (.Attribute (.Name x p) m gq) [o,e] [] pos) (tO X.K to te):=by
 intro bX s σ H Q I h;refine ie (pl:=pl) (x6 I hg hm ?_ kM) ht;refine uX I.kIn h1 (vL I.kIn h2 h3 rfl ?_);have I1:Inv X bX σ H { s with toks:=s.toks+1 }:=I.tok _;refine n9 (fN ((zy ho (zy he yy BM) (by show c9 _ _=_;rw[ky,BM])) pos bX _ σ H (λvs H2=>match vs with|[v,u]=>∃a C dx tb,v=.ref a/\tV X.K C/\H2 a=some (nk a C dx tb)/\Q .non H2|_=>False) I1 h) λus s2 ⟨vs,H2,I2,r,q2⟩=>?_) (by show c9 _ _=_;rw[ky,BM]) (by rw[BM];rfl);cases r with
 |nil=>exact False.elim q2
 |cons rv r=>
  cases r with
  |nil=>exact False.elim q2
  |cons ru r=>
   cases r with
   |cons _ _=>exact False.elim q2
   |nil=>
    obtain⟨a,C,dx,tb,e1,c,ha,q3⟩:=q2;subst e1;cases rv;obtain⟨nm,q,N,bs,bm,mP,sn,sub,ab,col,dd,k0,k1,k2,k3,k5,Hq,hmr,c1,c2,c3,c4⟩:=wk c;obtain⟨a0,ea⟩:=(I2.hok a _ ha).1;refine wpAny_call (X7 c1 (I2.kIn _ _ Hq) ea (by show 1<=sizeLine;rw[dD];omega) λh' a1 kp e2=>?_);have I3:=I2.xwrite (tb':=tb) (Jy:=dx) ha (h':=h') (t':=s2.toks) kp ⟨a1,e2⟩;have hH:eS H2 a (nk a C dx tb)=H2:=by
     funext b;by_cases hb:b=a
     ·rw[hb,zk,ha]
     ·rw[zj hb]
    rw[hH]at I3;exact⟨.non,H2,I3,rfl,q3⟩
def xM (K:bZ)(f:Str)(te to:TE):TS:=λD σ H=>te σ H λu H1=>to σ H1 λv H2=>∃a C tb,v=.ref a/\tV K C/\dL K C=true/\cT K (.ref C) "__setattr__"=some (some (.builtin "object.__setattr__"))/\eL K C f=some none/\H2 a=some (nk a C none tb) /\
 ∀dx,H2 dx=none->dx≠a->D.nx σ (eS (eS H2 dx (.xd [(f,u)])) a (nk a C (some dx) tb))
theorem Iz {f:Str}(ho:PE X o to)(hv:PE X value tv)(hs:gQ value (some (.Attribute o f pos')) pos.line X.env=pure false:=by rfl):PS X (.Assign [.Attribute o f pos'] value pos) (xM X.K f tv to):=by
 intro bX s σ H D I h;refine plainObj_wpAny_Assign_Attribute (fN (hv bX s σ H _ I h) λu s1 ⟨u',H1,I1,r1,q1⟩=>fN (ho bX s1 σ H1 _ I1 q1) λov s2 ⟨v',H2,I2,r2,q2⟩=>?_) hs;obtain⟨a,C,tb,e1,c,hd,Ht,Hu,ha,w⟩:=q2;subst e1;cases r2;obtain⟨nm,q,N,bs,bm,mP,sn,sub,ab,col,dd,k0,k1,k2,k3,k5,Hq,hm,c1,c2,c3,c4⟩:=wk c;obtain rfl:mP=true:=by unfold dL kB at hd;rw[Hq]at hd;simpa using hd
 obtain⟨a0,ea⟩:=(I2.hok a _ ha).1;refine zto I2.kIn Hq hm ea (λ_ z=>by cases z) rfl Ht Hu λh' dx Bi mE tD Cv zU kp=>?_;have nn:∀b,H2 b=none->b≠a:=λb hb q=>by rw[q,ha]at hb;cases hb
 have Ef:H2 dx=none:=I2.hok.fresh tD;have nT:∀b o,s2.heap.get? b=some o->b≠dx:=λb o q z=>by rw[z,Bi]at q;cases q
 refine⟨σ,eS (eS H2 dx (.xd [(f,u')])) a (nk a C (some dx) tb),I2.step (g':=s2.gens) (t':=s2.toks+2) (d':=s2.drawn) (ch:=[]) (λb z=>nomatch z) (λb o _ _ _ q n=>kp b o (nn b n) q) (λb o _ _ _ q n=>⟨o.slots,kp b o (nn b n) q⟩) (λb o _ q n=>?_) (λb o _ q=>?_) (λb xs q=>?_) (λb o u q=>?_) (λb ps q=>?_) (λm q=>?_) (λb u q=>?_) I2.bare,w dx Ef mE⟩
 ·rw[zj (nn b n),zj (nT b o q)];exact n
 ·by_cases hb:b=a
  ·rw[hb];exact⟨_,Cv⟩
  ·exact⟨o,kp b o hb q⟩
 ·rw[zj (λz=>by rw[z,ha]at q;cases q),zj (zl q Ef)];exact q
 ·rw[zj (λz=>by rw[z,ha]at q;cases q),zj (zl q Ef)];exact q
 ·exact⟨#[],by rw[zj (λz=>by rw[z,ha]at q;cases q),zj (zl q Ef),q];simp⟩
 ·obtain⟨o,es,ep,ho,r⟩:=q;exact⟨o,es,ep,kp _ _ (nn _ I2.free) ho,r⟩
 ·by_cases hb:b=a
  ·subst hb;rw[zk]at q;cases q;exact⟨⟨a0,Cv⟩,⟨_,Cv⟩,λ_ _ z k=>z.stay k⟩
  ·rw[zj hb]at q;by_cases Bh:b=dx
   ·rw[Bh,zk]at q;cases q;rw[Bh];refine⟨_,zU,λy=>?_⟩;by_cases hy:y=f
    ·subst hy;rw[if_pos rfl];have:(y==y)=true:=beq_self_eq_true y;simp only[iK,this];exact r1
    ·rw[if_neg hy];have:(y==f)=false:=beq_eq_false_iff_ne.mpr hy;simp only[iK,this];trivial
   ·rw[zj Bh]at q;refine(I2.hok b u q).stay (λc v hc z=>kp c v ?_ z) (λc z=>?_) (λc xs z=>?_)
    ·rcases hc with rfl|hc
     ·exact hb
     ·intro e;rw[e,ha]at hc;cases hc
    ·rw[zj (λe=>by rw[e,ha]at z;cases z),zj (zl z Ef)];exact z
    ·rw[zj (λe=>by rw[e,ha]at z;cases z),zj (zl z Ef)];exact z
end
abbrev TF:=St->Hp->(Hp->Prop)->Prop
def PF (X:Cx)(e:Expr)(n:Nat)(t:TF):Prop:=∀(bX:List (ce×f9)) (s:cq) (σ:St) (H:Hp) (Q:Hp->Prop),Inv X bX σ H s->t σ H Q ->
 cF (cC X.prog X.w) X.A (ei e X.env) (λv s1=>∃y tk H1,v=.str y tk/\y.length<=n/\Inv X bX σ H1 s1/\Q H1) X.xe s
theorem qo {c:Str}{j}(hz:c.length<=2000:=by decide):PF X (.Constant (.str c) j pos) 2000 (λ_ H Q=>Q H):=λ_ _ _ H _ I h=>Calls.Constant_str ⟨c,_,H,rfl,hz,I.tok _,h⟩
def sv (v:V):Prop:=v=.non\/∃i:Int,v=.int i/\i.natAbs.log2<1920
theorem RA (he:PE X e te):PF X (.FormattedValue e (-1) none pos) 2000 (λσ H Q=>te σ H λv H1=>sv v/\Q H1):=by
 intro bX s σ H Q I h;refine wpAny_FormattedValue_plain (fN (he bX s σ H _ I h) λu s1 gu=>?_);obtain⟨v,H1,I1,r1,f,q⟩:=gu;rcases f with rfl|⟨i,rfl,hi⟩
 ·cases r1;exact wpAny_formatField_none ⟨_,_,H1,rfl,by decide,I1.tok _,q⟩
 ·obtain⟨t,rfl⟩:=r1;refine wpAny_formatField_int hi ⟨_,_,H1,rfl,?_,I1.tok _,q⟩;have z:=int_text_length_le (k:=1920) (by decide) hi;rw[PySem.ofString_length];omega
def G6 (X:Cx)(es:List Expr)(t:TF):Prop:=∀(bX:List (ce×f9)) (s:cq) (σ:St) (H:Hp) (jR:Str) (Q:VK),Inv X bX σ H s->jR.length+2000*es.length<=100000->t σ H (λH1=>∀x,Q (.str x) H1) ->
 Joins (cC X.prog X.w) X.A X.xe (evalEach es X.env) jR (λout s1=>out.length<=sizeLine/\EP X bX σ Q (.str out s1.toks) { s1 with toks:=s1.toks+1 }) s
theorem IA:G6 X [] (λ_ H Q=>Q H):=by intro bX s σ H jR Q I hz h;exact⟨by rw[dD];omega,.str jR,H,I.tok _,⟨_,rfl⟩,h jR⟩
theorem xt {t1 t2:TF}(h1:PF X e 2000 t1)(h2:G6 X es t2)(hs:evalEach (e::es) X.env=ei e X.env::evalEach es X.env:=by rfl):G6 X (e::es) (λσ H Q=>t1 σ H λH1=>t2 σ H1 Q):=by intro bX s σ H jR Q I hz h;rw[hs];refine e8 (h1 bX s σ H _ I h) (λv s1 ⟨y,tk,H1,e1,hy,I1,q⟩=>?_) λ_ _ x=>x;have hl:(jR++y).length=jR.length+y.length:=strLen_append _ _;rw[cm]at hz;exact⟨y,tk,e1,by rw[hl,dD];omega,h2 bX s1 σ H1 (jR++y) Q I1 (by rw[hl];omega) q⟩
theorem IC {a b:Expr}{t:TF}(h:G6 X (a::b::es) t)(hl:(a::b::es).length<=40:=by decide):PE X (.JoinedStr (a::b::es) pos) (λσ H Q=>t σ H λH1=>∀x,Q (.str x) H1):=by intro bX s σ H Q I hq;refine wpAny_JoinedStr (h bX s σ H Str.empty Q I ?_ hq);have:(Str.empty:Str).length=0:=rfl;omega
structure XAt (K:bZ)(C:ce)(f:Str):Prop where
 ga:cT K (.ref C) "__getattribute__"=some (some (.builtin "BaseException.__getattribute__"))
 gn:cT K (.ref C) "__getattr__"=some none
 mB:eX K C (.type "BaseException")=some true
 hd:dL K C=true
 no:cT K (.ref C) f=some none
def GF (K:bZ)(ta:TE)(f:Str):TE:=λσ H Q=>ta σ H λx H1=>∃a C dx tb fs v,x=.ref a/\H1 a=some (nk a C (some dx) tb)/\H1 dx=some (.xd fs)/\XAt K C f/\fs.lookup f=some v/\Q v H1
theorem Zj {f:Str}(he:PE X e te)(hb:Ag X e f):PE X (.Attribute e f pos) (GF X.K te f):=by
 intro bX s σ H Q I h;refine PN hb (fN (he bX s σ H _ I h) λu s1 gu=>?_);obtain⟨x,H1,I1,rx,a,C,dx,tb,fs,v,ex,ea,ed,c,l,q⟩:=gu;subst ex;cases rx;obtain⟨a0,eo⟩:=(I1.hok a _ ea).1;obtain⟨mA,zU,Ko⟩:=I1.hok dx _ ed;obtain⟨od,ho,hl⟩:=OD zU;have J:iy s1.heap a _ C (some od):=⟨eo,rfl,rfl,ho⟩;have hv:=Ko f;rw[l]at hv;cases hm:mA f with
 |none=>rw[hm]at hv;exact False.elim hv
 |some w=>rw[hm]at hv;exact ztp I1.kIn J c.ga c.gn c.mB (uB c.hd c.no rfl (by rw[hl,hm])) (OE hv) ⟨v,H1,I1.tok _,hv,q⟩
structure XIc (K:bZ)(C:ce):Prop where
 ga:cT K (.ref C) "__getattribute__"=some (some (.builtin "BaseException.__getattribute__"))
 gn:cT K (.ref C) "__getattr__"=some none
 mB:eX K C (.type "BaseException")=some true
 hd:dL K C=true
 ca:cT K (.ref C) "__class__"=some (some (.builtin "object.__class__"))
 cg:fC K (.builtin "object.__class__") "__get__"=some (some (.builtin "getset_descriptor.__get__"))
 ct:p5 K (.builtin "object.__class__")=some true
 mO:eX K C (.type "object")=some true
section
variable {prog:dH}{w:dw}{A:c7}{K:bZ}{x:ce}{ox:f9}{od:Option f9}
theorem X9 {Q:Option bV->cq->Prop}(c:XIc K C)(X:K.In s.heap)(J:iy s.heap x ox C od)(h:Q (some (.ref C)) { s with toks:=s.toks+1 }):cF (cC prog w) A (getAttr? (.ref x) "__class__") Q E s:=by
 have hf:p3 K C od "__class__"=some (.bind (.builtin "getset_descriptor.__get__") (.builtin "object.__class__")):=by obtain⟨cd,hc,_⟩:=mC c.hd;unfold p3;rw[hc,cP,c.ca,cP];dsimp only;rw[c.cg,cP];dsimp only;rw[c.ct,cP]
 obtain⟨hh,g,d,t,os⟩:=s;have L0:=J.type (M:=cC prog w);have L1:=fP (M:=cC prog w) X c.ga;have L2:=fP (M:=cC prog w) X c.gn;have L3:=uW (M:=cC prog w) X J hf;have FX:=PySem.F.excAttr_ValueError;have Dj:(bV.builtin "BaseException.__getattribute__" == bV.builtin "object.__getattribute__")=false:=by decide +kernel
 unfold getAttr? getAttrBy? getAttrBy;refine bW (wpAny_mkText (bW (wpAny_attempt (iM (bW (L0.at (bW (L1.at ?_))))))));dsimp only;rw[Dj,rR,if_neg cD];unfold getAttrByItsOwn hookBefore;rw[if_pos (show onTheHeap (bV.ref C)=true from rfl)];refine bW (L2.at ?_);refine bW (wpAny_attempt (iM ?_));unfold callGetattribute;rw[if_neg (by decide)];unfold boundAndCalled;rw[FX.ga.bind (.ref x)];refine bW (cw ?_);have hi:et (cC prog w) hh (isInstance (.ref x) (.type "BaseException")) true:=L0.andThen (nU X c.mB);refine wpAny_call (codeAny_call_builtin FX.ga.plain PySem.F.entry_bexc_ga (@lu (cC prog w) _ _ ⟨hh,g,d,t+1,os⟩ "BaseException.__getattribute__" "BaseException" "__getattribute__" (.ref x) [.str "__class__" t] [] _ (by decide +kernel) (by decide +kernel) hi (PySem.F.args_bexc_ga _ _) ?_));unfold Builtin.«object.__getattribute__»;refine bW (cw (bW (cw (bW (L0.at (bW (L3.at ?_)))))));show cF _ _ (kh [.builtin "object.__class__"] (call (.builtin "getset_descriptor.__get__") [.builtin "object.__class__",.ref x,.ref C]) >>= ret) _ _ _;refine bW (iM (wpAny_call (PySem.W.class_get (s:=⟨hh,g,d,t+1,os⟩) X J c.mO ?_)));refine cw ?_;show cF _ _ (handedOut (.ref C)) _ _ _;exact PySem.W.handed_on rfl (cw h)
theorem Xw (c:XIc K C):PySem.W.KitX K (.ref x) (.ref C) (λh=>iy h x ox C od) where
 ty:=λ_ _ _ J=>J.type
 it:=λM h X _=>by
  obtain⟨cd,hc,_⟩:=mC c.hd;unfold kB at hc;split at hc
  ·rename_i c' d' RU K2 ho;intro A' Q' E' s' k q;unfold isType loadHead;exact bW (wpAny_loadPart (k _ _ (X _ _ ho)) (cw q))
  ·cases hc
 ne:=λh tp dd dJ n sl X TD=>by
  obtain⟨cd,hc,_⟩:=mC c.hd;refine yU.mpr λq=>?_;obtain rfl:C=tp:=bV.ref.inj (beq_iff_eq.mp q);unfold kB at hc;split at hc
  ·rename_i c' d' RU K2 ho;have z:=(X _ _ ho).symm.trans TD;cases z
  ·cases hc
 ca:=λX J k=>X9 c X J k
end
abbrev Cx.tr (X:Cx)(E:bV->cq->Prop)(bX:List (ce×f9)):Cx:={ X with xe:=E,pn:=X.pn++bX }
abbrev Cx.hd (X:Cx)(a:ce):Cx:={ X with A:=X.A.mark (some (.ref a)),calm:=false,xe:=λ_ _=>False }
variable {body:List ek}{i:Nat}{v:V}
theorem Inv.tr (I:Inv X bX σ H s)(E:bV->cq->Prop):Inv (X.tr E bX) [] σ H s :=
 ⟨⟨I.ok.mod,I.ok.kind,I.ok.glob,I.ok.blt,I.ok.above,I.ok.inj,I.ok.has,I.ok.cab,I.ok.hd,I.ok.frames,I.ok.stk,I.ok.exf,I.ok.bs,I.ok.bsz,I.ok.noex,I.ok.exfs,I.ok.funs,I.ok.frf⟩,I.os,I.bare,I.base,I.loc,I.cell,I.free,I.freeC,λp hp=>I.pin p (by simpa using hp),I.hok,I.len⟩
theorem Inv.untr {q:List (ce×f9)}(I:Inv (X.tr E bX) q σ H s):Inv X bX σ H s :=
 ⟨⟨I.ok.mod,I.ok.kind,I.ok.glob,I.ok.blt,I.ok.above,I.ok.inj,I.ok.has,I.ok.cab,I.ok.hd,I.ok.frames,I.ok.stk,I.ok.exf,I.ok.bs,I.ok.bsz,I.ok.noex,I.ok.exfs,I.ok.funs,I.ok.frf⟩,I.os,I.bare,I.base,I.loc,I.cell,I.free,I.freeC,λp hp=>I.pin p (cN _ hp),I.hok,I.len⟩
theorem Inv.hdl (I:Inv X bX σ H s)(a:ce):Inv (X.hd a) bX σ H s :=
 ⟨⟨I.ok.mod,I.ok.kind,I.ok.glob,I.ok.blt,I.ok.above,I.ok.inj,I.ok.has,I.ok.cab,(λz=>by cases z),I.ok.frames,I.ok.stk,I.ok.exf,I.ok.bs,I.ok.bsz,I.ok.noex,I.ok.exfs,I.ok.funs,I.ok.frf⟩,I.os,I.bare,I.base,I.loc,I.cell,I.free,I.freeC,I.pin,I.hok,I.len⟩
theorem Inv.unhd (ok:X.Ok)(I:Inv (X.hd a) bX σ H s):Inv X bX σ H s :=
 ⟨ok,I.os,I.bare,I.base,I.loc,I.cell,I.free,I.freeC,I.pin,I.hok,I.len⟩
theorem SP.untr {D:lA}{f:Flow}(h:SP (X.tr E bX) [] D f s'):SP X bX D f s':=by
 cases f with
 |next=>obtain⟨σ',H',I,q⟩:=h;exact⟨σ',H',I.untr,q⟩
 |brk=>obtain⟨σ',H',I,q⟩:=h;exact⟨σ',H',I.untr,q⟩
 |cont=>obtain⟨σ',H',I,q⟩:=h;exact⟨σ',H',I.untr,q⟩
 |ret u=>obtain⟨v,σ',H',I,r,q⟩:=h;exact⟨v,σ',H',I.untr,r,q⟩
abbrev TH:=ce->ce->TS
def PH (X:Cx)(hs:List ExceptHandler)(th:TH):Prop:=∀(bX:List (ce×f9)) (s:cq) (σ:St) (H:Hp) (D:lA) (a C:ce) (dx:Option ce) (T:ce),Inv X bX σ H s->vA H a C dx (some T)->th a C D σ H ->
 cF (cC X.prog X.w) X.A (handleBy (.ref a) X.env hs) (SP X bX D) X.xe s
theorem ztr:PH X [] (λ_ _ _ _ _=>False):=λ_ _ _ _ _ _ _ _ _ _ _ h=>h.elim
theorem Vx {A:c7}{Q:Unit->cq->Prop}(I:Inv X bX σ H s)(x:vA H a C dx (some T))(h:Q () s):cF M A (setFlight (.ref a) none) Q E s:=by obtain⟨a0,he⟩:=I.xc x;obtain⟨ts,ht,h3⟩:=I.tbo x;unfold setFlight;refine bW (wpAny_field he rfl (x:=.ref T) (by simp) ?_);rw[if_pos (show(bV.ref T != bV.none)=true from by simp)];refine wpAny_setField ht rfl (lO.mp h3).1 ?_;show Q () { s with heap:=s.heap.update T (f9.mapFields (·.setIfInBounds 3 bV.none)) };rw[sj s.heap T _ ts 3 .none ht rfl h3];exact h
def DL (th:TH)(D:lA):GK:=λσ' a H'=>∃C dx T,vA H' a C dx (some T)/\th a C D σ' H'
theorem zts {h0:ExceptHandler}{hs:List ExceptHandler}{th:TH}{tb:∀(E:bV->cq->Prop) (bX:List (ce×f9)) (G:GK),gj (cC X.prog X.w) X.A X.env E->mH (X.tr E bX) G->TS}(ky:X.stack=X.env::X.outer)(hf:X.env.frame=some X.env.locals)
  (hb:∀E bX G h1 h2,rV (X.tr E bX) body (tb E bX G h1 h2)) (hh:PH X (h0::hs) th):PS X (.Try body (h0::hs) [] [] pos) (λD σ H=>∀E bX h1 h2,tb E bX (DL th D) h1 h2 D σ H):=by
 intro bX s σ H D I h;refine wpAny_Try_except ?_;have key:cF (cC X.prog X.w) X.A (execs body X.env) (SP (X.tr (λe s1=>cF (cC X.prog X.w) X.A (noteFrame e X.env) (λ_ s2=>cF (cC X.prog X.w) X.A (setFlight e none) (λ_ s3=>cF (cC X.prog X.w) X.A (handleBy e X.env (h0::hs)) (SP X bX D) X.xe s3) X.xe s2) X.xe s1) bX) [] D)
   (λe s1=>cF (cC X.prog X.w) X.A (noteFrame e X.env) (λ_ s2=>cF (cC X.prog X.w) X.A (setFlight e none) (λ_ s3=>cF (cC X.prog X.w) X.A (handleBy e X.env (h0::hs)) (SP X bX D) X.xe s3) X.xe s2) X.xe s1) s:=by
  have p1:gj (cC X.prog X.w) X.A X.env (λe s1=>cF (cC X.prog X.w) X.A (noteFrame e X.env) (λ_ s2=>cF (cC X.prog X.w) X.A (setFlight e none) (λ_ s3=>cF (cC X.prog X.w) X.A (handleBy e X.env (h0::hs)) (SP X bX D) X.xe s3) X.xe s2) X.xe s1) :=
   gj.looking (K:=λe s2=>cF (cC X.prog X.w) X.A (setFlight e none) (λ_ s3=>cF (cC X.prog X.w) X.A (handleBy e X.env (h0::hs)) (SP X bX D) X.xe s3) X.xe s2)
  have p2:mH (X.tr (λe s1=>cF (cC X.prog X.w) X.A (noteFrame e X.env) (λ_ s2=>cF (cC X.prog X.w) X.A (setFlight e none) (λ_ s3=>cF (cC X.prog X.w) X.A (handleBy e X.env (h0::hs)) (SP X bX D) X.xe s3) X.xe s2) X.xe s1) bX) (DL th D):=by intro q σ' H' s' a C dx tb I' xr g;have J:=I'.untr;refine J.note ky hf J.ok.frames xr λs2 T hT J2=>?_;obtain⟨C2,Jz,T2,Lv,h2⟩:=g T hT;exact hh bX s2 σ' _ D a C2 Jz T2 J2 Lv h2
  exact hb _ bX _ p1 p2 [] s σ H D (I.tr _) (h _ bX p1 p2)
 refine e8 key (λf s1 q=>?_) λ_ _ z=>z;have q:=q.untr;cases f with
 |next=>exactλΓ p hΓ=>q
 |_=>exact q
theorem Inv.del {A:c7}{n:Str}{Q:Unit->cq->Prop}(I:Inv X bX σ H s)(hN:X.N.Nodup)(hi:X.N[i]?=some n)(hl:X.env.scope.names.lookup n=some .local)(hσ:σ[i]?=some (some v))
  (h:∀s',Inv X bX (σ.set i none) H s'->Q () s'):cF M A (unbindName X.env n) Q E s:=by
 obtain⟨m,hn,Fy⟩:=id I.loc;obtain⟨u,r,lk⟩:=Fy i n v hi hσ (.inl hl);have C9:(X.env.scope.kind==.class || (X.env.scope.kind==.module&&X.env.locals != X.env.globals))=false:=by rw[I.ok.kind];rfl
 have hm:m n=some u:=by
  rcases lk with⟨_,q⟩|⟨k,_⟩
  ·exact q
  ·have k:X.env.scope.names.lookup n=some .cell\/X.env.scope.names.lookup n=some .free:=k;rw[hl]at k;rcases k with k|k<;>cases k
 refine wpAny_unbindName_local hl hn hm C9 λh' u' Bj hs=>?_;have Er:∀b o,X.s₀.heap.get? b=some o->b≠X.env.locals:=λb o e=>cW (dg (cy e) I.ok.above);obtain⟨oL,_,_,Nn,_⟩:=id hn;refine h _ ⟨I.ok,I.os,I.bare,⟨λb o e nn hb hx=>(hs.2 b (Er b o e)).trans (I.base.keep b o e nn hb hx),λb o e nn hb hx=>?_,I.base.free,λb o e hx=>?_,I.base.tups,I.base.frzs,I.base.tbls⟩,⟨_,Bj,λj y v' e1 e2 e3=>?_⟩,λy c e=>?_,I.free,I.freeC,λp hp=>?_,λb ob e=>?_,by simpa using I.len⟩
 ·obtain⟨sl,e1⟩:=I.base.slot b o e nn hb hx;exact⟨sl,(hs.2 b (Er b o e)).trans e1⟩
 ·obtain⟨o',e1⟩:=I.base.there b o e hx;exact⟨o',(hs.2 b (Er b o e)).trans e1⟩
 ·by_cases hj:j=i
  ·subst hj;rw[hG (by rw[I.len];exact(cM.mp hi).1)]at e2;cases e2
  ·rw[iJ (Ne.symm hj)]at e2;obtain⟨w,r',q⟩:=Fy j y v' e1 e2 e3;refine⟨w,r',?_⟩;rcases q with⟨k,e⟩|⟨k,c,e,z⟩
   ·refine .inl ⟨k,?_⟩;have:y≠n:=λe=>hj (LD hN e1 (e▸hi));simp[this,e]
   ·exact .inr ⟨k,c,e,z.sameBut hs (I.cne y c e)⟩
 ·obtain⟨w',z⟩:=I.cell y c e;exact⟨w',z.sameBut hs (I.cne y c e)⟩
 ·obtain⟨e,nn,ne,nf,d⟩:=I.pin p hp;exact⟨(hs.2 p.1 ne).trans e,nn,ne,nf,d⟩
 ·refine(I.hok b ob e).stay (λc w' hc q=>(hs.2 c ?_).trans q) (λ_ q=>q) λ_ _ q=>q;rintro rfl;rcases hc with rfl|hc
  ·rw[I.free]at e;cases e
  ·rw[I.free]at hc;cases hc
def lA.un (D:lA)(i:Nat):lA:={ nx:=λσ H=>D.nx (σ.set i none) H,rt:=D.rt,bk:=λσ H=>D.bk (σ.set i none) H,ct:=λσ H=>D.ct (σ.set i none) H }
theorem zvt {n:Str}{np:m9}{B:ce}{rest:List ExceptHandler}{tb:ce->TS}{th:TH}(hN:X.N.Nodup)(hi:X.N[i]?=some n)(hl:X.env.scope.names.lookup n=some .local)(hg:Gl X x)(hm:X.mg x=some (.ref B))(hb:∀a,rV (X.hd a) body (tb a))(hr:PH X rest th)(mE:body≠[]:=by simp)(kM:lx x:=by decide) :
  PH X (.ExceptHandler (some (.Name x np)) (some n) body pos::rest) (λa C D σ H=>∃b,fO X.K (.ref C) (.ref B)=some b/\if b=true then tb a (D.un i) (σ.set i (some (.ref a))) H else th a C D σ H):=by
 intro bX s σ H D a C dx T I xr h;obtain⟨b,hx,h⟩:=h;have I1:=I.hdl a;obtain⟨a0,he⟩:=I.xc xr;refine wpAny_handleBy_cons (codeAny_handlers_test (x6 I1 hg hm ?_ kM)) (by intro z;cases z);have LT:et (cC X.prog X.w) s.heap (typeOf (.ref a)) (.ref C):=(et.ld he).andThen .now;refine(PySem.W.exm_one I.kIn LT hx).here ?_;cases b with
 |false=>rw[if_neg cD]at h ⊢;exact hr bX s σ H D a C dx T I xr h
 |true=>
  rw[if_pos rfl]at h ⊢;have fin:∀{f:Flow} {s':cq} {A:c7} {E:bV->cq->Prop},SP (X.hd a) bX (D.un i) f s'->cF (cC X.prog X.w) A (do bindName X.env n .none;unbindBehindTheSuite X.env n pos) (λ_ s3=>SP X bX D f s3) E s':=by
   intro f s' A E q;have go:∀{σ':St} {H':Hp},Inv (X.hd a) bX σ' H' s'->(∀s3,Inv X bX (σ'.set i none) H' s3->SP X bX D f s3)->cF (cC X.prog X.w) A (do bindName X.env n .none;unbindBehindTheSuite X.env n pos) (λ_ s3=>SP X bX D f s3) E s':=by intro σ' H' J w;refine bW (wpAny_bindName (wj (J.unhd I.ok) hN hi (.inl hl) (v:=.non) rfl (λs3 J3=>?_) (.inr hl)));unfold unbindBehindTheSuite;refine wpAny_onRaise (J3.del hN hi hl (v:=.non) (by rw[hG (by rw[J.len];exact(cM.mp hi).1)]) λs4 J4=>?_);rw[pD]at J4;exact w s4 J4
   cases f with
   |next=>obtain⟨σ',H',J,q⟩:=q;exact go J λs3 J3=>⟨_,H',J3,q⟩
   |brk=>obtain⟨σ',H',J,q⟩:=q;exact go J λs3 J3=>⟨_,H',J3,q⟩
   |cont=>obtain⟨σ',H',J,q⟩:=q;exact go J λs3 J3=>⟨_,H',J3,q⟩
   |ret u=>obtain⟨v,σ',H',J,r,q⟩:=q;exact go J λs3 J3=>⟨v,_,H',J3,r,q⟩
  refine codeAny_of_tree ?_;show cF _ (X.A.mark (some (.ref a))) (do return Fin.done (← (handleWith (.ref a) X.env [.ExceptHandler none (some n) body pos]).onRaise (λx=>do noteFrame x X.env;theTreesLotGoes x))) _ _ s;refine bW (wpAny_noted ?_);have hw:handleWith (.ref a) X.env [.ExceptHandler none (some n) body pos]=(do
    lz pos
    setFlight (.ref a) none
    bindName X.env n (.ref a)
    match ← (execs body X.env).attempt with
    |.ok f=>pure f
    |.error x=>
     noteFrame x X.env
     kh [x] <|(do
      bindName X.env n .none
      unbindBehindTheSuite X.env n pos:Ad Unit).onRaise λ_=>setFlight x none
     passOn "try.except-as" x X.env):=by
   cases body with
   |nil=>exact absurd rfl mE
   |cons _ _=>rfl
  rw[hw];refine bW (kc (bW (Vx I xr (bW (wpAny_bindName (wj (X:=X.hd a) I1 hN hi (.inl hl) (v:=.ref a) rfl (λs3 J3=>?_) (.inr hl)))))));refine bW (wpAny_attempt (e8 (hb a bX s3 _ H _ J3 h) (λf s4 q=>cw (cw ?_)) λ_ _ z=>False.elim z));exact fin q
def vS (ns:List Int):Prop:=ns.length<=100/\∀i∈ns,0<=i/\i<16384
def EQ (K:bZ)(H:Hp)(v:V):Prop:=∃p ns,v=.ref p/\gZ K H p (ns.map V.int)/\vS ns
theorem u3 {h:cB}:∀{ns:List Int} {dJ:List bV},dA (ns.map V.int) dJ->ReadsAll h dJ (ns.map cU.int) []
 |[],_,.nil=>.nil
 |n::ns,_,.cons r t=>by obtain⟨tk,rfl⟩:=r;exact ReadsAll.cons (as:=[]) (bs:=[]) (.int n tk) (u3 t)
theorem WS {i:Int}(h:0<=i/\i<16384):i.natAbs.log2<14:=by
 by_cases h0:i.natAbs=0
 ·rw[h0];decide
 ·rw[qX h0];omega
theorem VV {ns:List Int}(h:vS ns):cU.showable (.list (ns.map .int))=true/\cU.hasDict (.list (ns.map .int))=false/\cU.depth (.list (ns.map .int))<=1/\(cU.shown (.list (ns.map .int))).length<=2000:=by
 have hb:∀ms:List Int,(∀i∈ms,0<=i/\i<16384)->cU.showableAll (ms.map .int)=true/\cU.hasDictAll (ms.map .int)=false/\cU.depthAll (ms.map .int)=0/\cU.leavesShortAll 16 (ms.map .int)=true/\cU.bulkAll (ms.map .int)=ms.length:=by
  intro ms;induction ms with
  |nil=>intro _;exact⟨rfl,rfl,rfl,rfl,rfl⟩
  |cons m ms ih=>
   intro hm;obtain⟨a1,a2,a3,a4,a5⟩:=ih λi hi=>hm i (cj _ hi);have hl:=WS (hm m b9);refine⟨?_,?_,?_,?_,?_⟩
   ·rw[cL];simp only[cU.showableAll,cU.showable,a1,sR];exact decide_eq_true (by omega)
   ·rw[cL];simp only[cU.hasDictAll,cU.hasDict,a2,sS]
   ·rw[cL];simp only[cU.depthAll,cU.depth,a3];rfl
   ·rw[cL];simp only[cU.leavesShortAll,cU.leavesShort,a4,sR];refine decide_eq_true ?_;have z:=int_text_length_le (k:=14) (by decide) hl;show(cU.shown (.int m)).length<=16;unfold cU.shown;rw[PySem.ofString_length];omega
   ·rw[cL];simp only[cU.bulkAll,cU.bulk,a5,cm];omega
 obtain⟨a1,a2,a3,a4,a5⟩:=hb ns h.2;refine⟨by simp only[cU.showable];exact a1,by simp only[cU.hasDict];exact a2,by simp only[cU.depth,a3];omega,?_⟩;have:=cU.shown_le_bulk 16 (by decide) (.list (ns.map .int)) (by simp only[cU.leavesShort];exact a4);have hl:=h.1;simp only[cU.bulk,a5]at this;omega
theorem ztt (hg:X.A.guards=some [])(hu:X.A.units+64<kR)(he:PE X e te):PF X (.FormattedValue e (-1) none pos) 2000 (λσ H Q=>te σ H λv H1=>EQ X.K H1 v/\Q H1):=by intro bX s σ H Q I h;refine wpAny_FormattedValue_plain (fN (he bX s σ H _ I h) λu s1 ⟨v,H1,I1,r1,⟨p,ns,ev,hq,hs⟩,q⟩=>?_);subst ev;cases r1;obtain⟨dJ,r,⟨o,n,e,c,_,d⟩,hz⟩:=I1.list hq;obtain⟨Ul,s2,s3,s4⟩:=VV hs;have rd:Reads s1.heap (.ref p) (.list (ns.map .int)) [p]:=.list e c d (by simpa using u3 r);exact formatField_of_reads rd Ul (λz=>by rw[s2]at z;cases z) hg (by omega) (λ_ _ e=>e) (λh' u tk hk=>⟨_,u,H1,rfl,s4,I1.kept (t':=tk) hk,q⟩) (by rw[dD];omega)
variable {κ:Type}{y:V}
section
variable [DecidableEq κ]
def m7 (eQ:List (κ×V))(k:κ):Option V:=(eQ.find? λkv=>decide (kv.1=k)).map (·.2)
def putK (eQ:List (κ×V))(k:κ)(v:V):List (κ×V) :=
 if(eQ.any λkv=>decide (kv.1=k))=true then eQ.map (λkv=>if kv.1=k then(kv.1,v)else kv)else eQ++[(k,v)]
theorem LI {p:κ×V}{r:List (κ×V)}{k:κ}(e:p.1=k):m7 (p::r) k=some p.2:=by simp[m7,fk,e]
theorem LJ {p:κ×V}{r:List (κ×V)}{k:κ}(e:¬p.1=k):m7 (p::r) k=m7 r k:=by simp[m7,fk,e]
theorem Pa (k:κ):∀eQ:List (κ×V),(eQ.any λkv=>decide (kv.1=k))=(m7 eQ k).isSome
 |[]=>rfl
 |p::r=>by
  rw[ip];by_cases e:p.1=k
  ·simp only[LI e,decide_eq_true e,Bool.true_or,Option.isSome_some]
  ·rw[LJ e,decide_eq_false e,Bool.false_or];exact Pa k r
theorem Od (eQ:List (κ×V))(k:κ)(v:V):(putK eQ k v).length<=eQ.length+1:=by
 unfold putK;split
 ·rw[ck];omega
 ·rw[cp,cm,fY];omega
theorem oh.isSome_eq {o:Option V}{u:Option bV}(r:oh o u):o.isSome=u.isSome:=by
 cases o with
 |none=>cases u with
  |none=>rfl
  |some _=>exact(show False from r).elim
 |some _=>cases u with
  |none=>exact(show False from r).elim
  |some _=>rfl
theorem KV.val {eQ:List (κ×V)}{vs:List (κ×bV)}(r:KV eQ vs)(k:κ):oh (m7 eQ k) (rL vs k):=by
 unfold KV at r;induction r with
 |nil=>exact True.intro
 |@cons p q ps qs h t ih=>
  obtain⟨h1,h2⟩:=h;by_cases e:p.1=k
  ·have e':q.1=k:=h1.symm.trans e;have b:rL (q::qs) k=some q.2:=by simp[rL,fk,e']
   rw[LI e,b];exact h2
  ·have e':¬q.1=k:=λz=>e (h1.trans z);have b:rL (q::qs) k=rL qs k:=by simp[rL,fk,e']
   rw[LJ e,b];exact ih
theorem KV.any {eQ:List (κ×V)}{vs:List (κ×bV)}(r:KV eQ vs)(k:κ):(eQ.any λkv=>decide (kv.1=k))=vs.any λkv=>decide (kv.1=k):=by
 unfold KV at r;induction r with
 |nil=>rfl
 |cons h t ih=>rw[ip,ip,ih,h.1]
theorem KV.repl {eQ:List (κ×V)}{vs:List (κ×bV)}(r:KV eQ vs)(k:κ)(ry:RelV y u) :
  KV (eQ.map λkv=>if kv.1=k then(kv.1,y)else kv) (vs.map λkv=>if kv.1=k then(kv.1,u)else kv):=by
 unfold KV at r ⊢;induction r with
 |nil=>exact .nil
 |@cons p q ps qs h t ih=>
  rw[cL,cL];refine .cons ?_ ih;obtain⟨h1,h2⟩:=h;by_cases e:p.1=k
  ·rw[if_pos e,if_pos (h1.symm.trans e)];exact⟨h1,ry⟩
  ·rw[if_neg e,if_neg (λz=>e (h1.trans z))];exact⟨h1,h2⟩
theorem KV.put {eQ:List (κ×V)}{vs:List (κ×bV)}(r:KV eQ vs)(k:κ)(ry:RelV y u):KV (putK eQ k y) (stored vs k u):=by
 unfold putK stored;rw[r.any k];by_cases e:(vs.any λkv=>decide (kv.1=k))=true
 ·rw[if_pos e,if_pos e];exact r.repl k ry
 ·rw[if_neg e,if_neg e];exact Paired.snoc r ⟨rfl,ry⟩
theorem KV.length {eQ:List (κ×V)}{vs:List (κ×bV)}(r:KV eQ vs):eQ.length=vs.length:=Paired.length r
end
theorem G2 {w:dw}{k:iW}(r:RelV (kV k) u):(iP P w).is k u=true:=by
 cases k with
 |inl i=>obtain⟨t,e⟩:=(show∃t,u=bV.int i t from r);subst e;exact VR P w i t
 |inr x=>obtain⟨t,e⟩:=(show∃t,u=bV.str x t from r);subst e;exact VS P w x t
theorem OM {P:dH}{w:dw}:∀{ks:List iW} {us:List bV},dA (ks.map kV) us->ItemsAre (iP P w) ks us
 |[],_,r=>by rw[List.map_nil]at r;cases r;exact .nil
 |k::ks,_,r=>by
  rw[cL]at r;cases r with
  |cons h t=>exact .cons (G2 h) (OM t)
abbrev KT (H:Hp):List (List iW×V)->List (List iW×ce×bV)->Prop:=Paired λp q=>p.1=q.1/\H q.2.1=some (.tup (p.1.map kV))/\RelV p.2 q.2.2
variable {eQ:List (List iW×V)}
theorem KT.val {xs:List (List iW×ce×bV)}(r:KT H eQ xs)(k:List iW):oh (m7 eQ k) ((uT xs k).map (·.2)):=by
 induction r with
 |nil=>exact True.intro
 |@cons p q ps qs h t ih=>
  obtain⟨h1,_,h2⟩:=h;by_cases e:p.1=k
  ·have e':q.1=k:=h1.symm.trans e;have b:uT (q::qs) k=some q.2:=by simp[uT,fk,e']
   rw[LI e,b];exact h2
  ·have e':¬q.1=k:=λz=>e (h1.trans z);have b:uT (q::qs) k=uT qs k:=by simp[uT,fk,e']
   rw[LJ e,b];exact ih
theorem KT.repl {xs:List (List iW×ce×bV)}(r:KT H eQ xs)(k:List iW)(ry:RelV y u) :
  KT H (eQ.map λkv=>if kv.1=k then(kv.1,y)else kv) (xs.map (putAt k u)):=by
 induction r with
 |nil=>exact .nil
 |@cons p q ps qs h t ih=>
  rw[cL,cL];refine .cons ?_ ih;obtain⟨h1,h2,h3⟩:=h;unfold putAt;by_cases e:p.1=k
  ·rw[if_pos e,if_pos (h1.symm.trans e)];exact⟨h1,h2,ry⟩
  ·rw[if_neg e,if_neg (λz=>e (h1.trans z))];exact⟨h1,h2,h3⟩
variable {b:ce}
theorem KT.put {xs:List (List iW×ce×bV)}(r:KT H eQ xs)(k:List iW)(hb:H b=some (.tup (k.map kV)))(ry:RelV y u) :
  KT H (putK eQ k y) (storedH xs k b u):=by
 have e:(eQ.any λkv=>decide (kv.1=k))=(uT xs k).isSome:=by rw[Pa,(r.val k).isSome_eq,oX]
 unfold putK storedH;rw[e];by_cases q:(uT xs k).isSome=true
 ·rw[if_pos q,if_pos q];exact r.repl k ry
 ·rw[if_neg q,if_neg q];exact Paired.snoc r ⟨rfl,hb,ry⟩
theorem KT.keeps {xs:List (List iW×ce×bV)}(r:KT H eQ xs)(ht:∀b ys,H b=some (.tup ys)->H' b=some (.tup ys)):KT H' eQ xs :=
 Paired.mapP r λ_ _ z=>⟨z.1,ht _ _ z.2.1,z.2.2⟩
section
variable {w:dw}
theorem RB {u:HO}(ok:oF P w H h)(e:Rd H a u):gM P w H h a u:=e.ok ok
theorem EM {eQ:List (iW×V)}(ok:oF P w H h)(e:Rd H a (.dK eQ)):eQ.length<=sizeLine/\(a==km)=false/\∃vs,KV eQ vs/\h.DictOf (iP P w) a vs :=
 show gM P w H h a (.dK eQ)from RB ok e
theorem zvu {eQ:List (iW×V)}(ok:oF P w H h)(e:H a=some (.dK eQ)):eQ.length<=sizeLine/\(a==km)=false/\∃vs,KV eQ vs/\h.DictOf (iP P w) a vs:=EM ok (.inl e)
theorem GZ {ks:List iW}(ok:oF P w H h)(e:H a=some (.tup (ks.map kV))):(sq (iP P w)).is h ks a:=by obtain⟨_,dJ,r,o,h1,h2,n,h3⟩:=(show gM P w H h a (.tup (ks.map kV))from ok a _ e);exact⟨o,dJ.toArray,n,h1,h2,h3,by simpa using OM r⟩
theorem G3 (ok:oF P w H h)(e:Rd H a (.dT eQ)):eQ.length<=sizeLine/\(a==km)=false /\
  ∃xs,KT H eQ xs/\h.DictOfH (sq (iP P w)) a xs:=by
 obtain⟨z,y,xs,r,o,es,ep,h1,h2,h3,h4,h5⟩:=(show gM P w H h a (.dT eQ)from RB ok e);refine⟨z,y,xs,r,o,es,ep,h1,h2,h3,h4,λx hx=>?_,h5⟩;have all:∀{l:List (List iW×V)} {m:List (List iW×ce×bV)},KT H l m->∀x∈m,(sq (iP P w)).is h x.1 x.2.1:=by
  intro l m q;induction q with
  |nil=>intro x hx;exact nomatch hx
  |@cons p q ps qs hq t ih=>
   intro x hx;rcases cn.mp hx with e|hx
   ·subst e;exact GZ ok (by rw[←hq.1];exact hq.2.1)
   ·exact ih x hx
 exact all r x hx
theorem zvv (ok:oF P w H h)(e:H a=some (.dT eQ)):eQ.length<=sizeLine/\(a==km)=false /\
  ∃xs,KT H eQ xs/\h.DictOfH (sq (iP P w)) a xs:=G3 ok (.inl e)
end
def qY (H:Hp)(a:ce)(y:V)(r:Option V):Prop :=
 (∃eQ k,Rd H a (.dK eQ)/\y=kV k/\r=m7 eQ k)\/∃eQ k b,Rd H a (.dT eQ)/\y=.ref b/\H b=some (.tup (k.map kV))/\r=m7 eQ k
def uC (H:Hp)(a:ce)(y v:V)(H':Hp):Prop :=
 (∃eQ k,H a=some (.dK eQ)/\y=kV k/\eQ.length<sizeLine/\H'=eS H a (.dK (putK eQ k v))) \/
 ∃eQ k b,H a=some (.dT eQ)/\y=.ref b/\H b=some (.tup (k.map kV))/\eQ.length<sizeLine/\H'=eS H a (.dT (putK eQ k v))
theorem qY.k {eQ:List (iW×V)}{k:iW}(e:H a=some (.dK eQ)):qY H a (kV k) (m7 eQ k):=.inl ⟨eQ,k,.inl e,rfl,rfl⟩
theorem uC.k {eQ:List (iW×V)}{k:iW}(e:H a=some (.dK eQ))(hl:eQ.length<sizeLine):uC H a (kV k) v (eS H a (.dK (putK eQ k v))):=.inl ⟨eQ,k,e,rfl,hl,rfl⟩
theorem uC.t {k:List iW}(e:H a=some (.dT eQ))(eb:H b=some (.tup (k.map kV)))(hl:eQ.length<sizeLine) :
  uC H a (.ref b) v (eS H a (.dT (putK eQ k v))):=.inr ⟨eQ,k,b,e,rfl,eb,hl,rfl⟩
section
variable {r:bV}{o:Option V}{A:c7}
theorem Inv.big (I:Inv X bX σ H s):km<s.heap.objs.size:=by have h:fq<s.heap.objs.size:=(I.mod.glob.keeps I.bk).lt;exact Nat.lt_trans (by decide) h
theorem WT (hu:A.units+1<kR)(I:Inv X bX σ H s)(g:qY H a y (some v))(ry:RelV y u)(h:∀w' s',Inv X bX σ H s'->RelV v w'->Q w' s') :
  cF (cC X.prog X.w) A (pF (.ref a) u) Q E s:=by
 rcases g with⟨eQ,k,e,ey,l⟩|⟨eQ,k,b,e,ey,eb,l⟩
 ·subst ey;obtain⟨z,hd,vs,rel,dd⟩:=EM I.hok e;obtain⟨w',hw,tM⟩:=oh.some_of (v:=v) (o:=rL vs k) (by rw[l];exact rel.val k);exact wpAny_getItem_of (G2 ry) dd.mapOf hw (h w' _ (I.tok _) tM)
 ·subst ey;cases(show u=bV.ref b from ry);obtain⟨z,hd,xs,rel,dd⟩:=G3 I.hok e;obtain⟨w',hw,tM⟩:=oh.some_of (v:=v) (o:=(uT xs k).map (·.2)) (by rw[l];exact rel.val k);obtain⟨p,hp,Ej⟩:=eP.mp hw;refine wpAny_getItem_heap (mU hu) (GZ I.hok eb) dd hp ?_;rw[Ej];exact h w' _ (I.tok _) tM
theorem Jw (hu:A.units+1<kR)(I:Inv X bX σ H s)(g:qY H a y o)(ry:RelV y u)(h:∀s',Inv X bX σ H s'->Q (.bool o.isSome) s') :
  cF (cC X.prog X.w) A (gk .In u (.ref a)) Q E s:=by
 rcases g with⟨eQ,k,e,ey,l⟩|⟨eQ,k,b,e,ey,eb,l⟩
 ·subst ey;obtain⟨z,hd,vs,rel,dd⟩:=EM I.hok e;refine wpAny_in_of (G2 ry) hd dd.mapOf ?_;rw[←(rel.val k).isSome_eq,←l];exact h _ (I.tok _)
 ·subst ey;cases(show u=bV.ref b from ry);obtain⟨z,hd,xs,rel,dd⟩:=G3 I.hok e;refine wpAny_in_heap (mU hu) (GZ I.hok eb) hd dd ?_;have q:=(rel.val k).isSome_eq;rw[oX]at q;rw[←q,←l];exact h _ (I.tok _)
theorem Zk (hu:A.units+1<kR)(I:Inv X bX σ H s)(g:qY H a y o)(ry:RelV y u)(h:∀s',Inv X bX σ H s'->Q (.bool (!o.isSome)) s') :
  cF (cC X.prog X.w) A (gk .NotIn u (.ref a)) Q E s:=by
 rcases g with⟨eQ,k,e,ey,l⟩|⟨eQ,k,b,e,ey,eb,l⟩
 ·subst ey;obtain⟨z,hd,vs,rel,dd⟩:=EM I.hok e;refine wpAny_notIn_of (G2 ry) hd dd.mapOf ?_;rw[←(rel.val k).isSome_eq,←l];exact h _ (I.tok _)
 ·subst ey;cases(show u=bV.ref b from ry);obtain⟨z,hd,xs,rel,dd⟩:=G3 I.hok e;refine wpAny_notIn_heap (mU hu) (GZ I.hok eb) hd dd ?_;have q:=(rel.val k).isSome_eq;rw[oX]at q;rw[←q,←l];exact h _ (I.tok _)
theorem P0 {ob:HO}(I:Inv X bX σ H s)(mu:EY (H a))(hs:gK a s.heap h')(he:∃q,h'.get? a=some q)(new:gM X.prog X.w (eS H a ob) h' a ob) :
  Inv X bX σ (eS H a ob) { s with heap:=h',toks:=t' } :=
 I.write (x:=a) (e:=a) mu (.inl rfl) (λb q hb z=>(hs.2 b hb).trans z) he new
theorem ztv {w:dw}{eQ:List (iW×V)}{vs:List (iW×bV)}(z:eQ.length<=sizeLine)(hd:(a==km)=false)(rel:KV eQ vs)(dd:h'.DictOf (iP P w) a vs) :
  gM P w H' h' a (.dK eQ):=⟨z,hd,vs,rel,dd⟩
theorem WU {Q:Unit->cq->Prop}(hu:A.units+1<kR)(I:Inv X bX σ H s)(g:uC H a y v H')(ry:RelV y u)(rv:RelV v r)(h:∀s',Inv X bX σ H' s'->Q () s') :
  cF (cC X.prog X.w) A (setItem (.ref a) u r) Q E s:=by
 rcases g with⟨eQ,k,e,ey,l,eH⟩|⟨eQ,k,b,e,ey,eb,l,eH⟩
 ·subst ey eH;obtain⟨z,hd,vs,rel,dd⟩:=zvu I.hok e;have hz:vs.length<=sizeLine:=by rw[←rel.length];exact z
  have hl:(putK eQ k v).length<=sizeLine:=by have:=Od eQ k v;omega
  refine wpAny_setItem_pairs (hsz:=hz) (G2 ry) dd λh' He hs=>h _ ?_;have he:∃q,h'.get? a=some q:=let⟨q,_,_,hq,_⟩:=He;⟨q,hq⟩;exact P0 I (by rw[e];exact True.intro) hs he (ztv hl hd (rel.put k rv) He)
 ·subst ey eH;cases(show u=bV.ref b from ry);obtain⟨z,hd,xs,rel,dd⟩:=zvv I.hok e;have hz:xs.length<=sizeLine:=by rw[←Paired.length rel];exact z
  have hl:(putK eQ k v).length<=sizeLine:=by have:=Od eQ k v;omega
  refine wpAny_setItem_heap (hsz:=hz) (mU hu) (GZ I.hok eb) dd λh' He hs=>h _ ?_;obtain⟨q,es,ep,hq,h2,h3,h4,_,h5⟩:=He;refine P0 I (by rw[e];exact True.intro) hs ⟨q,hq⟩ ⟨hl,hd,_,(rel.put k eb rv).keeps λc ys ec=>?_,q,es,ep,hq,h2,h3,h4,h5⟩;rw[zj (zvm ec e (λz=>nomatch z))];exact ec
end
section
variable {eQ:List (iW×V)}{k:iW}{A:c7}
theorem zvw (I:Inv X bX σ H s)(e:Rd H a (.dK eQ))(h:∀t s',Inv X bX σ H s'->Q (.int eQ.length t) s'):cF (cC X.prog X.w) A (call (.builtin "len") [.ref a]) Q E s:=by obtain⟨z,hd,vs,rel,dd⟩:=EM I.hok e;refine call_len_dict hd dd (by rw[←rel.length];rw[dD]at z;omega) ?_;rw[←rel.length];exact h _ _ (I.tok _)
end
def CT (i:Expr):Prop:=∀ov iv,sV i false ov iv=operate [ov,iv] (pF ov iv)
theorem Zl {prog:dH}{w:dw}{A:c7}{env:Env}{slice:Expr}{T id:String}
  (hl:qR (.type T) "__getitem__"=pure (some (.builtin id))) (hs:CT slice)
  (h:cF (cC prog w) A (ei value env) (λo s₁=>cF (cC prog w) A (ei slice env) (λi s₂=>s₂.TypeIs o T/\cF (cC prog w) A (pF o i) Q E s₂) E s₁) E s) :
  cF (cC prog w) A (ei (.Subscript value slice pos) env) Q E s:=by
 refine Subscript_ (e8 h (λo s₁ h₁=>e8 h₁ (λi s₂ h₂=>?_) λ_ _ x=>x) λ_ _ x=>x);obtain⟨hT,h₂⟩:=h₂;unfold subscriptTail;refine bW ?_;rw[getitemInPython_of_ne hT.not_modules];refine bW (tT hT hl ?_);have fin:cF (cC prog w) A (sV slice false o i) (λr s₃=>cF (cC prog w) A (letTemporaryGo value o r >>= λ_=>pure r) Q E s₃) E s₂:=by rw[hs o i];exact wpAny_operating (e8 h₂ (λr s₃ h₃=>bW (wpAny_letTemporaryGo (cw h₃))) λ_ _ x=>x)
 first
  |exact cw (bW fin)
  |exact bW (cw (bW fin))
  |exact bW fin
theorem VW {o:Option V}(I:Inv X bX σ H s)(g:qY H a y o):s.TypeIs (.ref a) "dict":=by
 rcases g with⟨eQ,k,e,_,_⟩|⟨eQ,k,b,e,_,_,_⟩
 ·obtain⟨_,_,vs,_,dd⟩:=EM I.hok e;exact dd.typeIs
 ·obtain⟨_,_,xs,_,dd⟩:=G3 I.hok e;exact dd.typeIs
def Gx (td ty:TE):TE:=λσ H Q=>td σ H λx H1=>ty σ H1 λy H2=>∃a v,x=.ref a/\qY H2 a y (some v)/\Q v H2
def Ld (ty td:TE):TE:=λσ H Q=>ty σ H λy H1=>td σ H1 λx H2=>∃a o,x=.ref a/\qY H2 a y o/\Q (.bl o.isSome) H2
def BX (ty td:TE):TE:=λσ H Q=>ty σ H λy H1=>td σ H1 λx H2=>∃a o,x=.ref a/\qY H2 a y o/\Q (.bl (!o.isSome)) H2
def Gq (td ty tv:TE):TS:=λD σ H=>tv σ H λv H1=>td σ H1 λx H2=>ty σ H2 λy H3=>∃a H4,x=.ref a/\uC H3 a y v H4/\D.nx σ H4
variable {wL:m9}
section
variable {i:Expr}{td ty:TE}
theorem Zm (hu:X.A.units+1<kR)(ho:PE X o td)(hi:PE X i ty)(hs:CT i):PE X (.Subscript o i pos) (Gx td ty):=by intro bX s σ H Q I h;refine Zl PySem.F.slot_dict_getitem.lookup hs (fN (ho bX s σ H _ I h) λu s1 ⟨x,H1,I1,rx,q1⟩=>fN (hi bX s1 σ H1 _ I1 q1) λiv s2 gu=>?_);obtain⟨y,H2,I2,ry,a,v,ex,g,q2⟩:=gu;subst ex;obtain rfl:u=bV.ref a:=rx;exact⟨VW I2 g,WT hu I2 g ry λw' s3 I3 tM=>⟨v,H2,I3,tM,q2⟩⟩
theorem ztw (hu:X.A.units+1<kR)(hi:PE X i ty)(ho:PE X o td):PC X .In i o (Ld ty td):=by intro bX s σ H Q I h;refine fN (hi bX s σ H _ I h) λiv s1 ⟨y,H1,I1,ry,q1⟩=>fN (ho bX s1 σ H1 _ I1 q1) λu s2 gu=>?_;obtain⟨x,H2,I2,rx,a,ov,ex,g,q2⟩:=gu;subst ex;obtain rfl:u=bV.ref a:=rx;exact Jw hu I2 g ry λs3 I3=>⟨.bl ov.isSome,H2,I3,rfl,q2⟩
theorem WV (hu:X.A.units+1<kR)(hi:PE X i ty)(ho:PE X o td):PC X .NotIn i o (BX ty td):=by intro bX s σ H Q I h;refine fN (hi bX s σ H _ I h) λiv s1 ⟨y,H1,I1,ry,q1⟩=>fN (ho bX s1 σ H1 _ I1 q1) λu s2 gu=>?_;obtain⟨x,H2,I2,rx,a,ov,ex,g,q2⟩:=gu;subst ex;obtain rfl:u=bV.ref a:=rx;exact Zk hu I2 g ry λs3 I3=>⟨.bl (!ov.isSome),H2,I3,rfl,q2⟩
theorem Zn (hu:X.A.units+1<kR)(ho:PE X o td)(hi:PE X i ty)(hv:PE X value tv)(hs:gQ value (some (.Subscript o i pos')) pos.line X.env=pure false) :
  PS X (.Assign [.Subscript o i pos'] value pos) (Gq td ty tv):=by
 intro bX s σ H D I h;refine wpAny_Assign_Subscript (fN (hv bX s σ H _ I h) λr s1 ⟨v,H1,I1,rv,q1⟩=>fN (ho bX s1 σ H1 _ I1 q1) λu s2 ⟨x,H2,I2,rx,q2⟩=>fN (hi bX s2 σ H2 _ I2 q2) λiv s3 ⟨y,H3,I3,ry,a,H4,ex,g,q3⟩=>?_) hs;subst ex;obtain rfl:u=bV.ref a:=rx;exact WU hu I3 g ry rv λs4 I4=>⟨σ,H4,I4,q3⟩
end
theorem Xx {w:dw}(h:cB)(hb:km<h.objs.size):gM P w H (h.push { cls:=.type "dict",data:=.dict #[] }) h.objs.size (.dK []) :=
  ⟨eI _,beq_eq_false_iff_ne.mpr (Ne.symm (cW hb)),[],.nil,cB.DictOf.new h⟩
def DF:TE:=λ_ H Q=>∀p,H p=none->Q (.ref p) (eS H p (.dK []))
theorem Xy:PE X (.Dict [] [] pos) DF:=λbX s σ H Q I h=>wpAny_Dict_empty ⟨.ref s.heap.objs.size,_,I.laid (a:=s.heap.objs.size) (o:=.dK []) (t':=s.toks) (λ_ _ q=>bY _ q) (cI _) (Xx s.heap I.big),rfl,h _ (I.hok.fresh (cI _))⟩
def RN (H:Hp)(a:ce):Prop:=(∃eQ,Rd H a (.dK eQ))\/∃eQ,Rd H a (.dT eQ)
theorem WW:iq X (.builtin "len") (λxs H Q=>∃a eQ,xs=[V.ref a]/\H a=some (.dK eQ)/\Q (.int eQ.length) H):=by intro bX s σ H xs us Q I r h;obtain⟨a,eQ,rfl,ha,q⟩:=h;obtain⟨u,rfl,ru⟩:=p9 r;cases ru;exact zvw I (.inl ha) λt s' I'=>⟨.int eQ.length,H,I',⟨t,rfl⟩,q⟩
def Sz (n:Nat)(i:Int):Prop:=i.natAbs<2 ^ n
theorem Sz.bits {i:Int}(h:Sz n i):Builtin.Int.intBits i<=n:=by
 unfold Builtin.Int.intBits;by_cases h0:(i==0)=true
 ·rw[if_pos h0];exact eI _
 ·rw[if_neg h0];have hi:i.natAbs≠0:=by
   have:i≠0:=by simpa using h0
   omega
  exact Nat.succ_le_of_lt ((qX hi).mpr h)
theorem Sz.log {i:Int}(h:Sz n i)(hn:0<n):i.natAbs.log2<n:=by
 by_cases hi:i.natAbs=0
 ·rw[hi];exact hn
 ·exact(qX hi).mpr h
theorem Sz.mono {m:Nat}{i:Int}(h:Sz n i)(hm:n<=m):Sz m i:=dg h (wU (by decide) hm)
def sr (i j:Int):Prop:=CP i j\/(Sz 100000 i/\Sz 100000 j)
theorem sr.ok {i j:Int}(h:sr i j):IntMulOk i j:=by
 rcases h with h|h
 ·exact h.ok
 ·exact IntMulOk.of_bits (d9 h.1.bits (by decide)) (d9 h.2.bits (by decide))
theorem Zo:lS X (gz .Mult) (rI sr λi j=>.int (i*j)):=Eu λ_ _ _ _ _ _ _ hc q=>mul_int q hc.ok
theorem Xz:lS X (gz .FloorDiv) (rI (λ_ j=>j≠0/\Sz 9000 j) λi j=>.int (i.fdiv j)) :=
 Eu λ_ _ _ _ _ _ _ hc q=>floordiv_int hc.1 q (.inl (PyProof.noPylong_of_log2 (hc.2.log (by decide))))
theorem XB:iq X (.builtin "isinstance") (λxs H Q=>∃x c t b,xs=[x,.ty c]/\oG X.K H x t/\cV X.K t (.type c)=some b/\Q (.bl b) H):=by intro bX s σ H xs us Q I r h;obtain⟨x,c,t,b,rfl,ty,e,q⟩:=h;obtain⟨u,w',rfl,ru,tM⟩:=vals2 r;cases(show w'=bV.type c from tM);exact OF I ru ty e λtk=>⟨.bl b,H,I.tok tk,rfl,q⟩
theorem WX:iq X (.builtin "isinstance") (λxs H Q=>∃x C t b,xs=[x,.ref C]/\oG X.K H x t/\cV X.K t (.ref C)=some b/\Q (.bl b) H):=by intro bX s σ H xs us Q I r h;obtain⟨x,c,t,b,rfl,ty,e,q⟩:=h;obtain⟨u,w',rfl,ru,tM⟩:=vals2 r;cases(show w'=bV.ref c from tM);exact OF I ru ty e λtk=>⟨.bl b,H,I.tok tk,rfl,q⟩
mutual
inductive Dt (K:bZ)(H:Hp):V->cU->Prop
 |non:Dt K H .non .none
 |bl (b:Bool):Dt K H (.bl b) (.bool b)
 |int (i:Int):Dt K H (.int i) (.int i)
 |str (x:Str):Dt K H (.str x) (.str x)
 |lst {a:ce} {xs:List V} {ds:List cU}:gZ K H a xs->Dts K H xs ds->Dt K H (.ref a) (.list ds)
 |tup {a:ce} {xs:List V} {ds:List cU}:oU K H a xs->Dts K H xs ds->Dt K H (.ref a) (.tuple ds)
inductive Dts (K:bZ)(H:Hp):List V->List cU->Prop
 |nil:Dts K H [] []
 |cons {v:V} {d:cU} {vs:List V} {ds:List cU}:Dt K H v d->Dts K H vs ds->Dts K H (v::vs) (d::ds)
end
mutual
theorem Dt.reads (I:Inv X bX σ H s):∀{v:V} {d:cU} {u:bV},Dt X.K H v d->RelV v u->∃as,Reads s.heap u d as
 |_,_,_,.non,r=>by cases r;exact⟨_,.none⟩
 |_,_,_,.bl b,r=>by cases r;exact⟨_,.bool b⟩
 |_,_,_,.int i,r=>by obtain⟨t,rfl⟩:=r;exact⟨_,.int i t⟩
 |_,_,_,.str x,r=>by obtain⟨t,rfl⟩:=r;exact⟨_,.str x t⟩
 |_,_,_,.lst hq ds,r=>by obtain⟨dJ,rv,⟨o,n,e,c,_,dd⟩,_⟩:=I.list hq;obtain⟨as,ra⟩:=Dts.reads I ds rv;cases r;exact⟨_,.list e c dd (by simpa using ra)⟩
 |_,_,_,.tup hq ds,r=>by obtain⟨dJ,rv,⟨o,e,c,n,dd⟩,_⟩:=I.tuple hq;obtain⟨as,ra⟩:=Dts.reads I ds rv;cases r;exact⟨_,.tuple e c dd (by simpa using ra)⟩
theorem Dts.reads (I:Inv X bX σ H s):∀{vs:List V} {ds:List cU} {us:List bV},Dts X.K H vs ds->dA vs us->∃as,ReadsAll s.heap us ds as
 |_,_,_,.nil,r=>by cases r;exact⟨_,.nil⟩
 |_,_,_,.cons h t,r=>by
  cases r with
  |cons p q=>obtain⟨as,ra⟩:=Dt.reads I h p;obtain⟨bs,rb⟩:=Dts.reads I t q;exact⟨_,.cons ra rb⟩
end
def Dv (K:bZ)(neg:Bool):R2:=λx y H Q=>∃d e,Dt K H x d/\Dt K H y e/\d.canLay0=true/\e.canLay0=true/\min d.depth e.depth<=60/\Q (.bl (if neg then !cU.eqv d e else cU.eqv d e)) H
theorem QO (hu:X.A.units+64<kR):lS X (gk .Eq) (Dv X.K false):=by intro bX s σ H x y v u Q I rx ry h;obtain⟨d,e,hd,he,c1,c2,dp,q⟩:=h;obtain⟨as,ra⟩:=hd.reads I rx;obtain⟨bs,rb⟩:=he.reads I ry;exact SeqAt.compareEq_reads ra rb c1 c2 (by omega) ⟨.bl _,H,I,rfl,q⟩
theorem IW (hu:X.A.units+64<kR):lS X (gk .NotEq) (Dv X.K true):=by intro bX s σ H x y v u Q I rx ry h;obtain⟨d,e,hd,he,c1,c2,dp,q⟩:=h;obtain⟨as,ra⟩:=hd.reads I rx;obtain⟨bs,rb⟩:=he.reads I ry;exact SeqAt.compareNe_reads ra rb c1 c2 (by omega) ⟨.bl _,H,I,rfl,q⟩
theorem Dts.ints (K:bZ)(H:Hp):∀ns:List Int,Dts K H (ns.map V.int) (ns.map cU.int)
 |[]=>.nil
 |n::r=>.cons (.int n) (Dts.ints K H r)
theorem yn {p:ce}(h:H p=none)(o:HO):dz H (eS H p o):=λb u q=>by rw[zj (zl q h)];exact q
theorem fw.u64 {k:Nat}{A:c7}(r:fw k A):A.units+64<kR:=r.units
theorem small (h:n<=1000):n<=sizeLine:=pU (yR h)
section
open PySem
theorem uc:dY "int"=some (.type "int"):=by decide +kernel
theorem EG:dY "str"=some (.type "str"):=by decide +kernel
theorem P1:dY "bool"=some (.type "bool"):=by decide +kernel
theorem GR:dY "list"=some (.type "list"):=by decide +kernel
theorem ztx:dY "len"=some (.builtin "len"):=by decide +kernel
theorem QP:dY "max"=some (.builtin "max"):=by decide +kernel
theorem zty:dY "min"=some (.builtin "min"):=by decide +kernel
theorem xk:dY "isinstance"=some (.builtin "isinstance"):=by decide +kernel
theorem Mu:dY "all"=some (.builtin "all"):=by decide +kernel
end
variable {oV iter:Expr}{ifs:List Expr}
section
variable {prog:dH}{w:dw}{A:c7}
theorem Vz {target:Expr}{it jR:bV}{env:Env}(I:Nat->cq->Prop)
  (wM:∀n s,I n s->cF (cC prog w) A (pyNext it) (λr s₁=>match r with
   |none=>R (.ok .next) s₁
   |some v=>cF (cC prog w) A (lV target it v) (λ_ NV=>cF (cC prog w) A (pj target env v) (λ_ s₂=>
     cF (cC prog w) A (forIn ifs true λc r=>if r=true then do let ok ← zN c env (ei c env);pure (ForInStep.yield ok)else pure (ForInStep.yield r)) (λok s₃=>
      if ok=true then cF (cC prog w) A (ei oV env) (λx s₄=>cF (cC prog w) A (call (.builtin "list.append") [jR,x]) (λ_ s₅=>∃m,m<n/\I m s₅) (λ_ _=>False) s₄) (λ_ _=>False) s₃
      else∃m,m<n/\I m s₃) (λ_ _=>False) s₂) (λ_ _=>False) NV) (λ_ _=>False) s₁) (λ_ _=>False) s)
  (n:Nat) (h:I n s) :
  ix (cC prog w) A (.compLoop (.ListComp oV [⟨target,iter,ifs,0⟩] scope pos) 0 it jR env) R s:=by
 have up:∀{α:Type} {m:Ad α} {Q:α->cq->Prop} {E:bV->cq->Prop} {s:cq},cF (cC prog w) A m Q (λ_ _=>False) s->cF (cC prog w) A m Q E s:=λh=>e8 h (λ_ _ q=>q) λ_ _ f=>f.elim;refine codeAny_loop rfl I (λn s hI=>?_) n h;show cF _ A ((compTurn (.ListComp oV [⟨target,iter,ifs,0⟩] scope pos) 0 it jR env).onRaise (λx=>do noteFrame x env;theTreesLotGoes x)) _ _ s;refine wpAny_noted ?_;rw[compTurn_list];refine bW (kc (bW (e8 (up (wM n s hI)) (λr s₁ h₁=>?_) λ_ _ h'=>h')));cases r with
 |none=>exact cw h₁
 |some v=>
  refine bW (e8 (up h₁) (λ_ NV TZ=>?_) λ_ _ h'=>h');refine bW (e8 (up TZ) (λ_ s₂ h₂=>bW (e8 (up h₂) (λok s₃ h₃=>?_) λ_ _ h'=>h')) λ_ _ h'=>h');cases ok with
  |false=>exact cw ⟨rfl,h₃⟩
  |true=>exact bW (bW (e8 (up h₃) (λx s₄ h₄=>bW (e8 (up h₄) (λ_ s₅ h₅=>cw (cw ⟨rfl,h₅⟩)) λ_ _ h'=>h')) λ_ _ h'=>h'))
end
theorem je {env:Env}:∀(names:List (Str×dh)) (jR:List (Str×ce)),(∀x∈names,x.2=.free->∃c,env.cells.lookup x.1=some c)->(∀y c,jR.lookup y=some c->env.cells.lookup y=some c) ->
  ∃cl,(forIn names jR λ(x:Str×dh) (cs:List (Str×ce))=>if(x.2==dh.free)=true then do let a ← cellOf env x.1;pure (ForInStep.yield ((x.1,a)::cs))else pure (ForInStep.yield cs):Ad (List (Str×ce)))=pure cl /\
   (∀y c,cl.lookup y=some c->env.cells.lookup y=some c)/\(∀x∈names,x.2=.free->∃c,cl.lookup x.1=some c)/\∀y c,jR.lookup y=some c->∃c',cl.lookup y=some c'
 |[],jR,_,ha=>⟨jR,rfl,ha,λ_ h=>(nomatch h),λy c h=>⟨c,h⟩⟩
 |(n,k)::r,jR,hn,ha=>by
  by_cases hk:k=.free
  ·subst hk;obtain⟨c,hc⟩:=hn (n,.free) b9 rfl;have e1:cellOf env n=pure c:=by unfold cellOf;rw[hc]
   have S4:∀y d,((n,c)::jR).lookup y=some d->env.cells.lookup y=some d:=λy d h=>by
    rw[de]at h;cases hy:y==n with
    |true=>rw[hy]at h;have:y=n:=eq_of_beq hy;subst this;cases h;exact hc
    |false=>rw[hy]at h;exact ha y d h
   obtain⟨cl,h1,h2,h3,h4⟩:=je r ((n,c)::jR) (λx hx=>hn x (cj _ hx)) S4;refine⟨cl,?_,h2,?_,?_⟩
   ·rw[kY];simp only[beq_self_eq_true,if_true,e1,pure_bind];exact h1
   ·intro x hx hf;rcases cn.mp hx with rfl|hx
    ·exact h4 n c (by rw[de,beq_self_eq_true])
    ·exact h3 x hx hf
   ·intro y d hy;cases hb:y==n with
    |true=>exact h4 y c (by rw[de,hb])
    |false=>exact h4 y d (by rw[de,hb];exact hy)
  ·have hb:(k==dh.free)=false:=by simpa using hk
   obtain⟨cl,h1,h2,h3,h4⟩:=je r jR (λx hx=>hn x (cj _ hx)) ha;refine⟨cl,?_,h2,?_,h4⟩
   ·rw[kY];simp only[hb,eM,if_false,pure_bind];exact h1
   ·intro x hx hf;rcases cn.mp hx with rfl|hx
    ·exact absurd hf hk
    ·exact h3 x hx hf
theorem ID (n:Nat)(a:Str)(r:List (Str×dh))(jR:List (Str×ce)):cellsFrom n ((a,.cell)::r) jR=cellsFrom (n+1) r ((a,n)::jR):=rfl
theorem IX {k:dh}(hk:k≠.cell)(n:Nat)(a:Str)(r:List (Str×dh))(jR:List (Str×ce)):cellsFrom n ((a,k)::r) jR=cellsFrom n r jR:=by cases k<;>first|rfl|exact absurd rfl hk
def nL (names:List (Str×dh)):Nat:=(names.filter λy=>y.2==dh.cell).length
theorem Ma (a:Str)(r:List (Str×dh)):nL ((a,.cell)::r)=nL r+1:=by unfold nL;rw[tQ (by rfl),cm]
theorem QR {k:dh}(hk:k≠.cell)(a:Str)(r:List (Str×dh)):nL ((a,k)::r)=nL r:=by unfold nL;rw[tP (by simpa using hk)]
theorem EN:∀(names:List (Str×dh)) (n:Nat) (jR:List (Str×ce)) {x:Str} {c:Nat},(cellsFrom n names jR).lookup x=some c->(n<=c/\c<n+nL names/\(x,dh.cell)∈names)\/(jR.lookup x=some c/\(x,dh.cell)∉names)
 |[],_,_,_,_,h=>.inr ⟨h,by simp⟩
 |(a,k)::r,n,jR,x,c,h=>by
  by_cases hk:k=.cell
  ·subst hk;rw[ID]at h;rcases EN r (n+1) _ h with⟨h1,h2,h3⟩|⟨h1,h2⟩
   ·refine .inl ⟨by omega,?_,cj _ h3⟩;rw[Ma];omega
   ·rw[de]at h1;cases hx:x==a with
    |true=>rw[hx]at h1;cases h1;refine .inl ⟨cI _,?_,by rw[eq_of_beq hx];exact b9⟩;rw[Ma];omega
    |false=>
     rw[hx]at h1;refine .inr ⟨h1,λz=>?_⟩;rcases cn.mp z with z|z
     ·cases z;simp at hx
     ·exact h2 z
  ·rw[IX hk]at h;have hf:=QR hk a r;rw[hf];rcases EN r n _ h with⟨h1,h2,h3⟩|⟨h1,h2⟩
   ·exact .inl ⟨h1,h2,cj _ h3⟩
   ·refine .inr ⟨h1,λz=>?_⟩;rcases cn.mp z with z|z
    ·cases z;exact hk rfl
    ·exact h2 z
theorem Mv:∀(names:List (Str×dh)) (n:Nat) (jR:List (Str×ce)) {x:Str},(x,dh.cell)∉names->(cellsFrom n names jR).lookup x=jR.lookup x
 |[],_,_,_,_=>rfl
 |(a,k)::r,n,jR,x,h=>by
  have hr:(x,dh.cell)∉r:=λz=>h (cj _ z);by_cases hk:k=.cell
  ·subst hk;rw[ID,Mv r _ _ hr,de];cases hx:x==a with
   |true=>exact absurd (by rw[eq_of_beq hx];exact b9) h
   |false=>rfl
  ·rw[IX hk,Mv r _ _ hr]
theorem Mw:∀(names:List (Str×dh)) (n:Nat) (jR:List (Str×ce)),(∀x y c,jR.lookup x=some c->jR.lookup y=some c->x=y)->(∀x c,jR.lookup x=some c->c<n)->∀x y c,(cellsFrom n names jR).lookup x=some c->(cellsFrom n names jR).lookup y=some c->x=y
 |[],_,_,h,_=>h
 |(a,k)::r,n,jR,h,hb=>by
  by_cases hk:k=.cell
  ·subst hk;rw[ID];refine Mw r (n+1) _ (λx y c e e'=>?_) λx c e=>?_
   ·rw[de]at e e';cases hx:x==a with
    |true=>
     rw[hx]at e;cases e;cases hy:y==a with
     |true=>rw[eq_of_beq hx,eq_of_beq hy]
     |false=>rw[hy]at e';exact absurd (hb _ _ e') (gP _)
    |false=>
     rw[hx]at e;cases hy:y==a with
     |true=>rw[hy]at e';cases e';exact absurd (hb _ _ e) (gP _)
     |false=>rw[hy]at e';exact h x y c e e'
   ·rw[de]at e;cases hx:x==a with
    |true=>rw[hx]at e;cases e;exact kQ _
    |false=>rw[hx]at e;exact mG (hb _ _ e)
  ·rw[IX hk];exact Mw r n jR h hb
theorem jf {M:Model}{A:c7}{E:bV->cq->Prop}:∀(names:List (Str×dh)) (cells:List (Str×ce)) (s:cq) (Q:List (Str×ce)->cq->Prop),
    (∀h':cB,(∀b o,s.heap.get? b=some o->h'.get? b=some o)->(∀c,s.heap.objs.size<=c->c<s.heap.objs.size+nL names->h'.IsCell c none)->Q (cellsFrom s.heap.objs.size names cells) { s with heap:=h' }) ->
    cF M A (forIn names cells λ(x:Str×dh) (cells:List (Str×ce))=>if(x.2==dh.cell)=true then do let a ← alloc { cls:=bV.type "cell",data:=ot.cell none };pure (ForInStep.yield ((x.1,a)::cells))else pure (ForInStep.yield cells)) Q E s
  |[],cells,s,Q,h=>by have:=h s.heap (λ_ _ e=>e) (λc h1 h2=>by rw[show nL []=0 from rfl]at h2;omega);rw[nY];exact cw this
  |(a,k)::r,cells,s,Q,h=>by
    rw[kY];by_cases hk:k=.cell
    · subst hk;simp only[beq_self_eq_true,if_true,bind_assoc,pure_bind];refine bW (wpAny_alloc ?_);have ih:=jf (M:=M) (A:=A) (E:=E) r ((a,s.heap.objs.size)::cells) { s with heap:=s.heap.push { cls:=bV.type "cell",data:=ot.cell none } } Q (λh' k1 k2=>by
        have hz:(s.heap.push { cls:=bV.type "cell",data:=ot.cell none }).objs.size=s.heap.objs.size+1:=e7 _ _;have:=h h' (λb o e=>k1 b o (bY _ e)) (λc h1 h2=>by
          rw[Ma]at h2;by_cases hc:c=s.heap.objs.size
          · subst hc;exact⟨_,k1 _ _ (cO _ rfl),rfl⟩
          · exact k2 c (by show(s.heap.push _).objs.size<=c;rw[hz];omega) (by show c<(s.heap.push _).objs.size+_;rw[hz];omega))
        rw[ID]at this;have e:(({ s with heap:=s.heap.push { cls:=bV.type "cell",data:=ot.cell none } }:cq)).heap.objs.size=s.heap.objs.size+1:=hz;rw[e];exact this)
      exact ih
    · have hb:(k==dh.cell)=false:=by simpa using hk
      simp only[hb,eM,if_false,pure_bind];refine jf r cells s Q λh' k1 k2=>?_;have hf:=QR hk a r;have:=h h' k1 (by rw[hf];exact k2);rw[IX hk]at this;exact this
theorem VA {A:c7}{globals:ce}{closure:List (Str×ce)}{code:bV}{out:Env}{builtins:ce}{Q:Env->cq->Prop}
    (h:∀h':cB,(∀b o,s.heap.get? b=some o->h'.get? b=some o)->h'.Ns s.heap.objs.size (λ_=>none)->(∀c,s.heap.objs.size+1<=c->c<s.heap.objs.size+1+nL scope.names->h'.IsCell c none) ->
      Q (newEnv scope s.heap.objs.size globals (cellsFrom (s.heap.objs.size+1) scope.names closure) qual none code (some out) builtins) { s with heap:=h' }) :
    cF M A (uU scope globals closure [] qual none code (some out) builtins) Q E s:=by
  unfold uU;refine bW (wpAny_alloc ?_);have hz:(s.heap.push { cls:=bV.type "dict",data:=ot.dict #[] }).objs.size=s.heap.objs.size+1:=e7 _ _;refine bW (jf scope.names closure { s with heap:=s.heap.push { cls:=bV.type "dict",data:=ot.dict #[] } } _ λh' k1 k2=>?_);have Hy:(({ s with heap:=s.heap.push { cls:=bV.type "dict",data:=ot.dict #[] } }:cq)).heap.objs.size=s.heap.objs.size+1:=hz;rw[Hy]at k2 ⊢;dsimp only;rw[nY];refine bW (cw (cw ?_));exact h h' (λb o e=>k1 b o (bY _ e)) ((cB.Ns.new s.heap _).keeps k1) k2
def nv (X:Cx)(scope:oC)(cl:List (Str×ce))(N:List Str)(C:ce)(fp:List ce)(s₀:cq)(H₀:Hp):Cx :=
 { X with N:=N,s₀:=s₀,H₀:=H₀,env:=compEnvC scope cl C X.env,outer:=X.stack,stack:=X.stack,ex:=fp,fn:=λx=>scope.names.lookup x==some .cell,pn:=[],xe:=λ_ _=>False }
structure oy (X:Cx)(scope:oC)(N:List Str)(own:Nat)(cap:List Nat):Prop where
 kind:scope.kind=.function
 cells:∀x∈scope.names,x.2=.cell->scope.names.lookup x.1=some .cell
 locs:∀x∈scope.names,x.2=.local->scope.names.lookup x.1=some .local
 free:∀x∈scope.names,x.2=.free->X.env.kindOf x.1=some .cell\/X.env.kindOf x.1=some .free
 len:N.length=own+cap.length
 caps:∀(j:Nat) (x:Str),N[own+j]?=some x->∃i,cap[j]?=some i/\X.N[i]?=some x/\(scope.names.lookup x=some .free)
variable {α β:Type}
theorem v6 {α β:Type}[BEq α][LawfulBEq α]{x:α}{y:β}:∀{l:List (α×β)},l.lookup x=some y->(x,y)∈l
 |[],h=>by simp at h
 |(a,b)::r,h=>by
  rw[de]at h;cases hb:x==a with
  |true=>rw[hb]at h;cases h;rw[eq_of_beq hb];exact b9
  |false=>rw[hb]at h;exact cj _ (v6 h)
theorem jv {env:Env}{x:Str}:∀{names:List (Str×dh)},names.lookup x=some .free ->
  (names.map λ(n,k)=>if(k==dh.free&&env.scope.kind==.function&&env.kindOf n==some .cell)then(n,dh.cell)else(n,k)).lookup x=some .cell \/
  (names.map λ(n,k)=>if(k==dh.free&&env.scope.kind==.function&&env.kindOf n==some .cell)then(n,dh.cell)else(n,k)).lookup x=some .free
 |[],h=>by simp at h
 |(n,k)::r,h=>by
  rw[de]at h;rw[cL];cases hx:x==n with
  |true=>
   rw[hx]at h;cases h;by_cases hc:(dh.free==dh.free&&env.scope.kind==.function&&env.kindOf n==some .cell)=true
   ·left;simp only[hc,if_true,de,hx]
   ·right;simp only[hc,if_false,de,hx,eM]
  |false=>
   rw[hx]at h;rcases jv (env:=env) h with q|q
   ·left;by_cases hc:(k==dh.free&&env.scope.kind==.function&&env.kindOf n==some .cell)=true
    ·simp only[hc,if_true,de,hx];exact q
    ·simp only[hc,if_false,de,hx,eM];exact q
   ·right;by_cases hc:(k==dh.free&&env.scope.kind==.function&&env.kindOf n==some .cell)=true
    ·simp only[hc,if_true,de,hx];exact q
    ·simp only[hc,if_false,de,hx,eM];exact q
theorem u4 {env:Env}{x:Str}:∀{names:List (Str×dh)},((names.map λ(n,k)=>if(k==dh.free&&env.scope.kind==.function&&env.kindOf n==some .cell)then(n,dh.cell)else(n,k)).lookup x=some .cell \/
  (names.map λ(n,k)=>if(k==dh.free&&env.scope.kind==.function&&env.kindOf n==some .cell)then(n,dh.cell)else(n,k)).lookup x=some .free)->(x,dh.free)∈names\/(x,dh.cell)∈names
 |[],h=>by simp at h
 |(n,k)::r,h=>by
  rw[cL]at h;cases hx:x==n with
  |true=>
   have e:x=n:=eq_of_beq hx;by_cases hc:(k==dh.free&&env.scope.kind==.function&&env.kindOf n==some .cell)=true
   ·have:k=.free:=by rw[cx,cx]at hc;exact eq_of_beq hc.1.1
    left;rw[e,this];exact b9
   ·simp only[hc,if_false,de,hx,eM]at h;rcases h with h|h
    ·cases h;right;rw[e];exact b9
    ·cases h;left;rw[e];exact b9
  |false=>
   refine(u4 (env:=env) (names:=r) ?_).imp (cj _) (cj _);by_cases hc:(k==dh.free&&env.scope.kind==.function&&env.kindOf n==some .cell)=true
   ·simpa only[hc,if_true,de,hx]using h
   ·simpa only[hc,if_false,de,hx,eM]using h
def lC (σ:St)(cap:List Nat):St:=cap.map λi=>(σ[i]?).join
variable {cap:List Nat}{j:Nat}
theorem Wd (hj:cap[j]?=some i)(h:(lC σ cap)[j]?=some (some v)):σ[i]?=some (some v):=by
 unfold lC at h;rw[dG,hj]at h;cases e:σ[i]? with
 |none=>rw[qC,e]at h;cases h
 |some o=>
  rw[qC,e]at h;cases o with
  |none=>cases h
  |some u=>exact h
variable {fp:List ce}
theorem WY {cl:List (Str×ce)}{N:List Str}{own:Nat}{h₁:cB}{m₀:Str->Option bV}(B:oy X scope N own cap)(I:Inv X bX σ H s)
    (c1:∀y c,cl.lookup y=some c->X.env.cells.lookup y=some c) (c2:∀x∈scope.names,x.2=.free->∃c,cl.lookup x.1=some c)
    (hf:∀b∈fp,qH X bX H b) (Nj:∀b∈fp,b<s.heap.objs.size) (zU:h₁.Ns s.heap.objs.size m₀) (k:∀b o,s.heap.get? b=some o->h₁.get? b=some o)
    (vY:∀c,s.heap.objs.size+1<=c->c<s.heap.objs.size+1+nL scope.names->h₁.IsCell c none) :
    Inv (nv X scope (cellsFrom (s.heap.objs.size+1) scope.names cl) N s.heap.objs.size fp s H) [] (cE own none++lC σ cap) H { s with heap:=h₁,toks:=t' } :=
  have low:∀x c,cl.lookup x=some c->c<s.heap.objs.size:=λx c e=>by obtain⟨v,o,q,_⟩:=I.cell x c (c1 x c e);exact cy q
  { ok:={
      mod:=I.mod
      kind:=B.kind
      glob:=I.ok.glob
      blt:=I.ok.blt
      above:=cI _
      inj:=Mw _ _ _ (λx y c e e'=>I.ok.inj x y c (c1 x c e) (c1 y c e')) λx c e=>mG (low x c e)
      has:=λx hx=>by
        refine mm.mp (jN scope.names _ _ ?_);rcases u4 hx with q|q
        · right;obtain⟨c,e⟩:=c2 _ q rfl
          rw[e];rfl
        · exact .inl (B.cells _ q rfl)
      cab:=λx c e e'=>by
        have hx:scope.names.lookup x=some .cell:=eq_of_beq e;rcases EN _ _ _ e' with⟨h1,_⟩|⟨_,h2⟩
        · exact pV h1
        · exact absurd (v6 hx) h2
      hd:=I.ok.hd
      frames:=I.ok.frames
      stk:=.inl rfl
      exf:=λb hb=>⟨cW (Nj b hb),λx c e=>by
        rcases EN _ _ _ e with⟨h1,_⟩|⟨h1,_⟩
        · exactλz=>absurd (Nj b hb) (by rw[←z];exact Nat.not_lt.mpr (pV h1))
        · exact(hf b hb).2.2.2.2.1 x c (c1 x c h1)⟩
      bs:=I.bs
      bsz:=d9 I.ok.bsz I.sz
      noex:=λb o e hb=>by
        rcases(hf b hb).2.2.2.1 with q|q
        · exact I.ok.noex b o e q
        · exact absurd (dg (cy e) I.ok.bsz) (Nat.not_lt.mpr q)
      exfs:=λb hb hz=>by
        rcases cn.mp (I.stkSub b hz)with q|q
        · exact(hf b hb).2.1 q
        · exact(hf b hb).2.2.1 q
      funs:=I.stack
      frf:=I.stkFree }
    os:=rfl
    bare:=I.bare
    base:=Un.kept k
    loc:=by
      refine⟨m₀,zU,λi x v hN hσ hv=>?_⟩;by_cases hi:i<own
      · rw[gG (by rw[eF];exact hi),mY,if_pos hi]at hσ;cases hσ
      · obtain⟨j,rfl⟩:∃j,i=own+j:=⟨i-own,by omega⟩;obtain⟨i',e1,e2,e3⟩:=B.caps j x hN;rw[iI (by rw[eF];omega),eF,Nat.add_sub_cancel_left]at hσ;have TY:=Wd e1 hσ;have hk:=B.free (x,.free) (v6 e3) rfl;obtain⟨m,hm,hl⟩:=I.loc;obtain⟨u,ru,hu⟩:=hl i' x v e2 TY (.inr hk);refine⟨u,ru,?_⟩;rcases hu with⟨q,_⟩|⟨_,c,hc,ic⟩
        · rcases hk with hk|hk
          · rw[hk]at q;cases q
          · rw[hk]at q;cases q
        · obtain⟨c',Cm⟩:=c2 (x,.free) (v6 e3) rfl;have ec:=c1 x c' Cm;rw[hc]at ec;cases ec;have hn:(x,dh.cell)∉scope.names:=λz=>by have:=B.cells _ z rfl;rw[e3]at this;cases this
          exact .inr ⟨jv e3,c,by show(cellsFrom _ _ _).lookup x=_;rw[Mv _ _ _ hn];exact Cm,ic.keeps k⟩
    cell:=λx c e=>by
      rcases EN _ _ _ e with⟨h1,h2,_⟩|⟨h1,_⟩
      · exact⟨none,vY c h1 h2⟩
      · obtain⟨v,q⟩:=I.cell x c (c1 x c h1);exact⟨v,q.keeps k⟩
    free:=I.hok.fresh (cI _)
    freeC:=λx c e=>by
      rcases EN _ _ _ e with⟨h1,_⟩|⟨h1,_⟩
      · exact I.hok.fresh (pV h1)
      · exact I.freeC x c (c1 x c h1)
    pin:=λp hp=>(nomatch hp)
    hok:=I.hok.kept k
    len:=by show(cE own none++lC σ cap).length=N.length;rw[cp,eF,B.len];unfold lC;rw[ck] }
def BZ:TT:=λ_ H Q=>Q true H
def Ce (X:Cx)(ifs:List Expr)(t:TT):Prop :=
 ∀(bX:List (ce×f9)) (s:cq) (σ:St) (H:Hp) (Q:Bool->Hp->Prop),Inv X bX σ H s->t σ H Q ->
  cF (cC X.prog X.w) X.A (forIn ifs true λc r=>if r=true then do let ok ← zN c X.env (ei c X.env);pure (ForInStep.yield ok)else pure (ForInStep.yield r)) (TP X bX σ Q) X.xe s
theorem Zp:Ce X [] BZ:=λ_ _ _ H _ I h=>wpAny_tests_nil ⟨H,I,h⟩
variable {c:Expr}
theorem Zq {t:TT}(h:PT X c t):Ce X [c] t:=λbX s σ H Q I q=>wpAny_tests_one (h bX s σ H Q I q)
def xK (wi:TI)(own:Nat)(cap:List Nat)(g:TG)(tt:TT)(te:TE):TE:=λσ H Q=>wi σ H λJ H1=>∀D,H1 D=none->∃W:Nat->Nat->List V->Hp->Prop,(∃m,W 0 m [] (eS H1 D (.lst []))) /\
 ∀i m ys H2,W i m ys H2->H2 D=some (.lst ys)/\((J.stop i H2/\Q (.ref D) H2)\/(J.go i H2/\ys.length<sizeLine/\∀x H3,J.yld i H2 x H3->g x (cE own none++lC σ cap) H3 λσ2 H4=>tt σ2 H4 λb H5=>if b=true then te σ2 H5 λy H6=>H6 D=some (.lst ys)/\∃m',m'<m/\W (i+1) m' (ys++[y]) (eS H6 D (.lst (ys++[y])))else∃m',m'<m/\W (i+1) m' ys H5))
def kD (own:Nat)(g:TG):Prop:=∀v σ H Q,g v σ H Q->g v σ H λσ' H'=>Q σ' H'/\σ'.length = σ.length/\∀i,own<=i->σ'[i]? = σ[i]?
theorem We (i own:Nat)(h:i<own):kD own (xC i):=λv σ H Q q=>⟨q,by rw[AX],λj hj=>by rw[iJ (by omega)]⟩
variable {g:TG}{tg:Expr}{tt:TT}{wi:TI}
theorem Pb {QV:VK}{use:Option (bV->Ad Unit)}{Q0:bV->cq->Prop}{rC:m9}{N:List Str}{own:Nat}{c:Prop}(B:oy X scope N own cap)(hc:c)(hi:DZ X c tg iter wi)
    (kg:kD own g)
    (hg:∀cl C fp s₀ H₀,PG (nv X scope cl N C fp s₀ H₀) tg g) (ht:∀cl C fp s₀ H₀,Ce (nv X scope cl N C fp s₀ H₀) ifs tt) (he:∀cl C fp s₀ H₀,PE (nv X scope cl N C fp s₀ H₀) oV te)
    (hs:Aj X iter) (I:Inv X bX σ H s) (h:xK wi own cap g tt te σ H QV)
    (fin:∀(D C:ce) (H5:Hp) (s6:cq) (r:Flow),QV (.ref D) H5->Inv X bX σ H5 s6->qH X bX H5 C->(∃m,s6.heap.Ns C m)->compPost (cC X.prog X.w) X.A X.xe use Q0 (.ref D) C (.ok r) s6) :
    cF (cC X.prog X.w) X.A (comprehension (.ListComp oV [⟨tg,iter,ifs,0⟩] scope pos) scope X.env rC (newList []) false (ei iter X.env) use) Q0 X.xe s:=by
  obtain⟨cl,Ta,c1,c2,_⟩:=je (env:=X.env) scope.names [] (λx hx hf=>I.ok.has x.1 (B.free x hx hf)) (λy c e=>by simp at e);have Fm:closureFor scope X.env=pure cl:=by have e:closureFor scope X.env=(forIn scope.names ([]:List (Str×ce)) (λ(x:Str×dh) (cs:List (Str×ce))=>if(x.2==dh.free)=true then do let a ← cellOf X.env x.1;pure (ForInStep.yield ((x.1,a)::cs))else pure (ForInStep.yield cs)) >>= pure:Ad (List (Str×ce))):=rfl;rw[e,Ta];rfl
  refine wpAny_comprehension_free (use:=use) rfl hs Fm B.kind B.locs (fN (hi bX s σ H _ I h) λv s1 h1=>fN h1 λKA s2 h2=>?_);obtain⟨it,fp,tn,J,H2,e,I2,⟨Cs,T,hT⟩,Bo,f2,W0⟩:=h2;subst e;obtain⟨W,⟨m0,w0⟩,wM⟩:=W0 s2.heap.objs.size (I2.hok.fresh (cI _));refine iT ?_;have I3:Inv X bX σ (eS H2 s2.heap.objs.size (.lst [])) { s2 with heap:=s2.heap.push { cls:=.type "list",data:=.seq ([]:List bV).toArray } }:=I2.lnew .nil (eI _);generalize Nq:({ s2 with heap:=s2.heap.push { cls:=.type "list",data:=.seq ([]:List bV).toArray } }:cq)=s3 at I3;have k3:∀b o,s2.heap.get? b=some o->s3.heap.get? b=some o:=λb o e=>by rw[←Nq];exact bY _ e
  have z3:s3.heap.objs.size=s2.heap.objs.size+1:=by rw[←Nq];exact e7 _ _
  have Dd:∀b∈fp,b<s2.heap.objs.size:=λb hb=>by obtain⟨o,e,_⟩:=T.obj _ _ Bo b hb;exact cy e
  have mE:∀b∈fp,b≠s2.heap.objs.size:=λb hb=>cW (Dd b hb);have f3:∀b∈fp,qH X bX (eS H2 s2.heap.objs.size (.lst [])) b:=λb hb=>⟨by rw[zj (mE b hb)];exact(f2 b hb).1,(f2 b hb).2⟩;have UC:tn 0 s3.heap:=T.keep _ _ _ Bo λb _ o e=>k3 b o e;show cF _ _ (uU scope X.env.globals cl [] X.env.qual none .none (some X.env)) _ _ _;refine VA λh₁ kk Ki JS=>?_;have IB:=WY (t':=s3.toks) B I3 c1 c2 f3 (λb hb=>by rw[z3];exact mG (Dd b hb)) Ki kk JS;generalize cellsFrom (s3.heap.objs.size+1) scope.names cl=cl at IB ⊢;generalize Tx:({ s3 with heap:=h₁,toks:=s3.toks }:cq)=s4 at IB;have NZ:tn 0 s4.heap:=T.keep _ _ _ UC λb _ o e=>by rw[←Tx];exact kk b o e
  show ix (cC X.prog X.w) X.A (.compStart (.ListComp oV [⟨tg,iter,ifs,0⟩] scope pos) 0 (.ref it) (.ref s2.heap.objs.size) (compEnvC scope cl s3.heap.objs.size X.env))
      (compPost (cC X.prog X.w) X.A X.xe use Q0 (.ref s2.heap.objs.size) s3.heap.objs.size) s4
  have wJ:∀{H':Hp},(∀b∈fp,H' b=none)->∀b∈fp,qH (nv X scope cl N s3.heap.objs.size fp s3 (eS H2 s2.heap.objs.size (.lst []))) [] H' b:=λhn b hb=>⟨hn b hb,cW (by show b<s3.heap.objs.size;rw[z3];exact mG (Dd b hb)),IB.ok.exfs b hb,.inl hb,λx c e=>(IB.ok.exf b hb).2 x c e,λp hp=>(nomatch hp)⟩;have loop:ix (cC X.prog X.w) X.A (.compLoop (.ListComp oV [⟨tg,iter,ifs,0⟩] scope pos) 0 (.ref it) (.ref s2.heap.objs.size) (compEnvC scope cl s3.heap.objs.size X.env))
      (compPost (cC X.prog X.w) X.A X.xe use Q0 (.ref s2.heap.objs.size) s3.heap.objs.size) s4:=by
    refine Vz (λn s'=>∃i ys H',Inv (nv X scope cl N s3.heap.objs.size fp s3 (eS H2 s2.heap.objs.size (.lst []))) [] (cE own none++lC σ cap) H' s'/\tn i s'.heap/\(∀b∈fp,H' b=none)/\W i n ys H') ?_ m0
      ⟨0,[],_,IB,NZ,λb hb=>(f3 b hb).1,w0⟩
    rintro n s5 ⟨i,ys,H5,I5,Ew,Hg,w5⟩;obtain⟨hD,Ti⟩:=wM i n ys H5 w5;rcases Ti with⟨stop,qn⟩|⟨go,pz,step⟩
    · refine fN (T.done (nv X scope cl N s3.heap.objs.size fp s3 (eS H2 s2.heap.objs.size (.lst []))) rfl rfl rfl (hT hc _ rfl rfl) i [] s5 _ H5 (λ_ _=>False) I5 (wJ Hg) Ew stop) λr s6 gu=>?_;obtain⟨hr,I6⟩:=gu;subst hr;obtain⟨m,hm,_⟩:=id I6.loc;refine fin s2.heap.objs.size s3.heap.objs.size H5 s6 _ qn ?_ (I3.fpOk (cI _) I6.free) ⟨m,hm⟩;have sb:gK s3.heap.objs.size s6.heap s6.heap:=⟨rfl,λ_ _=>rfl⟩;have U:=I6.base;have nC:∀b o,s3.heap.get? b=some o->b≠s3.heap.objs.size:=λb o e=>cW (cy e);have nT:∀b o,H5 b=some o->b≠s3.heap.objs.size:=λb o e z=>by have q:H5 s3.heap.objs.size=none:=I6.free;rw[z,q]at e;cases e
      refine I3.call' (ch:=fp) I6.os ?_ (λa o e=>(I6.hok a o e).stay (λb u hb q=>sb.extBut b u ?_ q) (λ_ q=>q) λ_ _ q=>q) I6.bare (λb hb=>⟨(f3 b hb).2.2.2.1,(f3 b hb).2.1,(f3 b hb).2.2.2.2.1,(f3 b hb).2.2.2.2.2⟩)
      · exact{
          keep:=λb o e z hb he=>sb.extBut b o (nC b o e) (U.keep b o e z hb he)
          slot:=λb o e z hb he=>by obtain⟨sl,q⟩:=U.slot b o e z hb he;exact⟨sl,sb.extBut b _ (nC b o e) q⟩
          free:=U.free
          there:=λb o e he=>by obtain⟨o',q⟩:=U.there b o e he;exact⟨o',sb.extBut b o' (nC b o e) q⟩
          tups:=U.tups
          frzs:=U.frzs
          tbls:=U.tbls }
      · rcases hb with rfl|hb
        · exact nT _ _ e
        · exact nT _ _ hb
    · refine fN (T.item (nv X scope cl N s3.heap.objs.size fp s3 (eS H2 s2.heap.objs.size (.lst []))) rfl rfl rfl (hT hc _ rfl rfl) i [] s5 _ H5 (λ_ _=>False) I5 (wJ Hg) Ew go) λr s6 gu=>?_;obtain⟨u,hr,h6⟩:=gu;subst hr;refine fN h6 λ_ s7 gu=>?_;obtain⟨x,H7,I7,r7,y7,K8,Su⟩:=gu;have RM:=I7.pinned (wJ Su) (T.obj _ _ K8);refine fN (hg cl s3.heap.objs.size fp s3 _ _ s7 _ H7 x u _ RM r7 (kg _ _ _ _ (step x H7 y7))) λ_ s8 gu=>?_;obtain⟨σ8,H8,I8,q8,l8,p8⟩:=gu;have back:∀{H9:Hp} {s9:cq},Inv (nv X scope cl N s3.heap.objs.size fp s3 (eS H2 s2.heap.objs.size (.lst []))) ([]++rB fp s7.heap) σ8 H9 s9 ->
          Inv (nv X scope cl N s3.heap.objs.size fp s3 (eS H2 s2.heap.objs.size (.lst []))) [] (cE own none++lC σ cap) H9 s9/\tn (i+1) s9.heap/\∀b∈fp,H9 b=none:=λ{H9 s9} I9=>by
        refine⟨(I9.unpinned).weak l8.symm (λj v e=>?_),T.keep _ _ _ K8 λb hb o e=>(I9.pin (b,o) (cK _ (cK _ (vz hb e)))).1,λb hb=>?_⟩
        · by_cases hj:j<own
          · rw[gG (by rw[eF];exact hj),mY,if_pos hj]at e;cases e
          · rw[p8 j (by omega)];exact e
        · obtain⟨o,e,d⟩:=T.obj _ _ K8 b hb;exact(I9.pin (b,o) (cK _ (cK _ (vz hb e)))).2.1
      refine fN (ht cl s3.heap.objs.size fp s3 _ _ s8 σ8 H8 _ I8 q8) λok s9 gu=>?_;obtain⟨H9,I9,q9⟩:=gu;cases ok with
      |false=>rw[if_neg cD];rw[if_neg cD]at q9;obtain⟨m',Kf,w'⟩:=q9;obtain⟨b1,b2,b3⟩:=back I9;exact⟨m',Kf,i+1,ys,H9,b1,b2,b3,w'⟩
      |true=>rw[if_pos rfl];rw[if_pos rfl]at q9;refine fN (he cl s3.heap.objs.size fp s3 _ _ s9 σ8 H9 _ I9 q9) λuy Um gu=>?_;obtain⟨y,MU,RI,r10,JH,m',Kf,w'⟩:=gu;refine fN (Oy _ Um σ8 MU (.ref s2.heap.objs.size) [y] (.ref s2.heap.objs.size) [uy] (λ_ MV=>MV=eS MU s2.heap.objs.size (.lst (ys++[y]))) RI rfl (.cons r10 .nil) ⟨_,ys,y,rfl,rfl,JH,pz,rfl⟩) λ_ s11 gu=>?_;obtain⟨_,MV,RK,_,RV⟩:=gu;subst RV;obtain⟨b1,b2,b3⟩:=back RK;exact⟨m',Kf,i+1,ys++[y],_,b1,b2,b3,w'⟩
  exact codeAny_compStart_list loop (T.self X.A 0 s4 _ _ NZ loop)
theorem Zr {N:List Str}{own:Nat}{c:Prop}(B:oy X scope N own cap)(hc:c)(hi:DZ X c tg iter wi)
  (kg:kD own g)
  (hg:∀cl C fp s₀ H₀,PG (nv X scope cl N C fp s₀ H₀) tg g) (ht:∀cl C fp s₀ H₀,Ce (nv X scope cl N C fp s₀ H₀) ifs tt) (he:∀cl C fp s₀ H₀,PE (nv X scope cl N C fp s₀ H₀) oV te)
  (hs:Aj X iter:=by intro _;rfl):PE X (.ListComp oV [⟨tg,iter,ifs,0⟩] scope pos) (xK wi own cap g tt te):=by
 intro bX s σ H Q I h;rw[eval_ListComp];refine Pb (use:=none) (Q0:=EP X bX σ Q) B hc hi kg hg ht he hs I h λD C H5 s6 r q I6 fo hm=>?_;obtain⟨m,hm⟩:=hm;obtain⟨f0,f1,f2,f3,f4,f5⟩:=fo;exact⟨m,hm,λh' sb=>⟨.ref D,H5,I6.turned (t':=s6.toks) (it:=C) (λb o hb e=>sb.extBut b o hb e) f0 f1 f3 f4 f5,rfl,q⟩⟩
variable {ch:List ce}
theorem Inv.turnLay {o:HO}(I:Inv X bX σ H s)(o3:∀b∈ch,qH X bX H b)(k:∀b o,b∉ch->s.heap.get? b=some o->h'.get? b=some o)(hp:s.heap.objs.size<=a)
  (new:gM X.prog X.w (eS H a o) h' a o):Inv X bX σ (eS H a o) { s with heap:=h',toks:=t' }:=by
 have hn:H a=none:=I.hok.fresh hp;have F6:∀b u,H b=some u->b∉ch:=λb u e z=>by rw[(o3 b z).1]at e;cases e
 refine I.step (g':=s.gens) (d':=s.drawn) (ch:=ch) (λb hb=>⟨(o3 b hb).2.2.2.1,(o3 b hb).2.1,(o3 b hb).2.2.2.2.1,(o3 b hb).2.2.2.2.2⟩) (λb o _ _ hc e _=>k b o hc e) (λb o _ _ hc e _=>⟨o.slots,k b o hc e⟩)
  (λb o _ e n=>by rw[zj (cW (dg (cy e) hp))];exact n) (λb o hc e=>⟨o,k b o hc e⟩) (λb xs q=>by rw[zj (zl q hn)];exact q) (λb u xs q=>by rw[zj (zl q hn)];exact q)
  (λb ps q=>⟨#[],by rw[zj (zl q hn),q];simp⟩) (λm hm=>?_) (λb u e=>?_) I.bare
 ·obtain⟨o',es,ep,ho,r⟩:=hm;exact⟨o',es,ep,k _ o' (λz=>(o3 _ z).2.1 rfl) ho,r⟩
 ·by_cases hb:b=a
  ·subst hb;rw[zk]at e;cases e;exact new
  ·rw[zj hb]at e;refine(I.hok b u e).stay (λc v hc q=>k c v ?_ q) (λc q=>by rw[zj (zl q hn)];exact q) λc xs q=>by rw[zj (zl q hn)];exact q
   rcases hc with z|z
   ·rw[z];exact F6 b u e
   ·exact F6 c _ z
theorem Inv.turnedL (I:Inv X bX σ H s)(o3:∀b∈ch,qH X bX H b)(k:∀b o,b∉ch->s.heap.get? b=some o->h'.get? b=some o):Inv X bX σ H { s with heap:=h',toks:=t' }:=by
 have F6:∀b u,H b=some u->b∉ch:=λb u e z=>by rw[(o3 b z).1]at e;cases e
 refine I.step (g':=s.gens) (d':=s.drawn) (ch:=ch) (λb hb=>⟨(o3 b hb).2.2.2.1,(o3 b hb).2.1,(o3 b hb).2.2.2.2.1,(o3 b hb).2.2.2.2.2⟩) (λb o _ _ hc e _=>k b o hc e) (λb o _ _ hc e _=>⟨o.slots,k b o hc e⟩)
  (λ_ _ _ _ n=>n) (λb o hc e=>⟨o,k b o hc e⟩) (λ_ _ e=>e) (λ_ _ _ e=>e) (λb ps e=>⟨#[],by rw[e];simp⟩) (λm hm=>?_) (λb u e=>?_) I.bare
 ·obtain⟨o',es,ep,ho,r⟩:=hm;exact⟨o',es,ep,k _ o' (λz=>(o3 _ z).2.1 rfl) ho,r⟩
 ·refine(I.hok b u e).stay (λc v hc q=>k c v ?_ q) (λ_ q=>q) λ_ _ q=>q;rcases hc with z|z
  ·rw[z];exact F6 b u e
  ·exact F6 c _ z
def Jo (K:bZ)(a:ce):It :=
 ⟨λi H=>∃xs x,gZ K H a xs/\xs[i]?=some x,λi H x H'=>∃p y,H p=none/\x=.ref p/\H'=eS H p (.tup [.int i,y])/\∀xs,gZ K H a xs->xs[i]?=some y,λi H=>∃xs,gZ K H a xs/\xs.length<=i⟩
variable {rY:List Expr}{kt:Nat}
theorem WZ {w:dw}{K:bZ}{pt:m9}(a e it:ce)(Ng:e≠it) :
    Turn P w K (.Tuple rY kt pt) (Jo K a) [e,it] e (λi h=>(∃old,IsEnum h e it i old)/\h.IsListIter it a i) where
  mem:=by simp
  obj:=λi h st b hb=>by
    obtain⟨⟨old,he⟩,o,e1,c,d⟩:=st;rcases cn.mp hb with rfl|hb
    · exact⟨_,he,λv z=>by cases z⟩
    · have e2:b=it:=by simpa using hb
      subst e2;exact⟨o,e1,λv z=>by rw[d]at z;cases z⟩
  keep:=λi h h' st k=>by obtain⟨⟨old,he⟩,hit⟩:=st;exact⟨⟨old,k e (by simp) _ he⟩,hit.at λo x=>k it (by simp) o x⟩
  item:=by
    intro X hP hw hK hc i bX s σ H E I hf st hg;subst hP hw hK;obtain⟨xs,x,hq,hx⟩:=hg;obtain⟨dJ,rv,p,hz⟩:=I.list hq;obtain⟨u,hu,ru⟩:=rv.get hx;obtain⟨⟨old,he⟩,hit⟩:=st;refine wpAny_pyNext_enum_item he hit p.isList (x:=u) (by simpa using hu) Ng λh1 ho J7 hT hsz hk=>?_;refine⟨_,rfl,wpAny_letOwnedTupleGo_enum (s:={ s with heap:=h1,toks:=s.toks+1 }) ho λh2 Eg yP=>?_⟩;have oV:e<s.heap.objs.size:=cy he;have Kz:it<s.heap.objs.size:=by obtain⟨_,q,_⟩:=hit;exact cy q
    have JJ:h2.get? s.heap.objs.size=some { cls:=.type "tuple",data:=.seq #[.int i s.toks,u] }:=(yP.2 _ (kl oV)).trans hT;have De:H s.heap.objs.size=none:=I.hok.fresh (cI _);have I1:Inv X bX σ (eS H s.heap.objs.size (.tup [.int i,x])) { s with heap:=h2,toks:=s.toks+1 }:=by refine I.turnLay (ch:=[e,it]) hf (λb o hb q=>?_) (cI _) ⟨by show 2<=sizeLine;decide,[.int i s.toks,u],.cons ⟨_,rfl⟩ (.cons ru .nil),_,JJ,rfl,_,rfl⟩;have Hi:b≠e:=λz=>hb (by simp[z]);have JF:b≠it:=λz=>hb (by simp[z]);exact(yP.2 b Hi).trans (hk b o Hi JF q)
    refine⟨.ref s.heap.objs.size,_,I1,rfl,⟨_,x,De,rfl,rfl,λys hy=>by rw[I.list_inj hy hq];exact hx⟩,⟨⟨u,by simpa using Eg⟩,J7.at λo q=>(yP.2 it Ng.symm).trans q⟩,λb hb=>?_⟩;rw[zj ?_]
    · exact(hf b hb).1
    · rcases cn.mp hb with rfl|hb
      · exact cW oV
      · have e2:b=it:=by simpa using hb
        rw[e2];exact cW Kz
  done:=by intro X hP hw hK hc i bX s σ H E I hf st hg;subst hP hw hK;obtain⟨xs,hq,hx⟩:=hg;obtain⟨dJ,rv,p,hz⟩:=I.list hq;obtain⟨⟨old,he⟩,hit⟩:=st;have hl:=rv.length;exact wpAny_pyNext_enum_end (I.ok.hd hc) he hit p.isList (by simp;omega) λh' eb=>⟨rfl,I.turnedL (ch:=[e,it]) (t':=s.toks) hf λb o hb q=>eb b o (λz=>hb (by simp[z])) q⟩
  self:=λ_ _ _ _ _ st h=>wpAny_pyIter_enum st.1.choose_spec h
variable {l:Expr}
section
variable {pt:m9}
def FL (K:bZ)(ta:TA):TI:=λσ H R=>ta σ H λvs H1=>∃a,vs=[.ref a]/\(∃xs,gZ K H1 a xs)/\R (Jo K a) H1
theorem Zs {ta:TA}(hg:Gl X "enumerate")(hm:X.mg "enumerate"=none)(ha:PA X [l] ta)(hs:SN X l:=by rfl) :
  PI X (.Tuple rY kt pt) (.Call (.Name "enumerate" p) [l] [] pos) (FL X.K ta):=by
 intro bX s σ H R I h;refine Call_ (ux I hg hm PyProof.Rows.boot_enumerate (ej (fN (ha pos bX s σ H _ I h) λus s1 ⟨vs,H1,I1,r1,q1⟩=>?_) hs rfl));obtain⟨a,e,⟨xs,hq⟩,q⟩:=q1;subst e;cases r1 with
 |cons r rr=>
  cases rr;cases r;obtain⟨dJ,rv,pl,hz⟩:=I1.list hq;refine call_enumerate_list pl.isList λh' he hit hsz hk=>?_;refine wpAny_pyIter_enum (s:={ s1 with heap:=h' }) he ?_;refine⟨s1.heap.objs.size+1,[s1.heap.objs.size+1,s1.heap.objs.size],_,_,H1,rfl,I1.kept (t':=s1.toks) hk,(WZ a _ _ (Nat.succ_ne_self _)).ok,⟨⟨_,he⟩,hit⟩,λb hb=>?_,q⟩;rcases cn.mp hb with rfl|hb
  ·exact I1.fpOk (oq _) (I1.hok.fresh (oq _))
  ·have e:b=s1.heap.objs.size:=by simpa using hb
   subst e;exact I1.fpOk (cI _) (I1.hok.fresh (cI _))
end
section
open PySem
def EW (K:bZ)(a:ce)(xs:List V):Prop:=∃(o:f9) (dJ:Array bV) (n:Nat),K.lookup a=some o/\o.cls=.type "tuple"/\o.data=.seq dJ n/\dJ.size<=sizeLine/\dA xs dJ.toList
theorem dz.rd {u:HO}(e:dz H H')(h:Rd H a u):Rd H' a u:=h.elim (λh=>.inl (e _ _ h)) λh=>.inr (h.elim λo h=>⟨o,e _ _ h⟩)
end
end L2
namespace PySem
variable {A:c7}{prog:dH}{w:dw}
end PySem
namespace L2
open PySem PyProof.Rows
variable {X:Cx}{cap:List Nat}{oV iter tg:Expr}{g:TG}{i:Nat}{ifs:List Expr}{pos pos':m9}{scope:oC}{te:TE}{tt:TT}{wi:TI}{x:Str}
theorem Wf {uL:m9}{N:List Str}{own:Nat}(B:oy X scope N own cap)(hc:X.calm=true)(hi:PI X tg iter wi)
  (kg:kD own g)
  (hg:∀cl C fp s₀ H₀,PG (nv X scope cl N C fp s₀ H₀) tg g) (ht:∀cl C fp s₀ H₀,Ce (nv X scope cl N C fp s₀ H₀) ifs tt) (he:∀cl C fp s₀ H₀,PE (nv X scope cl N C fp s₀ H₀) oV te)
  (hN:X.N.Nodup) (Fw:X.N[i]?=some x) (hx:Loc X.env.scope x) (AH:gQ (.ListComp oV [⟨tg,iter,ifs,0⟩] scope pos) (some (.Name x pos')) uL.line X.env=pure true)
  (hs:Aj X iter:=by intro _;rfl) (hf:uZ X x:=by walk_at "v2") :
  PS X (.Assign [.Name x pos'] (.ListComp oV [⟨tg,iter,ifs,0⟩] scope pos) uL) (DC (xK wi own cap g tt te) (xC i)):=by
 intro bX s σ H D I h;rw[exec_Assign_Name_used _ _ _ _ AH];refine bW (kc (bW ?_));show cF _ X.A (do let _ ← comprehension (.ListComp oV [⟨tg,iter,ifs,0⟩] scope pos) scope X.env _ (newList []) false (ei iter X.env) (some (pj (.Name x pos') X.env))) _ _ s;refine bW (e8 (Pb (use:=some (pj (.Name x pos') X.env)) (Q0:=λ_ s'=>∃σ' H',Inv X bX σ' H' s'/\D.nx σ' H') B hc hi kg hg ht he hs I h λDa C H5 s6 r q I6 fo hm=>?_) (λ_ s' hq=>cw (cw hq)) λ_ _ e=>e);show cF _ X.A (pj (.Name x pos') X.env (.ref Da)) _ _ _;refine wpAny_assign_Name (OA (v:=.ref Da) I6 hN Fw hx rfl (λs7 I7 Tz=>?_) hf);obtain⟨m,hm⟩:=hm;obtain⟨a,sb,ha⟩:=Tz;obtain⟨f0,f1,f2,f3,f4,f5⟩:=fo;have mE:C≠a:=by
  rcases ha with rfl|ha
  ·exact f1
  ·exactλz=>f4 x a ha z.symm
 refine⟨m,hm.sameBut sb mE,λh' Uo=>⟨_,H5,I7.turned (t':=s7.toks) (it:=C) (λb o hb e=>Uo.extBut b o hb e) f0 f1 f3 f4 f5,q⟩⟩
variable {rY:List Expr}{kt:Nat}
variable {e:Expr}{p2:m9}
variable {es:List Expr}{n:Nat}
section
open PySem PySem.Spec
open PyProof.Rows hiding St
def JC (K:bZ)(n:Nat)(t:Be):TG:=λv σ H Q=>∃a xs,v=.ref a/\gZ K H a xs/\xs.length=n/\t xs σ H Q
theorem ztz {k:Nat}{t:Be}(hc:X.calm=true)(h:CV X es t)
  (hn:(eK es X.env).length=n:=by rfl) (ky:(eK es X.env).findIdx? (·.1)=none:=by rfl):PG X (.Tuple es k pos) (JC X.K n t):=by
 intro bX s σ H v u Q I r hw;obtain⟨a,xs,e1,hq,hl,hw⟩:=hw;subst e1;cases r;obtain⟨dJ,rv,ht,hz⟩:=I.list hq;have Bk:(eK es X.env).length=dJ.toArray.size:=by simp[hn,←hl,rv.length]
 rw[assign_Tuple];refine bW (kc ?_);unfold unpack;rw[Bk,ky];obtain⟨o,n1,e,c1,c2,c3⟩:=ht;refine bW (iM (PySem.W.kun_itemsOf (I.ok.hd hc) ⟨o,e,c1,by first|exact c3|exact⟨_,c3⟩|(rw[c3])⟩ λh' hx=>?_));have I1:Inv X bX σ H { s with heap:=h' }:=I.kept (t':=s.toks) λb o e=>hx b o (cW (cy e)) e;exact h bX _ σ H xs _ Q I1 (by simpa using rv) hw
end
variable {C f:ce}{CX:Ai}{gq p:m9}{fd:cH}{m:Str}{o:Expr}{ps:List Str}{ta:TE}
section
open PySem PySem.Spec PyProof.Rows
theorem Pd:iq X (.builtin "isinstance") (λvs H Q=>∃v cv b,vs=[v,cv]/\(∀u,RelV cv u->(∃a C dx tb,v=.ref a/\H a=some (nk a C dx tb)/\(dx=none\/∃d fs,dx=some d/\H d=some (.xd fs))/\XIc X.K C/\cV X.K (.ref C) u=some b)\/(v=.non/\cV X.K (.type "NoneType") u=some b))/\Q (.bl b) H):=by
 intro bX s σ H vs us Q I r h;obtain⟨v,cv,b,rfl,hk,q⟩:=h;cases r with
 |cons rv r=>
  cases r with
  |cons ru r=>
   cases r;rcases hk _ ru with⟨a,C,dx,tb,rfl,ha,hd,ic,e⟩|⟨rfl,e⟩
   ·cases rv;obtain⟨a0,eo⟩:=(I.hok a _ ha).1;have J:∃ox od,iy s.heap a ox C od:=by
     rcases hd with rfl|⟨d,fs,rfl,hd⟩
     ·exact⟨_,none,eo,rfl,rfl,trivial⟩
     ·obtain⟨mA,⟨od,es,ep,e2,_⟩,_⟩:=I.hok d _ hd;exact⟨_,some od,eo,rfl,rfl,e2⟩
    obtain⟨ox,od,J⟩:=J;exact d7 (Xw ic) I.kIn J e (λz=>by cases z) λtk=>⟨.bl b,H,I.tok _,rfl,q⟩
   ·cases rv;exact d7 vN I.kIn trivial e (λz=>by cases z) λtk=>⟨.bl b,H,I.tok _,rfl,q⟩
end
variable {E Q:bV->cq->Prop}{T l1 l2 l3:ce}{s:cq}{u:bV}
section
open PySem PySem.Spec PyProof.Rows
theorem Vq (a b c:bV):checkTypeCall "zip" ⟨[a,b,c],[]⟩=pure ():=by kernel_rfl
theorem VB (a b c:bV):checkBuiltinCall "zip.__new__" ⟨[.type "zip",a,b,c],[]⟩=pure ():=by kernel_rfl
theorem W5 (a b c d:bV):argsOk "object.__init__" ⟨[a,b,c,d],[]⟩:=by unfold argsOk;rw[signature?_of (id:="object.__init__") (n:=['_','_','t','i','n','i','_','_']) (o:=['t','c','e','j','b','o']) (by kernel_rfl) F.owner_object];kernel_rfl
abbrev kC (h:cB)(T:ce)(a b c:bV):Prop:=h.get? T=some { cls:=.type "tuple",data:=.seq #[a,b,c] }
structure Z3 (z TI TO i1 i2 i3 l1 l2 l3:ce):Prop where
 TIz:TI≠z
 TOz:TO≠z
 i1z:i1≠z
 i2z:i2≠z
 i3z:i3≠z
 TITO:TI≠TO
 TIi1:TI≠i1
 TIi2:TI≠i2
 TIi3:TI≠i3
 TOi1:TO≠i1
 TOi2:TO≠i2
 TOi3:TO≠i3
 i12:i1≠i2
 i13:i1≠i3
 i23:i2≠i3
 l1z:l1≠z
 l2z:l2≠z
 l2TO:l2≠TO
 l2i1:l2≠i1
 l3z:l3≠z
 l3TO:l3≠TO
 l3i1:l3≠i1
 l3i2:l3≠i2
section
variable {prog:dH}{w:dw}{A:c7}{z TI TO i1 i2 i3:ce}{xs ys zs:Array bV}{k1 k2 k3:Nat}
theorem AU {a b c x:bV}{k:Nat}{Q:Unit->cq->Prop}(hT:kC s.heap T a b c)
    (h:∀h',h'.get? T=some { cls:=.type "tuple",data:=.seq ((#[a,b,c]:Array bV).setIfInBounds k x) }->gK T s.heap h'->Q () { s with heap:=h' }) :
    cF (cC prog w) A (updateSeq T (·.setIfInBounds k x)) Q E s:=by
  refine wpAny_updateSeq hT rfl (h _ ?_ (gK.update ..));rw[eZ _ hT rfl];simp[f9.mapSeq]
theorem W6 {x y a b c:bV}(D:Z3 z TI TO i1 i2 i3 l1 l2 l3)
    (hz:IsZip s.heap z TI TO .none) (C4:kC s.heap TI (.ref i1) (.ref i2) (.ref i3)) (C5:kC s.heap TO a b c)
    (h1:s.heap.IsListIter i1 l1 k1) (h2:s.heap.IsListIter i2 l2 k2) (h3:s.heap.IsListIter i3 l3 k3) (o7:s.heap.IsList l1 xs) (rO:s.heap.IsList l2 ys) (AB:s.heap.IsList l3 zs) (hx:xs[k1]?=some x) (hy:ys[k2]?=some y) (hu:zs[k3]?=some u)
    (hQ:∀h',IsZip h' z TI TO (rawInt s.heap.objs.size)->kC h' TO x y u->h'.IsListIter i1 l1 (k1+1)->h'.IsListIter i2 l2 (k2+1)->h'.IsListIter i3 l3 (k3+1)->kC h' s.heap.objs.size x y u ->
      (∀c o,c≠z->c≠TO->c≠i1->c≠i2->c≠i3->s.heap.get? c=some o->h'.get? c=some o)->Q (.ref s.heap.objs.size) { s with heap:=h' }) :
    cF (cC prog w) A (Builtin.«zip.__next__» ⟨[.ref z],[]⟩) (λfin s'=>∃v,fin=.done (.ret v)/\Q v s') E s:=by
  show cF _ _ (field (.ref z) 2 >>= _) _ _ _;refine bW (wpAny_field hz rfl (x:=.bool false) rfl ?_);show cF _ _ (field (.ref z) 3 >>= _) _ _ _;refine bW (wpAny_field hz rfl (x:=.ref TI) rfl ?_);refine bW (wpAny_seqItems C4 rfl ?_);show cF _ _ (Builtin.SmallTypes.ownedTupleIsFree (.ref z) >>= _) _ _ _;refine bW ?_;unfold Builtin.SmallTypes.ownedTupleIsFree;refine bW (wpAny_field hz rfl (x:=.none) rfl (cw ?_));simp only[if_true];refine bW (wpAny_rule ?_);refine bW (wpAny_field hz rfl (x:=.ref TO) rfl ?_);refine bW (wpAny_setField_rec hz (by simp) λh₁ BP qT=>?_);replace BP:IsZip h₁ z TI TO .ellipsis:=BP;refine bW ?_;simp only[qB,A6,kY,nY];refine bW (bW (wpAny_onRaise ?_));show cF _ _ (Builtin.SmallTypes.nextOf (.ref i1) >>= _) _ _ _;refine bW (wpAny_nextOf_list_item (h1.extBut qT.extBut D.i1z) (o7.extBut qT.extBut D.l1z) hx λh₂ M5 rn=>cw ?_);have Aq:kC h₂ TO a b c:=rn.extBut _ _ D.TOi1 (qT.extBut _ _ D.TOz C5);refine bW (wpAny_seqItems Aq rfl ?_);refine bW (AU Aq λh₃ vX rP=>?_);replace vX:kC h₃ TO x b c:=vX;refine bW (wpAny_letGo (cw ?_));refine bW (bW (wpAny_onRaise ?_));show cF _ _ (Builtin.SmallTypes.nextOf (.ref i2) >>= _) _ _ _;refine bW (wpAny_nextOf_list_item (((h2.extBut qT.extBut D.i2z).extBut rn.extBut D.i12.symm).extBut rP.extBut D.TOi2.symm)
    (((rO.extBut qT.extBut D.l2z).extBut rn.extBut D.l2i1).extBut rP.extBut D.l2TO) hy λh₄ M6 vD=>cw ?_)
  have Ar:kC h₄ TO x b c:=vD.extBut _ _ D.TOi2 vX;refine bW (wpAny_seqItems Ar rfl ?_);refine bW (AU Ar λh₅ BG vZ=>?_);replace BG:kC h₅ TO x y c:=BG;refine bW (wpAny_letGo (cw ?_));refine bW (bW (wpAny_onRaise ?_));show cF _ _ (Builtin.SmallTypes.nextOf (.ref i3) >>= _) _ _ _;refine bW (wpAny_nextOf_list_item (((((h3.extBut qT.extBut D.i3z).extBut rn.extBut D.i13.symm).extBut rP.extBut D.TOi3.symm).extBut vD.extBut D.i23.symm).extBut vZ.extBut D.TOi3.symm)
    (((((AB.extBut qT.extBut D.l3z).extBut rn.extBut D.l3i1).extBut rP.extBut D.l3TO).extBut vD.extBut D.l3i2).extBut vZ.extBut D.l3TO) hu λh₆ SK BN=>cw ?_)
  have Fi:kC h₆ TO x y c:=BN.extBut _ _ D.TOi3 BG;refine bW (wpAny_seqItems Fi rfl ?_);refine bW (AU Fi λh₇ BH BO=>?_);replace BH:kC h₇ TO x y u:=BH;refine bW (wpAny_letGo (cw (cw ?_)));refine bW (wpAny_seqItems BH rfl ?_);refine bW (wpAny_newTuple ?_);have hsz:h₇.objs.size=s.heap.objs.size:=by rw[BO.1,BN.1,vZ.1,vD.1,rP.1,rn.1,qT.1]
  have NF:IsZip h₇ z TI TO .ellipsis:=BO.extBut _ _ D.TOz.symm (BN.extBut _ _ D.i3z.symm (vZ.extBut _ _ D.TOz.symm (vD.extBut _ _ D.i2z.symm (rP.extBut _ _ D.TOz.symm (rn.extBut _ _ D.i1z.symm BP)))));have Tp:∀c o,c≠z->c≠TO->c≠i1->c≠i2->c≠i3->s.heap.get? c=some o->h₇.get? c=some o:=λc o c1 c2 c3 c4 c5 e=>BO.extBut _ _ c2 (BN.extBut _ _ c5 (vZ.extBut _ _ c2 (vD.extBut _ _ c4 (rP.extBut _ _ c2 (rn.extBut _ _ c3 (qT.extBut _ _ c1 e))))));have SI:h₇.IsListIter i1 l1 (k1+1):=((((M5.extBut rP.extBut D.TOi1.symm).extBut vD.extBut D.i12).extBut vZ.extBut D.TOi1.symm).extBut BN.extBut D.i13).extBut BO.extBut D.TOi1.symm;have SJ:h₇.IsListIter i2 l2 (k2+1):=((M6.extBut vZ.extBut D.TOi2.symm).extBut BN.extBut D.i23).extBut BO.extBut D.TOi2.symm;have SM:h₇.IsListIter i3 l3 (k3+1):=SK.extBut BO.extBut D.TOi3.symm;have FK:z<h₇.objs.size:=cy NF;show cF _ _ (Builtin.SmallTypes.ownedTupleHandOut (.ref z) (.ref h₇.objs.size) >>= _) _ _ _;refine bW ?_;unfold Builtin.SmallTypes.ownedTupleHandOut;have TV:IsZip (h₇.push { cls:=.type "tuple",data:=.seq #[x,y,u] }) z TI TO .ellipsis:=bY _ NF;refine bW (wpAny_setField_rec TV (by simp) λh₉ Kx Nt=>?_);replace Kx:IsZip h₉ z TI TO (rawInt h₇.objs.size):=Kx;refine wpAny_setField_rec Kx (by simp) λha HA Ht=>?_;replace HA:IsZip ha z TI TO (rawInt h₇.objs.size):=HA;have up:∀c o,c≠z->h₇.get? c=some o->ha.get? c=some o:=λc o c1 e=>Ht.extBut _ _ c1 (Nt.extBut _ _ c1 (bY _ e));have M9:kC ha h₇.objs.size x y u:=Ht.extBut _ _ (kl FK) (Nt.extBut _ _ (kl FK) (cO _ rfl));rw[hsz]at HA M9;refine cw ⟨_,rfl,?_⟩;show Q (.ref h₇.objs.size) _;rw[hsz];exact hQ ha HA (up _ _ D.TOz BH) (SI.at λo e=>up _ o D.i1z e) (SJ.at λo e=>up _ o D.i2z e) (SM.at λo e=>up _ o D.i3z e) M9 λc o c1 c2 c3 c4 c5 e=>up c o c1 (Tp c o c1 c2 c3 c4 c5 e)
theorem XC {a b c:bV}{Q:Fin->cq->Prop}(hh:A.handled=none)(D:Z3 z TI TO i1 i2 i3 l1 l2 l3)
  (hz:IsZip s.heap z TI TO .none) (C4:kC s.heap TI (.ref i1) (.ref i2) (.ref i3)) (C5:kC s.heap TO a b c)
  (h1:s.heap.IsListIter i1 l1 k1) (h2:s.heap.IsListIter i2 l2 k2) (h3:s.heap.IsListIter i3 l3 k3) (o7:s.heap.IsList l1 xs) (rO:s.heap.IsList l2 ys) (AB:s.heap.IsList l3 zs) (Aw:xs[k1]?=none\/ys[k2]?=none\/zs[k3]?=none)
  (hE:∀h' e,(∀c o,c≠z->c≠TO->c≠i1->c≠i2->c≠i3->s.heap.get? c=some o->h'.get? c=some o)->(∃o,h'.get? e=some o/\o.cls=.type "StopIteration")->E (.ref e) { s with heap:=h' }) :
  cF (cC prog w) A (Builtin.«zip.__next__» ⟨[.ref z],[]⟩) Q E s:=by
 show cF _ _ (field (.ref z) 2 >>= _) _ _ _;refine bW (wpAny_field hz rfl (x:=.bool false) rfl ?_);show cF _ _ (field (.ref z) 3 >>= _) _ _ _;refine bW (wpAny_field hz rfl (x:=.ref TI) rfl ?_);refine bW (wpAny_seqItems C4 rfl ?_);show cF _ _ (Builtin.SmallTypes.ownedTupleIsFree (.ref z) >>= _) _ _ _;refine bW ?_;unfold Builtin.SmallTypes.ownedTupleIsFree;refine bW (wpAny_field hz rfl (x:=.none) rfl (cw ?_));simp only[if_true];refine bW (wpAny_rule ?_);refine bW (wpAny_field hz rfl (x:=.ref TO) rfl ?_);refine bW (wpAny_setField_rec hz (by simp) λh₁ BP qT=>?_);replace BP:IsZip h₁ z TI TO .ellipsis:=BP;refine bW ?_;simp only[qB,A6,kY,nY];refine bW (bW (wpAny_onRaise ?_));show cF _ _ (Builtin.SmallTypes.nextOf (.ref i1) >>= _) _ _ _;cases hx:xs[k1]? with
 |none=>
  refine bW (wpAny_nextOf_list_end hh (h1.extBut qT.extBut D.i1z) (o7.extBut qT.extBut D.l1z) hx λh₂ e rn he=>?_);obtain⟨oe,AE,Co⟩:=he;have NC:IsZip h₂ z TI TO .ellipsis:=rn _ _ D.i1z.symm BP;have Ft:e≠z:=λx=>by subst x;rw[NC]at AE;cases AE;simp at Co
  refine wpAny_setField_rec NC (by simp) λh₃ _ rP=>hE h₃ e (λc o c1 _ c3 _ _ x=>rP.extBut _ _ c1 (rn _ _ c3 (qT.extBut _ _ c1 x))) ⟨oe,rP.extBut _ _ Ft AE,Co⟩
 |some x=>
  have Aw:ys[k2]?=none\/zs[k3]?=none:=by rcases Aw with h|h;rw[hx]at h;cases h;exact h
  refine bW (wpAny_nextOf_list_item (h1.extBut qT.extBut D.i1z) (o7.extBut qT.extBut D.l1z) hx λh₂ M5 rn=>cw ?_);have Aq:kC h₂ TO a b c:=rn.extBut _ _ D.TOi1 (qT.extBut _ _ D.TOz C5);refine bW (wpAny_seqItems Aq rfl ?_);refine bW (AU Aq λh₃ vX rP=>?_);replace vX:kC h₃ TO x b c:=vX;refine bW (wpAny_letGo (cw ?_));refine bW (bW (wpAny_onRaise ?_));show cF _ _ (Builtin.SmallTypes.nextOf (.ref i2) >>= _) _ _ _;cases hy:ys[k2]? with
  |none=>
   refine bW (wpAny_nextOf_list_end hh (((h2.extBut qT.extBut D.i2z).extBut rn.extBut D.i12.symm).extBut rP.extBut D.TOi2.symm)
    (((rO.extBut qT.extBut D.l2z).extBut rn.extBut D.l2i1).extBut rP.extBut D.l2TO) hy λh₄ e vD he=>?_)
   obtain⟨oe,AE,Co⟩:=he;have ND:IsZip h₄ z TI TO .ellipsis:=vD _ _ D.i2z.symm (rP.extBut _ _ D.TOz.symm (rn.extBut _ _ D.i1z.symm BP));have Ft:e≠z:=λx=>by subst x;rw[ND]at AE;cases AE;simp at Co
   refine wpAny_setField_rec ND (by simp) λh₅ _ vZ=>hE h₅ e (λc o c1 c2 c3 c4 _ x=>vZ.extBut _ _ c1 (vD _ _ c4 (rP.extBut _ _ c2 (rn.extBut _ _ c3 (qT.extBut _ _ c1 x))))) ⟨oe,vZ.extBut _ _ Ft AE,Co⟩
  |some y=>
   have hu:zs[k3]?=none:=by rcases Aw with h|h;rw[hy]at h;cases h;exact h
   refine bW (wpAny_nextOf_list_item (((h2.extBut qT.extBut D.i2z).extBut rn.extBut D.i12.symm).extBut rP.extBut D.TOi2.symm)
    (((rO.extBut qT.extBut D.l2z).extBut rn.extBut D.l2i1).extBut rP.extBut D.l2TO) hy λh₄ M6 vD=>cw ?_)
   have Ar:kC h₄ TO x b c:=vD.extBut _ _ D.TOi2 vX;refine bW (wpAny_seqItems Ar rfl ?_);refine bW (AU Ar λh₅ BG vZ=>?_);refine bW (wpAny_letGo (cw ?_));refine bW (bW (wpAny_onRaise ?_));show cF _ _ (Builtin.SmallTypes.nextOf (.ref i3) >>= _) _ _ _;refine bW (wpAny_nextOf_list_end hh (((((h3.extBut qT.extBut D.i3z).extBut rn.extBut D.i13.symm).extBut rP.extBut D.TOi3.symm).extBut vD.extBut D.i23.symm).extBut vZ.extBut D.TOi3.symm)
    (((((AB.extBut qT.extBut D.l3z).extBut rn.extBut D.l3i1).extBut rP.extBut D.l3TO).extBut vD.extBut D.l3i2).extBut vZ.extBut D.l3TO) hu λh₆ e BN he=>?_)
   obtain⟨oe,AE,Co⟩:=he;have NE:IsZip h₆ z TI TO .ellipsis:=BN _ _ D.i3z.symm (vZ.extBut _ _ D.TOz.symm (vD.extBut _ _ D.i2z.symm (rP.extBut _ _ D.TOz.symm (rn.extBut _ _ D.i1z.symm BP))));have Ft:e≠z:=λx=>by subst x;rw[NE]at AE;cases AE;simp at Co
   refine wpAny_setField_rec NE (by simp) λh₇ _ BO=>hE h₇ e (λc o c1 c2 c3 c4 c5 x=>BO.extBut _ _ c1 (BN _ _ c5 (vZ.extBut _ _ c2 (vD.extBut _ _ c4 (rP.extBut _ _ c2 (rn.extBut _ _ c3 (qT.extBut _ _ c1 x))))))) ⟨oe,BO.extBut _ _ Ft AE,Co⟩
theorem Wp {x y a b c:bV}{Q:Option bV->cq->Prop}(D:Z3 z TI TO i1 i2 i3 l1 l2 l3)
  (hz:IsZip s.heap z TI TO .none) (C4:kC s.heap TI (.ref i1) (.ref i2) (.ref i3)) (C5:kC s.heap TO a b c)
  (h1:s.heap.IsListIter i1 l1 k1) (h2:s.heap.IsListIter i2 l2 k2) (h3:s.heap.IsListIter i3 l3 k3) (o7:s.heap.IsList l1 xs) (rO:s.heap.IsList l2 ys) (AB:s.heap.IsList l3 zs) (hx:xs[k1]?=some x) (hy:ys[k2]?=some y) (hu:zs[k3]?=some u)
  (hQ:∀h',IsZip h' z TI TO (rawInt s.heap.objs.size)->kC h' TO x y u->h'.IsListIter i1 l1 (k1+1)->h'.IsListIter i2 l2 (k2+1)->h'.IsListIter i3 l3 (k3+1)->kC h' s.heap.objs.size x y u ->
   (∀c o,c≠z->c≠TO->c≠i1->c≠i2->c≠i3->s.heap.get? c=some o->h'.get? c=some o)->Q (some (.ref s.heap.objs.size)) { s with heap:=h' }) :
  cF (cC prog w) A (pyNext (.ref z)) Q E s:=by
 have hT:s.TypeIs (.ref z) "zip":=⟨_,hz,rfl⟩;unfold pyNext;exact bW (wpAny_attempt (wpAny_callSpecial?_slot (name:=Str.ofString "__next__") hT F.slot_zip_next
  (wpAny_call_entry F.slot_zip_next hT F.entry_zip_next
   (W6 D hz C4 C5 h1 h2 h3 o7 rO AB hx hy hu λh' a1 a2 a3 a4 a5 a6 a7=>cw (hQ h' a1 a2 a3 a4 a5 a6 a7)) (F.args_zip_next_1 _))))
theorem W7 {a b c:bV}{Q:Option bV->cq->Prop}(hh:A.handled=none)(D:Z3 z TI TO i1 i2 i3 l1 l2 l3)
  (hz:IsZip s.heap z TI TO .none) (C4:kC s.heap TI (.ref i1) (.ref i2) (.ref i3)) (C5:kC s.heap TO a b c)
  (h1:s.heap.IsListIter i1 l1 k1) (h2:s.heap.IsListIter i2 l2 k2) (h3:s.heap.IsListIter i3 l3 k3) (o7:s.heap.IsList l1 xs) (rO:s.heap.IsList l2 ys) (AB:s.heap.IsList l3 zs) (Aw:xs[k1]?=none\/ys[k2]?=none\/zs[k3]?=none)
  (hQ:∀h',(∀c o,c≠z->c≠TO->c≠i1->c≠i2->c≠i3->s.heap.get? c=some o->h'.get? c=some o)->Q none { s with heap:=h' }):cF (cC prog w) A (pyNext (.ref z)) Q E s:=by
 have hT:s.TypeIs (.ref z) "zip":=⟨_,hz,rfl⟩;unfold pyNext;refine bW (wpAny_attempt (wpAny_callSpecial?_slot (name:=Str.ofString "__next__") hT F.slot_zip_next
  (wpAny_call_entry F.slot_zip_next hT F.entry_zip_next (XC hh D hz C4 C5 h1 h2 h3 o7 rO AB Aw λh' e hk he=>?_) (F.args_zip_next_1 _))))
 obtain⟨o,ho,hc⟩:=he;refine bW (wpAny_isInstance (T:="StopIteration") (b:=true) ⟨o,ho,hc⟩ isSubtype_stop ?_);exact cw (hQ _ hk)
end
abbrev gO (l:ce):f9:={ cls:=.type "list_iterator",data:=.fields #[.ref l,.int 0 0] }
abbrev Iq (h:cB)(l1 l2 l3:ce):cB:=(((((h.push (gO l1)).push (gO l2)).push (gO l3)).push { cls:=.type "tuple",data:=.seq #[.ref h.objs.size,.ref (h.push (gO l1)).objs.size,.ref ((h.push (gO l1)).push (gO l2)).objs.size] }).push { cls:=.type "tuple",data:=.seq #[.none,.none,.none] })
abbrev DO (h:cB)(l1 l2 l3:ce):cB:=(Iq h l1 l2 l3).push { cls:=.type "zip",data:=.fields #[.none,.bool false,.bool false,.ref (((h.push (gO l1)).push (gO l2)).push (gO l3)).objs.size,.ref ((((h.push (gO l1)).push (gO l2)).push (gO l3)).push { cls:=.type "tuple",data:=.seq #[.ref h.objs.size,.ref (h.push (gO l1)).objs.size,.ref ((h.push (gO l1)).push (gO l2)).objs.size] }).objs.size] }
theorem Wq (l1 l2 l3:ce)(xs ys zs:Array bV) :
  Meets (Builtin.«zip.__new__» ⟨[.type "zip",.ref l1,.ref l2,.ref l3],[]⟩) (λ_ R s=>s.heap.IsList l1 xs/\s.heap.IsList l2 ys/\s.heap.IsList l3 zs /\
   R (.ok (.ret (.ref (Iq s.heap l1 l2 l3).objs.size))) { s with heap:=DO s.heap l1 l2 l3 }) :=
 .of_wp λprog w A R s h=>by
  obtain⟨hp,g,d,tk,os⟩:=s;obtain⟨o7,rO,AB,h⟩:=h;have TC:=sub_zip;have SR:mx (cq.heap ⟨hp,g,d,tk,os⟩) l1 xs:=o7;have SS:mx (cq.heap ⟨hp.push (gO l1),g,d,tk,os⟩) l2 ys:=mx.push rO _;have SU:mx (cq.heap ⟨(hp.push (gO l1)).push (gO l2),g,d,tk,os⟩) l3 zs:=mx.push (mx.push AB _) _
  wp_walk using iU SR,iU SS,iU SU
  exact⟨_,rfl,h⟩
theorem W8 {prog:dH}{w:dw}{A:c7}{xs ys zs:Array bV}(o7:s.heap.IsList l1 xs)(rO:s.heap.IsList l2 ys)(AB:s.heap.IsList l3 zs)
    (h:∀h',IsZip h' (s.heap.objs.size+5) (s.heap.objs.size+3) (s.heap.objs.size+4) .none->kC h' (s.heap.objs.size+3) (.ref s.heap.objs.size) (.ref (s.heap.objs.size+1)) (.ref (s.heap.objs.size+2)) ->
      kC h' (s.heap.objs.size+4) .none .none .none->h'.IsListIter s.heap.objs.size l1 0->h'.IsListIter (s.heap.objs.size+1) l2 0->h'.IsListIter (s.heap.objs.size+2) l3 0 ->
      (∀c o,s.heap.get? c=some o->h'.get? c=some o)->Q (.ref (s.heap.objs.size+5)) { s with heap:=h' }) :
    cF (cC prog w) A (call (.type "zip") [.ref l1,.ref l2,.ref l3]) Q E s:=by
  refine callType_new F.called_zip (by decide) (Vq _ _ _) (VB _ _ _) (λobj=>W5 obj _ _ _) F.entry_zip_new
    (Wq l1 l2 l3 xs ys zs) ⟨o7,rO,AB,?_⟩
  have z1:(s.heap.push (gO l1)).objs.size=s.heap.objs.size+1:=e7 ..;have z2:((s.heap.push (gO l1)).push (gO l2)).objs.size=s.heap.objs.size+2:=by rw[e7,z1]
  have z3:(((s.heap.push (gO l1)).push (gO l2)).push (gO l3)).objs.size=s.heap.objs.size+3:=by rw[e7,z2]
  have g1:(DO s.heap l1 l2 l3).get? s.heap.objs.size=some _:=bY _ (bY _ (bY _ (bY _ (bY _ (cO _ rfl)))));have g2:(DO s.heap l1 l2 l3).get? (s.heap.push (gO l1)).objs.size=some _:=bY _ (bY _ (bY _ (bY _ (cO _ rfl))));have g3:(DO s.heap l1 l2 l3).get? ((s.heap.push (gO l1)).push (gO l2)).objs.size=some _:=bY _ (bY _ (bY _ (cO _ rfl)));have g4:(DO s.heap l1 l2 l3).get? (((s.heap.push (gO l1)).push (gO l2)).push (gO l3)).objs.size=some _:=bY _ (bY _ (cO _ rfl));have g5:(DO s.heap l1 l2 l3).get? ((((s.heap.push (gO l1)).push (gO l2)).push (gO l3)).push { cls:=.type "tuple",data:=.seq #[.ref s.heap.objs.size,.ref (s.heap.push (gO l1)).objs.size,.ref ((s.heap.push (gO l1)).push (gO l2)).objs.size] }).objs.size=some _:=bY _ (cO _ rfl);have g6:(DO s.heap l1 l2 l3).get? (Iq s.heap l1 l2 l3).objs.size=some _:=cO _ rfl;have z4:((((s.heap.push (gO l1)).push (gO l2)).push (gO l3)).push { cls:=.type "tuple",data:=.seq #[.ref s.heap.objs.size,.ref (s.heap.push (gO l1)).objs.size,.ref ((s.heap.push (gO l1)).push (gO l2)).objs.size] }).objs.size=s.heap.objs.size+4:=by rw[e7,z3]
  have z5:(Iq s.heap l1 l2 l3).objs.size=s.heap.objs.size+5:=by rw[e7,z4]
  show _/\_;rw[z5,z3,z4]at g6;rw[z4]at g5;rw[z3,z1,z2]at g4;rw[z2]at g3;rw[z1]at g2;rw[z5];exact⟨⟨_,g6,rfl⟩,h _ g6 g4 g5 ⟨_,g1,rfl,rfl⟩ ⟨_,g2,rfl,rfl⟩ ⟨_,g3,rfl,rfl⟩ λc o x=>bY _ (bY _ (bY _ (bY _ (bY _ (bY _ x)))))⟩
end
variable {P:dH}{l:Expr}
section
open PySem PySem.Spec PyProof.Rows
def Jn (K:bZ)(a b c:ce):It :=
 ⟨λi H=>∃xs ys us x y u,(gZ K H a xs/\gZ K H b ys/\gZ K H c us)/\xs[i]?=some x/\ys[i]?=some y/\us[i]?=some u,λi H x H'=>∃p u v t,H p=none/\x=.ref p/\H'=eS H p (.tup [u,v,t])/\(∀xs,gZ K H a xs->xs[i]?=some u)/\(∀ys,gZ K H b ys->ys[i]?=some v)/\∀us,gZ K H c us->us[i]?=some t,
  λi H=>∃xs ys us,(gZ K H a xs/\gZ K H b ys/\gZ K H c us)/\(xs.length<=i\/ys.length<=i\/us.length<=i)⟩
theorem W9 {w:dw}{K:bZ}{pt:m9}(z TI TO i1 i2 i3 l1 l2 l3:ce)(ap:Z3 z TI TO i1 i2 i3 l1 l2 l3) :
    Turn P w K (.Tuple rY kt pt) (Jn K l1 l2 l3) [z,TI,TO,i1,i2,i3] z (λi h=>IsZip h z TI TO .none/\kC h TI (.ref i1) (.ref i2) (.ref i3)/\(∃a b c,kC h TO a b c)/\h.IsListIter i1 l1 i/\h.IsListIter i2 l2 i/\h.IsListIter i3 l3 i) where
  mem:=by simp
  obj:=λi h st b hb=>by
    obtain⟨q1,q2,⟨a,b',c',q3⟩,⟨o4,e4,_,d4⟩,⟨o5,e5,_,d5⟩,⟨o6,e6,_,d6⟩⟩:=st;simp only[cn,df,or_false]at hb;rcases hb with rfl|rfl|rfl|rfl|rfl|rfl
    · exact⟨_,q1,λv y=>by cases y⟩
    · exact⟨_,q2,λv y=>by cases y⟩
    · exact⟨_,q3,λv y=>by cases y⟩
    · exact⟨_,e4,λv y=>by rw[d4]at y;cases y⟩
    · exact⟨_,e5,λv y=>by rw[d5]at y;cases y⟩
    · exact⟨_,e6,λv y=>by rw[d6]at y;cases y⟩
  keep:=λi h h' st k=>by obtain⟨q1,q2,⟨a,b',c',q3⟩,q4,q5,q6⟩:=st;exact⟨k z (by simp) _ q1,k TI (by simp) _ q2,⟨a,b',c',k TO (by simp) _ q3⟩,q4.at λo x=>k i1 (by simp) o x,q5.at λo x=>k i2 (by simp) o x,q6.at λo x=>k i3 (by simp) o x⟩
  item:=by
    intro X hP hw hK hc i bX s σ H E I hf st hg;subst hP hw hK;obtain⟨xs,ys,us,x,y,t,⟨hq,sD,Ek⟩,hx,hy,ht⟩:=hg;obtain⟨dJ,rv,p,hz⟩:=I.list hq;obtain⟨its',Ib,p',Hy⟩:=I.list sD;obtain⟨qO,Ie,p2,Hz⟩:=I.list Ek;obtain⟨u,hu,ru⟩:=rv.get hx;obtain⟨u',Di,Uj⟩:=Ib.get hy;obtain⟨u2,FG,Uk⟩:=Ie.get ht;obtain⟨q1,q2,⟨a,b',c',q3⟩,q4,q5,q6⟩:=st;refine Wp ap q1 q2 q3 q4 q5 q6 p.isList p'.isList p2.isList (x:=u) (y:=u') (u:=u2) (by simpa using hu) (by simpa using Di) (by simpa using FG) λh1 r1 r2 r3 r4 Ue r5 hk=>?_;refine⟨_,rfl,wpAny_letOwnedTupleGo_zip (s:={ s with heap:=h1 }) r1 λh2 Eg yP=>?_⟩;have QB:z<s.heap.objs.size:=cy q1;have UB:TI<s.heap.objs.size:=cy q2;have Ud:TO<s.heap.objs.size:=cy q3;have Kz:i1<s.heap.objs.size:=by obtain⟨_,q,_⟩:=q4;exact cy q
    have T1:i2<s.heap.objs.size:=by obtain⟨_,q,_⟩:=q5;exact cy q
    have klt:i3<s.heap.objs.size:=by obtain⟨_,q,_⟩:=q6;exact cy q
    have JJ:h2.get? s.heap.objs.size=some { cls:=.type "tuple",data:=.seq #[u,u',u2] }:=(yP.2 _ (kl QB)).trans r5;have De:H s.heap.objs.size=none:=I.hok.fresh (cI _);have I1:Inv X bX σ (eS H s.heap.objs.size (.tup [x,y,t])) { s with heap:=h2,toks:=s.toks }:=by refine I.turnLay (ch:=[z,TI,TO,i1,i2,i3]) hf (λb o hb q=>?_) (cI _) ⟨by show 3<=sizeLine;decide,[u,u',u2],.cons ru (.cons Uj (.cons Uk .nil)),_,JJ,rfl,_,rfl⟩;have b1:b≠z:=λe=>hb (by simp[e]);have b3:b≠TO:=λe=>hb (by simp[e]);have b4:b≠i1:=λe=>hb (by simp[e]);have b5:b≠i2:=λe=>hb (by simp[e]);have b6:b≠i3:=λe=>hb (by simp[e]);exact(yP.2 b b1).trans (hk b o b1 b3 b4 b5 b6 q)
    refine⟨.ref s.heap.objs.size,_,I1,rfl,⟨_,x,y,t,De,rfl,rfl,λzs FJ=>by rw[I.list_inj FJ hq];exact hx,λzs FJ=>by rw[I.list_inj FJ sD];exact hy,λzs FJ=>by rw[I.list_inj FJ Ek];exact ht⟩,⟨Eg,(yP.2 TI ap.TIz).trans (hk TI _ ap.TIz ap.TITO ap.TIi1 ap.TIi2 ap.TIi3 q2),⟨_,_,_,(yP.2 TO ap.TOz).trans r2⟩,r3.at λo q=>(yP.2 i1 ap.i1z).trans q,r4.at λo q=>(yP.2 i2 ap.i2z).trans q,Ue.at λo q=>(yP.2 i3 ap.i3z).trans q⟩,λb hb=>?_⟩;rw[zj ?_]
    · exact(hf b hb).1
    · simp only[cn,df,or_false]at hb;rcases hb with rfl|rfl|rfl|rfl|rfl|rfl
      · exact cW QB
      · exact cW UB
      · exact cW Ud
      · exact cW Kz
      · exact cW T1
      · exact cW klt
  done:=by intro X hP hw hK hc i bX s σ H E I hf st hg;subst hP hw hK;obtain⟨xs,ys,us,⟨hq,sD,Ek⟩,hx⟩:=hg;obtain⟨dJ,rv,p,hz⟩:=I.list hq;obtain⟨its',Ib,p',Hy⟩:=I.list sD;obtain⟨qO,Ie,p2,Hz⟩:=I.list Ek;obtain⟨q1,q2,⟨a,b',c',q3⟩,q4,q5,q6⟩:=st;have hl:=rv.length;have Cq:=Ib.length;have rO:=Ie.length;refine W7 (I.ok.hd hc) ap q1 q2 q3 q4 q5 q6 p.isList p'.isList p2.isList (hx.imp (λh=>by simp;omega) (λh=>h.imp (λh=>by simp;omega) (λh=>by simp;omega))) λh' eb=>⟨rfl,I.turnedL (ch:=[z,TI,TO,i1,i2,i3]) (t':=s.toks) hf λb o hb q=>?_⟩;exact eb b o (λe=>hb (by simp[e])) (λe=>hb (by simp[e])) (λe=>hb (by simp[e])) (λe=>hb (by simp[e])) (λe=>hb (by simp[e])) q
  self:=λ_ _ _ _ _ st h=>wpAny_pyIter_zip st.1 h
theorem zt0 {n:ce}(h1:l1<n)(h2:l2<n)(h3:l3<n):Z3 (n+5) (n+3) (n+4) n (n+1) (n+2) l1 l2 l3:=by constructor<;>exactλe=>by simp only[ce]at *;omega
section
variable {pt:m9}
def FP (K:bZ)(ta:TA):TI:=λσ H R=>ta σ H λvs H1=>∃a b c,vs=[.ref a,.ref b,.ref c]/\(∃xs ys us,gZ K H1 a xs/\gZ K H1 b ys/\gZ K H1 c us)/\R (Jn K a b c) H1
theorem Zt {l' l2:Expr}{ta:TA}(hg:Gl X "zip")(hm:X.mg "zip"=none)(ha:PA X [l,l',l2] ta)(hs:c9 [l,l',l2] X.env=[(false,ei l X.env),(false,ei l' X.env),(false,ei l2 X.env)]:=by rfl)(o8:c9 [l',l2] X.env=[(false,ei l' X.env),(false,ei l2 X.env)]:=by rfl) :
  PI X (.Tuple rY kt pt) (.Call (.Name "zip" p) [l,l',l2] [] pos) (FP X.K ta):=by
 intro bX s σ H R I h;refine Call_ (ux I hg hm PyProof.Rows.boot_zip (ej (fN (ha pos bX s σ H _ I h) λus s1 ⟨vs,H1,I1,r1,q1⟩=>?_) (by rw[hs,o8]) (by rw[o8];rfl)));obtain⟨a,b,c,e,⟨xs,ys,us2,hq,sD,Ek⟩,q⟩:=q1;subst e;cases r1 with
 |cons r rr=>
  cases rr with
  |cons r' rr=>
   cases rr with
   |cons r2 rr=>
    cases rr;cases r;cases r';cases r2;obtain⟨dJ,rv,pl,hz⟩:=I1.list hq;obtain⟨its',Ib,NP,Hy⟩:=I1.list sD;obtain⟨qO,Ie,Ia,Hz⟩:=I1.list Ek;have T4:a<s1.heap.objs.size:=by obtain⟨_,q,_⟩:=pl.isList;exact cy q
    have FW:b<s1.heap.objs.size:=by obtain⟨_,q,_⟩:=NP.isList;exact cy q
    have T5:c<s1.heap.objs.size:=by obtain⟨_,q,_⟩:=Ia.isList;exact cy q
    refine W8 pl.isList NP.isList Ia.isList λh' r1 r2 r3 r4 r5 r6 hk=>?_;refine wpAny_pyIter_zip (s:={ s1 with heap:=h' }) r1 ?_;refine⟨_,[_,_,_,_,_,_],_,_,H1,rfl,I1.kept (t':=s1.toks) hk,(W9 _ _ _ _ _ _ a b c (zt0 T4 FW T5)).ok,⟨r1,r2,⟨_,_,_,r3⟩,r4,r5,r6⟩,λc hb=>?_,q⟩;have:s1.heap.objs.size<=c:=by simp only[cn,df,or_false]at hb;rcases hb with rfl|rfl|rfl|rfl|rfl|rfl<;>omega
    exact I1.fpOk this (I1.hok.fresh this)
end
end
variable {H:Hp}{body:List ek}{ds us:List bV}{jS vs:List V}{j:Nat}{name qual:Str}{bX:List (ce×f9)}{σ:St}
section
open PySem PySem.Spec PyProof.Rows
structure kL (k:Nat)(A:c7):Prop where
 dp:A.depth+3*k+5<pq
 un:A.units+16*k+200<kR
theorem fw.hm {k:Nat}{A:c7}(r:fw k A)(v:Option bV):kL k (A.mark v):=⟨r.dp,r.un⟩
theorem kL.mono {k:Nat}{A:c7}(r:kL k A)(h:j<=k):kL j A:=⟨by have:=r.dp;omega,by have:=r.un;omega⟩
theorem kL.deeper {k:Nat}{A:c7}(r:kL (k+1) A)(env:Env):kL k (A.deeper env) :=
 ⟨by have:=r.dp;show A.depth+1+3*k+5<_;omega,by have:=r.un;show A.units+3+16*k+200<_;omega⟩
theorem kL.depth {k:Nat}{A:c7}(r:kL k A):A.depth<pq:=by have:=r.dp;omega
structure sx (Ah:c7->List V->Prop)(P:dH)(w:dw)(K:bZ)(mg:Str->Option bV)(base:cB)(k:Nat)(f:ce)(fd:cH)(ps:List Str)(sp:Sp):Prop where
 len:∀vs H Q E,sp vs H Q E->vs.length=ps.length
 run:∀(A:c7) (outer:List Env) (s:cq) (H:Hp) (args:Args) (us:List bV) (vs:List V) (Q:VK) (E:XK),kL k A->Ah A vs->sX P w K mg base A outer s H->pE s fd args (ps.zip us)->dA vs us->sp vs H Q E ->
  ix (cC P w) A (.call (.ref f) args) (CR gC outer P w H s Q E) s
abbrev Hd (P:dH)(w:dw)(K:bZ)(mg:Str->Option bV)(base:cB)(N:List Str)(qual:Str)(scope:oC)(f:ce)(cd:bV)(A:c7)(outer:List Env)(s:cq)(H:Hp)(E:XK):Cx:={ nJ gC P w K mg base N qual scope f cd A outer s H E with calm:=false }
theorem zt1 {Ah:c7->List V->Prop}{w:dw}{K:bZ}{mg:Str->Option bV}{base:cB}{k:Nat}{params:Arguments}{dV kV doc pm gN ct oc:bV}{an od:Option ce}
    {xH:Array (Option bV)} {N:List Str} {sp:Sp} (lk:K.lookup f=some ⟨oc,od,.func (jO name qual params body scope dV kV doc pm an gN ct),xH⟩) (lT:nE K gN qual=true) (S:fI N ps scope)
    (len:∀vs H Q E,sp vs H Q E->vs.length=ps.length)
    (uG:∀(A:c7) (outer:List Env) (s:cq) (H:Hp) (vs:List V) (Q:VK) (E:XK),kL k (A.deeper (envOfC qual scope s.heap.objs.size f gN))->Ah A vs->sp vs H Q E ->
      ∃t,rV (Hd P w K mg base N qual scope f gN A outer s H E) body t/\t { nx:=λ_ H'=>Q .non H',rt:=Q } (start N vs) H) :
    sx Ah P w K mg base (k+1) f (jO name qual params body scope dV kV doc pm an gN ct) ps sp:=by
  refine⟨len,λA outer s H args us vs Q E hr Fj e0 hb r AG=>?_⟩;have hl:=len _ _ _ _ AG;have KX:K.In s.heap:=e0.mod.kin.keeps λb o e=>(e0.bs b o e).1;have lim:s.heap.NoLimit:=e0.mod.nolimit.keeps λb o e=>(e0.bs b o e).1;have Az:∀y∈ps.zip us,scope.names.lookup y.1=some .local\/(scope.names.lookup y.1=some .cell/\((cellsFrom (s.heap.objs.size+1) scope.names []).lookup y.1).isSome=true):=λ⟨n,v⟩ hy=>by
    rcases S.par n (jE hy).1 with q|q
    · exact .inl q
    · exact .inr ⟨q,jN _ _ _ (.inl q)⟩
  refine codeAny_call_function hr.depth (KX _ _ lk) rfl S.co S.gen rfl (uV KX lT) (hb _ _ _ _ ?_);refine wpAny_newFunctionEnv_cells S.kind Az λenv he s1 x=>?_;subst he;refine⟨lim.keeps x.toInCall.keep,codeAny_func ?_⟩;obtain⟨t,ht,hq⟩:=uG A outer s H vs Q E (hr.deeper _) Fj AG;have I:Inv (Hd P w K mg base N qual scope f gN A outer s H E) [] (start N vs) H s1:=by have e1:sX P w K mg base { A with handled:=none } outer s H:=⟨e0.frames,e0.mod,e0.bs,e0.bsz,e0.funs,e0.frf,e0.hok,e0.bare⟩;have J:=Ox (CX:=gC) (A:={ A with handled:=none }) (E:=E) S rfl e1 hl r x;have o:=J.ok;exact⟨⟨o.mod,o.kind,o.glob,o.blt,o.above,o.inj,o.has,o.cab,λz=>(by cases z),c7.frames_deeper e0.frames,o.stk,o.exf,o.bs,o.bsz,o.noex,o.exfs,o.funs,o.frf⟩,J.os,J.bare,J.base,J.loc,J.cell,J.free,J.freeC,J.pin,J.hok,J.len⟩
  refine e8 (ht [] s1 (start N vs) H _ I hq) (λfl s' hs=>?_) λe s' hs=>hs;have fin:∀{σ':St} {H':Hp} {v:V} {u:bV},Inv (Hd P w K mg base N qual scope f gN A outer s H E) [] σ' H' s'->RelV v u->Q v H'->CE outer P w H s Q u s' :=
    λ{σ' H' v u} J rv q=>⟨v,H',J.os,J.bare,J.base,J.hok,rv,q⟩
  cases fl with
  |ret u=>obtain⟨v,σ',H',J,rv,q⟩:=hs;exact fin J rv q
  |next=>obtain⟨σ',H',J,q⟩:=hs;exact fin (v:=V.non) (u:=bV.none) J rfl q
  |brk=>obtain⟨_,_,_,q⟩:=hs;exact False.elim q
  |cont=>obtain⟨_,_,_,q⟩:=hs;exact False.elim q
section
variable {k:Nat}{sp:Sp}{E:XK}{t:TA}
theorem Zu {Ah:c7->List V->Prop}{Q:VK}(F:sx Ah X.prog X.w X.K X.mg X.base k f fd ps sp)(hr:kL k X.A)(Fj:Ah X.A (vs++jS))(hb:fF X.K fd ps ds)(hd:dA jS ds)(hx:mn gC X E)
  (I:Inv X bX σ H s) (r:dA vs us) (h:sp (vs++jS) H Q E):cF (cC X.prog X.w) X.A (call (.ref f) us) (EP X bX σ Q) X.xe s:=by
 have r2:dA (vs++jS) (us++ds):=r.append hd;have hl:(us++ds).length=ps.length:=by rw[←r2.length];exact F.len _ _ _ _ h
 refine wpAny_call (gR (F.run X.A X.stack s H ⟨us,[]⟩ (us++ds) (vs++jS) Q E hr Fj I.env0 (hb s us I.kIn hl) r2 h) λr s' hq=>?_);cases r with
 |error e=>exact hx bX σ H s e s' I hq
 |ok fl=>
  cases fl with
  |ret u=>exact I.after hq
  |next=>exact False.elim hq
  |brk=>exact False.elim hq
  |cont=>exact False.elim hq
end
end
end L2
namespace PySem
variable {A:c7}{prog:dH}{w:dw}
end PySem
namespace L2
open PySem PySem.Spec PyProof.Rows
variable {α:Type}
def every2 {α:Type}:List α->List α
 |[]=>[]
 |[x]=>[x]
 |x::_::r=>x::every2 r
variable {β:Type}
theorem Ws {α β:Type}(f:α->β):∀xs:List α,every2 (xs.map f)=(every2 xs).map f
 |[]=>rfl
 |[_]=>rfl
 |x::y::r=>congrArg (f x::·) (Ws f r)
theorem Oj {α:Type}:∀(xs:List α) (k:Nat),(every2 xs)[k]?=xs[2*k]?
 |[],k=>by simp[every2]
 |[x],0=>rfl
 |[x],k+1=>by simp[every2]
 |x::y::r,0=>rfl
 |x::y::r,k+1=>by show(every2 r)[k]?=_;rw[Oj r k,show 2*(k+1)=2*k+1+1 by omega];rfl
theorem v7 {α:Type}:∀(xs:List α),(every2 xs).length=(xs.length+1)/2
 |[]=>by simp[every2]
 |[x]=>by simp[every2]
 |x::y::r=>by show(every2 r).length+1=(r.length+1+1+1)/2;rw[v7 r];omega
theorem XD (dJ:List bV)(i:Nat):slicePick dJ.toArray (some (i:Int)) none (some 2)=(every2 (dJ.drop i)).toArray:=by
 unfold slicePick kA sliceRange;congr 1;have h1:(2:Int) > 0:=by decide
 have h2:¬((i:Int)<0):=by omega
 simp only[xU,h1,h2,if_true,if_false,cJ];have hm:max 0 (min (i:Int) (dJ.length:Int))=((min i dJ.length:Nat):Int):=by omega
 rw[hm];have hc:((if((min i dJ.length:Nat):Int)<(dJ.length:Int)then((dJ.length:Int)-((min i dJ.length:Nat):Int)+2-1)/2 else 0)).toNat=(every2 (dJ.drop i)).length:=by rw[v7,dW];split<;>omega
 rw[hc,List.filterMap_map];have e:∀k∈dQ (every2 (dJ.drop i)).length,(((λx=>dJ.toArray[x]?) ∘ λ(k:Nat)=>(((min i dJ.length:Nat):Int)+2*(k:Int)).toNat) k)=(every2 (dJ.drop i))[k]?:=λk hk=>by have hk:=eu.mp hk;rw[v7,dW]at hk;show dJ.toArray[(((min i dJ.length:Nat):Int)+2*(k:Int)).toNat]?=_;rw[show(((min i dJ.length:Nat):Int)+2*(k:Int)).toNat=i+2*k by omega,List.getElem?_toArray,Oj,List.getElem?_drop]
 have fm:∀(F:Nat->Option bV) (ys:List bV) (l:List Nat),(∀k∈l,F k=ys[k]?/\k<ys.length)->l.filterMap F=l.map λk=>(ys[k]?).getD .none:=by
  intro F ys l;induction l with
  |nil=>exactλ_=>rfl
  |cons k l ih=>intro h;obtain⟨h2,h3⟩:=h k b9;have h4:ys[k]?=some ys[k]:=cX h3;rw[lg,h2,h4,cL,ih λk hk=>h k (cj _ hk),h4];rfl
 rw[fm _ (every2 (dJ.drop i)) _ λk hk=>⟨e k hk,eu.mp hk⟩];apply Ab
 ·simp
 ·intro j h2 h3;simp only[List.getElem_map,List.getElem_range];rw[cX h3];rfl
variable {us:List bV}{xs:List V}
theorem dA.every2 (r:dA xs us):dA (every2 xs) (every2 us):=by
 have:∀(n:Nat) (xs:List V) (us:List bV),xs.length<=n->dA xs us->dA (L2.every2 xs) (L2.every2 us):=by
  intro n;induction n with
  |zero=>
   intro xs us hl r;cases r with
   |nil=>exact .nil
   |cons _ _=>simp at hl
  |succ n ih=>
   intro xs us hl r;cases r with
   |nil=>exact .nil
   |cons h t=>
    cases t with
    |nil=>exact .cons h .nil
    |cons h2 t2=>exact .cons h (ih _ _ (by simp at hl;omega) t2)
 exact this _ _ _ (cI _) r
theorem dA.dropN (r:dA xs us):∀n,dA (xs.drop n) (us.drop n):=by
 induction r with
 |nil=>intro n;cases n<;>exact .nil
 |cons h t ih=>intro n;cases n with
  |zero=>exact .cons h t
  |succ n=>exact ih n
variable {E Q:bV->cq->Prop}{X:Cx}{e:Expr}{p2 pos:m9}{s:cq}{te:TE}{x:Str}
section
variable {sl sp:Expr}{tl tp:TO}
def GC (K:bZ)(te:TE)(tl tp:TO):TE:=λσ H Q=>te σ H λx H1=>tl σ H1 λol H2=>tp σ H2 λo H3=>∃(i:Nat) (a:ce) (xs:List V),ol=some (i:Int)/\o=some 2/\x=.ref a/\gZ K H3 a xs/\∀p,H3 p=none->Q (.ref p) (eS H3 p (.lst (every2 (xs.drop i))))
theorem Zv (he:PE X e te)(hl:PO X (some sl) tl)(hp:PO X (some sp) tp):PE X (.Subscript e (.Slice (some sl) none (some sp) p2) pos) (GC X.K te tl tp):=by intro bX s σ H Q I h;refine Subscript_ (fN (he bX s σ H _ I h) λv s1 gu=>?_);obtain⟨x,H1,I1,r1,q1⟩:=gu;refine wpAny_Slice ?_;refine fN (hl bX s1 σ H1 _ I1 q1) λvl s2 gu=>?_;obtain⟨ol,H2,I2,pl,q2⟩:=gu;rw[wV];refine cw ?_;refine fN (hp bX s2 σ H2 _ I2 q2) λvp s3 gu=>?_;obtain⟨o,H3,I3,pp,q3⟩:=gu;obtain⟨i,a,xs,rfl,rfl,rfl,hx,q⟩:=q3;cases r1;have I4:Inv X bX σ H3 { s3 with heap:=s3.heap.push { cls:=.type "slice",data:=.fields #[vl,.none,vp] } }:=I3.kept (t':=s3.toks) λb ob q=>bY _ q;obtain⟨dJ,r,ht,hz⟩:=I4.list hx;have ki:=r.length;refine tail_any (ops:=[.ref a,.ref s3.heap.objs.size]) (s:={ s3 with heap:=s3.heap.push { cls:=.type "slice",data:=.fields #[vl,.none,vp] } }) (T:="list") ht.isList.typeIs rK.lookup ?_ (by with_unfolding_all rfl);refine wpAny_getItem_list_slice ht.isList (Bs.new ..) pl .none pp (by simp) ?_ (by rw[cJ]<;>omega);rw[XD];refine⟨.ref _,_,I4.laid (t':=s3.toks) (o:=.lst (every2 (xs.drop i))) (λb ob q=>bY _ q) (cI _) ?_,rfl,q _ (I4.hok.fresh (cI _))⟩;exact⟨by rw[v7,dW];omega,_,0,(r.dropN i).every2,cO _ rfl⟩
theorem Wt {prog:dH}{w:dw}{A:c7}{y:Str}{t u:Tok}(hy:(y.length==0)=false)(hx:x.length<=sizeLine)(hn:(Txt.split x y).length<=sizeLine)
    (h:∀(l:List (Str×Tok)) k,l.map (·.1)=Txt.split x y->Q (.ref s.heap.objs.size) { s with heap:=s.heap.push { cls:=.type "list",data:=.seq (strValues l).toArray },toks:=k }):cF (cC prog w) A (call (.builtin "str.split") [.str x t,.str y u]) Q E s:=by
  cases h1:(decide (x.length<y.length) || decide (PySem.Builtin.Str.strKind x<PySem.Builtin.Str.strKind y))with
  |true=>exact lq F.slot_str_split (typeIs_str _ _ _) F.entry_str_split (F.args_str_split_2 _ _) (meets_str_split_cannot_occur x y t u h1) (h [(x,t)] s.toks (by unfold Txt.split;rw[if_pos h1];rfl))
  |false=>
    cases hf:(Builtin.Str.occurrences x y 0 x.length (x.length+1)).isEmpty with
    |true=>exact lq F.slot_str_split (typeIs_str _ _ _) F.entry_str_split (F.args_str_split_2 _ _) (meets_str_split_not_found x y t u h1 hy hf) (h [(x,t)] s.toks (by unfold Txt.split;rw[h1,if_neg cD,if_pos hf];rfl))
    |false=>
      have e:Txt.split x y=Builtin.Str.partsBetween x (Builtin.Str.occurrences x y 0 x.length (x.length+1)) y.length:=by unfold Txt.split;rw[h1,if_neg cD,hf,if_neg cD]
      rw[e]at hn;refine lq F.slot_str_split (typeIs_str _ _ _) F.entry_str_split (F.args_str_split_2 _ _) (meets_str_split_sep x y t u h1 hy hf hx hn) ?_;have:=h (numbered s.toks (Builtin.Str.partsBetween x (Builtin.Str.occurrences x y 0 x.length (x.length+1)) y.length)) (s.toks+(Builtin.Str.partsBetween x (Builtin.Str.occurrences x y 0 x.length (x.length+1)) y.length).length) ((numbered_texts _ _).trans e.symm);rw[←strsFrom_eq]at this;exact this
theorem mQ:∀l:List (Str×Tok),dA ((l.map (·.1)).map V.str) (strValues l)
 |[]=>.nil
 |(x,t)::l=>.cons ⟨t,rfl⟩ (mQ l)
def Dy:V->List V->Hp->VK->Prop:=λx vs H Q=>∃y z,x=.str y/\vs=[.str z]/\(z.length==0)=false/\y.length<=sizeLine/\(Txt.split y z).length<=sizeLine/\∀p,H p=none->Q (.ref p) (eS H p (.lst ((Txt.split y z).map V.str)))
theorem XF:DY X "str.split" Dy:=by intro bX s σ H x vs v us Q I rx rv h;obtain⟨y,z,rfl,rfl,hz,hy,hn,q⟩:=h;obtain⟨tk,rfl⟩:=rx;obtain⟨u,rfl,ru⟩:=rv.one;obtain⟨tu,rfl⟩:=ru;refine Wt hz hy hn λl k e=>?_;rw[←e]at hn q;refine⟨.ref _,_,I.laid (t':=k) (o:=.lst ((l.map (·.1)).map V.str)) (λb ob q=>bY _ q) (cI _) ?_,rfl,q _ (I.hok.fresh (cI _))⟩;exact⟨by rw[ck];exact hn,_,0,mQ l,cO _ rfl⟩
theorem xm:iq X (.type "int") (λxs H Q=>∃y i,xs=[.str y]/\PySem.intText? y=some i/\y.length<=640/\Q (.int i) H):=by intro bX s σ H xs us Q I r h;obtain⟨y,i,rfl,hi,hl,q⟩:=h;obtain⟨u,rfl,rx⟩:=p9 r;obtain⟨tk,rfl⟩:=rx;exact PySem.W.KIN.call_text hi hl ⟨.int i,H,I.tok _,⟨_,rfl⟩,q⟩
end
variable {P:dH}
variable {CX:Ai}{es:List Expr}{p:m9}
variable {l1 l2:ce}
variable {rY:List Expr}{kt:Nat}
def yB (v:V):Prop:=∃x:Str,v=.str x/\cU.strOk x=true/\x.length<=100
theorem zt2 (he:PE X e te):PF X (.FormattedValue e 114 none pos) 2000 (λσ H Q=>te σ H λv H1=>yB v/\Q H1):=by
 intro bX s σ H Q I h;refine wpAny_FormattedValue_repr (fN (he bX s σ H _ I h) λu s1 ⟨v,H1,I1,r1,⟨x,ev,ok,hl⟩,q⟩=>?_);subst ev;obtain⟨t,rfl⟩:=r1;have z:(reprText x).length<=2000:=by
  have:=StrLaws.reprText_len x λc hc=>by have:=(wN.mp ok) c (nQ.mp hc);exact Nat.lt_trans (of_decide_eq_true this) (by decide)
  omega
 refine pyReprObj_str (hx:=by rw[dD];omega) ?_;exact wpAny_formatField_str ⟨_,_,H1,rfl,z,I1.tok _,q⟩ ⟨_,_,H1,rfl,z,(I1.tok _).tok _,q⟩ (by rw[dD];omega)
variable {C it:ce}{dx:Option ce}{i:Nat}
section
variable {prog:dH}{w:dw}{A:c7}
theorem Vr:entryFor table "proto.unchain"=some Builtin.«proto.unchain»:=entryFor_of_tree (by kernel_rfl)
theorem U9 {l e:ce}{tb:Option ce}{items}{Q:Option bV->cq->Prop}(hh:A.handled=some (.ref e))(xe:CY e C dx tb s.heap)(mE:e≠it)
    (hit:s.heap.IsListIter it l i) (hl:s.heap.IsList l items) (hx:items[i]?=none)
    (hQ:∀h',cB.ExtBut it s.heap h'->Q none { s with heap:=h' }):cF (cC prog w) A (pyNext (.ref it)) Q E s:=by
  obtain⟨o,ho,hc,hd⟩:=id hit;obtain⟨ol,Tv,_,nl,hdl⟩:=hl;obtain⟨a0,he⟩:=xe;unfold pyNext;refine bW (wpAny_attempt (wpAny_callSpecial?_slot (name:=Str.ofString "__next__") hit.typeIs slot_listiter_next
    (wpAny_call_entry slot_listiter_next hit.typeIs entry_listiter_next ?_ (args_listiter_next _))))
  show cF _ _ (field (.ref it) 0 >>= _) _ _ s;refine bW (wpAny_field ho hd (x:=.ref l) rfl ?_);show cF _ _ (if(bV.ref l==bV.none)=true then _ else _) _ _ s;rw[if_neg (show¬((bV.ref l==bV.none)=true)from cD)];show cF _ _ (field (.ref it) 1 >>= _) _ _ s;refine bW (wpAny_field ho hd (x:=.int i 0) rfl ?_);show cF _ _ (seqItems? (.ref l) >>= _) _ _ s;refine bW (wpAny_seqItems Tv hdl ?_);simp only[kj,hx];refine bW (wpAny_rule (bW (wpAny_setField ho hd (by simp) ?_)));have b1:=gK.update s.heap it (f9.mapFields (·.setIfInBounds 0 bV.none));have Nf:=(b1.2 e mE).trans he;generalize s.heap.update it (f9.mapFields (·.setIfInBounds 0 bV.none))=h1 at b1 Nf ⊢;show cF _ _ (newExc (.type "StopIteration") [] >>= _) _ _ _;refine bW ?_;simp only[newExc,newTuple];refine bW (iT ?_ (by size_fits));refine bW (m:=firstArgMember _ _) (wpAny_of_eq (a:=bV.none) (by first|rfl|(simp only[firstArgMember];rfl)) ?_);refine iT ?_ (by size_fits);simp only[raiseNew];refine bW (wpAny_handled ?_);rw[show A.in1.handled=some (.ref e)from hh];generalize Tl:h1.push { cls:=.type "tuple",data:=.seq #[] }=h2;have k2:∀b o,h1.get? b=some o->h2.get? b=some o:=λb o q=>by rw[←Tl];exact bY _ q
  have Eg:=k2 _ _ Nf;have lt:e<h2.objs.size:=cy Eg;dsimp only;rw[if_pos (show(bV.ref e != bV.ref h2.objs.size)=true from by rw[bne_iff_ne];intro z;cases z;exact absurd lt (gP _))];generalize Hr:({ cls:=.type "StopIteration",data:=_ }:f9)=oS;have gS:(h2.push oS).get? h2.objs.size=some oS:=cO _ (by rw[←Hr];rfl);have Tb:=bY (h:=h2) oS Eg;refine bW (iM (wpAny_runValue (codeAny_builtin Vr ?_)));rw[c7.under_plainId (by decide +kernel) _];unfold Builtin.«proto.unchain»;refine bW (wpAny_field Tb rfl (x:=.none) (by simp) ?_);rw[if_pos (by rfl)];refine cw ?_;dsimp only;unfold updateField;refine bW (bW (wpAny_load gS ?_));have dS:oS.data=.fields (#[bV.ref h1.objs.size,.none,.none,.none,.bool false,.none]++ownMembersOf (.type "StopIteration") []):=by rw[←Hr]
  rw[dS];dsimp only;rw[if_pos (by simp;omega)];refine wpAny_update gS ?_;refine wpAny_throw ?_;have b2:=gK.update (h2.push oS) h2.objs.size (f9.mapFields (·.setIfInBounds 2 (bV.ref e)));have g2:=eZ (f9.mapFields (·.setIfInBounds 2 (bV.ref e))) gS (by rw[←Hr];rfl);refine bW (wpAny_isInstance (T:="StopIteration") (b:=true) ⟨_,g2,by rw[←Hr];rfl⟩ isSubtype_stop ?_);refine cw (hQ _ λb o hb q=>?_);have z1:=k2 _ _ ((b1.2 b hb).trans q);have z2:b<h2.objs.size:=cy z1;exact(b2.2 b (cW z2)).trans (bY _ z1)
end
def ET (K:bZ)(a e:ce):It:=⟨(DX K a).go,(DX K a).yld,λi H=>(DX K a).stop i H/\∃C dx tb,H e=some (nk e C dx tb)⟩
variable {tg:Expr}
theorem Wu {w:dw}{K:bZ}(a e it:ce):Am P w K tg (ET K a e) [it] it (λi h=>h.IsListIter it a i) (λX=>X.A.handled=some (.ref e)) where
 mem:=by simp
 obj:=(uz (P:=P) (w:=w) (K:=K) (tg:=tg) a it).obj
 keep:=(uz (P:=P) (w:=w) (K:=K) (tg:=tg) a it).keep
 item:=by intro X hP hw hK hc i bX s σ H E I hf st hg;subst hP hw hK;obtain⟨xs,x,hq,hx⟩:=hg;obtain⟨dJ,rv,p,hz⟩:=I.list hq;obtain⟨u,hu,ru⟩:=rv.get hx;obtain⟨f0,f1,f2,f3,f4,f5⟩:=hf it (by simp);refine wpAny_pyNext_list_item st p.isList (x:=u) (by simpa using hu) λh' wI sb=>?_;have I1:Inv X bX σ H { s with heap:=h' }:=I.turned (t':=s.toks) (λb o hb e=>(sb.2 b hb).trans e) f0 f1 f3 f4 f5;obtain⟨o,e,c,d⟩:=id wI;exact⟨u,rfl,Je (s:={ s with heap:=h' }) e c d (by decide) ⟨x,H,I1,ru,⟨rfl,λys hy=>by rw[I.list_inj hy hq];exact hx⟩,wI,λb hb=>(hf b hb).1⟩⟩
 done:=by intro X hP hw hK hc i bX s σ H E I hf st hg;subst hP hw hK;obtain⟨⟨xs,hq,hx⟩,C,dx,tb,Dj⟩:=hg;obtain⟨dJ,rv,p,hz⟩:=I.list hq;obtain⟨f0,f1,f2,f3,f4,f5⟩:=hf it (by simp);have hl:=rv.length;exact U9 hc (I.hok e _ Dj).1 (λz=>by rw[z,f0]at Dj;cases Dj) st p.isList (by simp;omega) λh' eb=>⟨rfl,I.turned (t':=s.toks) (λb o hb e=>eb b o hb e) f0 f1 f3 f4 f5⟩
 self:=(uz (P:=P) (w:=w) (K:=K) (tg:=tg) a it).self
variable {l:Expr}
def Dl (K:bZ)(e:ce)(tl:TE):TI:=λσ H R=>tl σ H λx H1=>∃a,x=.ref a/\(∃xs,gZ K H1 a xs)/\R (ET K a e) H1
theorem XH {tl:TE}{e:ce}(hh:X.A.handled=some (.ref e))(hl:PE X l tl):DZ X True tg l (Dl X.K e tl):=by
 intro bX s σ H R I h;refine fN (hl bX s σ H _ I h) λv s1 gu=>?_;obtain⟨x,H1,I1,r1,q1⟩:=gu;obtain⟨a,e',⟨xs,hq⟩,q⟩:=q1;subst e';cases r1;obtain⟨dJ,rv,p,hz⟩:=I1.list hq;refine iU p.isList ?_;refine⟨s1.heap.objs.size,[s1.heap.objs.size],_,_,H1,rfl,I1.kept (t':=s1.toks) λb o e=>bY _ e,⟨_,Wu a e _,λ_ Y hA _=>by rw[hA];exact hh⟩,⟨_,cO _ rfl,rfl,rfl⟩,λb hb=>?_,q⟩;have e:b=s1.heap.objs.size:=by simpa using hb
 subst e;exact I1.fpOk (cI _) (I1.hok.fresh (cI _))
theorem kL.u64 {k:Nat}{A:c7}(r:kL k A):A.units+64<kR:=by have:=r.un;omega
def G5 (A:c7)(vs:List V):Prop:=∃e GH,A.handled=some (.ref e)/\vs=.ref e::GH
variable {f:ce}{fd:cH}{ps:List Str}
section
variable {k:Nat}{e:ce}{sp:Sp}{E:XK}{y:Str}{pn:m9}
theorem XJ (F:sx G5 X.prog X.w X.K X.mg X.base k f fd ps sp)(hr:kL k X.A)(hA:X.A.handled=some (.ref e))(hg:Gl X x)(hm:X.mg x=some (.ref f))(hk:dn X.K (.ref f)=true)(hb:fF X.K fd ps [])(hx:mn gC X E)
  (hN:X.N[i]?=some y) (hv:vU X.env.scope y) (hd:lx y:=by decide) (lT:yE y:=by decide) (kM:lx x:=by decide) (he:c9 [.Name y pn] X.env=(false,ei (.Name y pn) X.env)::c9 [] X.env:=by rfl) (gW:oa X pos []:=by rfl) :
  PE X (.Call (.Name x p) [.Name y pn] [] pos) (λσ H Q=>σ[i]?=some (some (.ref e))/\sp [.ref e] H Q E):=by
 intro bX s σ H Q I h;obtain⟨h1,h2⟩:=h;refine eT (x6 I hg hm ?_ kM);refine fJ (h₀:=X.base) I.ok.mod.kin hk (fN (zy (yb hN hv hd lT) yy he pos bX s σ H (λvs H1=>vs=[.ref e]/\sp [.ref e] H1 Q E) I ⟨_,h1,rfl,h2⟩) λus s1 ⟨vs,H1,I1,r,ev,q⟩=>⟨I1.kIn,?_⟩) he gW;subst ev;exact Zu (jS:=[]) F hr ⟨e,[],hA,rfl⟩ hb .nil hx I1 r q
end
end L2
namespace Fq
def dv (t b:Int):Int:=if b<0 then -((Int.gcd t b:Nat):Int)else((Int.gcd t b:Nat):Int)
def mk (t b:Int):Int×Int:=(t.fdiv (dv t b),b.fdiv (dv t b))
end Fq
namespace L3
open PySem PySem.Spec L2
open PyProof.Rows hiding St
inductive D where
 |non|bl (b:Bool)|int (i:Int)|str (x:Str)
 |lst (xs:List D)|tup (xs:List D)|dK (ks:List iW) (ds:List D)|dT (ks:List (List iW)) (ds:List D)
 |obj (c:Nat) (ns:List Str) (ds:List D)
 |exc (c:Nat) (ns:List Str) (ds:List D)
 |kt (xs:List D)
 deriving Inhabited
inductive Pr (R:D->V->Prop):List D->List V->Prop
 |nil:Pr R [] []
 |cons {d:D} {v:V} {ds:List D} {vs:List V}:R d v->Pr R ds vs->Pr R (d::ds) (v::vs)
variable {R:D->V->Prop}{ds:List D}
theorem Pr.mono {R':D->V->Prop}(f:∀d v,R d v->R' d v){vs:List V}(h:Pr R ds vs):Pr R' ds vs:=by
 induction h with
 |nil=>exact .nil
 |cons h t ih=>exact .cons (f _ _ h) ih
theorem Pr.length {vs:List V}(h:Pr R ds vs):ds.length=vs.length:=by
 induction h with
 |nil=>rfl
 |cons h t ih=>rw[cm,cm,ih]
variable {d:D}{i:Nat}
theorem Pr.get' {vs:List V}(h:Pr R ds vs)(e:ds[i]?=some d):∃v,vs[i]?=some v/\R d v:=by
 induction h generalizing i with
 |nil=>cases e
 |cons h t ih=>
  cases i with
  |zero=>cases e;exact⟨_,rfl,h⟩
  |succ i=>exact ih e
variable {us:List V}
theorem Pr.append {es:List D}{vs:List V}(h:Pr R ds vs)(s:Pr R es us):Pr R (ds++es) (vs++us):=by
 induction h with
 |nil=>exact s
 |cons h t ih=>exact .cons h ih
theorem Pr.take {vs:List V}(n:Nat)(h:Pr R ds vs):Pr R (ds.take n) (vs.take n):=by
 induction h generalizing n with
 |nil=>cases n<;>exact .nil
 |cons h t ih=>cases n with
  |zero=>exact .nil
  |succ n=>exact .cons h (ih n)
theorem Pr.drop {vs:List V}(n:Nat)(h:Pr R ds vs):Pr R (ds.drop n) (vs.drop n):=by
 induction h generalizing n with
 |nil=>cases n<;>exact .nil
 |cons h t ih=>cases n with
  |zero=>exact .cons h t
  |succ n=>exact ih n
theorem Pr.reverse {vs:List V}(h:Pr R ds vs):Pr R ds.reverse vs.reverse:=by
 induction h with
 |nil=>exact .nil
 |cons h t ih=>rw[pC,pC];exact ih.append (.cons h .nil)
theorem Pr.rep {vs:List V}(h:Pr R ds vs)(k:Nat):Pr R (cE k ds).flatten (cE k vs).flatten:=by
 induction k with
 |zero=>exact .nil
 |succ k ih=>rw[eE,iw,eE,iw];exact h.append ih
mutual
inductive Dt (K:bZ)(ct:Nat->ce)(F:Hp):D->V->Prop
 |non:Dt K ct F .non .non
 |bl (b:Bool):Dt K ct F (.bl b) (.bl b)
 |int (i:Int):Dt K ct F (.int i) (.int i)
 |str (x:Str):Dt K ct F (.str x) (.str x)
 |lst {a:ce} {vs:List V} {ds:List D}:gZ K F a vs->Dts K ct F ds vs->Dt K ct F (.lst ds) (.ref a)
 |tup {a:ce} {vs:List V} {ds:List D}:F a=some (.tup vs)->Dts K ct F ds vs->Dt K ct F (.tup ds) (.ref a)
 |dK {a:ce} {ks:List iW} {vs:List V} {ds:List D}:F a=some (.dK (ks.zip vs))->ks.length=vs.length->Dts K ct F ds vs->Dt K ct F (.dK ks ds) (.ref a)
 |dT {a:ce} {ks:List (List iW)} {vs:List V} {ds:List D}:Rd F a (.dT (ks.zip vs))->ks.length=vs.length->Dts K ct F ds vs->Dt K ct F (.dT ks ds) (.ref a)
 |obj {a dx:ce} {c:Nat} {ns:List Str} {vs:List V} {ds:List D}:F a=some (.ins (ct c) dx (ns.zip vs))->ns.length=vs.length->Dts K ct F ds vs->Dt K ct F (.obj c ns ds) (.ref a)
 |exc0 {a:ce} {c:Nat} {tb:Option ce}:F a=some (nk a (ct c) none tb)->Dt K ct F (.exc c [] []) (.ref a)
 |exc {a dx:ce} {c:Nat} {tb:Option ce} {ns:List Str} {vs:List V} {ds:List D}:F a=some (nk a (ct c) (some dx) tb)->F dx=some (.xd (ns.zip vs))->ns.length=vs.length->Dts K ct F ds vs->Dt K ct F (.exc c ns ds) (.ref a)
 |kt {a:ce} {vs:List V} {ds:List D}:EW K a vs->Dts K ct F ds vs->Dt K ct F (.kt ds) (.ref a)
inductive Dts (K:bZ)(ct:Nat->ce)(F:Hp):List D->List V->Prop
 |nil:Dts K ct F [] []
 |cons {d:D} {v:V} {ds:List D} {vs:List V}:Dt K ct F d v->Dts K ct F ds vs->Dts K ct F (d::ds) (v::vs)
end
variable {B B' F F' G G' H H':Hp}{K:bZ}{ct:Nat->ce}
theorem Dts.pr {vs:List V}(h:Dts K ct F ds vs):Pr (Dt K ct F) ds vs:=by
 induction ds generalizing vs with
 |nil=>cases h;exact .nil
 |cons d ds ih=>cases h with|cons h t=>exact .cons h (ih t)
theorem Dts.of {vs:List V}(h:Pr (Dt K ct F) ds vs):Dts K ct F ds vs:=by
 induction h with
 |nil=>exact .nil
 |cons h t ih=>exact .cons h ih
theorem Dt.mono (s:dz F F'){v:V}(h:Dt K ct F d v):Dt K ct F' d v :=
 Dt.rec (motive_1:=λd v _=>Dt K ct F' d v) (motive_2:=λd v _=>Dts K ct F' d v) .non .bl .int .str (λh _ t=>.lst (s.seq h) t) (λh _ t=>.tup (s _ _ h) t) (λh l _ t=>.dK (s _ _ h) l t) (λh l _ t=>.dT (s.rd h) l t) (λh l _ t=>.obj (s _ _ h) l t) (λh=>.exc0 (s _ _ h)) (λh h' l _ t=>.exc (s _ _ h) (s _ _ h') l t) (λh _ t=>.kt h t) .nil (λ_ _ h t=>.cons h t) h
theorem Dts.mono (s:dz F F'){vs:List V}(h:Dts K ct F ds vs):Dts K ct F' ds vs:=Dts.of (h.pr.mono λ_ _ q=>q.mono s)
def D.sc:D->Bool
 |.non=>true|.bl _=>true|.int _=>true|.str _=>true|_=>false
inductive DV (K:bZ)(ct:Nat->ce)(F G:Hp)(R:D->V->Prop):D->V->Prop
 |lst {a:ce} {vs:List V} {ds:List D}:G a=some (.lst vs)->Pr R ds vs->DV K ct F G R (.lst ds) (.ref a)
 |tup {a:ce} {vs:List V} {ds:List D}:F a=some (.tup vs)->Pr R ds vs->DV K ct F G R (.tup ds) (.ref a)
 |dK {a:ce} {ks:List iW} {vs:List V} {ds:List D}:G a=some (.dK (ks.zip vs))->ks.length=vs.length->Pr R ds vs->DV K ct F G R (.dK ks ds) (.ref a)
 |dT {a:ce} {ks:List (List iW)} {vs:List V} {ds:List D}:Rd G a (.dT (ks.zip vs))->ks.length=vs.length->Pr R ds vs->DV K ct F G R (.dT ks ds) (.ref a)
 |obj {a dx:ce} {c:Nat} {ns:List Str} {vs:List V} {ds:List D}:G a=some (.ins (ct c) dx (ns.zip vs))->ns.length=vs.length->Pr R ds vs->DV K ct F G R (.obj c ns ds) (.ref a)
def Al (K:bZ)(ct:Nat->ce)(F G:Hp):Nat->D->V->Prop
 |0,d,v=>Dt K ct F d v
 |n+1,d,v=>Dt K ct F d v\/DV K ct F G (Al K ct F G n) d v
inductive jU (R:D->V->List ce->Prop):List D->List V->List ce->Prop
 |nil:jU R [] [] []
 |cons {d:D} {v:V} {ds:List D} {vs:List V} {f g:List ce}:R d v f->jU R ds vs g->jU R (d::ds) (v::vs) (f++g)
inductive Bd (K:bZ)(ct:Nat->ce)(F H:Hp)(R:D->V->List ce->Prop):D->V->List ce->Prop
 |lst {a:ce} {vs:List V} {ds:List D} {fp:List ce}:F a=none->H a=some (.lst vs)->jU R ds vs fp->Bd K ct F H R (.lst ds) (.ref a) (a::fp)
 |tup {a:ce} {vs:List V} {ds:List D} {fp:List ce}:F a=some (.tup vs)->jU R ds vs fp->Bd K ct F H R (.tup ds) (.ref a) fp
 |dK {a:ce} {ks:List iW} {vs:List V} {ds:List D} {fp:List ce}:F a=none->H a=some (.dK (ks.zip vs))->ks.length=vs.length->jU R ds vs fp->Bd K ct F H R (.dK ks ds) (.ref a) (a::fp)
 |dT {a:ce} {ks:List (List iW)} {vs:List V} {ds:List D} {fp:List ce}:F a=none->H a=some (.dT (ks.zip vs))->ks.length=vs.length->jU R ds vs fp->Bd K ct F H R (.dT ks ds) (.ref a) (a::fp)
 |obj {a dx:ce} {c:Nat} {ns:List Str} {vs:List V} {ds:List D} {fp:List ce}:F a=none->H a=some (.ins (ct c) dx (ns.zip vs))->ns.length=vs.length->jU R ds vs fp->Bd K ct F H R (.obj c ns ds) (.ref a) (a::fp)
def Ow (K:bZ)(ct:Nat->ce)(F H:Hp):Nat->D->V->List ce->Prop
 |0,d,v,fp=>Dt K ct F d v/\fp=[]
 |n+1,d,v,fp=>(d.sc=true/\Dt K ct F d v/\fp=[])\/Bd K ct F H (Ow K ct F H n) d v fp
def nH (o:HO):Prop:=∀xs,o≠.tup xs
structure ir (F H F' H':Hp):Prop where
 ff:dz F F'
 hh:dz H H'
 fh:dz F' H'
 nf:∀a o,H a=some o->nH o->F a=none->F' a=none
theorem ir.refl (h:dz F H):ir F H F H:=⟨.refl _,.refl _,h,λ_ _ _ _ h=>h⟩
variable {F1:Hp}
theorem ir.trans {H1 F2 H2:Hp}(a:ir F H F1 H1)(b:ir F1 H1 F2 H2):ir F H F2 H2 :=
 ⟨a.ff.trans b.ff,a.hh.trans b.hh,b.fh,λc o h t n=>b.nf c o (a.hh _ _ h) t (a.nf c o h t n)⟩
theorem ir.newO {p:ce}(s:dz F H)(h:H p=none)(o:HO):ir F H F (eS H p o) :=
 ⟨.refl _,yn h o,s.trans (yn h o),λ_ _ _ _ h=>h⟩
theorem ir.newS {p:ce}(s:dz F H)(h:H p=none)(o:HO):ir F H (eS F p o) (eS H p o) :=
  ⟨yn (s.free h) o,yn h o,λb u q=>by
    by_cases e:b=p
    · subst e;rw[zk]at q ⊢;exact q
    · rw[zj e]at q ⊢;exact s _ _ q,
   λb u q _ n=>by rw[zj (zl q h)];exact n⟩
variable {F0:Hp}{fp:List ce}{ks:List iW}{n:Nat}{x:Str}
theorem Al.mono (sF:dz F F')(sG:dz G G'):∀{d:D} {v:V},Al K ct F G n d v->Al K ct F' G' n d v:=by
 induction n with
 |zero=>exactλh=>Dt.mono sF h
 |succ n ih=>
  intro d v h;rcases h with h|h
  ·exact .inl (Dt.mono sF h)
  ·cases h with
   |lst h p=>exact .inr (.lst (sG _ _ h) (p.mono λ_ _ q=>ih q))
   |tup h p=>exact .inr (.tup (sF _ _ h) (p.mono λ_ _ q=>ih q))
   |dK h l p=>exact .inr (.dK (sG _ _ h) l (p.mono λ_ _ q=>ih q))
   |dT h l p=>exact .inr (.dT (sG.rd h) l (p.mono λ_ _ q=>ih q))
   |obj h l p=>exact .inr (.obj (sG _ _ h) l (p.mono λ_ _ q=>ih q))
theorem Al.of:∀{n:Nat} {d:D} {v:V},Dt K ct F d v->Al K ct F G n d v
 |0,_,_,h=>h
 |_+1,_,_,h=>.inl h
theorem Dt.scal {v:V}(h:Dt K ct F d v)(hs:d.sc=true):Dt K ct F' d v:=by
 cases h with
 |non=>exact .non
 |bl b=>exact .bl b
 |int i=>exact .int i
 |str x=>exact .str x
 |lst _ _=>cases hs
 |tup _ _=>cases hs
 |dK _ _ _=>cases hs
 |dT _ _ _=>cases hs
 |obj _ _ _=>cases hs
 |exc0 _=>cases hs
 |exc _ _ _ _=>cases hs
 |kt _ _=>cases hs
theorem Al.scal {v:V}(h:Al K ct F G n d v)(hs:d.sc=true):Dt K ct F' d v:=by
 cases n with
 |zero=>exact Dt.scal h hs
 |succ n=>
  rcases h with h|h
  ·exact h.scal hs
  ·cases h<;>cases hs
theorem Al.int {i:Int}{v:V}(h:Al K ct F G n (.int i) v):v=.int i:=by have q:=Al.scal (F':=F) h rfl;cases q;rfl
theorem Al.bl {b:Bool}{v:V}(h:Al K ct F G n (.bl b) v):v=.bl b:=by have q:=Al.scal (F':=F) h rfl;cases q;rfl
theorem Al.str {v:V}(h:Al K ct F G n (.str x) v):v=.str x:=by have q:=Al.scal (F':=F) h rfl;cases q;rfl
theorem Al.non {v:V}(h:Al K ct F G n .non v):v=.non:=by have q:=Al.scal (F':=F) h rfl;cases q;rfl
theorem Al.lst {v:V}(h:Al K ct F G n (.lst ds) v)(s:dz F G):∃a vs,v=.ref a/\gZ K G a vs/\Pr (Al K ct F G (n-1)) ds vs:=by
 cases n with
 |zero=>
  have h:Dt K ct F (.lst ds) v:=h;cases h with
  |lst q t=>exact⟨_,_,rfl,s.seq q,t.pr⟩
 |succ n=>
  rcases h with h|h
  ·cases h with
   |lst q t=>exact⟨_,_,rfl,s.seq q,t.pr.mono λ_ _=>Al.of⟩
  ·cases h with
   |lst q t=>exact⟨_,_,rfl,gZ.of q,t⟩
theorem Al.tup {v:V}(h:Al K ct F G n (.tup ds) v)(s:dz F G):∃a vs,v=.ref a/\G a=some (.tup vs)/\Pr (Al K ct F G (n-1)) ds vs:=by
 cases n with
 |zero=>
  have h:Dt K ct F (.tup ds) v:=h;cases h with
  |tup q t=>exact⟨_,_,rfl,s _ _ q,t.pr⟩
 |succ n=>
  rcases h with h|h
  ·cases h with
   |tup q t=>exact⟨_,_,rfl,s _ _ q,t.pr.mono λ_ _=>Al.of⟩
  ·cases h with
   |tup q t=>exact⟨_,_,rfl,s _ _ q,t⟩
theorem Al.dK {v:V}(h:Al K ct F G n (.dK ks ds) v)(s:dz F G):∃a vs,v=.ref a/\G a=some (.dK (ks.zip vs))/\ks.length=vs.length/\Pr (Al K ct F G (n-1)) ds vs:=by
 cases n with
 |zero=>
  have h:Dt K ct F (.dK ks ds) v:=h;cases h with
  |dK q l t=>exact⟨_,_,rfl,s _ _ q,l,t.pr⟩
 |succ n=>
  rcases h with h|h
  ·cases h with
   |dK q l t=>exact⟨_,_,rfl,s _ _ q,l,t.pr.mono λ_ _=>Al.of⟩
  ·cases h with
   |dK q l t=>exact⟨_,_,rfl,q,l,t⟩
theorem Al.dT {ks:List (List iW)}{v:V}(h:Al K ct F G n (.dT ks ds) v)(s:dz F G):∃a vs,v=.ref a/\Rd G a (.dT (ks.zip vs))/\ks.length=vs.length/\Pr (Al K ct F G (n-1)) ds vs:=by
 cases n with
 |zero=>
  have h:Dt K ct F (.dT ks ds) v:=h;cases h with
  |dT q l t=>exact⟨_,_,rfl,s.rd q,l,t.pr⟩
 |succ n=>
  rcases h with h|h
  ·cases h with
   |dT q l t=>exact⟨_,_,rfl,s.rd q,l,t.pr.mono λ_ _=>Al.of⟩
  ·cases h with
   |dT q l t=>exact⟨_,_,rfl,q,l,t⟩
theorem Al.obj {c:Nat}{ns:List Str}{v:V}(h:Al K ct F G n (.obj c ns ds) v)(s:dz F G):∃a dx vs,v=.ref a/\G a=some (.ins (ct c) dx (ns.zip vs))/\ns.length=vs.length/\Pr (Al K ct F G (n-1)) ds vs:=by
 cases n with
 |zero=>
  have h:Dt K ct F (.obj c ns ds) v:=h;cases h with
  |obj q l t=>exact⟨_,_,_,rfl,s _ _ q,l,t.pr⟩
 |succ n=>
  rcases h with h|h
  ·cases h with
   |obj q l t=>exact⟨_,_,_,rfl,s _ _ q,l,t.pr.mono λ_ _=>Al.of⟩
  ·cases h with
   |obj q l t=>exact⟨_,_,_,rfl,q,l,t⟩
theorem Al.kt {v:V}(h:Al K ct F G n (.kt ds) v):∃a vs,v=.ref a/\EW K a vs/\Pr (Dt K ct F) ds vs:=by
 have h:Dt K ct F (.kt ds) v:=by
  cases n with
  |zero=>exact h
  |succ n=>
   rcases h with h|h
   ·exact h
   ·cases h
 cases h with
 |kt q t=>exact⟨_,_,rfl,q,t.pr⟩
theorem jU.mono {R R':D->V->List ce->Prop}{vs:List V}(h:jU R ds vs fp):(∀d v f,(∀a∈f,a∈fp)->R d v f->R' d v f)->jU R' ds vs fp:=by
 induction h with
 |nil=>exactλ_=>.nil
 |cons h t ih=>exactλq=>.cons (q _ _ _ (λa z=>cN _ z) h) (ih λd v f i r=>q d v f (λa z=>cK _ (i a z)) r)
theorem jU.pr {R:D->V->List ce->Prop}{R':D->V->Prop}{vs:List V}(h:jU R ds vs fp):(∀d v f,(∀a∈f,a∈fp)->R d v f->R' d v)->Pr R' ds vs:=by
 induction h with
 |nil=>exactλ_=>.nil
 |cons h t ih=>exactλq=>.cons (q _ _ _ (λa z=>cN _ z) h) (ih λd v f i r=>q d v f (λa z=>cK _ (i a z)) r)
theorem jU.ofPr {R:D->V->List ce->Prop}{vs:List V}(h:Pr (λd v=>R d v []) ds vs):jU R ds vs []:=by
 induction h with
 |nil=>exact .nil
 |cons h t ih=>exact jU.cons (f:=[]) (g:=[]) h ih
theorem jU.append {R:D->V->List ce->Prop}{es:List D}{vs:List V}{f g:List ce}(h:jU R ds vs f)(s:jU R es us g):jU R (ds++es) (vs++us) (f++g):=by
 induction h with
 |nil=>exact s
 |cons h t ih=>rw[eh];exact .cons h ih
theorem jU.length {R:D->V->List ce->Prop}{vs:List V}(h:jU R ds vs fp):ds.length=vs.length:=by
 induction h with
 |nil=>rfl
 |cons _ t ih=>simp[ih]
theorem Ow.frame (sF:dz F F'):∀{d:D} {v:V} {fp:List ce},Ow K ct F H n d v fp->(∀a∈fp,H' a=H a/\F' a=none)->Ow K ct F' H' n d v fp:=by
 induction n with
 |zero=>exactλh _=>⟨h.1.mono sF,h.2⟩
 |succ n ih=>
  intro d v fp h k;rcases h with h|h
  ·exact .inl ⟨h.1,h.2.1.mono sF,h.2.2⟩
  ·cases h with
   |lst hn h p=>exact .inr (.lst (k _ b9).2 ((k _ b9).1.trans h) (p.mono λ_ _ _ i q=>ih q λa z=>k a (cj _ (i a z))))
   |tup h p=>exact .inr (.tup (sF _ _ h) (p.mono λ_ _ _ i q=>ih q λa z=>k a (i a z)))
   |dK hn h l p=>exact .inr (.dK (k _ b9).2 ((k _ b9).1.trans h) l (p.mono λ_ _ _ i q=>ih q λa z=>k a (cj _ (i a z))))
   |dT hn h l p=>exact .inr (.dT (k _ b9).2 ((k _ b9).1.trans h) l (p.mono λ_ _ _ i q=>ih q λa z=>k a (cj _ (i a z))))
   |obj hn h l p=>exact .inr (.obj (k _ b9).2 ((k _ b9).1.trans h) l (p.mono λ_ _ _ i q=>ih q λa z=>k a (cj _ (i a z))))
theorem jU.cells0 {R:D->V->List ce->Prop}(k:∀d v f,R d v f->∀a∈f,F a=none/\∃o,H a=some o/\nH o){vs:List V}(h:jU R ds vs fp):∀a∈fp,F a=none/\∃o,H a=some o/\nH o:=by
 induction h with
 |nil=>exactλa z=>by cases z
 |cons h t ih=>exactλa z=>(cG.mp z).elim (λz=>k _ _ _ h a z) (ih a)
theorem Ow.cells:∀{d:D} {v:V} {fp:List ce},Ow K ct F H n d v fp->∀a∈fp,F a=none/\∃o,H a=some o/\nH o:=by
 induction n with
 |zero=>exactλh a z=>by rw[h.2]at z;cases z
 |succ n ih=>
  intro d v fp h a z;rcases h with h|h
  ·rw[h.2.2]at z;cases z
  ·cases h with
   |lst hn h p=>exact(cn.mp z).elim (λe=>by rw[e];exact⟨hn,_,h,nofun⟩) (jU.cells0 (λd v f q=>ih q) p a)
   |tup h p=>exact jU.cells0 (λd v f q=>ih q) p a z
   |dK hn h l p=>exact(cn.mp z).elim (λe=>by rw[e];exact⟨hn,_,h,nofun⟩) (jU.cells0 (λd v f q=>ih q) p a)
   |dT hn h l p=>exact(cn.mp z).elim (λe=>by rw[e];exact⟨hn,_,h,nofun⟩) (jU.cells0 (λd v f q=>ih q) p a)
   |obj hn h l p=>exact(cn.mp z).elim (λe=>by rw[e];exact⟨hn,_,h,nofun⟩) (jU.cells0 (λd v f q=>ih q) p a)
theorem Ow.ext {v:V}(h:Ow K ct F H n d v fp)(e:ir F H F' H'):Ow K ct F' H' n d v fp :=
 h.frame e.ff λa z=>by obtain⟨hn,o,ho,nt⟩:=h.cells a z;exact⟨(e.hh _ _ ho).trans ho.symm,e.nf a o ho nt hn⟩
theorem Ow.al (s:dz F H):∀{d:D} {v:V} {fp:List ce},Ow K ct F H n d v fp->Al K ct F H n d v:=by
 induction n with
 |zero=>exactλh=>h.1
 |succ n ih=>
  intro d v fp h;rcases h with h|h
  ·exact .inl h.2.1
  ·cases h with
   |lst hn h p=>exact .inr (.lst h (p.pr λ_ _ _ _ q=>ih q))
   |tup h p=>exact .inr (.tup h (p.pr λ_ _ _ _ q=>ih q))
   |dK hn h l p=>exact .inr (.dK h l (p.pr λ_ _ _ _ q=>ih q))
   |dT hn h l p=>exact .inr (.dT (.inl h) l (p.pr λ_ _ _ _ q=>ih q))
   |obj hn h l p=>exact .inr (.obj h l (p.pr λ_ _ _ _ q=>ih q))
theorem Ow.dt (sF:dz F F'):∀{d:D} {v:V} {fp:List ce},Ow K ct F H n d v fp->(∀a∈fp,F' a=H a)->Dt K ct F' d v:=by
 induction n with
 |zero=>exactλh _=>h.1.mono sF
 |succ n ih=>
  intro d v fp h k;rcases h with h|h
  ·exact h.2.1.mono sF
  ·cases h with
   |lst hn h p=>exact .lst (gZ.of ((k _ b9).trans h)) (.of (p.pr λ_ _ _ i q=>ih q λa z=>k a (cj _ (i a z))))
   |tup h p=>exact .tup (sF _ _ h) (.of (p.pr λ_ _ _ i q=>ih q λa z=>k a (i a z)))
   |dK hn h l p=>exact .dK ((k _ b9).trans h) l (.of (p.pr λ_ _ _ i q=>ih q λa z=>k a (cj _ (i a z))))
   |dT hn h l p=>exact .dT (.inl ((k _ b9).trans h)) l (.of (p.pr λ_ _ _ i q=>ih q λa z=>k a (cj _ (i a z))))
   |obj hn h l p=>exact .obj ((k _ b9).trans h) l (.of (p.pr λ_ _ _ i q=>ih q λa z=>k a (cj _ (i a z))))
def mh (F H:Hp)(fp:List ce):Hp:=λa=>if a∈fp then H a else F a
theorem xf (s:dz F H)(hf:∀a∈fp,F a=none):dz F (mh F H fp)/\dz (mh F H fp) H/\∀a∈fp,mh F H fp a=H a:=by
 refine⟨λa o h=>?_,λa o h=>?_,λa z=>if_pos z⟩
 ·have:¬a∈fp:=λz=>by rw[hf a z]at h;cases h
  unfold mh;rw[if_neg this];exact h
 ·unfold mh at h;by_cases z:a∈fp
  ·rw[if_pos z]at h;exact h
  ·rw[if_neg z]at h;exact s _ _ h
theorem Ow.freeze {v:V}{H0:Hp}(h:Ow K ct F H n d v fp)(e:ir F0 H0 F H)(hf:∀a∈fp,H0 a=none):∃F',ir F0 H0 F' H/\Dt K ct F' d v:=by
 obtain⟨w1,w2,w3⟩:=xf (fp:=fp) e.fh (λa z=>(h.cells a z).1);refine⟨mh F H fp,⟨e.ff.trans w1,e.hh,w2,λa o ho nt hn=>?_⟩,h.dt w1 w3⟩;have:¬a∈fp:=λz=>by rw[hf a z]at ho;cases ho
 unfold mh;rw[if_neg this];exact e.nf a o ho nt hn
theorem Ow.zero {v:V}(h:Dt K ct F d v):Ow K ct F H 0 d v []:=⟨h,rfl⟩
theorem Ow.scal {v:V}(h:Dt K ct F d v)(hs:d.sc=true):Ow K ct F H n d v []:=by
 cases n with
 |zero=>exact⟨h,rfl⟩
 |succ n=>exact .inl ⟨hs,h,rfl⟩
abbrev Env:=List (Option D)
inductive Mo where
 |al (n:Nat)|ow (n:Nat)|px (v:V)|so (x:ce)
def Mo.lv:Mo->Nat
 |.al n=>n
 |.ow n=>n
 |.px _=>1
 |.so _=>1
section
variable (K:bZ)(ct:Nat->ce)
inductive SL (F B H:Hp):List Mo->Env->St->List ce->Prop
 |nil:SL F B H [] [] [] []
 |no {m:Mo} {o:Option V} {ms:List Mo} {ρ:Env} {σ:St} {fp:List ce}:SL F B H ms ρ σ fp->SL F B H (m::ms) (none::ρ) (o::σ) fp
 |al {n:Nat} {d:D} {v:V} {ms:List Mo} {ρ:Env} {σ:St} {fp:List ce}:Al K ct F B n d v->SL F B H ms ρ σ fp->SL F B H (.al n::ms) (some d::ρ) (some v::σ) fp
 |px {d:D} {v:V} {ms:List Mo} {ρ:Env} {σ:St} {fp:List ce}:Al K ct F B 1 d v->SL F B H ms ρ σ fp->SL F B H (.px v::ms) (some d::ρ) (some v::σ) fp
 |so {d:D} {x:ce} {ms:List Mo} {ρ:Env} {σ:St} {fp:List ce}:Ow K ct F H 1 d (.ref x) [x]->SL F B H ms ρ σ fp->SL F B H (.so x::ms) (some d::ρ) (some (.ref x)::σ) (x::fp)
 |ow {n:Nat} {d:D} {v:V} {ms:List Mo} {ρ:Env} {σ:St} {f fp:List ce}:Ow K ct F H n d v f->SL F B H ms ρ σ fp->SL F B H (.ow n::ms) (some d::ρ) (some v::σ) (f++fp)
structure RS (F0 B:Hp)(ms:List Mo)(F H:Hp)(ρ:Env)(σ:St):Prop where
 f0:dz F0 F
 bh:dz B H
 fh:dz F H
 nf:∀a o,B a=some o->nH o->F0 a=none->F a=none
 sl:∃fp,SL K ct F B H ms ρ σ fp/\fp.Nodup/\∀a∈fp,B a=none
end
variable {k:Nat}{ms:List Mo}{ρ:Env}{σ:St}
theorem SL.cells (h:SL K ct F B H ms ρ σ fp):∀a∈fp,F a=none/\∃o,H a=some o/\nH o:=by
 induction h with
 |nil=>intro a z;cases z
 |no t ih=>exact ih
 |al _ t ih=>exact ih
 |px _ t ih=>exact ih
 |so h t ih=>exactλa z=>(cn.mp z).elim (λz=>h.cells a (by rw[z];exact b9)) (ih a)
 |ow h t ih=>exactλa z=>(cG.mp z).elim (h.cells a) (ih a)
theorem SL.frame (sF:dz F F')(h:SL K ct F B H ms ρ σ fp):(∀a∈fp,H' a=H a/\F' a=none)->SL K ct F' B H' ms ρ σ fp:=by
 induction h with
 |nil=>exactλ_=>.nil
 |no t ih=>exactλk=>.no (ih k)
 |al h t ih=>exactλk=>.al (h.mono sF (.refl _)) (ih k)
 |px h t ih=>exactλk=>.px (h.mono sF (.refl _)) (ih k)
 |so h t ih=>exactλk=>.so (h.frame sF λa z=>k a (by rw[cz]at z;rw[z];exact b9)) (ih λa z=>k a (cj _ z))
 |ow h t ih=>exactλk=>.ow (h.frame sF λa z=>k a (cN _ z)) (ih λa z=>k a (cK _ z))
theorem RS.ext (r:RS K ct F0 B ms F H ρ σ)(e:ir F H F' H'):RS K ct F0 B ms F' H' ρ σ:=by obtain⟨fp,s,nd,hb⟩:=r.sl;refine⟨r.f0.trans e.ff,r.bh.trans e.hh,e.fh,λa o h t n=>e.nf a o (r.bh _ _ h) t (r.nf a o h t n),fp,s.frame e.ff λa z=>?_,nd,hb⟩;obtain⟨hn,o,ho,nt⟩:=s.cells a z;exact⟨(e.hh _ _ ho).trans ho.symm,e.nf a o ho nt hn⟩
theorem SL.get {m:Mo}(h:SL K ct F B H ms ρ σ fp)(s:dz F H)(s':dz B H):ms[i]?=some m->ρ[i]?=some (some d)->∃v,σ[i]?=some (some v)/\Al K ct F H m.lv d v:=by
 induction h generalizing i with
 |nil=>intro e;simp at e
 |no t ih=>
  intro e e';cases i with
  |zero=>simp at e'
  |succ i=>simpa using ih (by simpa using e) (by simpa using e')
 |al h t ih=>
  intro e e';cases i with
  |zero=>simp at e e';subst e;subst e';exact⟨_,rfl,h.mono (.refl _) s'⟩
  |succ i=>simpa using ih (by simpa using e) (by simpa using e')
 |px h t ih=>
  intro e e';cases i with
  |zero=>simp at e e';subst e;subst e';exact⟨_,rfl,h.mono (.refl _) s'⟩
  |succ i=>simpa using ih (by simpa using e) (by simpa using e')
 |so h t ih=>
  intro e e';cases i with
  |zero=>simp at e e';subst e;subst e';exact⟨_,rfl,h.al s⟩
  |succ i=>simpa using ih (by simpa using e) (by simpa using e')
 |ow h t ih=>
  intro e e';cases i with
  |zero=>simp at e e';subst e;subst e';exact⟨_,rfl,h.al s⟩
  |succ i=>simpa using ih (by simpa using e) (by simpa using e')
theorem RS.get (r:RS K ct F0 B ms F H ρ σ){m:Mo}(hm:ms[i]?=some m)(e:ρ[i]?=some (some d)):∃v,σ[i]?=some (some v)/\Al K ct F H m.lv d v:=by obtain⟨fp,s,_,_⟩:=r.sl;exact s.get r.fh r.bh hm e
theorem SL.put (h0:SL K ct F B H ms ρ σ fp):ms[i]?=some (.ow k) ->
  ∃f1 fr:List ce,(∀a∈f1,a∈fp)/\(∀a∈fr,a∈fp)/\(fp.Nodup->f1.Nodup/\fr.Nodup/\∀a∈f1,a∉fr)/\(∀d,ρ[i]?=some (some d)->∃v,σ[i]?=some (some v)/\Ow K ct F H k d v f1) /\
   ∀(F' H':Hp) (d':D) (v':V) (f':List ce),dz F F'->(∀a∈fr,H' a=H a/\F' a=none)->Ow K ct F' H' k d' v' f' ->
    ∃iA,SL K ct F' B H' ms (ρ.set i (some d')) (σ.set i (some v')) iA/\(∀a∈iA,a∈f'\/a∈fr)/\(f'.Nodup->fr.Nodup->(∀a∈f',a∉fr)->iA.Nodup):=by
 induction h0 generalizing i with
 |nil=>intro e;simp at e
 |@no m0 o0 ms ρ σ fp t ih=>
  intro e;cases i with
  |zero=>simp at e;subst e;refine⟨[],fp,λa z=>(by cases z),λa z=>z,λn=>⟨dk,n,λa z=>(by cases z)⟩,λd q=>(by simp at q),λF' H' d' v' f' s kf h=>⟨f'++fp,.ow h (t.frame s kf),λa z=>cG.mp z,λn1 n2 dj=>?_⟩⟩;exact c8.mpr ⟨n1,n2,λa z b zb e=>dj a z (e▸zb)⟩
  |succ i=>obtain⟨f1,fr,h1,h2,h3,h4,h5⟩:=ih (i:=i) (by simpa using e);refine⟨f1,fr,h1,h2,h3,λd q=>by simpa using h4 d (by simpa using q),λF' H' d' v' f' s kf h=>?_⟩;obtain⟨iA,q1,q2,q3⟩:=h5 F' H' d' v' f' s kf h;exact⟨iA,.no q1,q2,q3⟩
 |@al n0 d0 v0 ms ρ σ fp h t ih=>
  intro e;cases i with
  |zero=>simp at e
  |succ i=>obtain⟨f1,fr,h1,h2,h3,h4,h5⟩:=ih (i:=i) (by simpa using e);refine⟨f1,fr,h1,h2,h3,λd q=>by simpa using h4 d (by simpa using q),λF' H' d' v' f' s kf h'=>?_⟩;obtain⟨iA,q1,q2,q3⟩:=h5 F' H' d' v' f' s kf h';exact⟨iA,.al (h.mono s (.refl _)) q1,q2,q3⟩
 |@px d0 v0 ms ρ σ fp h t ih=>
  intro e;cases i with
  |zero=>simp at e
  |succ i=>obtain⟨f1,fr,h1,h2,h3,h4,h5⟩:=ih (i:=i) (by simpa using e);refine⟨f1,fr,h1,h2,h3,λd q=>by simpa using h4 d (by simpa using q),λF' H' d' v' f' s kf h'=>?_⟩;obtain⟨iA,q1,q2,q3⟩:=h5 F' H' d' v' f' s kf h';exact⟨iA,.px (h.mono s (.refl _)) q1,q2,q3⟩
 |@so d0 x ms ρ σ fp h t ih=>
  intro e;cases i with
  |zero=>simp at e
  |succ i=>
   obtain⟨f1,fr,h1,h2,h3,h4,h5⟩:=ih (i:=i) (by simpa using e);refine⟨f1,x::fr,λa z=>cj _ (h1 a z),λa z=>(cn.mp z).elim (λz=>by rw[z];exact b9) λz=>cj _ (h2 a z),λn=>?_,λd q=>by simpa using h4 d (by simpa using q),λF' H' d' v' f' s kf h'=>?_⟩
   ·obtain⟨n1,n2⟩:=dC.mp n;obtain⟨m1,m2,m3⟩:=h3 n2;refine⟨m1,dC.mpr ⟨λz=>n1 (h2 x z),m2⟩,λa z zb=>?_⟩;rcases cn.mp zb with zb|zb
    ·rw[zb]at z;exact n1 (h1 x z)
    ·exact m3 a z zb
   ·obtain⟨iA,q1,q2,q3⟩:=h5 F' H' d' v' f' s (λa z=>kf a (cj _ z)) h';refine⟨x::iA,.so (h.frame s λa z=>kf a (by rw[cz]at z;rw[z];exact b9)) q1,λa z=>?_,λn1 n2 dj=>?_⟩
    ·rcases cn.mp z with z|z
     ·exact .inr (by rw[z];exact b9)
     ·exact(q2 a z).imp id λz=>cj _ z
    ·obtain⟨m1,m2⟩:=dC.mp n2;refine dC.mpr ⟨λz=>?_,q3 n1 m2 λa z zb=>dj a z (cj _ zb)⟩;rcases q2 x z with z|z
     ·exact dj x z b9
     ·exact m1 z
 |@ow n0 d0 v0 ms ρ σ f fp h t ih=>
  intro e;cases i with
  |zero=>
   simp at e;subst e;refine⟨f,fp,λa z=>cN _ z,λa z=>cK _ z,λn=>?_,λd q=>?_,λF' H' d' v' f' s kf h=>⟨f'++fp,.ow h (t.frame s kf),λa z=>cG.mp z,λn1 n2 dj=>?_⟩⟩
   ·obtain⟨n1,n2,n3⟩:=c8.mp n;exact⟨n1,n2,λa z zb=>n3 a z a zb rfl⟩
   ·simp at q;subst q;exact⟨_,rfl,h⟩
   ·exact c8.mpr ⟨n1,n2,λa z b zb e=>dj a z (e▸zb)⟩
  |succ i=>
   obtain⟨f1,fr,h1,h2,h3,h4,h5⟩:=ih (i:=i) (by simpa using e);refine⟨f1,f++fr,λa z=>cK _ (h1 a z),λa z=>(cG.mp z).elim (λz=>cN _ z) λz=>cK _ (h2 a z),λn=>?_,λd q=>by simpa using h4 d (by simpa using q),λF' H' d' v' f' s kf h'=>?_⟩
   ·obtain⟨n1,n2,n3⟩:=c8.mp n;obtain⟨m1,m2,m3⟩:=h3 n2;refine⟨m1,c8.mpr ⟨n1,m2,λa z b zb=>n3 a z b (h2 b zb)⟩,λa z zb=>?_⟩;rcases cG.mp zb with zb|zb
    ·exact n3 a zb a (h1 a z) rfl
    ·exact m3 a z zb
   ·obtain⟨iA,q1,q2,q3⟩:=h5 F' H' d' v' f' s (λa z=>kf a (cK _ z)) h';refine⟨f++iA,.ow (h.frame s λa z=>kf a (cN _ z)) q1,λa z=>?_,λn1 n2 dj=>?_⟩
    ·rcases cG.mp z with z|z
     ·exact .inr (cN _ z)
     ·exact(q2 a z).imp id λz=>cK _ z
    ·obtain⟨m1,m2,m3⟩:=c8.mp n2;refine c8.mpr ⟨m1,q3 n1 m2 λa z zb=>dj a z (cK _ zb),λa z b zb e=>?_⟩;subst e;rcases q2 a zb with zb|zb
     ·exact dj a zb (cN _ z)
     ·exact m3 a z a zb rfl
abbrev EF:=Env->Option D
inductive nc (K:bZ)(ct:Nat->ce)(F G:Hp):List Nat->List D->List V->Prop
 |nil:nc K ct F G [] [] []
 |cons {n:Nat} {d:D} {v:V} {ns:List Nat} {ds:List D} {vs:List V}:Al K ct F G n d v->nc K ct F G ns ds vs->nc K ct F G (n::ns) (d::ds) (v::vs)
variable {ns:List Nat}
theorem nc.mono (sF:dz F F')(sG:dz G G'){vs:List V}(h:nc K ct F G ns ds vs):nc K ct F' G' ns ds vs:=by
 induction h with
 |nil=>exact .nil
 |cons h t ih=>exact .cons (h.mono sF sG) ih
theorem nc.length {vs:List V}(h:nc K ct F G ns ds vs):vs.length=ns.length:=by
 induction h with
 |nil=>rfl
 |cons h t ih=>rw[cm,cm,ih]
theorem nc.length' {vs:List V}(h:nc K ct F G ns ds vs):ds.length=vs.length:=by
 induction h with
 |nil=>rfl
 |cons h t ih=>rw[cm,cm,ih]
theorem nc.append {HW:List Nat}{yH:List D}{GH:List V}(q:nc K ct F G HW yH GH){vs:List V}(h:nc K ct F G ns ds vs):nc K ct F G (ns++HW) (ds++yH) (vs++GH):=by
 induction h with
 |nil=>exact q
 |cons h t ih=>exact .cons h ih
section
variable (X:Cx)(ct:Nat->ce)(ms:List Mo)
def XE (n:Nat)(e:Expr)(f:EF):Prop:=∃t,PE X e t/\∀(F0 B F H:Hp) (ρ:Env) (σ:St) (d:D) (Q:VK),RS X.K ct F0 B ms F H ρ σ->f ρ=some d ->
 (∀v F' H',ir F H F' H'->Al X.K ct F' H' n d v->Q v H')->t σ H Q
def XO (k:Nat)(e:Expr)(f:EF):Prop:=∃t,PE X e t/\∀(F0 B F H:Hp) (ρ:Env) (σ:St) (d:D) (Q:VK),RS X.K ct F0 B ms F H ρ σ->f ρ=some d ->
 (∀v F' H' fp,ir F H F' H'->Ow X.K ct F' H' k d v fp->fp.Nodup->(∀a∈fp,H a=none)->Q v H')->t σ H Q
def XT (e:Expr)(f:Env->Option Bool):Prop:=∃t,PT X e t/\∀(F0 B F H:Hp) (ρ:Env) (σ:St) (b:Bool) (Q:Bool->Hp->Prop),RS X.K ct F0 B ms F H ρ σ->f ρ=some b ->
 (∀F' H',ir F H F' H'->Q b H')->t σ H Q
def XW (e:Expr)(f:Env->Option Bool):Prop:=∃t,PW X e t/\∀(F0 B F H:Hp) (ρ:Env) (σ:St) (b:Bool) (Q:Bool->Hp->Prop),RS X.K ct F0 B ms F H ρ σ->f ρ=some b ->
 (∀F' H',ir F H F' H'->Q b H')->t σ H Q
def XA (es:List Expr)(ns:List Nat)(f:Env->Option (List D)):Prop:=∃t,PA X es t/\(∀ρ ds,f ρ=some ds->ds.length=es.length)/\∀(F0 B F H:Hp) (ρ:Env) (σ:St) (ds:List D) (Q:List V->Hp->Prop),RS X.K ct F0 B ms F H ρ σ->f ρ=some ds ->
 (∀vs F' H',ir F H F' H'->nc X.K ct F' H' ns ds vs->Q vs H')->t σ H Q
end
def e2 (op:D->D->Option D)(f g:EF):EF:=λρ=>(f ρ).bind λx=>(g ρ).bind λy=>op x y
def e1 (op:D->Option D)(f:EF):EF:=λρ=>(f ρ).bind op
def eN (op:List D->Option D)(f:Env->Option (List D)):EF:=λρ=>(f ρ).bind op
def eC (d:D):EF:=λ_=>some d
def eV (i:Nat):EF:=λρ=>(ρ[i]?).join
def aNil:Env->Option (List D):=λ_=>some []
def aCons (f:EF)(g:Env->Option (List D)):Env->Option (List D):=λρ=>(f ρ).bind λx=>(g ρ).bind λxs=>some (x::xs)
variable {α β:Type}
theorem gD {γ:Type}{o:Option α}{p:Option β}{op:α->β->Option γ}{r:γ}(h:(o.bind λx=>p.bind λy=>op x y)=some r):∃x y,o=some x/\p=some y/\op x y=some r:=by
 cases o with
 |none=>cases h
 |some x=>
  cases p with
  |none=>cases h
  |some y=>exact⟨x,y,rfl,rfl,h⟩
theorem cQ {o:Option α}{op:α->Option β}{r:β}(h:o.bind op=some r):∃x,o=some x/\op x=some r:=by
 cases o with
 |none=>cases h
 |some x=>exact⟨x,rfl,h⟩
theorem z6 {o:Option (Option α)}{x:α}(h:o.join=some x):o=some (some x):=by
 cases o with
 |none=>cases h
 |some y=>exact congrArg some h
def rM (K:bZ)(ct:Nat->ce)(n m k:Nat)(r:R2)(op:D->D->Option D):Prop :=
 ∀(F H:Hp) (x y:V) (d1 d2 d:D) (Q:VK),dz F H->Al K ct F H n d1 x->Al K ct F H m d2 y->op d1 d2=some d->(∀v F' H',ir F H F' H'->Al K ct F' H' k d v->Q v H')->r x y H Q
def EZ (K:bZ)(ct:Nat->ce)(n m k:Nat)(r:R2)(op:D->D->Option D):Prop :=
 ∀(F H:Hp) (x y:V) (d1 d2 d:D) (Q:VK),dz F H->Al K ct F H n d1 x->Al K ct F H m d2 y->op d1 d2=some d ->
  (∀v F' H' fp,ir F H F' H'->Ow K ct F' H' k d v fp->fp.Nodup->(∀a∈fp,H a=none)->Q v H')->r x y H Q
def Bc (K:bZ)(ct:Nat->ce)(ns:List Nat)(k:Nat)(r:List V->Hp->VK->Prop)(op:List D->Option D):Prop :=
 ∀(F H:Hp) (vs:List V) (ds:List D) (d:D) (Q:VK),dz F H->nc K ct F H ns ds vs->op ds=some d->(∀v F' H',ir F H F' H'->Al K ct F' H' k d v->Q v H')->r vs H Q
def E3 (K:bZ)(ct:Nat->ce)(ns:List Nat)(k:Nat)(r:List V->Hp->VK->Prop)(op:List D->Option D):Prop :=
 ∀(F H:Hp) (vs:List V) (ds:List D) (d:D) (Q:VK),dz F H->nc K ct F H ns ds vs->op ds=some d ->
  (∀v F' H' fp,ir F H F' H'->Ow K ct F' H' k d v fp->fp.Nodup->(∀a∈fp,H a=none)->Q v H')->r vs H Q
variable {X:Cx}{a b c e:Expr}{es:List Expr}{f g h:EF}{fs:Env->Option (List D)}{m:Nat}{op:uS}{pos:m9}{r:R2}
theorem XO.sh (he:XO X ct ms k e f):XE X ct ms n e f:=by obtain⟨t,p,q⟩:=he;refine⟨t,p,λF0 B F H ρ σ d Q r e w=>q F0 B F H ρ σ d Q r e λv F' H' fp x o nd hf=>?_⟩;obtain⟨F2,x2,h2⟩:=o.freeze x hf;exact w v F2 H' x2 (Al.of h2)
theorem XE.ow (he:XE X ct ms 0 e f):XO X ct ms 0 e f:=by obtain⟨t,p,q⟩:=he;exact⟨t,p,λF0 B F H ρ σ d Q r e w=>q F0 B F H ρ σ d Q r e λv F' H' x l=>w v F' H' [] x ⟨l,rfl⟩ dk λa z=>(by cases z)⟩
theorem zn (i n:Nat){m:Mo}(hm:ms[i]?=some m:=by rfl)(hl:m.lv=n:=by rfl)(hN:X.N[i]?=some x:=by rfl)(hv:vU X.env.scope x:=by walk_at "v1")(hd:lx x:=by decide)
  (lT:yE x:=by decide):XE X ct ms n (.Name x pos) (eV i):=by
 subst hl;refine⟨_,yb hN hv hd lT,λF0 B F H ρ σ d Q r e w=>?_⟩;obtain⟨v,hv,l⟩:=r.get hm (z6 e);exact⟨v,hv,w v F H (.refl r.fh) l⟩
theorem zt3 {i:Int}{j}:XE X ct ms n (.Constant (.int i) j pos) (eC (.int i)):=⟨_,zsv,λF0 B F H ρ σ d Q r e w=>by cases e;exact w _ F H (.refl r.fh) (Al.of (.int i))⟩
theorem j5 {i:Bool}{j}:XE X ct ms n (.Constant (.bool i) j pos) (eC (.bl i)):=⟨_,zvn,λF0 B F H ρ σ d Q r e w=>by cases e;exact w _ F H (.refl r.fh) (Al.of (.bl i))⟩
theorem zf {i:Str}{j}:XE X ct ms n (.Constant (.str i) j pos) (eC (.str i)):=⟨_,zsx,λF0 B F H ρ σ d Q r e w=>by cases e;exact w _ F H (.refl r.fh) (Al.of (.str i))⟩
theorem zt4 {j}:XE X ct ms n (.Constant .none j pos) (eC .non):=⟨_,zsw,λF0 B F H ρ σ d Q r e w=>by cases e;exact w _ F H (.refl r.fh) (Al.of .non)⟩
theorem XE.bin (ha:XE X ct ms n a f)(hb:XE X ct ms m b g):∃ta tb,PE X a ta/\PE X b tb/\∀(F0 B F H:Hp) (ρ:Env) (σ:St) (d1 d2:D) (R:V->V->Hp->Prop),RS X.K ct F0 B ms F H ρ σ->f ρ=some d1->g ρ=some d2 ->
  (∀x y F' H',ir F H F' H'->Al X.K ct F' H' n d1 x->Al X.K ct F' H' m d2 y->R x y H')->ta σ H λx H1=>tb σ H1 λy H2=>R x y H2:=by
 obtain⟨ta,pa,qa⟩:=ha;obtain⟨tb,pb,qb⟩:=hb;refine⟨ta,tb,pa,pb,λF0 B F H ρ σ d1 d2 R r e1 e2 w=>qa F0 B F H ρ σ d1 _ r e1 λx F1 H1 x1 l1=>?_⟩;exact qb F0 B F1 H1 ρ σ d2 _ (r.ext x1) e2 λy F2 H2 x2 l2=>w x y F2 H2 (x1.trans x2) (l1.mono x2.ff x2.hh) l2
theorem Bp {o:D->D->Option D}(ho:lS X (gz op) r)(hs:rM X.K ct n m k r o)(ha:XE X ct ms n a f)(hb:XE X ct ms m b g):XE X ct ms k (.BinOp a op b pos) (e2 o f g):=by obtain⟨ta,tb,pa,pb,q⟩:=ha.bin hb;refine⟨_,Jf ho pa pb,λF0 B F H ρ σ d Q rs e w=>?_⟩;obtain⟨d1,d2,h1,h2,h3⟩:=gD e;exact q F0 B F H ρ σ d1 d2 _ rs h1 h2 λx y F' H' x1 l1 l2=>hs F' H' x y d1 d2 d Q x1.fh l1 l2 h3 λv F2 H2 x2 l=>w v F2 H2 (x1.trans x2) l
theorem Jh {o:D->D->Option D}(ho:lS X (gz op) r)(hs:EZ X.K ct n m k r o)(ha:XE X ct ms n a f)(hb:XE X ct ms m b g):XO X ct ms k (.BinOp a op b pos) (e2 o f g):=by obtain⟨ta,tb,pa,pb,q⟩:=ha.bin hb;refine⟨_,Jf ho pa pb,λF0 B F H ρ σ d Q rs e w=>?_⟩;obtain⟨d1,d2,h1,h2,h3⟩:=gD e;exact q F0 B F H ρ σ d1 d2 _ rs h1 h2 λx y F' H' x1 l1 l2=>hs F' H' x y d1 d2 d Q x1.fh l1 l2 h3 λv F2 H2 fp x2 l nd hf=>w v F2 H2 fp (x1.trans x2) l nd λz hz=>x1.hh.free (hf z hz)
theorem G0 {op:xV}{o:D->D->Option D}(ho:lS X (gk op) r)(hs:rM X.K ct n m k r o)(ha:XE X ct ms n a f)(hb:XE X ct ms m b g)(hm:fX op b=false):XE X ct ms k (.Compare a [op] [b] pos) (e2 o f g):=by obtain⟨ta,tb,pa,pb,q⟩:=ha.bin hb;refine⟨_,YW ho pa pb hm,λF0 B F H ρ σ d Q rs e w=>?_⟩;obtain⟨d1,d2,h1,h2,h3⟩:=gD e;exact q F0 B F H ρ σ d1 d2 _ rs h1 h2 λx y F' H' x1 l1 l2=>hs F' H' x y d1 d2 d Q x1.fh l1 l2 h3 λv F2 H2 x2 l=>w v F2 H2 (x1.trans x2) l
theorem Rw {o:D->D->Option D}(hr:Bb X r)(hs:rM X.K ct n m k r o)(ha:XE X ct ms n a f)(hb:XE X ct ms m b g)(hp:qS b):XE X ct ms k (.Subscript a b pos) (e2 o f g):=by obtain⟨ta,tb,pa,pb,q⟩:=ha.bin hb;refine⟨_,zvs hr pa pb hp,λF0 B F H ρ σ d Q rs e w=>?_⟩;obtain⟨d1,d2,h1,h2,h3⟩:=gD e;exact q F0 B F H ρ σ d1 d2 _ rs h1 h2 λx y F' H' x1 l1 l2=>hs F' H' x y d1 d2 d Q x1.fh l1 l2 h3 λv F2 H2 x2 l=>w v F2 H2 (x1.trans x2) l
theorem zvx {op:UnaryOp}{r:V->Hp->VK->Prop}{o:D->Option D}(ho:G9 X (unaryOp op) r)
  (hs:∀(F H:Hp) (x:V) (d1 d:D) (Q:VK),dz F H->Al X.K ct F H n d1 x->o d1=some d->(∀v F' H',ir F H F' H'->Al X.K ct F' H' k d v->Q v H')->r x H Q) (ha:XE X ct ms n a f):XE X ct ms k (.UnaryOp op a pos) (e1 o f):=by
 obtain⟨ta,pa,qa⟩:=ha;refine⟨_,zvq ho pa,λF0 B F H ρ σ d Q rs e w=>?_⟩;obtain⟨d1,h1,h2⟩:=cQ e;exact qa F0 B F H ρ σ d1 _ rs h1 λx F' H' x1 l1=>hs F' H' x d1 d Q x1.fh l1 h2 λv F2 H2 x2 l=>w v F2 H2 (x1.trans x2) l
theorem zg:XA X ct ms [] [] aNil:=⟨_,yy,λρ ds e=>(by cases e;rfl),λF0 B F H ρ σ ds Q r e w=>by cases e;exact w [] F H (.refl r.fh) .nil⟩
theorem zc (ha:XE X ct ms n a f)(hr:XA X ct ms es ns fs)(hs:SE X a es:=by rfl):XA X ct ms (a::es) (n::ns) (aCons f fs):=by obtain⟨ta,pa,qa⟩:=ha;obtain⟨tb,pb,lb,qb⟩:=hr;refine⟨_,zy pa pb hs,λρ ds e=>(by obtain⟨x,xs,h1,h2,h3⟩:=gD e;cases h3;rw[cm,cm,lb _ _ h2]),λF0 B F H ρ σ ds Q r e w=>?_⟩;obtain⟨x,xs,h1,h2,h3⟩:=gD e;cases h3;refine qa F0 B F H ρ σ x _ r h1 λv F1 H1 x1 l1=>?_;exact qb F0 B F1 H1 ρ σ xs _ (r.ext x1) h2 λvs F2 H2 x2 l2=>w (v::vs) F2 H2 (x1.trans x2) (.cons (l1.mono x2.ff x2.hh) l2)
def E8 (X:Cx)(ct:Nat->ce)(ms:List Mo)(k:Nat)(es:List Expr)(f:Env->Option (List D)):Prop:=∃t,PA X es t/\(∀ρ ds,f ρ=some ds->ds.length=es.length)/\∀(F0 B F H:Hp) (ρ:Env) (σ:St) (ds:List D) (Q:List V->Hp->Prop),RS X.K ct F0 B ms F H ρ σ->f ρ=some ds ->
 (∀vs F' H' fp,ir F H F' H'->jU (Ow X.K ct F' H' k) ds vs fp->fp.Nodup->(∀a∈fp,H a=none)->Q vs H')->t σ H Q
theorem zh:E8 X ct ms k [] aNil:=⟨_,yy,λρ ds e=>(by cases e;rfl),λF0 B F H ρ σ ds Q r e w=>by cases e;exact w [] F H [] (.refl r.fh) .nil dk λa z=>(by cases z)⟩
theorem za (ha:XO X ct ms k a f)(hr:E8 X ct ms k es fs)(hs:SE X a es:=by rfl):E8 X ct ms k (a::es) (aCons f fs):=by
 obtain⟨ta,pa,qa⟩:=ha;obtain⟨tb,pb,lb,qb⟩:=hr;refine⟨_,zy pa pb hs,λρ ds e=>(by obtain⟨x,xs,h1,h2,h3⟩:=gD e;cases h3;rw[cm,cm,lb _ _ h2]),λF0 B F H ρ σ ds Q r e w=>?_⟩;obtain⟨x,xs,h1,h2,h3⟩:=gD e;cases h3;refine qa F0 B F H ρ σ x _ r h1 λv F1 H1 f1 x1 l1 n1 a1=>?_;refine qb F0 B F1 H1 ρ σ xs _ (r.ext x1) h2 λvs F2 H2 f2 x2 l2 n2 a2=>w (v::vs) F2 H2 (f1++f2) (x1.trans x2) (.cons (l1.ext x2) l2) (c8.mpr ⟨n1,n2,λz hz y hy e=>?_⟩) λz hz=>?_
 ·subst e;obtain⟨_,o,ho,_⟩:=l1.cells z hz;rw[a2 z hy]at ho;cases ho
 ·rcases cG.mp hz with hz|hz
  ·exact a1 z hz
  ·exact x1.hh.free (a2 z hz)
def Hb:D->Option Bool
 |.bl b=>some b
 |_=>none
theorem u5 {b:Bool}(h:Hb d=some b):d=.bl b:=by cases d<;>simp[Hb]at h;subst h;rfl
abbrev BF:=Env->Option Bool
def tb (f:EF):BF:=λρ=>(f ρ).bind Hb
def bNot (f:BF):BF:=λρ=>(f ρ).bind λb=>some (!b)
def bAnd (f g:BF):BF:=λρ=>(f ρ).bind λb=>if b=true then g ρ else some false
def bOr (f g:BF):BF:=λρ=>(f ρ).bind λb=>if b=true then some true else g ρ
def eB (f:BF):EF:=λρ=>(f ρ).bind λb=>some (.bl b)
def eIf (c:BF)(f g:EF):EF:=λρ=>(c ρ).bind λb=>if b=true then f ρ else g ρ
variable {gq pp:m9}{c0 kk rk:Nat}{cs nd pm:List Nat}{mq:List D}{rX:List bV}{jS:List V}{fa:ce}{mf:List D->Option D}{o:Expr}{p q:BF}{pl:Ad Bool}{ps:List Str}
section
theorem xg (he:XE X ct ms n e f)(hi:∀whole,zN e X.env whole=(do let v ← whole;lz e.pos;kh [v] (truthy v)):=by intro _;rfl):XT X ct ms e (tb f):=by obtain⟨t,pt,qt⟩:=he;refine⟨_,zsy pt hi,λF0 B F H ρ σ b Q r e w=>?_⟩;obtain⟨d,h1,h2⟩:=cQ e;rw[u5 h2]at h1;exact qt F0 B F H ρ σ _ _ r h1 λv F' H' x l=>⟨b,l.bl,w F' H' x⟩
theorem w6 {op:xV}{o:D->D->Option D}(ho:lS X (gk op) r)(hs:rM X.K ct n m k r o)(ha:XE X ct ms n a f)(hb:XE X ct ms m b g)(hm:fX op b=false):XT X ct ms (.Compare a [op] [b] pos) (tb (e2 o f g)):=by obtain⟨ta,tb,pa,pb,q⟩:=ha.bin hb;refine⟨_,YX ho pa pb hm,λF0 B F H ρ σ b Q rs e w=>?_⟩;obtain⟨d,h0,h4⟩:=cQ e;rw[u5 h4]at h0;obtain⟨d1,d2,h1,h2,h3⟩:=gD h0;exact q F0 B F H ρ σ d1 d2 _ rs h1 h2 λx y F' H' x1 l1 l2=>hs F' H' x y d1 d2 _ _ x1.fh l1 l2 h3 λv F2 H2 x2 l=>⟨b,l.bl,w F2 H2 (x1.trans x2)⟩
theorem XW.t (h:XW X ct ms e p):XT X ct ms e p:=by obtain⟨t,pt,qt⟩:=h;exact⟨t,pt.pt,qt⟩
theorem PU (ha:XT X ct ms a p):XW X ct ms (.BoolOp .And [a] pos) p:=by obtain⟨t,pt,qt⟩:=ha;exact⟨t,YS pt,qt⟩
theorem ud (ha:XT X ct ms a p):XW X ct ms (.BoolOp .Or [a] pos) p:=by obtain⟨t,pt,qt⟩:=ha;exact⟨t,zsz pt,qt⟩
theorem QS {rest:List Expr}(ha:XT X ct ms a p)(hb:XW X ct ms (.BoolOp .And (b::rest) pos) q):XW X ct ms (.BoolOp .And (a::b::rest) pos) (bAnd p q):=by
 obtain⟨t,pt,qt⟩:=ha;obtain⟨u,pu,qu⟩:=hb;refine⟨_,Z4 pt pu,λF0 B F H ρ σ r Q rs e w=>?_⟩;obtain⟨x,h1,h2⟩:=cQ e;refine qt F0 B F H ρ σ x _ rs h1 λF1 H1 x1=>?_;cases x with
 |true=>rw[if_pos rfl];exact qu F0 B F1 H1 ρ σ r _ (rs.ext x1) h2 λF2 H2 x2=>w F2 H2 (x1.trans x2)
 |false=>cases h2;rw[if_neg cD];exact w F1 H1 x1
theorem jg {rest:List Expr}(ha:XT X ct ms a p)(hb:XW X ct ms (.BoolOp .Or (b::rest) pos) q):XW X ct ms (.BoolOp .Or (a::b::rest) pos) (bOr p q):=by
 obtain⟨t,pt,qt⟩:=ha;obtain⟨u,pu,qu⟩:=hb;refine⟨_,zvo pt pu,λF0 B F H ρ σ r Q rs e w=>?_⟩;obtain⟨x,h1,h2⟩:=cQ e;refine qt F0 B F H ρ σ x _ rs h1 λF1 H1 x1=>?_;cases x with
 |true=>cases h2;rw[if_pos rfl];exact w F1 H1 x1
 |false=>rw[if_neg cD];exact qu F0 B F1 H1 ρ σ r _ (rs.ext x1) h2 λF2 H2 x2=>w F2 H2 (x1.trans x2)
theorem w8 (ha:XT X ct ms a p):XT X ct ms (.UnaryOp .Not a pos) (bNot p):=by obtain⟨t,pt,qt⟩:=ha;refine⟨_,Z5 pt,λF0 B F H ρ σ r Q rs e w=>?_⟩;obtain⟨x,h1,h2⟩:=cQ e;cases h2;exact qt F0 B F H ρ σ x _ rs h1 λF1 H1 x1=>w F1 H1 x1
theorem vh {op}(ha:XE X ct ms n a f):XE X ct ms k (.BoolOp op [a] pos) (eB (tb f)):=by obtain⟨t,pt,qt⟩:=ha;refine⟨_,Z6 pt,λF0 B F H ρ σ r Q rs e w=>?_⟩;obtain⟨y,h3,h4⟩:=cQ e;obtain⟨z,h5,h6⟩:=cQ h3;cases h4;rw[u5 h6]at h5;exact qt F0 B F H ρ σ _ _ rs h5 λv F1 H1 x1 l=>w _ F1 H1 x1 (by rw[l.bl];exact Al.of (.bl _))
theorem ue {rest:List Expr}(ha:XE X ct ms n a f)(hb:XE X ct ms k (.BoolOp .And (b::rest) pos) (eB q)):XE X ct ms k (.BoolOp .And (a::b::rest) pos) (eB (bAnd (tb f) q)):=by
 obtain⟨t,pt,qt⟩:=ha;obtain⟨u,pu,qu⟩:=hb;refine⟨_,Z7 pt pu,λF0 B F H ρ σ r Q rs e w=>?_⟩;obtain⟨y,h3,h4⟩:=cQ e;obtain⟨x,h1,h2⟩:=cQ h3;obtain⟨z,h5,h6⟩:=cQ h1;cases h4;rw[u5 h6]at h5;refine qt F0 B F H ρ σ _ _ rs h5 λv F1 H1 x1 l=>⟨x,l.bl,?_⟩;cases x with
 |true=>rw[if_pos rfl];exact qu F0 B F1 H1 ρ σ _ _ (rs.ext x1) (show(q ρ).bind _=_ by rw[if_pos rfl]at h2;rw[h2];rfl) λv F2 H2 x2 l=>w v F2 H2 (x1.trans x2) l
 |false=>rw[if_neg cD]at h2 ⊢;cases h2;exact w _ F1 H1 x1 (Al.of (.bl _))
theorem Rx {rest:List Expr}(ha:XE X ct ms n a f)(hb:XE X ct ms k (.BoolOp .Or (b::rest) pos) (eB q)):XE X ct ms k (.BoolOp .Or (a::b::rest) pos) (eB (bOr (tb f) q)):=by
 obtain⟨t,pt,qt⟩:=ha;obtain⟨u,pu,qu⟩:=hb;refine⟨_,zvp pt pu,λF0 B F H ρ σ r Q rs e w=>?_⟩;obtain⟨y,h3,h4⟩:=cQ e;obtain⟨x,h1,h2⟩:=cQ h3;obtain⟨z,h5,h6⟩:=cQ h1;cases h4;rw[u5 h6]at h5;refine qt F0 B F H ρ σ _ _ rs h5 λv F1 H1 x1 l=>⟨x,l.bl,?_⟩;cases x with
 |true=>rw[if_pos rfl]at h2 ⊢;cases h2;exact w _ F1 H1 x1 (Al.of (.bl _))
 |false=>rw[if_neg cD];exact qu F0 B F1 H1 ρ σ _ _ (rs.ext x1) (show(q ρ).bind _=_ by rw[if_neg cD]at h2;rw[h2];rfl) λv F2 H2 x2 l=>w v F2 H2 (x1.trans x2) l
theorem ML (hc:XT X ct ms c p)(ha:XE X ct ms k a f)(hb:XE X ct ms k b g):XE X ct ms k (.IfExp c a b pos) (eIf p f g):=by
 obtain⟨s,ps,qs⟩:=hc;obtain⟨t,pt,qt⟩:=ha;obtain⟨u,pu,qu⟩:=hb;refine⟨_,XY ps pt pu,λF0 B F H ρ σ r Q rs e w=>?_⟩;obtain⟨x,h1,h2⟩:=cQ e;refine qs F0 B F H ρ σ x _ rs h1 λF1 H1 x1=>?_;cases x with
 |true=>rw[if_pos rfl]at h2 ⊢;exact qt F0 B F1 H1 ρ σ _ _ (rs.ext x1) h2 λv F2 H2 x2 l=>w v F2 H2 (x1.trans x2) l
 |false=>rw[if_neg cD]at h2 ⊢;exact qu F0 B F1 H1 ρ σ _ _ (rs.ext x1) h2 λv F2 H2 x2 l=>w v F2 H2 (x1.trans x2) l
theorem zt {x1}(h:E8 X ct ms k es fs)(hl:es.length<=1000:=by decide):XO X ct ms (k+1) (.Tuple es x1 pos) (λρ=>(fs ρ).bind λds=>some (.tup ds)):=by
 obtain⟨t,pt,lt,qt⟩:=h;refine⟨_,zti pt,λF0 B F H ρ σ r Q rs e w=>?_⟩;obtain⟨ds,h1,h2⟩:=cQ e;cases h2;refine qt F0 B F H ρ σ ds _ rs h1 λvs F1 H1 fp x1 l nd hf=>⟨?_,λp hp=>?_⟩
 ·rw[←l.length,lt _ _ h1];exact small hl
 ·have x2:=ir.newS x1.fh hp (.tup vs);exact w _ _ _ fp (x1.trans x2) (.inr (.tup zk (l.mono λ_ _ _ _ o=>o.ext x2))) nd hf
theorem jU.cellsOf {vs:List V}(l:jU (Ow K ct F H k) ds vs fp):∀a∈fp,F a=none/\∃o,H a=some o/\nH o:=jU.cells0 (λd v f q=>Ow.cells q) l
theorem PV {vs:List V}{p:ce}(s:dz F H)(l:jU (Ow K ct F H k) ds vs fp)(hp:H p=none):Ow K ct F (eS H p (.lst vs)) (k+1) (.lst ds) (.ref p) (p::fp)/\(fp.Nodup->(p::fp).Nodup) :=
 ⟨.inr (.lst (s.free hp) zk (l.mono λ_ _ _ _ o=>o.ext (ir.newO s hp _))),λnd=>dC.mpr ⟨λz=>(by obtain⟨_,o,ho,_⟩:=jU.cellsOf l p z;rw[hp]at ho;cases ho),nd⟩⟩
theorem zp (h:E8 X ct ms k es fs)(hl:es.length<=1000:=by decide):XO X ct ms (k+1) (.List es pos) (λρ=>(fs ρ).bind λds=>some (.lst ds)):=by
 obtain⟨t,pt,lt,qt⟩:=h;refine⟨_,ztj pt,λF0 B F H ρ σ r Q rs e w=>?_⟩;obtain⟨ds,h1,h2⟩:=cQ e;cases h2;refine qt F0 B F H ρ σ ds _ rs h1 λvs F1 H1 fp x1 l nd hf=>⟨?_,λp hp=>?_⟩
 ·rw[←l.length,lt _ _ h1];exact small hl
 ·obtain⟨o,n2⟩:=PV x1.fh l hp;refine w _ _ _ (p::fp) (x1.trans (ir.newO x1.fh hp _)) o (n2 nd) λz hz=>?_;rcases cn.mp hz with rfl|hz
  ·exact x1.hh.free hp
  ·exact hf z hz
theorem LK:XO X ct ms (k+1) (.Dict [] [] pos) (eC (.dK [] [])):=by refine⟨_,Xy,λF0 B F H ρ σ r Q rs e w p hp=>?_⟩;cases e;refine w _ F _ [p] (ir.newO rs.fh hp _) (.inr (Bd.dK (vs:=[]) (rs.fh.free hp) zk rfl .nil)) (by simp) λz hz=>?_;rw[cz]at hz;subst hz;exact hp
def kd (K:bZ)(ct:Nat->ce)(pm:List Nat)(rk:Nat)(m:List D->Option D):Sp:=λvs H Q _=>∃(F:Hp) (ds:List D) (d:D),dz F H/\nc K ct F H pm ds vs/\m ds=some d /\
 ∀v F' H' fp,ir F H F' H'->Ow K ct F' H' rk d v fp->fp.Nodup->(∀a∈fp,H a=none)->Q v H'
theorem kd.len {m:List D->Option D}(h:pm.length=ps.length):∀vs H Q E,kd K ct pm rk m vs H Q E->vs.length=ps.length:=by rintro vs H Q E ⟨F,ds,d,_,l,_⟩;rw[l.length,h]
variable {fd:cH}
theorem YZ (Fn:dM X.prog X.w X.K X.mg X.base gC kk fa fd ps (kd X.K ct (ns++nd) rk mf))(hr:fw kk X.A)(hg:Gl X x)(hm:X.mg x=some (.ref fa))(hk:dn X.K (.ref fa)=true)
  (hb:fF X.K fd ps rX) (hd:dA jS rX) (Au:∀F G,nc X.K ct F G nd mq jS) (ha:XA X ct ms (e::es) ns fs)
  (kM:lx x:=by decide) (he:SE X e es:=by rfl) (gW:oa X pos es:=by rfl) :
  XO X ct ms rk (.Call (.Name x pp) (e::es) [] pos) (λρ=>(fs ρ).bind λds=>mf (ds++mq)):=by
 obtain⟨t,pt,_,qt⟩:=ha;refine⟨_,Y9 Fn hr hg hm hk hb hd sO pt kM he gW,λF0 B F H ρ σ r Q rs e w=>?_⟩;obtain⟨ds,h1,h2⟩:=cQ e;refine qt F0 B F H ρ σ ds _ rs h1 λvs F1 H1 x1 l=>⟨F1,ds++mq,r,x1.fh,nc.append (Au F1 H1) l,h2,λv F2 H2 fp x2 o nd hf=>?_⟩;exact w v F2 H2 fp (x1.trans x2) o nd λz hz=>x1.hh.free (hf z hz)
theorem wm {id:String}{r:List V->Hp->VK->Prop}{op:List D->Option D}(hc:iq X (.builtin id) r)(hs:Bc X.K ct ns k r op)(hg:Gl X x)(hm:X.mg x=none)(hv:dY x=some (.builtin id))(ha:XA X ct ms (e::es) ns fs)
  (hn:x≠"__name__":=by decide) (kM:lx x:=by decide) (he:SE X e es:=by rfl) (gW:oa X pos es:=by rfl) :
  XE X ct ms k (.Call (.Name x pp) (e::es) [] pos) (eN op fs):=by
 obtain⟨t,pt,_,qt⟩:=ha;refine⟨_,u0 hc hg hm hv pt hn kM he gW,λF0 B F H ρ σ r Q rs e w=>?_⟩;obtain⟨ds,h1,h2⟩:=cQ e;exact qt F0 B F H ρ σ ds _ rs h1 λvs F1 H1 x1 l=>hs F1 H1 vs ds r Q x1.fh l h2 λv F2 H2 x2 l2=>w v F2 H2 (x1.trans x2) l2
theorem z8 {id:String}{r:List V->Hp->VK->Prop}{op:List D->Option D}(hc:iq X (.type id) r)(hs:Bc X.K ct ns k r op)(hg:Gl X x)(hm:X.mg x=none)(hv:dY x=some (.type id))(ha:XA X ct ms (e::es) ns fs)
  (hn:x≠"__name__":=by decide) (kM:lx x:=by decide) (he:SE X e es:=by rfl) (gW:oa X pos es:=by rfl) :
  XE X ct ms k (.Call (.Name x pp) (e::es) [] pos) (eN op fs):=by
 obtain⟨t,pt,_,qt⟩:=ha;refine⟨_,Ly hc hg hm hv pt hn kM he gW,λF0 B F H ρ σ r Q rs e w=>?_⟩;obtain⟨ds,h1,h2⟩:=cQ e;exact qt F0 B F H ρ σ ds _ rs h1 λvs F1 H1 x1 l=>hs F1 H1 vs ds r Q x1.fh l h2 λv F2 H2 x2 l2=>w v F2 H2 (x1.trans x2) l2
theorem ON {id:String}{r:List V->Hp->VK->Prop}{op:List D->Option D}(hc:iq X (.type id) r)(hs:E3 X.K ct ns k r op)(hg:Gl X x)(hm:X.mg x=none)(hv:dY x=some (.type id))(ha:XA X ct ms (e::es) ns fs)
  (hn:x≠"__name__":=by decide) (kM:lx x:=by decide) (he:SE X e es:=by rfl) (gW:oa X pos es:=by rfl) :
  XO X ct ms k (.Call (.Name x pp) (e::es) [] pos) (eN op fs):=by
 obtain⟨t,pt,_,qt⟩:=ha;refine⟨_,Ly hc hg hm hv pt hn kM he gW,λF0 B F H ρ σ r Q rs e w=>?_⟩;obtain⟨ds,h1,h2⟩:=cQ e;exact qt F0 B F H ρ σ ds _ rs h1 λvs F1 H1 x1 l=>hs F1 H1 vs ds r Q x1.fh l h2 λv F2 H2 fp x2 l2 nd hf=>w v F2 H2 fp (x1.trans x2) l2 nd λz hz=>x1.hh.free (hf z hz)
theorem PE.or {t u:TE}(h1:PE X e t)(h2:PE X e u):PE X e (λσ H Q=>t σ H Q\/u σ H Q):=λbX s σ H Q I h=>h.elim (h1 bX s σ H Q I) (h2 bX s σ H Q I)
theorem ub (ha:XO X ct ms k e f)(hb:XO X ct ms k e g):XO X ct ms k e (λρ=>(f ρ).or (g ρ)):=by
 obtain⟨t,pt,qt⟩:=ha;obtain⟨u,pu,qu⟩:=hb;refine⟨_,PE.or pt pu,λF0 B F H ρ σ r Q rs e w=>?_⟩;dsimp only at e ⊢;cases h:f ρ with
 |some d=>rw[h]at e;cases e;exact .inl (qt F0 B F H ρ σ _ Q rs h w)
 |none=>rw[h]at e;exact .inr (qu F0 B F H ρ σ r Q rs e w)
def gm (cs:List Nat)(x:Str):D->Option D
 |.obj c ns ds=>if cs.contains c=true then(ns.zip ds).lookup x else none
 |_=>none
theorem jh {R:D->V->Prop}{x:Str}{d:D}:∀{ns:List Str} {ds:List D} {vs:List V},Pr R ds vs->(ns.zip ds).lookup x=some d->∃v,(ns.zip vs).lookup x=some v/\R d v
 |[],_,_,_,e=>by simp at e
 |_::_,_,_,.nil,e=>by simp at e
 |y::ns,_,_,.cons h t,e=>by
  rw[hV,de]at e;rw[hV,de];cases q:x==y with
  |true=>rw[q]at e;cases e;exact⟨_,rfl,h⟩
  |false=>rw[q]at e;exact jh t e
theorem LL {vs:List V}{x:Str}:∀{ns:List Str} {vs:List V},ns.contains x=false->(ns.zip vs).lookup x=none
 |[],_,_=>by simp
 |_::_,[],_=>by simp
 |y::ns,_::vs,h=>by rw[oW,vH]at h;rw[hV,de,h.1];exact LL (vs:=vs) h.2
theorem zt7 (he:XE X ct ms n e f)(hc:∀c∈cs,qG X.K (ct c)/\iX X.K (ct c) x)(hb:Ag X e x):XE X ct ms (n-1) (.Attribute e x pos) (e1 (gm cs x) f):=by
 obtain⟨t,pt,qt⟩:=he;refine⟨_,ztg pt hb,λF0 B F H ρ σ r Q rs e w=>?_⟩;obtain⟨o,h1,h2⟩:=cQ e;refine qt F0 B F H ρ σ o _ rs h1 λv F1 H1 x1 l=>?_;cases o with
 |obj c ns ds=>
  obtain⟨a,dx,vs,rfl,ha,hl,JV⟩:=l.obj x1.fh;unfold gm at h2;dsimp only at h2;by_cases vY:cs.contains c=true
  ·rw[if_pos vY]at h2;obtain⟨u,hu,du⟩:=jh JV h2;have hh:=hc c (by simpa using vY);exact⟨a,_,dx,_,u,rfl,ha,hh.1,hh.2,hu,w u F1 H1 x1 du⟩
  ·rw[if_neg vY]at h2;cases h2
 |_=>cases h2
def ik (c0:Nat)(m:Str)(mf:List D->Option D)(o:D)(ds:List D):Option D:=match o with
 |.obj c ns _=>if c=c0/\ns.contains m=false then mf (o::ds)else none
 |_=>none
theorem yf (ho:XE X ct ms n o f)(c:qG X.K (ct c0))(hm:pI X.K (ct c0) x fa)(Fn:dM X.prog X.w X.K X.mg X.base gC kk fa fd ps (kd X.K ct (n::(ns++nd)) rk mf))(hr:fw kk X.A)
  (hb:fF X.K fd ps rX) (hd:dA jS rX) (Au:∀F G,nc X.K ct F G nd mq jS) (ha:XA X ct ms (e::es) ns fs)
  (ky:SE X e es:=by rfl) (gW:oa X pos es:=by rfl)
  (ht:ei (.Call (.Attribute o x gq) (e::es) [] pos) X.env=(do
   let ov ← ei o X.env
   lz gq.atName
   let(f,first) ← kh [ov] (kz ov x pl)
   mT pos f first (jM pos (c9 (e::es) X.env)) (lP pos (iu [] X.env))):=by rfl) :
  XO X ct ms rk (.Call (.Attribute o x gq) (e::es) [] pos) (λρ=>(f ρ).bind λo=>(fs ρ).bind λds=>ik c0 x mf o (ds++mq)):=by
 obtain⟨u,pu,qu⟩:=ho;obtain⟨t,pt,_,qt⟩:=ha;refine⟨_,Za pu c hm Fn hr hb hd sO pt ky gW ht,λF0 B F H ρ σ r Q rs e w=>?_⟩;obtain⟨o,ds,h1,h2,h3⟩:=gD e;refine qu F0 B F H ρ σ o _ rs h1 λv F1 H1 x1 l=>?_;cases o with
 |obj c1 HW yH=>
  unfold ik at h3;dsimp only at h3;split at h3
  ·rename_i hc;obtain⟨rfl,zU⟩:=hc;obtain⟨a,dx,vs,rfl,ha,hl,JV⟩:=l.obj x1.fh;refine⟨a,dx,_,rfl,ha,LL (vs:=vs) zU,?_⟩;refine qt F0 B F1 H1 ρ σ ds _ (rs.ext x1) h2 λus F2 H2 x2 l2=>⟨F2,_,r,x2.fh,.cons (l.mono x2.ff x2.hh) (nc.append (Au F2 H2) l2),h3,λv F3 H3 fp x3 o nd hf=>?_⟩;exact w v F3 H3 fp ((x1.trans x2).trans x3) o nd λz hz=>(x1.trans x2).hh.free (hf z hz)
  ·cases h3
 |_=>cases h3
theorem LM (ho:XE X ct ms n o f)(c:qG X.K (ct c0))(hm:pI X.K (ct c0) x fa)(Fn:dM X.prog X.w X.K X.mg X.base gC kk fa fd ps (kd X.K ct (n::nd) rk mf))(hr:fw kk X.A)
  (hb:fF X.K fd ps rX) (hd:dA jS rX) (Au:∀F G,nc X.K ct F G nd mq jS)
  (ht:ei (.Call (.Attribute o x gq) [] [] pos) X.env=(do
   let ov ← ei o X.env
   lz gq.atName
   let(f,first) ← kh [ov] (kz ov x pl)
   mT pos f first (jM pos (c9 [] X.env)) (lP pos (iu [] X.env))):=by rfl) :
  XO X ct ms rk (.Call (.Attribute o x gq) [] [] pos) (λρ=>(f ρ).bind λo=>ik c0 x mf o mq):=by
 obtain⟨u,pu,qu⟩:=ho;refine⟨_,X1 pu c hm Fn hr hb hd sO ht,λF0 B F H ρ σ r Q rs e w=>?_⟩;obtain⟨o,h1,h3⟩:=cQ e;refine qu F0 B F H ρ σ o _ rs h1 λv F1 H1 x1 l=>?_;cases o with
 |obj c1 HW yH=>
  unfold ik at h3;dsimp only at h3;split at h3
  ·rename_i hc;obtain⟨rfl,zU⟩:=hc;obtain⟨a,dx,vs,rfl,ha,hl,JV⟩:=l.obj x1.fh;refine⟨a,dx,_,rfl,ha,LL (vs:=vs) zU,F1,_,r,x1.fh,.cons l (Au F1 H1),h3,λv F3 H3 fp x3 o nd hf=>?_⟩;exact w v F3 H3 fp (x1.trans x3) o nd λz hz=>x1.hh.free (hf z hz)
  ·cases h3
 |_=>cases h3
end
inductive Out where
 |nx (ρ:Env)|rt (d:D)|bk (ρ:Env)|ct (ρ:Env)
abbrev SF:=Env->Option Out
def nj (K:bZ)(cl:Nat->ce)(F0 B:Hp)(ms:List Mo)(rk:Nat)(E:lA):Out->Prop
 |.nx ρ=>∀σ F H,RS K cl F0 B ms F H ρ σ->E.nx σ H
 |.bk ρ=>∀σ F H,RS K cl F0 B ms F H ρ σ->E.bk σ H
 |.ct ρ=>∀σ F H,RS K cl F0 B ms F H ρ σ->E.ct σ H
 |.rt d=>∀v F H fp,dz F0 F->dz B H->dz F H->(∀a o,B a=some o->nH o->F0 a=none->F a=none)->Ow K cl F H rk d v fp->fp.Nodup->(∀a∈fp,B a=none)->E.rt v H
section
variable (X:Cx)(ct:Nat->ce)(ms:List Mo)(rk:Nat)
def XS (st:ek)(f:SF):Prop:=∃t,PS X st t/\∀(F0 B F H:Hp) (ρ:Env) (σ:St) (o:Out) (E:lA),RS X.K ct F0 B ms F H ρ σ->f ρ=some o->nj X.K ct F0 B ms rk E o->t E σ H
def tm (st:List ek)(f:SF):Prop:=∃t,rV X st t/\∀(F0 B F H:Hp) (ρ:Env) (σ:St) (o:Out) (E:lA),RS X.K ct F0 B ms F H ρ σ->f ρ=some o->nj X.K ct F0 B ms rk E o->t E σ H
end
def sSkip:SF:=λρ=>some (.nx ρ)
def sSeq (f g:SF):SF:=λρ=>(f ρ).bind λo=>match o with
 |.nx ρ'=>g ρ'
 |o=>some o
def sIf (c:BF)(f g:SF):SF:=λρ=>(c ρ).bind λb=>if b=true then f ρ else g ρ
def sSet (i:Nat)(f:EF):SF:=λρ=>(f ρ).bind λd=>some (.nx (ρ.set i (some d)))
def sRet (f:EF):SF:=λρ=>(f ρ).bind λd=>some (.rt d)
def sRetN:SF:=λ_=>some (.rt .non)
def sDrop (f:EF):SF:=λρ=>(f ρ).bind λ_=>some (.nx ρ)
def uD:Nat:=2 ^ 9000
def nP (c:BF)(b:SF):Nat->SF
 |0,_=>none
 |n+1,ρ=>(c ρ).bind λt=>if t=true then(b ρ).bind λo=>match o with
   |.nx ρ'=>nP c b n ρ'
   |.ct ρ'=>nP c b n ρ'
   |.bk ρ'=>some (.nx ρ')
   |.rt d=>some (.rt d)
  else some (.nx ρ)
def pQ (c:BF)(b:SF):SF:=nP c b uD
def nw (g:D->Env->Option Env)(b:SF):List D->SF
 |[],ρ=>some (.nx ρ)
 |d::ds,ρ=>(g d ρ).bind λρ1=>(b ρ1).bind λo=>match o with
   |.nx ρ'=>nw g b ds ρ'
   |.ct ρ'=>nw g b ds ρ'
   |.bk ρ'=>some (.nx ρ')
   |.rt d=>some (.rt d)
def sFor (f:Env->Option (List D))(g:D->Env->Option Env)(b:SF):SF:=λρ=>(f ρ).bind λds=>nw g b ds ρ
variable {N:List Str}{P:dH}{base:cB}{bf u w:SF}{fi:Env->Option (List D)}{gg:D->Env->Option Env}{gs:List D->Env->Option Env}{iter tg:Expr}{j:Nat}{mg:Str->Option bV}{pos':m9}{qual:Str}{rest:List ek}{st:ek}{oA:List Expr}
theorem xi:tm X ct ms rk [] sSkip:=⟨_,YT,λF0 B F H ρ σ o E rs e w=>by cases e;exact w σ F H rs⟩
theorem ze (h1:XS X ct ms rk st u)(h2:tm X ct ms rk rest w):tm X ct ms rk (st::rest) (sSeq u w):=by
 obtain⟨t,pt,qt⟩:=h1;obtain⟨t2,pO,tL⟩:=h2;refine⟨_,vx pt pO,λF0 B F H ρ σ o E rs e z=>?_⟩;obtain⟨o1,e1,e2⟩:=cQ e;refine qt F0 B F H ρ σ o1 _ rs e1 ?_;cases o1 with
 |nx ρ'=>exactλσ' F' H' Gp=>tL F0 B F' H' ρ' σ' o E Gp e2 z
 |rt d=>cases e2;exact z
 |bk ρ'=>cases e2;exact z
 |ct ρ'=>cases e2;exact z
theorem zm (h1:XS X ct ms rk st u):tm X ct ms rk [st] u:=by obtain⟨t,pt,qt⟩:=h1;exact⟨_,jc pt,qt⟩
theorem yh (he:XO X ct ms rk e f):XS X ct ms rk (.Return (some e) pos) (sRet f):=by obtain⟨t,pt,qt⟩:=he;refine⟨_,Mp pt,λF0 B F H ρ σ o E rs e w=>?_⟩;obtain⟨d,h1,h2⟩:=cQ e;cases h2;refine qt F0 B F H ρ σ d _ rs h1 λv F' H' fp x l nd hf=>?_;have r:=rs.ext x;exact w v F' H' fp r.f0 r.bh r.fh r.nf l nd λz hz=>rs.bh.free (hf z hz)
theorem EO {Gs Bo:List ek}(hc:XT X ct ms c p)(h1:tm X ct ms rk Gs u)(h2:tm X ct ms rk Bo w):XS X ct ms rk (.If c Gs Bo pos) (sIf p u w):=by
 obtain⟨t,pt,qt⟩:=hc;obtain⟨t1,wB,wC⟩:=h1;obtain⟨t2,pO,tL⟩:=h2;refine⟨_,Rv pt wB pO,λF0 B F H ρ σ o E rs e z=>?_⟩;obtain⟨x,h1,h2⟩:=cQ e;refine qt F0 B F H ρ σ x _ rs h1 λF1 H1 x1=>?_;cases x with
 |true=>rw[if_pos rfl]at h2 ⊢;exact wC F0 B F1 H1 ρ σ o E (rs.ext x1) h2 z
 |false=>rw[if_neg cD]at h2 ⊢;exact tL F0 B F1 H1 ρ σ o E (rs.ext x1) h2 z
theorem RS.put {F' H':Hp}(rs:RS K ct F0 B ms F H ρ σ)(hm:ms[i]?=some (.ow k)) :
  ∃f1 fr:List ce,f1.Nodup/\(∀a∈f1,B a=none)/\(∀a∈f1,a∉fr)/\(∀d,ρ[i]?=some (some d)->∃v,σ[i]?=some (some v)/\Ow K ct F H k d v f1)/\(∀a∈fr,F a=none/\∃o,H a=some o/\nH o) /\
   ∀(F' H':Hp) (d':D) (v':V) (f':List ce),dz F F'->dz B H'->dz F' H'->(∀a o,B a=some o->nH o->F0 a=none->F' a=none)->(∀a∈fr,H' a=H a/\F' a=none)->Ow K ct F' H' k d' v' f'->f'.Nodup->(∀a∈f',a∉fr)->(∀a∈f',B a=none) ->
    RS K ct F0 B ms F' H' (ρ.set i (some d')) (σ.set i (some v')):=by
 obtain⟨fp,sl,nd,hb⟩:=rs.sl;obtain⟨f1,fr,i1,i2,i3,i4,i5⟩:=sl.put hm;obtain⟨n1,n2,n3⟩:=i3 nd;refine⟨f1,fr,n1,λa z=>hb a (i1 a z),n3,i4,λa z=>sl.cells a (i2 a z),λF' H' d' v' f' s1 s2 s3 s4 kf o T7 dj S6=>?_⟩;obtain⟨iA,q1,q2,q3⟩:=i5 F' H' d' v' f' s1 kf o;exact⟨rs.f0.trans s1,s2,s3,s4,iA,q1,q3 T7 n2 dj,λa z=>(q2 a z).elim (S6 a) λz=>hb a (i2 a z)⟩
theorem RS.set {v:V}(rs:RS K ct F0 B ms F H ρ σ)(hm:ms[i]?=some (.ow k))(x:ir F H F' H')(o:Ow K ct F' H' k d v fp)(nd:fp.Nodup)(hf:∀a∈fp,H a=none) :
  RS K ct F0 B ms F' H' (ρ.set i (some d)) (σ.set i (some v)):=by
 have r:=rs.ext x;obtain⟨f1,fr,n1,b1,n3,i4,cf,put⟩:=rs.put (F':=F') (H':=H') hm;refine put F' H' d v fp x.ff r.bh x.fh r.nf (λa z=>?_) o nd (λa z zb=>?_) λa z=>rs.bh.free (hf a z)
 ·obtain⟨hn,o,ho,nt⟩:=cf a z;exact⟨(x.hh _ _ ho).trans ho.symm,x.nf a o ho nt hn⟩
 ·obtain⟨hn,o,ho,nt⟩:=cf a zb;rw[hf a z]at ho;cases ho
theorem zt8 (hm:ms[i]?=some (.ow k))(hN:X.N.Nodup)(hi:X.N[i]?=some x)(hx:Loc X.env.scope x)(he:XO X ct ms k e f)(hs:G8 X e x pos' pos:=by rfl)
  (hf:uZ X x:=by walk_at "v2"):XS X ct ms rk (.Assign [.Name x pos'] e pos) (sSet i f):=by
 obtain⟨t,pt,qt⟩:=he;refine⟨_,Z9 hN hi hx pt hs hf,λF0 B F H ρ σ o E rs e w=>?_⟩;obtain⟨d,h1,h2⟩:=cQ e;cases h2;exact qt F0 B F H ρ σ d _ rs h1 λv F' H' fp x l nd hf=>w _ F' H' (rs.set hm x l nd hf)
theorem Yj (hc:XT X ct ms c p)(hb:tm X ct ms rk rest u)(hp:gj (cC X.prog X.w) X.A X.env X.xe):XS X ct ms rk (.While c rest [] pos) (pQ p u):=by
 obtain⟨t,pt,qt⟩:=hc;obtain⟨t1,wB,wC⟩:=hb;refine⟨_,XZ hp pt wB,λF0 B F H ρ σ o E rs e z=>?_⟩;refine⟨λm σ H=>∃F ρ,RS X.K ct F0 B ms F H ρ σ/\nP p u m ρ=some o,⟨uD,F,ρ,rs,e⟩,?_⟩;rintro m σ H ⟨F,ρ,rs,e⟩;cases m with
 |zero=>cases e
 |succ m=>
  obtain⟨x,h1,h2⟩:=cQ e;refine qt F0 B F H ρ σ x _ rs h1 λF1 H1 x1=>?_;cases x with
  |true=>
   rw[if_pos rfl]at h2 ⊢;obtain⟨o1,h3,h4⟩:=cQ h2;refine⟨λσ H=>∃F ρ,RS X.K ct F0 B ms F H ρ σ/\nP p u m ρ=some o,λσ' H' h=>⟨m,kQ m,h⟩,?_⟩;refine wC F0 B F1 H1 ρ σ o1 _ (rs.ext x1) h3 ?_;cases o1 with
   |nx ρ'=>exactλσ' F' H' r=>⟨F',ρ',r,h4⟩
   |ct ρ'=>exactλσ' F' H' r=>⟨F',ρ',r,h4⟩
   |bk ρ'=>cases h4;exact z
   |rt d=>cases h4;exact z
  |false=>rw[if_neg cD]at h2 ⊢;cases h2;exact z σ F1 H1 (rs.ext x1)
theorem RS.re (r:RS K ct F0 B ms F H ρ σ):RS K ct F B ms F H ρ σ:=⟨.refl _,r.bh,r.fh,λ_ _ _ _ h=>h,r.sl⟩
theorem RS.back {ρ':Env}{σ':St}(r:RS K ct F0 B ms F H ρ σ)(q:RS K ct F B ms F' H' ρ' σ'):RS K ct F0 B ms F' H' ρ' σ' :=
 ⟨r.f0.trans q.f0,q.bh,q.fh,λa o h t n=>q.nf a o h t (r.nf a o h t n),q.sl⟩
theorem nj.re {E:lA}{o:Out}(r:RS K ct F0 B ms F H ρ σ)(z:nj K ct F0 B ms rk E o):nj K ct F B ms rk E o:=by
 cases o with
 |nx ρ=>exactλσ' F' H' q=>z σ' F' H' (r.back q)
 |bk ρ=>exactλσ' F' H' q=>z σ' F' H' (r.back q)
 |ct ρ=>exactλσ' F' H' q=>z σ' F' H' (r.back q)
 |rt d=>exactλv F' H' fp s1 s2 s3 s4=>z v F' H' fp (r.f0.trans s1) s2 s3 λa o h t n=>s4 a o h t (r.nf a o h t n)
def yD (K:bZ)(ct:Nat->ce)(F B:Hp)(n:Nat)(J:It)(ds:List D):Prop :=
 ∀(i:Nat) (F' H':Hp),dz F F'->dz B H'->dz F' H'->(∀d,ds[i]?=some d->J.go i H'/\∀x H2,J.yld i H' x H2->∃F2,ir F' H' F2 H2/\Al K ct F2 B n d x)/\(ds.length<=i->J.stop i H')
def XI (X:Cx)(ct:Nat->ce)(ms:List Mo)(n:Nat)(tg iter:Expr)(f:Env->Option (List D)):Prop:=∃wi,PI X tg iter wi/\∀(F0 B F H:Hp) (ρ:Env) (σ:St) (ds:List D) (R:It->Hp->Prop),RS X.K ct F0 B ms F H ρ σ->f ρ=some ds ->
 (∀J F' H',ir F H F' H'->yD X.K ct F' B n J ds->R J H')->wi σ H R
def By (X:Cx)(c:Prop)(ct:Nat->ce)(ms:List Mo)(n:Nat)(tg iter:Expr)(f:Env->Option (List D)):Prop:=∃wi,DZ X c tg iter wi/\∀(F0 B F H:Hp) (ρ:Env) (σ:St) (ds:List D) (R:It->Hp->Prop),RS X.K ct F0 B ms F H ρ σ->f ρ=some ds ->
 (∀J F' H',ir F H F' H'->yD X.K ct F' H' n J ds->R J H')->wi σ H R
abbrev XIc (X:Cx):=By X (X.calm=true)
def XG (X:Cx)(ct:Nat->ce)(ms:List Mo)(n:Nat)(tg:Expr)(g:D->Env->Option Env):Prop:=∃t,PG X tg t/\∀(F0 B F H:Hp) (ρ ρ':Env) (σ:St) (d:D) (v:V) (Q:St->Hp->Prop),RS X.K ct F0 B ms F H ρ σ->Al X.K ct F B n d v->g d ρ=some ρ' ->
 (∀σ',RS X.K ct F0 B ms F H ρ' σ'->Q σ' H)->t v σ H Q
theorem zt9 (hi:XI X ct ms n tg iter fi)(hg:XG X ct ms n tg gg)(hb:tm X ct ms rk rest u)(hp:gj (cC X.prog X.w) X.A X.env X.xe)(hc:X.calm=true)
  (hs:Aj X iter:=by intro _;rfl):XS X ct ms rk (.For tg iter rest [] pos) (sFor fi gg u):=by
 obtain⟨wi,pi,qi⟩:=hi;obtain⟨Lo,pg,qg⟩:=hg;obtain⟨t1,wB,wC⟩:=hb;refine⟨_,QZ hp hc pi pg wB hs,λF0 B F H ρ σ o E rs e z=>?_⟩;obtain⟨ds,h1,h2⟩:=cQ e;refine qi F0 B F H ρ σ ds _ rs h1 λJ F1 H1 x1 ok=>?_;refine⟨λi m σ H=>m=ds.length-i/\i<=ds.length/\∃F ρ,dz F1 F/\RS X.K ct F0 B ms F H ρ σ/\nw gg u (ds.drop i) ρ=some o,⟨ds.length,rfl,eI _,F1,ρ,.refl _,rs.ext x1,h2⟩,?_⟩;rintro i m σ H ⟨rfl,Nk,F,ρ,s1,rs,e⟩;obtain⟨k1,k2⟩:=ok i F H s1 rs.bh rs.fh;by_cases pz:i<ds.length
 ·right;have hd:ds[i]?=some ds[i]:=by simp[pz]
  obtain⟨go,yl⟩:=k1 _ hd;rw[ml pz]at e;obtain⟨ρ1,h3,h4⟩:=cQ e;obtain⟨o1,h5,h6⟩:=cQ h4;refine⟨go,λσ H=>i+1<=ds.length/\∃F ρ,dz F1 F/\RS X.K ct F0 B ms F H ρ σ/\nw gg u (ds.drop (i+1)) ρ=some o,λσ' H' h=>⟨ds.length-(i+1),by omega,rfl,h⟩,λx H2 y=>?_⟩;obtain⟨F2,x2,l⟩:=yl x H2 y;refine qg F0 B F2 H2 ρ ρ1 σ _ x _ (rs.ext x2) l h3 λσ' r=>?_;have s2:=s1.trans x2.ff;refine wC F2 B F2 H2 ρ1 σ' o1 _ r.re h5 ?_;cases o1 with
  |nx ρ'=>exactλσ' F' H' q=>⟨pz,F',ρ',s2.trans q.f0,r.back q,h6⟩
  |ct ρ'=>exactλσ' F' H' q=>⟨pz,F',ρ',s2.trans q.f0,r.back q,h6⟩
  |bk ρ'=>cases h6;exactλσ' F' H' q=>z σ' F' H' (r.back q)
  |rt d=>cases h6;exact nj.re (o:=.rt d) r z
 ·left;refine⟨k2 (by omega),?_⟩
  have:ds.drop i=[]:=nq (by omega);rw[this]at e;cases e;exact z σ F H rs
def gV (i:Nat):D->Env->Option Env:=λd ρ=>some (ρ.set i (some d))
theorem Y0 (hm:ms[i]?=some (.ow 0))(hN:X.N.Nodup)(hi:X.N[i]?=some x)(hx:Loc X.env.scope x)
  (hf:uZ X x:=by walk_at "v2"):XG X ct ms 0 (.Name x pos) (gV i):=by
 refine⟨_,PK hN hi hx hf,λF0 B F H ρ ρ' σ d v Q rs l e w=>?_⟩;cases e;exact w _ (rs.set hm (.refl rs.fh) (Ow.zero l) dk λa z=>(by cases z))
def E9 (X:Cx)(ct:Nat->ce)(ms:List Mo)(n:Nat)(oA:List Expr)(g:List D->Env->Option Env):Prop:=∃t,CV X oA t/\(∀ds ρ ρ',g ds ρ=some ρ'->ds.length=oA.length)/\∀(F0 B F H:Hp) (ρ ρ':Env) (σ:St) (ds:List D) (vs:List V) (Q:St->Hp->Prop),RS X.K ct F0 B ms F H ρ σ->Pr (Al X.K ct F B n) ds vs->g ds ρ=some ρ' ->
 (∀σ',RS X.K ct F0 B ms F H ρ' σ'->Q σ' H)->t vs σ H Q
def gsNil:List D->Env->Option Env:=λds ρ=>match ds with
 |[]=>some ρ
 |_=>none
def gsCons (g:D->Env->Option Env)(gs:List D->Env->Option Env):List D->Env->Option Env:=λds ρ=>match ds with
 |d::ds=>(g d ρ).bind λρ'=>gs ds ρ'
 |[]=>none
theorem wn:E9 X ct ms n [] gsNil:=by
 refine⟨_,PL,λds ρ ρ' e=>?_,λF0 B F H ρ ρ' σ ds vs Q rs l e w=>?_⟩
 ·cases ds with
  |nil=>rfl
  |cons d ds=>cases e
 ·cases l with
  |nil=>cases e;exact⟨rfl,w σ rs⟩
  |cons _ _=>cases e
theorem zu (h1:XG X ct ms n tg gg)(h2:E9 X ct ms n oA gs)
  (hs:(eK (tg::oA) X.env).map (·.2)=pj tg X.env::(eK oA X.env).map (·.2):=by rfl):E9 X ct ms n (tg::oA) (gsCons gg gs):=by
 obtain⟨t,pt,qt⟩:=h1;obtain⟨t2,pO,FW,tL⟩:=h2;refine⟨_,O5 pt pO hs,λds ρ ρ' e=>?_,λF0 B F H ρ ρ' σ ds vs Q rs l e w=>?_⟩
 ·cases ds with
  |nil=>cases e
  |cons d ds=>obtain⟨ρ1,h3,h4⟩:=cQ e;rw[cm,cm,FW _ _ _ h4]
 ·cases l with
  |nil=>cases e
  |cons h t=>obtain⟨ρ1,h3,h4⟩:=cQ e;exact⟨_,_,rfl,qt F0 B F H ρ ρ1 σ _ _ _ rs h h3 λσ1 r1=>tL F0 B F H ρ1 ρ' σ1 _ _ _ r1 t h4 w⟩
def gT (gs:List D->Env->Option Env):D->Env->Option Env:=λd ρ=>match d with
 |.tup ds=>gs ds ρ
 |_=>none
theorem DP (hc:X.calm=true)(h:E9 X ct ms (n-1) oA gs)(hl:(eK oA X.env).length=oA.length:=by rfl)(ky:(eK oA X.env).findIdx? (·.1)=none:=by rfl):XG X ct ms n (.Tuple oA j pos) (gT gs):=by
 obtain⟨t,pt,lt,qt⟩:=h;refine⟨_,QX (n:=oA.length) hc pt hl ky,λF0 B F H ρ ρ' σ d v Q rs l e w=>?_⟩;cases d with
 |tup ds=>
  have l':Al X.K ct F H n (.tup ds) v:=l.mono (.refl _) rs.bh;have:∃a vs,v=.ref a/\oU X.K H a vs/\Pr (Al X.K ct F B (n-1)) ds vs:=by
   cases n with
   |zero=>
    have l:Dt X.K ct F (.tup ds) v:=l;cases l with
    |tup q t=>exact⟨_,_,rfl,oU.of (rs.fh _ _ q),t.pr⟩
   |succ n=>
    rcases l with l|l
    ·cases l with
     |tup q t=>exact⟨_,_,rfl,oU.of (rs.fh _ _ q),t.pr.mono λ_ _=>Al.of⟩
    ·cases l with
     |tup q t=>exact⟨_,_,rfl,oU.of (rs.fh _ _ q),t⟩
  obtain⟨a,vs,rfl,ha,hp⟩:=this;exact⟨a,vs,rfl,ha,hp.length.symm.trans (lt _ _ _ e),qt F0 B F H ρ ρ' σ ds vs Q rs hp e w⟩
 |_=>cases e
def startD (N:List Str)(ds:List D):Env:=ds.map some++cE (N.length-ds.length) none
def mOf (N:List Str)(b:SF)(ds:List D):Option D:=(b (startD N ds)).bind λo=>match o with
 |.rt d=>some d
 |.nx _=>some .non
 |_=>none
theorem SL.start {K:bZ}{F B H:Hp}:∀{pm:List Nat} {ds:List D} {vs:List V} {ms:List Mo} (j:Nat),nc K ct F B pm ds vs->(∀(i n:Nat),pm[i]?=some n->ms[i]?=some (Mo.al n)\/(n=0/\ms[i]?=some (Mo.ow 0)))->ms.length=pm.length+j ->
  SL K ct F B H ms (ds.map some++cE j none) (vs.map some++cE j none) []
 |_,_,_,ms,j,.nil,_,hl=>by
  have:∀(j:Nat) (ms:List Mo),ms.length=j->SL K ct F B H ms (cE j none) (cE j none) []:=by
   intro j;induction j with
   |zero=>intro ms h;cases ms with
    |nil=>exact .nil
    |cons _ _=>simp at h
   |succ j ih=>intro ms h;cases ms with
    |nil=>simp at h
    |cons m ms=>exact .no (ih ms (by simpa using h))
  simpa using this j ms (by simpa using hl)
 |_,_,_,[],j,.cons h t,_,hl=>by simp at hl;omega
 |_,_,_,m::ms,j,.cons (n:=n) h t,hm,hl=>by
  have ih:=SL.start (ms:=ms) (H:=H) j t (λi n e=>by simpa using hm (i+1) n (by simpa using e)) (by simp at hl;omega);rcases hm 0 n rfl with e|⟨rfl,e⟩
  ·simp at e;subst e;exact .al h ih
  ·simp at e;subst e;exact SL.ow (f:=[]) (Ow.zero h) ih
structure Fun2 (K:bZ)(x qual:Str)(st:ek)(f:ce)(fd:cH):Prop where
 ex:∃(oc:bV) (od:Option ce) (dV kV doc pm:bV) (an:Option ce) (gN ct:bV) (xH:Array (Option bV)),
  fd=jO x qual (la st) (fU st) (dc st) dV kV doc pm an gN ct/\K.lookup f=some ⟨oc,od,.func fd,xH⟩/\nE K gN qual=true
 kp:dn K (.ref f)=true
theorem Fun2.ok {w:dw}{f:ce}{fd:cH}{sp:Sp}(F:Fun2 K x qual st f fd)(S:fI N ps (dc st))(len:∀vs H Q E,sp vs H Q E->vs.length=ps.length)
    (uG:∀(gN:bV) (A:c7) (outer:List PySem.Env) (s:cq) (H:Hp) (vs:List V) (Q:VK) (E:XK),fw k (A.deeper (envOfC qual (dc st) s.heap.objs.size f gN))->sp vs H Q E ->
      ∃t,rV (nJ gC P w K mg base N qual (dc st) f gN A outer s H E).nox (fU st) t/\t { nx:=λ_ H'=>Q .non H',rt:=Q } (L2.start N vs) H):dM P w K mg base gC (k+1) f fd ps sp:=by
  obtain⟨oc,od,dV,kV,doc,pm,an,gN,ct,xH,rfl,lk,lT⟩:=F.ex;refine MM lk lT S len λA outer s H vs Q E hr AG=>?_;obtain⟨t,h,q⟩:=uG gN A outer s H vs Q E hr AG;exact⟨t,h.nox,q⟩
theorem lift {w:dw}{fd:cH}(Fn:Fun2 K x qual st fa fd)(S:fI N ps (dc st))(AF:pm.length=ps.length)(BJ:ms.length=N.length)(tD:ps.length<=N.length)
  (AD:∀(i n:Nat),pm[i]?=some n->ms[i]?=some (Mo.al n)\/(n=0/\ms[i]?=some (Mo.ow 0)))
  (body:∀(gN:bV) (A:c7) (outer:List PySem.Env) (s:cq) (H:Hp) (E:XK),fw kk (A.deeper (envOfC qual (dc st) s.heap.objs.size fa gN))->tm (nJ gC P w K mg base N qual (dc st) fa gN A outer s H E).nox ct ms rk (fU st) bf) :
  dM P w K mg base gC (kk+1) fa fd ps (kd K ct pm rk (mOf N bf)):=by
 refine Fn.ok S (kd.len AF) λgN A outer s H vs Q E hr h=>?_;obtain⟨F,ds,d,sF,l,hm,q⟩:=h;obtain⟨t,pt,qt⟩:=body gN A outer s H E hr;refine⟨t,pt,?_⟩;obtain⟨o,h1,h2⟩:=cQ hm;have TL:vs.length=pm.length:=l.length;have hdl:ds.length=vs.length:=l.length';refine qt F H F H (startD N ds) (L2.start N vs) o _ ⟨.refl _,.refl _,sF,λ_ _ _ _ h=>h,[],?_,dk,λa z=>(by cases z)⟩ h1 ?_
 ·unfold startD L2.start;rw[hdl];exact SL.start _ l AD (by omega)
 ·cases o with
  |nx ρ=>cases h2;exactλσ F' H' r=>q .non F' H' [] ⟨r.f0,r.bh,r.fh,r.nf⟩ (Ow.scal .non rfl) dk λa z=>(by cases z)
  |rt d'=>cases h2;exactλv F' H' fp s1 s2 s3 s4 o nd hf=>q v F' H' fp ⟨s1,s2,s3,s4⟩ o nd hf
  |bk ρ=>cases h2
  |ct ρ=>cases h2
theorem lS.or {f:bV->bV->Ad bV}{r':R2}(h:lS X f r)(h':lS X f r'):lS X f (λx y H Q=>r x y H Q\/r' x y H Q) :=
 λbX s σ H x y v u Q I rx ry q=>q.elim (h bX s σ H x y v u Q I rx ry) (h' bX s σ H x y v u Q I rx ry)
variable {gv:Int->Int->V}{neg:Bool}
def i2 (g:Int->Int->D):D->D->Option D
 |.int i,.int j=>some (g i j)
 |_,_=>none
def AI (C:Int->Int->Prop)[∀i j,Decidable (C i j)](g:Int->Int->D):D->D->Option D
 |.int i,.int j=>if C i j then some (g i j)else none
 |_,_=>none
theorem Ji {g:Int->Int->D}(hg:∀i j F,Dt K ct F (g i j) (gv i j)):rM K ct n m k (vF gv) (i2 g):=by
 intro F H x y d1 d2 d Q s l1 l2 e w;cases d1 with
 |int i=>
  cases d2 with
  |int j=>cases e;exact⟨i,j,l1.int,l2.int,w _ F H (.refl s) (Al.of (hg i j F))⟩
  |_=>cases e
 |_=>cases e
theorem IY {C C':Int->Int->Prop}[∀i j,Decidable (C i j)]{g:Int->Int->D}(hC:∀i j,C i j->C' i j)(hg:∀i j F,Dt K ct F (g i j) (gv i j)):rM K ct n m k (rI C' gv) (AI C g):=by
 intro F H x y d1 d2 d Q s l1 l2 e w;cases d1 with
 |int i=>
  cases d2 with
  |int j=>
   unfold AI at e;dsimp only at e;by_cases h:C i j
   ·rw[if_pos h]at e;cases e;exact⟨i,j,l1.int,l2.int,hC i j h,w _ F H (.refl s) (Al.of (hg i j F))⟩
   ·rw[if_neg h]at e;cases e
  |_=>cases e
 |_=>cases e
def MS:Nat:=2 ^ 9000
def ES:Nat:=2 ^ 100000
def uM:D->D->Option D:=i2 λi j=>.int (i-j)
theorem Y1:rM K ct n m k (vF λi j=>.int (i-j)) uM:=Ji λ_ _ _=>.int _
def p6 (i j:Int):Prop:=(-18446744073709551616<i/\i<18446744073709551616)\/(-18446744073709551616<j/\j<18446744073709551616)\/(i.natAbs<ES/\j.natAbs<ES)
instance (i j:Int):Decidable (p6 i j):=by unfold p6;infer_instance
def jJ:D->D->Option D:=AI p6 λi j=>.int (i*j)
theorem p6.ok {i j:Int}(h:p6 i j):sr i j:=by
 rcases h with h|h|h
 ·exact .inl (.inl ⟨by have:=h.1;omega,by have:=h.2;omega⟩)
 ·exact .inl (.inr ⟨by have:=h.1;omega,by have:=h.2;omega⟩)
 ·exact .inr h
theorem Y2:rM K ct n m k (rI sr λi j=>.int (i*j)) jJ:=IY (λ_ _=>p6.ok) λ_ _ _=>.int _
def D.v:D->V
 |.bl b=>.bl b
 |.int i=>.int i
 |.str x=>.str x
 |_=>.non
theorem Dt.v {v:V}(h:Dt K ct F d v)(hs:d.sc=true):v=d.v:=by cases h<;>first|rfl|cases hs
theorem Al.v {v:V}(h:Al K ct F G n d v)(hs:d.sc=true):v=d.v:=Dt.v (Al.scal (F':=F) h hs) hs
theorem D.flat (hs:d.sc=true):mL d.v=true:=by cases d<;>first|rfl|cases hs
theorem Pr.vs {F G:Hp}:∀{ds:List D} {vs:List V},Pr (Al K ct F G n) ds vs->ds.all D.sc=true->vs=ds.map D.v
 |_,_,.nil,_=>rfl
 |d::ds,v::vs,.cons h t,e=>by rw[gp,cx]at e;rw[cL,Al.v h e.1,Pr.vs t e.2]
def fZ:D->D->Option D
 |.int i,.int j=>if 0<j/\j<4611686018427387904 then some (.int (i/j))else if j≠0/\j.natAbs<MS then some (.int (i.fdiv j))else none
 |_,_=>none
theorem Yk:rM K ct n m k (rI (λ_ j=>j≠0/\Sz 9000 j) λi j=>.int (i.fdiv j)) fZ:=by
 intro F H x y d1 d2 d Q s l1 l2 e w;cases d1 with
 |int i=>
  cases d2 with
  |int j=>
   unfold fZ at e;dsimp only at e;by_cases h:0<j/\j<4611686018427387904
   ·rw[if_pos h]at e;cases e;refine⟨i,j,l1.int,l2.int,⟨by omega,?_⟩,?_⟩
    ·have:Sz 62 j:=by unfold Sz;omega
     exact this.mono (by decide)
    ·show Q (.int (i.fdiv j)) H;rw[sk i (by omega)];exact w _ F H (.refl s) (Al.of (.int _))
   ·rw[if_neg h]at e;by_cases h:j≠0/\j.natAbs<MS
    ·rw[if_pos h]at e;cases e;exact⟨i,j,l1.int,l2.int,h,w _ F H (.refl s) (Al.of (.int _))⟩
    ·rw[if_neg h]at e;cases e
  |_=>cases e
 |_=>cases e
def fM:D->D->Option D
 |.int i,.int j=>if 0<j then some (.int (i%j))else if j≠0 then some (.int (i.fmod j))else none
 |_,_=>none
theorem Y3:rM K ct n m k (rI (λ_ j=>j≠0) λi j=>.int (i.fmod j)) fM:=by
 intro F H x y d1 d2 d Q s l1 l2 e w;cases d1 with
 |int i=>
  cases d2 with
  |int j=>
   unfold fM at e;dsimp only at e;by_cases h:0<j
   ·rw[if_pos h]at e;cases e;refine⟨i,j,l1.int,l2.int,by omega,?_⟩;show Q (.int (i.fmod j)) H;rw[Int.fmod_eq_emod_of_nonneg i (by omega)];exact w _ F H (.refl s) (Al.of (.int _))
   ·rw[if_neg h]at e;by_cases h:j≠0
    ·rw[if_pos h]at e;cases e;exact⟨i,j,l1.int,l2.int,h,w _ F H (.refl s) (Al.of (.int _))⟩
    ·rw[if_neg h]at e;cases e
  |_=>cases e
 |_=>cases e
def sP (i j:Int):Prop:=0<=j/\j<=1000000/\i.natAbs<18446744073709551616
instance (i j:Int):Decidable (sP i j):=by unfold sP;infer_instance
def AQ:D->D->Option D:=AI sP λi j=>.int (i ^ j.toNat)
theorem PX:rM K ct n m k (rI Bv λi j=>.int (i ^ j.toNat)) AQ:=IY (λ_ _ h=>⟨h.1,h.2.1,by have:=h.2.2;omega⟩) λ_ _ _=>.int _
def BW:D->D->Option D:=AI sP λi j=>.int (i*2 ^ j.toNat)
theorem Y4:rM K ct n m k (rI Bv λi j=>.int (i*2 ^ j.toNat)) BW:=IY (λ_ _ h=>⟨h.1,h.2.1,by have:=h.2.2;omega⟩) λ_ _ _=>.int _
def yQ:D->D->Option D:=AI (λ_ j=>0<=j) λi j=>.int (i/2 ^ j.toNat)
theorem PY:rM K ct n m k (rI (λ_ j=>0<=j) λi j=>.int (i/2 ^ j.toNat)) yQ:=IY (λ_ _ h=>h) λ_ _ _=>.int _
def yM:D->D->Option D:=i2 λi j=>.bl (decide (i<j))
def Ap:D->D->Option D:=i2 λi j=>.bl (decide (j<i))
def D8:D->D->Option D:=i2 λi j=>.bl (decide (j<=i))
theorem QT:rM K ct n m k (vF λi j=>.bl (decide (i<j))) yM:=Ji λ_ _ _=>.bl _
theorem Mq:rM K ct n m k (vF λi j=>.bl (decide (j<i))) Ap:=Ji λ_ _ _=>.bl _
theorem QU:rM K ct n m k (vF λi j=>.bl (decide (j<=i))) D8:=Ji λ_ _ _=>.bl _
def Dx:R2:=λx y H Q=>∃i j,x=.str i/\y=.str j/\Q (.bl (!(decide (j.cps.toList<i.cps.toList)))) H
theorem zua:lS X (gk .LtE) Dx:=by intro bX s σ H x y v u Q I rx ry h;obtain⟨i,j,rfl,rfl,q⟩:=h;obtain⟨t,rfl⟩:=rx;obtain⟨t',rfl⟩:=ry;exact PySem.P.le_str ⟨.bl _,H,I,rfl,q⟩
def Bl:D->D->Option D
 |.int i,.int j=>some (.bl (decide (i<=j)))
 |.str i,.str j=>some (.bl (!(decide (j.cps.toList<i.cps.toList))))
 |_,_=>none
theorem Y5:rM K ct n m k (λx y H Q=>vF (λi j=>.bl (decide (i<=j))) x y H Q\/Dx x y H Q) Bl:=by
 intro F H x y d1 d2 d Q s l1 l2 e w;cases d1 with
 |int i=>
  cases d2 with
  |int j=>cases e;exact .inl ⟨i,j,l1.int,l2.int,w _ F H (.refl s) (Al.of (.bl _))⟩
  |_=>cases e
 |str i=>
  cases d2 with
  |str j=>cases e;exact .inr ⟨i,j,l1.str,l2.str,w _ F H (.refl s) (Al.of (.bl _))⟩
  |_=>cases e
 |_=>cases e
theorem zub:lS X (gk .LtE) (λx y H Q=>vF (λi j=>.bl (decide (i<=j))) x y H Q\/Dx x y H Q):=lS.or zvr zua
def D.isN:D->Bool
 |.non=>true
 |_=>false
def D.isB (b:Bool):D->Bool
 |.bl c=>c==b
 |_=>false
def NG (neg:Bool):D->D->Option D
 |d,.non=>some (.bl (if neg then !d.isN else d.isN))
 |d,.bl b=>some (.bl (if neg then !d.isB b else d.isB b))
 |_,_=>none
mutual
def D.py:D->Option cU
 |.non=>some .none
 |.bl b=>some (.bool b)
 |.int i=>some (.int i)
 |.str x=>some (.str x)
 |.lst xs=>(D.pys xs).bind λys=>some (.list ys)
 |.tup xs=>(D.pys xs).bind λys=>some (.tuple ys)
 |_=>none
def D.pys:List D->Option (List cU)
 |[]=>some []
 |d::ds=>(D.py d).bind λx=>(D.pys ds).bind λxs=>some (x::xs)
end
theorem Dt.toPy (s:dz F H){v:V}{e:cU}(h:Dt K ct F d v)(q:d.py=some e):L2.Dt K H v e:=by
 refine Dt.rec (motive_1:=λd v _=>∀e,d.py=some e->L2.Dt K H v e) (motive_2:=λds vs _=>∀es,D.pys ds=some es->L2.Dts K H vs es) ?_ ?_ ?_ ?_ ?_ ?_ ?_ ?_ ?_ ?_ ?_ ?_ ?_ ?_ h e q
 ·intro e h;rw[D.py]at h;cases h;exact .non
 ·intro b e h;rw[D.py]at h;cases h;exact .bl b
 ·intro b e h;rw[D.py]at h;cases h;exact .int b
 ·intro b e h;rw[D.py]at h;cases h;exact .str b
 ·intro _ _ _ q _ t e h;rw[D.py]at h;obtain⟨ys,h1,h2⟩:=cQ h;cases h2;exact .lst (s.seq q) (t _ h1)
 ·intro _ _ _ q _ t e h;rw[D.py]at h;obtain⟨ys,h1,h2⟩:=cQ h;cases h2;exact .tup (oU.of (s _ _ q)) (t _ h1)
 ·intro _ _ _ _ _ _ _ _ e h;simp only[D.py]at h;cases h
 ·intro _ _ _ _ _ _ _ _ e h;simp only[D.py]at h;cases h
 ·intro _ _ _ _ _ _ _ _ _ _ e h;simp only[D.py]at h;cases h
 ·intro _ _ _ _ e h;simp only[D.py]at h;cases h
 ·intro _ _ _ _ _ _ _ _ _ _ _ _ e h;simp only[D.py]at h;cases h
 ·intro _ _ _ _ _ _ e h;simp only[D.py]at h;cases h
 ·intro e h;rw[D.pys]at h;cases h;exact .nil
 ·intro _ _ _ _ _ _ p t e h;rw[D.pys]at h;obtain⟨y,ys,h1,h2,h3⟩:=gD h;cases h3;exact .cons (p _ h1) (t _ h2)
theorem Pr.toPy (f:∀d v e,R d v->d.py=some e->L2.Dt K H v e){vs:List V}{es:List cU}(h:Pr R ds vs)(e:D.pys ds=some es):L2.Dts K H vs es:=by
 induction h generalizing es with
 |nil=>rw[D.pys]at e;cases e;exact .nil
 |cons h t ih=>rw[D.pys]at e;obtain⟨y,ys,h1,h2,h3⟩:=gD e;cases h3;exact .cons (f _ _ _ h h1) (ih h2)
theorem Al.toPy (s:dz F H){v:V}{e:cU}(h:Al K ct F H n d v)(q:d.py=some e):L2.Dt K H v e:=by
 induction n generalizing d v e with
 |zero=>exact Dt.toPy s h q
 |succ n ih=>
  cases h with
  |inl h=>exact Dt.toPy s h q
  |inr h=>
   cases h with
   |lst h t=>rw[D.py]at q;obtain⟨ys,h1,h2⟩:=cQ q;cases h2;exact .lst (gZ.of h) (Pr.toPy (λ_ _ _=>ih) t h1)
   |tup h t=>rw[D.py]at q;obtain⟨ys,h1,h2⟩:=cQ q;cases h2;exact .tup (oU.of (s _ _ h)) (Pr.toPy (λ_ _ _=>ih) t h1)
   |_=>simp only[D.py]at q;cases q
def tI (a:cU):Bool:=a.canLay0&&decide (a.depth<=60)
def iz (neg:Bool)(x y:D):Option D:=x.py.bind λa=>y.py.bind λb=>if tI a=true/\tI b=true then some (.bl (if neg then !cU.eqv a b else cU.eqv a b))else none
theorem EH:rM K ct n m k (Dv K neg) (iz neg):=by
 intro F H x y d1 d2 d Q s l1 l2 e w;obtain⟨a,b,h1,h2,h3⟩:=gD e;by_cases h:tI a=true/\tI b=true
 ·rw[if_pos h]at h3;cases h3;have o1:=h.1;have o2:=h.2;unfold tI at o1 o2;rw[cx,decide_eq_true_iff]at o1 o2;exact⟨a,b,Al.toPy s l1 h1,Al.toPy s l2 h2,o1.1,o2.1,d9 (Nat.min_le_left _ _) o1.2,w _ F H (.refl s) (Al.of (.bl _))⟩
 ·rw[if_neg h]at h3;cases h3
variable {κ:Type}
theorem Pr.atI {vs:List V}{i:Int}(h:Pr R ds vs)(e:atI ds i=some d):∃v,atI vs i=some v/\R d v:=by unfold L2.atI at e ⊢;rw[←h.length];obtain⟨j,h1,h2⟩:=cQ e;obtain⟨v,h3,h4⟩:=h.get' h2;exact⟨v,by rw[h1];exact h3,h4⟩
def BQ:D->Option iW
 |.int i=>some (.inl i)
 |.str x=>some (.inr x)
 |_=>none
def uH:List D->Option (List iW)
 |[]=>some []
 |d::ds=>(BQ d).bind λk=>(uH ds).bind λks=>some (k::ks)
def mM [DecidableEq κ](ks:List κ)(ds:List D)(k:κ):Option D:=((ks.zip ds).find? λp=>decide (p.1=k)).map (·.2)
def RO (R:D->V->Prop):Option D->Option V->Prop
 |some d,some u=>R d u
 |none,none=>True
 |_,_=>False
theorem RO.some_of {q:Option V}(h:RO R (some d) q):∃u,q=some u/\R d u:=by
 cases q with
 |none=>exact h.elim
 |some u=>exact⟨u,rfl,h⟩
theorem RO.none_of {q:Option V}(h:RO R none q):q=none:=by
 cases q with
 |none=>rfl
 |some u=>exact h.elim
theorem LN {κ:Type}[DecidableEq κ]{R:D->V->Prop}{k:κ}:∀{ks:List κ} {ds:List D} {vs:List V},Pr R ds vs->RO R (mM ks ds k) (m7 (ks.zip vs) k)
 |[],_,_,_=>by simp[mM,m7,RO]
 |_::_,_,_,.nil=>by simp[mM,m7,RO]
 |y::ks,d::ds,v::vs,.cons h t=>by
  by_cases e:y=k
  ·have h1:mM (y::ks) (d::ds) k=some d:=by simp[mM,fk,e]
   have h2:m7 ((y::ks).zip (v::vs)) k=some v:=by simp[m7,fk,e]
   rw[h1,h2];exact h
  ·have h1:mM (y::ks) (d::ds) k=mM ks ds k:=by simp[mM,fk,e]
   have h2:m7 ((y::ks).zip (v::vs)) k=m7 (ks.zip vs) k:=by simp[m7,fk,e]
   rw[h1,h2];exact LN t
theorem Mr {v:V}{k:iW}(e:BQ d=some k)(h:Al K ct F G n d v):v=kV k:=by
 cases d with
 |int i=>cases e;exact h.int
 |str i=>cases e;exact h.str
 |_=>cases e
theorem PZ {vs:List V}(e:uH ds=some ks)(h:Pr (Al K ct F G n) ds vs):vs=ks.map kV:=by
 induction h generalizing ks with
 |nil=>cases e;rfl
 |cons h t ih=>unfold uH at e;obtain⟨k,ks,h1,h2,h3⟩:=gD e;cases h3;rw[Mr h1 h,ih h2];rfl
def lW (o y:D):Option (Option D):=match o with
 |.dK ks ds=>(BQ y).bind λk=>some (mM ks ds k)
 |.dT ks ds=>(match y with|.tup ys=>(uH ys).bind λk=>some (mM ks ds k)|_=>none)
 |_=>none
theorem Mb {o y:D}{x v:V}(s:dz F G)(l1:Al K ct F G n o x)(l2:Al K ct F G m y v){r:Option D}(e:lW o y=some r) :
  ∃a q,x=.ref a/\qY G a v q/\RN G a/\RO (Al K ct F G (n-1)) r q:=by
 cases o with
 |dK ks ds=>obtain⟨a,vs,rfl,ha,hl,hp⟩:=l1.dK s;obtain⟨k,h1,h2⟩:=cQ e;cases h2;have hv:=Mr h1 l2;subst hv;exact⟨a,_,rfl,qY.k ha,.inl ⟨_,.inl ha⟩,LN hp⟩
 |dT ks ds=>
  obtain⟨a,vs,rfl,ha,hl,hp⟩:=l1.dT s;cases y with
  |tup ys=>obtain⟨k,h1,h2⟩:=cQ e;cases h2;obtain⟨b,us,rfl,hb,Kn⟩:=l2.tup s;have hv:=PZ h1 Kn;subst hv;exact⟨a,_,rfl,.inr ⟨_,_,_,ha,rfl,hb,rfl⟩,.inr ⟨_,ha⟩,LN hp⟩
  |_=>cases e
 |_=>cases e
def eJ:D->D->Option D
 |.lst ds,.int i=>atI ds i
 |.tup ds,.int i=>atI ds i
 |.kt ds,.int i=>atI ds i
 |.str x,.int i=>if x.length<=16777216 then(atI x.cps.toList i).bind λc=>some (.str ⟨#[c]⟩)else none
 |_,_=>none
theorem Q5:rM K ct n m (n-1) (NS K) eJ:=by
 intro F H x y d1 d2 d Q s l1 l2 e w;cases d1 with
 |lst ds=>
  cases d2 with
  |int i=>obtain⟨a,vs,rfl,ha,hp⟩:=l1.lst s;obtain⟨v,h1,h2⟩:=hp.atI e;exact .inl ⟨a,vs,i,v,rfl,l2.int,ha,h1,w v F H (.refl s) h2⟩
  |_=>cases e
 |tup ds=>
  cases d2 with
  |int i=>obtain⟨a,vs,rfl,ha,hp⟩:=l1.tup s;obtain⟨v,h1,h2⟩:=hp.atI e;exact .inr (.inl ⟨a,vs,i,v,rfl,l2.int,oU.of ha,h1,w v F H (.refl s) h2⟩)
  |_=>cases e
 |kt ds=>
  cases d2 with
  |int i=>obtain⟨a,vs,rfl,ha,hp⟩:=l1.kt;obtain⟨v,h1,h2⟩:=hp.atI e;exact .inr (.inl ⟨a,vs,i,v,rfl,l2.int,.inr ha,h1,w v F H (.refl s) (Al.of h2)⟩)
  |_=>cases e
 |str z=>
  cases d2 with
  |int i=>
   unfold eJ at e;dsimp only at e;by_cases h:z.length<=16777216
   ·rw[if_pos h]at e;obtain⟨c,h1,h2⟩:=cQ e;cases h2;exact .inr (.inr ⟨z,i,c,l1.str,l2.int,by rw[dD];exact h,h1,w _ F H (.refl s) (Al.of (.str _))⟩)
   ·rw[if_neg h]at e;cases e
  |_=>cases e
 |_=>cases e
theorem Ms (hu:X.A.units+1<kR)(ha:XE X ct ms n a f)(hb:XE X ct ms m b g)(hs:CT b):XE X ct ms (n-1) (.Subscript a b pos) (λρ=>(f ρ).bind λx=>(g ρ).bind λy=>(lW x y).join):=by obtain⟨ta,tb,pa,pb,q⟩:=ha.bin hb;refine⟨_,Zm hu pa pb hs,λF0 B F H ρ σ d Q rs e w=>?_⟩;obtain⟨d1,d2,h1,h2,h3⟩:=gD e;refine q F0 B F H ρ σ d1 d2 _ rs h1 h2 λx y F' H' x1 l1 l2=>?_;obtain⟨a,o,rfl,g,_,h⟩:=Mb (r:=some d) x1.fh l1 l2 (z6 h3);obtain⟨u,rfl,Di⟩:=h.some_of;exact⟨a,u,rfl,g,w u F' H' x1 Di⟩
def D6:D->D->Bool
 |.non,.non=>true
 |.bl a,.bl b=>a==b
 |.bl a,.int b=>(if a then 1 else 0)==b
 |.int a,.bl b=>a==(if b then 1 else 0)
 |.int a,.int b=>a==b
 |.str a,.str b=>a==b
 |_,_=>false
theorem RC {x y:D}(hx:x.sc=true)(hy:y.sc=true):yI x.v y.v=D6 x y:=by cases x<;>first|cases hx;done|(cases y<;>first|cases hy;done|rfl)
def xE (x:D)(ds:List D):Bool:=ds.any λy=>D6 y x
theorem Jj {x:D}(hx:x.sc=true):∀{ds:List D},ds.all D.sc=true->HB x.v (ds.map D.v)=xE x ds
 |[],_=>rfl
 |d::ds,h=>by rw[gp,cx]at h;have ih:=Jj hx h.2;unfold HB xE at ih ⊢;rw[cL,ip,ip,ih,RC h.1 hx]
theorem u6:∀{ds:List D},ds.all D.sc=true->(ds.map D.v).all mL=true
 |[],_=>rfl
 |d::ds,h=>by rw[gp,cx]at h;rw[cL,gp,D.flat h.1,u6 h.2];rfl
def inD (neg:Bool)(x y:D):Option D:=match y with
 |.lst ds=>if x.sc=true/\ds.all D.sc=true then some (.bl (if neg then !xE x ds else xE x ds))else none
 |.tup ds=>if x.sc=true/\ds.all D.sc=true then some (.bl (if neg then !xE x ds else xE x ds))else none
 |.kt ds=>if x.sc=true/\ds.all D.sc=true then some (.bl (if neg then !xE x ds else xE x ds))else none
 |_=>none
theorem Mt:rM K ct n m k (NR K neg) (inD neg):=by
 intro F H x y d1 d2 d Q s l1 l2 e w;cases d2 with
 |lst ds=>
  unfold inD at e;dsimp only at e;by_cases h:d1.sc=true/\ds.all D.sc=true
  ·rw[if_pos h]at e;cases e;obtain⟨a,vs,rfl,ha,hp⟩:=l2.lst s;have hv:=hp.vs h.2;subst hv;have hx:=Al.v l1 h.1;subst hx;refine⟨a,_,rfl,.inl ha,D.flat h.1,u6 h.2,?_⟩;rw[Jj h.1 h.2];exact w _ F H (.refl s) (Al.of (.bl _))
  ·rw[if_neg h]at e;cases e
 |tup ds=>
  unfold inD at e;dsimp only at e;by_cases h:d1.sc=true/\ds.all D.sc=true
  ·rw[if_pos h]at e;cases e;obtain⟨a,vs,rfl,ha,hp⟩:=l2.tup s;have hv:=hp.vs h.2;subst hv;have hx:=Al.v l1 h.1;subst hx;refine⟨a,_,rfl,.inr (oU.of ha),D.flat h.1,u6 h.2,?_⟩;rw[Jj h.1 h.2];exact w _ F H (.refl s) (Al.of (.bl _))
  ·rw[if_neg h]at e;cases e
 |kt ds=>
  unfold inD at e;dsimp only at e;by_cases h:d1.sc=true/\ds.all D.sc=true
  ·rw[if_pos h]at e;cases e;obtain⟨a,vs,rfl,ha,hp⟩:=l2.kt;have hv:=Pr.vs (n:=0) (F:=F) (G:=H) (hp.mono λ_ _ q=>q) h.2;subst hv;have hx:=Al.v l1 h.1;subst hx;refine⟨a,_,rfl,.inr (.inr ha),D.flat h.1,u6 h.2,?_⟩;rw[Jj h.1 h.2];exact w _ F H (.refl s) (Al.of (.bl _))
  ·rw[if_neg h]at e;cases e
 |_=>cases e
def gx:List D->Option D
 |[.lst ds]=>some (.int ds.length)
 |[.tup ds]=>some (.int ds.length)
 |[.kt ds]=>some (.int ds.length)
 |[.dK ks _]=>some (.int ks.length)
 |[.str x]=>if x.length<=16777216 then some (.int x.length)else none
 |_=>none
def Gk (K:bZ):List V->Hp->VK->Prop:=λxs H Q=>(∃p ys,xs=[.ref p]/\(gZ K H p ys\/oU K H p ys)/\Q (.int ys.length) H)\/(∃z,xs=[.str z]/\z.length<=sizeLine/\Q (.int z.length) H)\/∃a eQ,xs=[V.ref a]/\H a=some (.dK eQ)/\Q (.int eQ.length) H
theorem WM:iq X (.builtin "len") (Gk X.K):=Vv.or (Vw.or WW)
theorem Y6:Bc K ct [n] k (Gk K) gx:=by
 intro F H vs ds d Q s l e w;cases l with
 |cons h t=>
  cases t;rename_i d1 v;cases d1 with
  |lst xs=>cases e;obtain⟨a,us,rfl,ha,hp⟩:=h.lst s;refine .inl ⟨a,us,rfl,.inl ha,?_⟩;rw[←hp.length];exact w _ F H (.refl s) (Al.of (.int _))
  |tup xs=>cases e;obtain⟨a,us,rfl,ha,hp⟩:=h.tup s;refine .inl ⟨a,us,rfl,.inr (oU.of ha),?_⟩;rw[←hp.length];exact w _ F H (.refl s) (Al.of (.int _))
  |kt xs=>cases e;obtain⟨a,us,rfl,ha,hp⟩:=h.kt;refine .inl ⟨a,us,rfl,.inr (.inr ha),?_⟩;rw[←hp.length];exact w _ F H (.refl s) (Al.of (.int _))
  |str x=>
   unfold gx at e;dsimp only at e;by_cases hz:x.length<=16777216
   ·rw[if_pos hz]at e;cases e;exact .inr (.inl ⟨x,by rw[h.str],by rw[dD];exact hz,w _ F H (.refl s) (Al.of (.int _))⟩)
   ·rw[if_neg hz]at e;cases e
  |dK ks xs=>cases e;obtain⟨a,us,rfl,ha,hl,hp⟩:=h.dK s;refine .inr (.inr ⟨a,_,rfl,ha,?_⟩);rw[kZ,←hl,pX];exact w _ F H (.refl s) (Al.of (.int _))
  |_=>cases e
variable {ι:Type}{cap:List Nat}{oV:Expr}{ifs:List Expr}{om:List Mo}{own:Nat}{scope:oC}
theorem zvy {Xs:ι->Cx}(hK:∀i,(Xs i).K=K)(h:∀i,XO (Xs i) ct ms n e f):∃t,(∀i,PE (Xs i) e t)/\∀(F0 B F H:Hp) (ρ:Env) (σ:St) (d:D) (Q:VK),RS K ct F0 B ms F H ρ σ->f ρ=some d ->
  (∀v F' H' fp,ir F H F' H'->Ow K ct F' H' n d v fp->fp.Nodup->(∀a∈fp,H a=none)->Q v H')->t σ H Q:=by
 refine⟨λσ H Q=>∀i,(h i).choose σ H Q,λi bX s σ H Q I q=>(h i).choose_spec.1 bX s σ H Q I (q i),λF0 B F H ρ σ d Q rs e w i=>?_⟩;exact(h i).choose_spec.2 F0 B F H ρ σ d Q (by rw[hK i];exact rs) e λv F' H' fp x l=>w v F' H' fp x (by rw[←hK i];exact l)
def Cg (X:Cx)(ct:Nat->ce)(ms:List Mo)(ifs:List Expr)(f:BF):Prop:=∃t,Ce X ifs t/\∀(F0 B F H:Hp) (ρ:Env) (σ:St) (b:Bool) (Q:Bool->Hp->Prop),RS X.K ct F0 B ms F H ρ σ->f ρ=some b->(∀F' H',ir F H F' H'->Q b H')->t σ H Q
def mK:BF:=λ_=>some true
theorem x8:Cg X ct ms [] mK:=⟨_,Zp,λF0 B F H ρ σ b Q rs e w=>by cases e;exact w F H (.refl rs.fh)⟩
theorem IE (h:XT X ct ms c p):Cg X ct ms [c] p:=by obtain⟨t,pt,qt⟩:=h;exact⟨t,Zq pt,qt⟩
theorem zvz {Xs:ι->Cx}{f:BF}(hK:∀i,(Xs i).K=K)(h:∀i,Cg (Xs i) ct ms ifs f):∃t,(∀i,Ce (Xs i) ifs t)/\∀(F0 B F H:Hp) (ρ:Env) (σ:St) (b:Bool) (Q:Bool->Hp->Prop),RS K ct F0 B ms F H ρ σ->f ρ=some b ->
  (∀F' H',ir F H F' H'->Q b H')->t σ H Q:=by
 refine⟨λσ H Q=>∀i,(h i).choose σ H Q,λi bX s σ H Q I q=>(h i).choose_spec.1 bX s σ H Q I (q i),λF0 B F H ρ σ d Q rs e w i=>?_⟩;exact(h i).choose_spec.2 F0 B F H ρ σ d Q (by rw[hK i];exact rs) e w
def CA (g:α->St->Hp->(St->Hp->Prop)->Prop):Prop:=∀v σ H Q Q',(∀σ' H',Q σ' H'->Q' σ' H')->g v σ H Q->g v σ H Q'
def Bf (X:Cx)(ct:Nat->ce)(ms:List Mo)(own n:Nat)(tg:Expr)(g:D->Env->Option Env):Prop:=∃t,PG X tg t/\kD own t/\CA t/\∀(F0 B F H:Hp) (ρ ρ':Env) (σ:St) (d:D) (v:V) (Q:St->Hp->Prop),RS X.K ct F0 B ms F H ρ σ->Al X.K ct F B n d v->g d ρ=some ρ' ->
 (∀σ',RS X.K ct F0 B ms F H ρ' σ'->Q σ' H)->t v σ H Q
theorem zv0 {Xs:ι->Cx}{g:D->Env->Option Env}(hK:∀i,(Xs i).K=K)(h:∀i,Bf (Xs i) ct ms own n tg g):∃t,(∀i,PG (Xs i) tg t)/\kD own t/\∀(F0 B F H:Hp) (ρ ρ':Env) (σ:St) (d:D) (v:V) (Q:St->Hp->Prop),RS K ct F0 B ms F H ρ σ->Al K ct F B n d v->g d ρ=some ρ' ->
  (∀σ',RS K ct F0 B ms F H ρ' σ'->Q σ' H)->t v σ H Q:=by
 refine⟨λv σ H Q=>∀i,(h i).choose v σ H Q,λi bX s σ H v u Q I r q=>(h i).choose_spec.1 bX s σ H v u Q I r (q i),λv σ H Q q i=>(h i).choose_spec.2.1 v σ H Q (q i),λF0 B F H ρ ρ' σ d v Q rs l e w i=>?_⟩;exact(h i).choose_spec.2.2.2 F0 B F H ρ ρ' σ d v Q (by rw[hK i];exact rs) (by rw[hK i];exact l) e λσ' r=>w σ' (by rw[←hK i];exact r)
theorem Yl (ho:i<own)(hm:ms[i]?=some (.ow 0))(hN:X.N.Nodup)(hi:X.N[i]?=some x)(hx:Loc X.env.scope x)
  (hf:uZ X x:=by walk_at "v2"):Bf X ct ms own 0 (.Name x pos) (gV i):=by
 refine⟨_,PK hN hi hx hf,We i own ho,λv σ H Q Q' m q=>m _ _ q,λF0 B F H ρ ρ' σ d v Q rs l e w=>?_⟩;cases e;exact w _ (rs.set hm (.refl rs.fh) (Ow.zero l) dk λa z=>(by cases z))
def Dn (own:Nat)(g:Be):Prop:=∀v σ H Q,g v σ H Q->g v σ H λσ' H'=>Q σ' H'/\σ'.length = σ.length/\∀i,own<=i->σ'[i]? = σ[i]?
def Bx (X:Cx)(ct:Nat->ce)(ms:List Mo)(own n:Nat)(oA:List Expr)(g:List D->Env->Option Env):Prop:=∃t,CV X oA t/\Dn own t/\CA t/\(∀ds ρ ρ',g ds ρ=some ρ'->ds.length=oA.length)/\∀(F0 B F H:Hp) (ρ ρ':Env) (σ:St) (ds:List D) (vs:List V) (Q:St->Hp->Prop),RS X.K ct F0 B ms F H ρ σ->Pr (Al X.K ct F B n) ds vs->g ds ρ=some ρ' ->
 (∀σ',RS X.K ct F0 B ms F H ρ' σ'->Q σ' H)->t vs σ H Q
theorem Ym:Bx X ct ms own n [] gsNil:=by
 refine⟨_,PL,λv σ H Q q=>⟨q.1,q.2,rfl,λ_ _=>rfl⟩,λv σ H Q Q' m q=>⟨q.1,m _ _ q.2⟩,λds ρ ρ' e=>?_,λF0 B F H ρ ρ' σ ds vs Q rs l e w=>?_⟩
 ·cases ds with
  |nil=>rfl
  |cons d ds=>cases e
 ·cases l with
  |nil=>cases e;exact⟨rfl,w σ rs⟩
  |cons _ _=>cases e
theorem Lz (h1:Bf X ct ms own n tg gg)(h2:Bx X ct ms own n oA gs)
  (hs:(eK (tg::oA) X.env).map (·.2)=pj tg X.env::(eK oA X.env).map (·.2):=by rfl):Bx X ct ms own n (tg::oA) (gsCons gg gs):=by
 obtain⟨t,pt,kt,mt,qt⟩:=h1;obtain⟨t2,pO,T3,NI,FW,tL⟩:=h2;refine⟨_,O5 pt pO hs,λvs σ H Q q=>?_,λvs σ H Q Q' m q=>?_,λds ρ ρ' e=>?_,λF0 B F H ρ ρ' σ ds vs Q rs l e w=>?_⟩
 ·obtain⟨v,r,e,q⟩:=q;refine⟨v,r,e,mt _ _ _ _ _ (λσ' H' z=>?_) (kt v σ H _ q)⟩;obtain⟨z1,z2,z3⟩:=z;refine NI _ _ _ _ _ (λσ2 H2 y=>?_) (T3 r σ' H' Q z1);exact⟨y.1,y.2.1.trans z2,λi hi=>(y.2.2 i hi).trans (z3 i hi)⟩
 ·obtain⟨v,r,e,q⟩:=q;exact⟨v,r,e,mt _ _ _ _ _ (λσ' H' z=>NI _ _ _ _ _ m z) q⟩
 ·cases ds with
  |nil=>cases e
  |cons d ds=>obtain⟨ρ1,h3,h4⟩:=cQ e;rw[cm,cm,FW _ _ _ h4]
 ·cases l with
  |nil=>cases e
  |cons h t'=>obtain⟨ρ1,h3,h4⟩:=cQ e;exact⟨_,_,rfl,qt F0 B F H ρ ρ1 σ _ _ _ rs h h3 λσ1 r1=>tL F0 B F H ρ1 ρ' σ1 _ _ _ r1 t' h4 w⟩
theorem Y7 (hc:X.calm=true)(h:Bx X ct ms own (n-1) oA gs)(hl:(eK oA X.env).length=oA.length:=by rfl)(ky:(eK oA X.env).findIdx? (·.1)=none:=by rfl):Bf X ct ms own n (.Tuple oA j pos) (gT gs):=by
 obtain⟨t,pt,kt,mt,lt,qt⟩:=h;refine⟨_,QX (n:=oA.length) hc pt hl ky,λv σ H Q q=>?_,λv σ H Q Q' m q=>?_,λF0 B F H ρ ρ' σ d v Q rs l e w=>?_⟩
 ·obtain⟨a,xs,e,h1,h2,q⟩:=q;exact⟨a,xs,e,h1,h2,kt _ _ _ _ q⟩
 ·obtain⟨a,xs,e,h1,h2,q⟩:=q;exact⟨a,xs,e,h1,h2,mt _ _ _ _ _ m q⟩
 cases d with
 |tup ds=>
  have:∃a vs,v=.ref a/\oU X.K H a vs/\Pr (Al X.K ct F B (n-1)) ds vs:=by
   cases n with
   |zero=>
    have l:Dt X.K ct F (.tup ds) v:=l;cases l with
    |tup q t=>exact⟨_,_,rfl,oU.of (rs.fh _ _ q),t.pr⟩
   |succ n=>
    rcases l with l|l
    ·cases l with
     |tup q t=>exact⟨_,_,rfl,oU.of (rs.fh _ _ q),t.pr.mono λ_ _=>Al.of⟩
    ·cases l with
     |tup q t=>exact⟨_,_,rfl,oU.of (rs.fh _ _ q),t⟩
  obtain⟨a,vs,rfl,ha,hp⟩:=this;exact⟨a,vs,rfl,ha,hp.length.symm.trans (lt _ _ _ e),qt F0 B F H ρ ρ' σ ds vs Q rs hp e w⟩
 |_=>cases e
def oZ (ρ:Env)(cap:List Nat):Env:=cap.map λi=>(ρ[i]?).join
def ko (ms:List Mo)(cap:List Nat):List Mo:=cap.map λi=>.al (((ms[i]?).map Mo.lv).getD 0)
def sC (g:D->Env->Option Env)(p:BF)(f:EF)(ρ0:Env):List D->Option (List D)
 |[]=>some []
 |d::ds=>(g d ρ0).bind λρ1=>(p ρ1).bind λb=>if b=true then(f ρ1).bind λy=>(sC g p f ρ0 ds).bind λys=>some (y::ys)else sC g p f ρ0 ds
def iR (fi:Env->Option (List D))(own:Nat)(cap:List Nat)(g:D->Env->Option Env)(p:BF)(f:EF):EF:=λρ=>(fi ρ).bind λds=>if ds.length<=16777216 then(sC g p f (cE own none++oZ ρ cap) ds).bind λys=>some (.lst ys)else none
theorem SL.caps {F B H:Hp}{ms:List Mo}{ρ:Env}{σ:St}(rs:RS K ct F0 B ms F H ρ σ):∀{cap:List Nat},(∀i∈cap,i<ms.length)->SL K ct F H H (ko ms cap) (oZ ρ cap) (lC σ cap) []
 |[],_=>.nil
 |i::cap,h=>by
  have ih:=SL.caps rs (cap:=cap) λj hj=>h j (cj _ hj);have hi:i<ms.length:=h i b9;have hm:ms[i]?=some ms[i]:=by simp[hi]
  show SL K ct F H H (.al (((ms[i]?).map Mo.lv).getD 0)::ko ms cap) ((ρ[i]?).join::oZ ρ cap) ((σ[i]?).join::lC σ cap) [];cases e:(ρ[i]?).join with
  |none=>exact .no ih
  |some d=>obtain⟨v,hv,l⟩:=rs.get hm (z6 e);rw[hv,hm];exact .al l ih
theorem SL.nones {F B H:Hp}{ms KM:List Mo}{ρ:Env}{σ:St}{fp:List ce}(t:SL K ct F B H ms ρ σ fp):∀{om:List Mo},SL K ct F B H (om++ms) (cE om.length none ++ ρ) (cE om.length none ++ σ) fp
 |[]=>t
 |m::om=>.no (SL.nones (KM:=KM) t)
theorem Pe {pos:m9}{c:Prop}
  (B:oy X scope N own cap) (hc:c) (ho:om.length=own) (rj:∀i∈cap,i<ms.length) (hi:By X c ct ms n tg iter fi)
  (hg:∀cl C fp s₀ H₀,Bf (nv X scope cl N C fp s₀ H₀) ct (om++ko ms cap) own n tg gg) (ht:∀cl C fp s₀ H₀,Cg (nv X scope cl N C fp s₀ H₀) ct (om++ko ms cap) ifs p) (he:∀cl C fp s₀ H₀,XO (nv X scope cl N C fp s₀ H₀) ct (om++ko ms cap) k oV f)
  :
  ∃wi g tt te,DZ X c tg iter wi/\kD own g/\(∀cl C fp s₀ H₀,PG (nv X scope cl N C fp s₀ H₀) tg g)/\(∀cl C fp s₀ H₀,Ce (nv X scope cl N C fp s₀ H₀) ifs tt)/\(∀cl C fp s₀ H₀,PE (nv X scope cl N C fp s₀ H₀) oV te) /\
   ∀(F0 B F H:Hp) (ρ:Env) (σ:St) (d:D) (Q:VK),RS X.K ct F0 B ms F H ρ σ->iR fi own cap gg p f ρ=some d->(∀v F' H' fp,ir F H F' H'->Ow X.K ct F' H' (k+1) d v fp->fp.Nodup->(∀a∈fp,H a=none)->Q v H')->xK wi own cap g tt te σ H Q:=by
 obtain⟨wi,pi,qi⟩:=hi;obtain⟨Lo,pg,kg,qg⟩:=zv0 (K:=X.K) (Xs:=λz:List (Str×ce)×ce×List ce×cq×Hp=>nv X scope z.1 N z.2.1 z.2.2.1 z.2.2.2.1 z.2.2.2.2) (λ_=>rfl) (λz=>hg z.1 z.2.1 z.2.2.1 z.2.2.2.1 z.2.2.2.2);obtain⟨tt,pt,qt⟩:=zvz (K:=X.K) (Xs:=λz:List (Str×ce)×ce×List ce×cq×Hp=>nv X scope z.1 N z.2.1 z.2.2.1 z.2.2.2.1 z.2.2.2.2) (λ_=>rfl) (λz=>ht z.1 z.2.1 z.2.2.1 z.2.2.2.1 z.2.2.2.2);obtain⟨te,pe,qe⟩:=zvy (K:=X.K) (Xs:=λz:List (Str×ce)×ce×List ce×cq×Hp=>nv X scope z.1 N z.2.1 z.2.2.1 z.2.2.2.1 z.2.2.2.2) (λ_=>rfl) (λz=>he z.1 z.2.1 z.2.2.1 z.2.2.2.1 z.2.2.2.2);refine⟨wi,Lo,tt,te,pi,kg,(λcl C fp s₀ H₀=>pg (cl,C,fp,s₀,H₀)),(λcl C fp s₀ H₀=>pt (cl,C,fp,s₀,H₀)),(λcl C fp s₀ H₀=>pe (cl,C,fp,s₀,H₀)),λF0 B F H ρ σ r Q rs e w=>?_⟩;obtain⟨ds,h1,h2⟩:=cQ e;by_cases hz:ds.length<=16777216
 case neg=>rw[if_neg hz]at h2;cases h2
 rw[if_pos hz]at h2;obtain⟨ys,h3,h4⟩:=cQ h2;cases h4;refine qi F0 B F H ρ σ ds _ rs h1 λJ F1 H1 x1 ok A hA=>?_;have wD:=rs.ext x1;refine⟨λi m us H2=>m=ds.length-i/\i<=ds.length/\us.length<=i/\H2 A=some (.lst us)/\∃F2 yd zd fp,ir F1 H1 F2 H2/\F2 A=none/\jU (Ow X.K ct F2 H2 k) yd us fp/\fp.Nodup/\(∀a∈fp,H1 a=none/\a≠A)/\sC gg p f (cE own none++oZ ρ cap) (ds.drop i)=some zd/\yd++zd=ys,
  ⟨ds.length,rfl,eI _,cI _,zk,F1,[],ys,[],ir.newO x1.fh hA _,x1.fh.free hA,.nil,dk,λa z=>(by cases z),h3,rfl⟩,?_⟩
 rintro i m us H2 ⟨rfl,Nk,Nv,Hj,F2,yd,zd,fp,x2,fA,ol,nd,hf,lT,Hx⟩;refine⟨Hj,?_⟩;have Ug:=wD.ext x2;obtain⟨k1,k2⟩:=ok i F2 H2 x2.ff x2.hh x2.fh;by_cases pz:i<ds.length
 ·right;have hd:ds[i]?=some ds[i]:=by simp[pz]
  obtain⟨go,yl⟩:=k1 _ hd;rw[ml pz]at lT;obtain⟨ρ1,h5,h6⟩:=cQ lT;obtain⟨b,h7,h8⟩:=cQ h6;refine⟨go,by rw[dD];omega,λx H3 y=>?_⟩;obtain⟨F3,x3,l⟩:=yl x H3 y;have Uh:=Ug.ext x3;have sl:=SL.nones (KM:=[]) (SL.caps Uh rj) (om:=om);rw[ho]at sl;have Ui:RS X.K ct F3 H3 (om++ko ms cap) F3 H3 (cE own none++oZ ρ cap) (cE own none++lC σ cap):=⟨.refl _,.refl _,x3.fh,λ_ _ _ _ h=>h,[],sl,dk,λa z=>(by cases z)⟩;have A3:H3 A=some (.lst us):=x3.hh _ _ Hj;have M2:F3 A=none:=x3.nf A _ Hj nofun fA;refine qg F3 H3 F3 H3 _ ρ1 _ _ x _ Ui (l.mono (.refl _) (x2.trans x3).hh) h5 λσ1 r1=>?_;refine qt F3 H3 F3 H3 ρ1 σ1 b _ r1 h7 λF4 H4 x4=>?_;cases b with
  |false=>rw[if_neg cD]at h8 ⊢;have N7:=x3.trans x4;refine⟨ds.length-(i+1),by omega,rfl,pz,by omega,x4.hh _ _ A3,F4,yd,zd,fp,x2.trans N7,x4.nf A _ A3 nofun M2,ol.mono λ_ _ _ _ o=>o.ext N7,nd,hf,h8,Hx⟩
  |true=>
   rw[if_pos rfl]at h8 ⊢;obtain⟨yv,h9,D9⟩:=cQ h8;obtain⟨zs,SG,SH⟩:=cQ D9;cases SH;refine qe F3 H3 F4 H4 ρ1 σ1 yv _ (r1.ext x4) h9 λv F5 H5 f5 x5 o5 n5 JZ=>?_;have Lu:=(x3.trans x4).trans x5;have N8:=x4.trans x5;have A5:H5 A=some (.lst us):=N8.hh _ _ A3;have M3:F5 A=none:=N8.nf A _ A3 nofun M2;have A4:H4 A=some (.lst us):=x4.hh _ _ A3;have M7:∀a∈f5,a≠A:=λa z e=>by rw[e]at z;rw[JZ A z]at A4;cases A4
   refine⟨A5,ds.length-(i+1),by omega,rfl,pz,by rw[cp,eG];omega,zk,F5,yd++[yv],zs,fp++(f5++[]),?_,M3,?_,?_,?_,SG,by rw[eh];exact Hx⟩
   ·have Ip:=x2.trans Lu;refine⟨Ip.ff,λa o h=>?_,λa o h=>?_,Ip.nf⟩
    ·rw[zj (zl h hA)];exact Ip.hh _ _ h
    ·rw[zj (λz=>by rw[z]at h;rw[M3]at h;cases h)];exact Ip.fh _ _ h
   ·refine(ol.mono λ_ _ f Te o=>?_).append (.cons ?_ .nil)
    ·refine(o.ext Lu).frame (.refl _) λa z=>⟨zj (hf a (Te a z)).2,((o.ext Lu).cells a z).1⟩
    ·exact o5.frame (.refl _) λa z=>⟨zj (M7 a z),(o5.cells a z).1⟩
   ·rw[cS];refine c8.mpr ⟨nd,n5,λa z c hc e=>?_⟩;subst e;have:∃o,H2 a=some o:=let⟨o,h,_⟩:=(jU.cellsOf ol a z).2;⟨o,h⟩;obtain⟨o,ho⟩:=this;have:=x4.hh _ _ (x3.hh _ _ ho);rw[JZ a hc]at this;cases this
   ·intro a z;rw[cS]at z;rcases cG.mp z with z|z
    ·exact hf a z
    ·refine⟨?_,M7 a z⟩;have UX:=x2.trans (x3.trans x4);exact UX.hh.free (JZ a z)
 ·left;refine⟨k2 (by omega),?_⟩
  have:ds.drop i=[]:=nq (by omega);rw[this]at lT;cases lT;rw[cS]at Hx;subst Hx;refine w _ F2 H2 (A::fp) (x1.trans x2) (.inr (.lst fA Hj ol)) (dC.mpr ⟨λz=>(hf A z).2 rfl,nd⟩) λa z=>?_;rcases cn.mp z with rfl|z
  ·exact x1.hh.free hA
  ·exact x1.hh.free (hf a z).1
theorem P5 {c:Prop}
  (B:oy X scope N own cap) (hc:c) (ho:om.length=own) (rj:∀i∈cap,i<ms.length) (hi:By X c ct ms n tg iter fi)
  (hg:∀cl C fp s₀ H₀,Bf (nv X scope cl N C fp s₀ H₀) ct (om++ko ms cap) own n tg gg) (ht:∀cl C fp s₀ H₀,Cg (nv X scope cl N C fp s₀ H₀) ct (om++ko ms cap) ifs p) (he:∀cl C fp s₀ H₀,XO (nv X scope cl N C fp s₀ H₀) ct (om++ko ms cap) k oV f)
  (hs:Aj X iter:=by intro _;rfl):XO X ct ms (k+1) (.ListComp oV [⟨tg,iter,ifs,0⟩] scope pos) (iR fi own cap gg p f):=by
 obtain⟨wi,g,tt,te,pi,kg,pg,pt,pe,q⟩:=Pe (k:=k) (pos:=pos) B hc ho rj hi hg ht he;exact⟨_,Zr B hc pi kg pg pt pe hs,q⟩
variable {pt:m9}
def Fa:D->Option (List D)
 |.lst ds=>some ds
 |_=>none
theorem qp (h:Fa d=some ds):d=.lst ds:=by cases d<;>simp[Fa]at h;subst h;rfl
def lsD (f:EF):Env->Option (List D):=λρ=>(f ρ).bind Fa
theorem Mz {G:Hp}{a:ce}{vs:List V}(hp:Pr (Al K ct F B n) ds vs)(keep:∀F' H',dz F F'->dz B H'->dz F' H'->gZ K H' a vs):yD K ct F B n (DX K a) ds:=by intro i F' H' s1 s2 s3;have hs:gZ K H' a vs:=keep F' H' s1 s2 s3;refine⟨λd hd=>?_,λhl=>⟨vs,hs,by rw[←hp.length];exact hl⟩⟩;obtain⟨v,hv,l⟩:=hp.get' hd;refine⟨⟨vs,v,hs,hv⟩,λx H2 y=>?_⟩;obtain⟨e,y⟩:=y;subst e;have:=y vs hs;rw[hv]at this;cases this;exact⟨F',.refl s3,l.mono s1 (.refl _)⟩
theorem Dt.lst_inv {v:V}(h:Dt K ct F (.lst ds) v):∃a vs,v=.ref a/\gZ K F a vs/\Dts K ct F ds vs:=by
 cases h with
 |lst q t=>exact⟨_,_,rfl,q,t⟩
theorem IF (he:XE X ct ms 0 e f):XI X ct ms 0 tg e (lsD f):=by obtain⟨t,pt,qt⟩:=he;refine⟨_,PM pt,λF0 B F H ρ σ ds R rs e w=>?_⟩;obtain⟨d,h1,h2⟩:=cQ e;rw[qp h2]at h1;refine qt F0 B F H ρ σ _ _ rs h1 λv F' H' x l=>?_;obtain⟨a,vs,rfl,ha,hp⟩:=Dt.lst_inv l;exact⟨a,rfl,⟨vs,x.fh.seq ha⟩,w _ F' H' x (Mz (G:=H') (n:=0) (hp.pr) λF2 H2 s1 s2 s3=>s3.seq (s1.seq ha))⟩
theorem wo (he:XE X ct ms n e f):XIc X ct ms (n-1) tg e (lsD f):=by obtain⟨t,pt,qt⟩:=he;refine⟨_,PM pt,λF0 B F H ρ σ ds R rs e w=>?_⟩;obtain⟨d,h1,h2⟩:=cQ e;rw[qp h2]at h1;refine qt F0 B F H ρ σ _ _ rs h1 λv F' H' x l=>?_;obtain⟨a,vs,rfl,ha,hp⟩:=l.lst x.fh;exact⟨a,rfl,⟨vs,ha⟩,w _ F' H' x (Mz (G:=H') hp λF2 H2 s1 s2 s3=>s2.seq ha)⟩
theorem XI.cc (h:XI X ct ms n tg e fi):XIc X ct ms n tg e fi:=by obtain⟨t,pt,qt⟩:=h;refine⟨t,pt,λF0 B F H ρ σ ds R rs e w=>qt F0 B F H ρ σ ds R rs e λJ F' H' x ok=>w J F' H' x λi F2 H2 s1 s2 s3=>?_⟩;obtain⟨k1,k2⟩:=ok i F2 H2 s1 ((rs.ext x).bh.trans s2) s3;refine⟨λd hd=>?_,k2⟩;obtain⟨go,yl⟩:=k1 d hd;refine⟨go,λv H3 y=>?_⟩;obtain⟨F3,x3,l⟩:=yl v H3 y;exact⟨F3,x3,l.mono (.refl _) (rs.ext x).bh⟩
def kW (lo:Int)(j:Nat):List D:=(dQ j).map λ(t:Nat)=>.int (lo+(t:Int))
def si:List D->Option (List D)
 |[.int j]=>if -4611686018427387904<=j/\j<4611686018427387904 then some (kW 0 j.toNat)else none
 |_=>none
def yO:List D->Option (List D)
 |[.int i,.int j]=>if -4611686018427387904<=i/\i<4611686018427387904/\-4611686018427387904<=j/\j<4611686018427387904 then some (kW i (j-i).toNat)else none
 |_=>none
theorem Q6 {lo:Int}:yD K ct F B n (EU lo j) (kW lo j):=by
 intro i F' H' s1 s2 s3;unfold kW;refine⟨λd hd=>?_,λhl=>(show j<=i by simpa using hl)⟩;rw[dG]at hd;by_cases h:i<j
 ·rw[wR h]at hd;cases hd;refine⟨h,λx H2 y=>?_⟩;obtain⟨e,y⟩:=y;subst e;subst y;exact⟨F',.refl s3,Al.of (.int _)⟩
 ·rw[List.getElem?_eq_none (by simpa using h)]at hd;cases hd
theorem vi (hm:X.mg "range"=none)(ha:XA X ct ms [a] [m] fs)(hg:Gl X "range":=by rfl)(hs:SN X a:=by rfl):XI X ct ms n tg (.Call (.Name "range" pp) [a] [] pos) (λρ=>(fs ρ).bind si):=by
 obtain⟨t,pt,_,qt⟩:=ha;refine⟨_,Wl hg hm pt hs,λF0 B F H ρ σ ds R rs e w=>?_⟩;obtain⟨yH,h1,h2⟩:=cQ e;refine qt F0 B F H ρ σ _ _ rs h1 λvs F' H' x l=>?_;cases l with
 |cons h t=>
  cases t;rename_i d v;cases d with
  |int j=>
   unfold si at h2;dsimp only at h2;by_cases hj:-4611686018427387904<=j/\j<4611686018427387904
   ·rw[if_pos hj]at h2;cases h2;exact⟨j,by rw[h.int],by omega,by omega,w _ F' H' x Q6⟩
   ·rw[if_neg hj]at h2;cases h2
  |_=>cases h2
theorem Xg {m':Nat}(hm:X.mg "range"=none)(ha:XA X ct ms [a,b] [m,m'] fs)(hg:Gl X "range":=by rfl)(hs:c9 [a,b] X.env=[(false,ei a X.env),(false,ei b X.env)]:=by rfl)(o8:SN X b:=by rfl):XI X ct ms n tg (.Call (.Name "range" pp) [a,b] [] pos) (λρ=>(fs ρ).bind yO):=by
 obtain⟨t,pt,_,qt⟩:=ha;refine⟨_,Wm hg hm pt hs o8,λF0 B F H ρ σ ds R rs e w=>?_⟩;obtain⟨yH,h1,h2⟩:=cQ e;refine qt F0 B F H ρ σ _ _ rs h1 λvs F' H' x l=>?_;cases l with
 |cons h t=>
  cases t with
  |cons h' t=>
   cases t;rename_i d v d' v';cases d with
   |int i=>
    cases d' with
    |int j=>
     unfold yO at h2;dsimp only at h2;by_cases hj:-4611686018427387904<=i/\i<4611686018427387904/\-4611686018427387904<=j/\j<4611686018427387904
     ·rw[if_pos hj]at h2;cases h2;exact⟨i,j,by rw[h.int,h'.int],⟨by omega,by omega,by omega,by omega⟩,w _ F' H' x Q6⟩
     ·rw[if_neg hj]at h2;cases h2
    |_=>cases h2
   |_=>cases h2
def jF (i:Nat):List D->List D
 |[]=>[]
 |d::ds=>.tup [.int i,d]::jF (i+1) ds
theorem LA:∀{ds:List D} {j i:Nat} {d:D},(jF j ds)[i]?=some d->∃x,ds[i]?=some x/\d=.tup [.int (j+i:Nat),x]
 |[],_,_,_,h=>by simp[jF]at h
 |x::ds,j,0,d,h=>by simp[jF]at h;subst h;exact⟨x,rfl,rfl⟩
 |x::ds,j,i+1,d,h=>by obtain⟨y,h1,h2⟩:=LA (ds:=ds) (j:=j+1) (i:=i) (d:=d) (by simpa[jF]using h);exact⟨y,by simpa using h1,by rw[h2,Nat.add_assoc,Nat.add_comm 1 i]⟩
theorem vk:∀{ds:List D} {j:Nat},(jF j ds).length=ds.length
 |[],_=>rfl
 |_::ds,j=>by simp[jF,vk (ds:=ds)]
theorem zud {a:ce}{vs:List V}(hp:Pr (Al K ct F B n) ds vs)(keep:∀F' H',dz F F'->dz B H'->dz F' H'->gZ K H' a vs):yD K ct F B (n+1) (Jo K a) (jF 0 ds):=by intro i F' H' s1 s2 s3;have hs:gZ K H' a vs:=keep F' H' s1 s2 s3;refine⟨λd hd=>?_,λhl=>⟨vs,hs,by rw[←hp.length];rw[vk]at hl;exact hl⟩⟩;obtain⟨x,hx,rfl⟩:=LA hd;obtain⟨v,hv,l⟩:=hp.get' hx;refine⟨⟨vs,v,hs,hv⟩,λz H2 y=>?_⟩;obtain⟨r,y',hr,rfl,rfl,y⟩:=y;have:=y vs hs;rw[hv]at this;cases this;refine⟨_,ir.newS s3 hr _,.inr (.tup zk (.cons (Al.of ?_) (.cons (l.mono (s1.trans (yn (s3.free hr) _)) (.refl _)) .nil)))⟩;rw[pY];exact .int _
theorem P6 {rY:List Expr}{kt:Nat}(hm:X.mg "enumerate"=none)(ha:XA X ct ms [a] [0] fs)(hg:Gl X "enumerate":=by rfl)(hs:SN X a:=by rfl) :
  XI X ct ms 1 (.Tuple rY kt pt) (.Call (.Name "enumerate" pp) [a] [] pos) (λρ=>(fs ρ).bind λds=>match ds with|[.lst xs]=>some (jF 0 xs)|_=>none):=by
 obtain⟨t,pt,_,qt⟩:=ha;refine⟨_,Zs hg hm pt hs,λF0 B F H ρ σ ds R rs e w=>?_⟩;obtain⟨yH,h1,h2⟩:=cQ e;refine qt F0 B F H ρ σ _ _ rs h1 λvs F' H' x l=>?_;cases l with
 |cons h t=>
  cases t;rename_i d v;cases d with
  |lst xs=>cases h2;obtain⟨a,vs,rfl,ha,hp⟩:=Dt.lst_inv h;exact⟨a,rfl,⟨vs,x.fh.seq ha⟩,w _ F' H' x (zud (n:=0) hp.pr λF2 H2 s1 s2 s3=>s3.seq (s1.seq ha))⟩
  |_=>cases h2
variable {gU p1:m9}{d':D}
theorem Ow.lst_inv {v:V}(h:Ow K ct F H (k+1) (.lst ds) v fp):∃a vs fr,v=.ref a/\fp=a::fr/\F a=none/\H a=some (.lst vs)/\jU (Ow K ct F H k) ds vs fr:=by
 rcases h with⟨h,_⟩|h
 ·cases h
 ·cases h with
  |lst h1 h2 h3=>exact⟨_,_,_,rfl,rfl,h1,h2,h3⟩
theorem Ow.dK_inv {v:V}(h:Ow K ct F H (k+1) (.dK ks ds) v fp):∃a vs fr,v=.ref a/\fp=a::fr/\F a=none/\H a=some (.dK (ks.zip vs))/\ks.length=vs.length/\jU (Ow K ct F H k) ds vs fr:=by
 rcases h with⟨h,_⟩|h
 ·cases h
 ·cases h with
  |dK h1 h2 h3 h4=>exact⟨_,_,_,rfl,rfl,h1,h2,h3,h4⟩
theorem Ow.dT_inv {ks:List (List iW)}{v:V}(h:Ow K ct F H (k+1) (.dT ks ds) v fp):∃a vs fr,v=.ref a/\fp=a::fr/\F a=none/\H a=some (.dT (ks.zip vs))/\ks.length=vs.length/\jU (Ow K ct F H k) ds vs fr:=by
 rcases h with⟨h,_⟩|h
 ·cases h
 ·cases h with
  |dT h1 h2 h3 h4=>exact⟨_,_,_,rfl,rfl,h1,h2,h3,h4⟩
theorem RS.change {v:V}{f1 fr fn:List ce}{ad:ce}{o:HO}(rs:RS K ct F0 B ms F H ρ σ)(hm:ms[i]?=some (.ow k))(x:ir F H F' H')
  (hσ:σ[i]?=some (some v)) (b1:∀a∈f1,B a=none) (dj:∀a∈f1,a∉fr) (cf:∀a∈fr,F a=none/\∃o,H a=some o/\nH o)
  (put:∀(F' H':Hp) (d':D) (v':V) (f':List ce),dz F F'->dz B H'->dz F' H'->(∀a o,B a=some o->nH o->F0 a=none->F' a=none)->(∀a∈fr,H' a=H a/\F' a=none)->Ow K ct F' H' k d' v' f'->f'.Nodup->(∀a∈f',a∉fr)->(∀a∈f',B a=none) ->
    RS K ct F0 B ms F' H' (ρ.set i (some d')) (σ.set i (some v')))
  (Hk:ad∈f1) (Ss:F' ad=none) (o':Ow K ct F' (eS H' ad o) k d' v fn) (nd:fn.Nodup) (vC:∀a∈fn,a∈f1\/H a=none):RS K ct F0 B ms F' (eS H' ad o) (ρ.set i (some d')) σ:=by
 have r:=rs.ext x;have hB:B ad=none:=b1 ad Hk;have res:=put F' (eS H' ad o) d' v fn x.ff (λz u h=>by rw[zj (λe=>by rw[e,hB]at h;cases h)];exact r.bh _ _ h) (λz u h=>by rw[zj (λe=>by rw[e,Ss]at h;cases h)];exact x.fh _ _ h) r.nf
  (λz hz=>by obtain⟨hn,o,ho,nt⟩:=cf z hz;refine⟨?_,x.nf z o ho nt hn⟩;have ne:z≠ad:=λe=>dj ad Hk (by rw[←e];exact hz);rw[zj ne];exact(x.hh _ _ ho).trans ho.symm) o' nd
  (λz hz zr=>by
   rcases vC z hz with h|h
   ·exact dj z h zr
   ·obtain⟨_,o,ho,nt⟩:=cf z zr;rw[h]at ho;cases ho)
  (λz hz=>(vC z hz).elim (b1 z) λh=>rs.bh.free h)
 have e:σ.set i (some v) = σ:=by
  apply my;intro j;by_cases hj:i=j
  ·subst hj;rw[hG (by have:=cM.mp hσ;exact this.1),hσ]
  ·rw[iJ hj]
 rw[e]at res;exact res
def sApp (i:Nat)(f:EF):SF:=λρ=>(eV i ρ).bind λo=>(f ρ).bind λd=>match o with
 |.lst ds=>if ds.length<16777216 then some (.nx (ρ.set i (some (.lst (ds++[d])))))else none
 |_=>none
theorem ya (i:Nat)(hm:ms[i]?=some (.ow (k+1)))(he:XO X ct ms k e f)(hN:X.N[i]?=some x:=by rfl)(hv:vU X.env.scope x:=by walk_at "v1")(hd:lx x:=by decide)
  (lT:yE x:=by decide) (ky:SE X e []:=by rfl)
  (lD:qD (.Name x p1) "append" X.env (ei (.Name x p1) X.env)=ei (.Name x p1) X.env:=by rfl)
  (rm:DW X gU [e]:=by rfl)
  (lE:(gq.endLine==gU.line)=true:=by rfl) (lF:oa X gU []:=by rfl)
  (AH:gQ (.Call (.Attribute (.Name x p1) "append" gq) [e] [] gU) none pos.line X.env=pure false:=by rfl) :
  XS X ct ms rk (.Expr (.Call (.Attribute (.Name x p1) "append" gq) [e] [] gU) pos) (sApp i f):=by
 obtain⟨t,pt,qt⟩:=he;refine⟨_,ve (G1 PySem.F.plainAttrs_list PySem.F.slot_list_append PySem.F.type_list_append Oy (yb hN hv hd lT) (zy pt yy ky) lD rm lE ky lF) AH,λF0 B F H ρ σ o E rs e z=>?_⟩;obtain⟨d1,d2,h1,h2,h3⟩:=gD e;obtain⟨f1,fr,n1,b1,dj,i4,cf,put⟩:=rs.put (F':=F) (H':=H) hm;obtain⟨v,hσ,ow⟩:=i4 d1 (z6 h1);refine⟨v,hσ,?_⟩;cases d1 with
 |lst ds=>
  dsimp only at h3;by_cases hz:ds.length<16777216
  ·rw[if_pos hz]at h3;cases h3;obtain⟨ad,vs,Fe,rfl,rfl,hF,hH,ol⟩:=ow.lst_inv;refine⟨.inl ⟨rfl,_,gZ.of hH⟩,qt F0 B F H ρ σ d2 _ rs h2 λv2 F' H' fp x1 o2 Ep Hm=>?_⟩;have hA:H' ad=some (.lst vs):=x1.hh _ _ hH;have fA:F' ad=none:=x1.nf ad _ hH nofun hF;have nA:∀a∈fp,a≠ad:=λa hz e=>by rw[e]at hz;rw[Hm ad hz]at hH;cases hH
   have KN:=dC.mp n1;refine⟨ad,vs,v2,rfl,rfl,hA,by rw[←ol.length,dD];exact hz,?_⟩;refine z σ F' _ (rs.change hm x1 hσ b1 dj cf put b9 fA (.inr (.lst fA zk ((ol.mono λ_ _ f' hi o'=>?_).append (.cons (f:=fp) ?_ .nil)))) (fn:=ad::(Fe++(fp++[]))) ?_ ?_)
   ·refine(o'.ext x1).frame (.refl _) λa ha=>⟨zj λe=>KN.1 (e▸hi a ha),((o'.ext x1).cells a ha).1⟩
   ·exact o2.frame (.refl _) λa ha=>⟨zj (nA a ha),(o2.cells a ha).1⟩
   ·rw[cS];refine dC.mpr ⟨λhz=>?_,c8.mpr ⟨KN.2,Ep,λa ha b hb e=>?_⟩⟩
    ·rcases cG.mp hz with hz|hz
     ·exact KN.1 hz
     ·exact nA ad hz rfl
    ·subst e;obtain⟨_,o,ho,_⟩:=jU.cellsOf ol a ha;rw[Hm a hb]at ho;cases ho
   ·intro a ha;rw[cS]at ha;rcases cn.mp ha with rfl|ha
    ·exact .inl b9
    ·rcases cG.mp ha with ha|ha
     ·exact .inl (cj _ ha)
     ·exact .inr (Hm a ha)
  ·rw[if_neg hz]at h3;cases h3
 |_=>cases h3
def xJ (ds:List D)(i:Int)(d:D):Option (List D):=(ixN ds.length i).bind λj=>some (ds.set j d)
def iF [DecidableEq κ](ks:List κ)(ds:List D)(k:κ)(d:D):List κ×List D:=if ks.contains k=true then(ks,(ks.zip ds).map λp=>if p.1=k then d else p.2)else(ks++[k],ds++[d])
theorem jU.set0 {R:D->V->List ce->Prop}{d:D}{v:V}(r:R d v [])(z:∀d v f,R d v f->f=[]):∀{ds:List D} {vs:List V} {fp:List ce} (i:Nat),jU R ds vs fp->jU R (ds.set i d) (vs.set i v) []
 |_,_,_,_,.nil=>.nil
 |_,_,_,0,.cons h t=>by have:=jU.cons (f:=[]) (g:=[]) r (jU.ofPr (t.pr λd v f _ q=>by have:=z _ _ _ q;subst this;exact q));exact this
 |_,_,_,i+1,.cons h t=>by have e:=z _ _ _ h;subst e;exact jU.cons (f:=[]) (g:=[]) h (jU.set0 r z i t)
theorem Ow.nil0 {v:V}(h:Ow K ct F H 0 d v fp):fp=[]:=h.2
theorem jU.nil0 {vs:List V}(h:jU (Ow K ct F H 0) ds vs fp):fp=[]:=by
 induction h with
 |nil=>rfl
 |cons h t ih=>rw[h.nil0,ih];rfl
variable {l:ce}{s:cq}{y:Str}
theorem KJ {bX:List (ce×f9)}{xs:List V}(I:Inv X bX σ H s)(hH:Rd H l (.lst xs)):xs.length<=sizeLine/\∃(dJ:List bV) (n:Nat),dA xs dJ/\xs.length=dJ.length/\s.heap.get? l=some { cls:=.type "list",data:=.seq dJ.toArray n }:=by obtain⟨z,dJ,n,r,e⟩:=hH.ok I.hok;exact⟨z,dJ,n,r,r.length,e⟩
def CC (K:bZ):R2:=λx y H Q=>∃l b xs zs,x=.ref l/\y=.ref b/\gZ K H l xs/\gZ K H b zs/\xs.length+zs.length<=sizeLine/\∀p,H p=none->Q (.ref p) (eS H p (.lst (xs++zs)))
theorem ZH:lS X (gz .Add) (CC X.K):=by
 intro bX s σ H x y v u Q I rx ry h;obtain⟨l,b,xs,zs,rfl,rfl,hH,hB,hz,q⟩:=h;cases rx;cases ry;obtain⟨dJ,r,⟨⟨cls,dd,data,sl⟩,n,e,c1,c2,c3⟩,z⟩:=I.list hH;obtain⟨qO,r2,⟨⟨Jv,Hf,data2,Ig⟩,n2,e2,c4,c5,c6⟩,z2⟩:=I.list hB;simp only at c1 c3 c4 c6;subst c1 c3 c4 c6;have hl:=r.length;have rO:=r2.length;refine zL ⟨_,e,rfl⟩ ⟨_,e2,rfl⟩ noFill_list_add seq_list_add PySem.F.slot_list_add PySem.F.entry_list_add (PySem.F.args_list_add_2 _ _) (list_addW l b dJ.toArray qO.toArray n n2 dd Hf sl Ig (by rw[cJ,cJ];omega)) ⟨e,e2,?_⟩;have ea:dJ.toArray++qO.toArray=(dJ++qO).toArray:=by simp
 rw[ea];exact⟨.ref _,_,I.lnew (t':=s.toks) (r.append r2) (by rw[cp];omega),rfl,q _ I.fresh⟩
def Gf:R2:=λx y H Q=>∃i j,x=.str i/\y=.str j/\i.length+j.length<=sizeLine/\Q (.str (i++j)) H
def Du (K:bZ):R2:=λx y H Q=>vF (λi j=>.int (i+j)) x y H Q\/Gf x y H Q\/CC K x y H Q\/CD K x y H Q
theorem IG:lS X (gz .Add) (Du X.K):=lS.or zta (lS.or Wj (lS.or ZH Zd))
def cA:D->D->Option D
 |.int i,.int j=>some (.int (i+j))
 |.str x,.str y=>if x.length+y.length<=16777216 then some (.str (x++y))else none
 |.lst xs,.lst ys=>if xs.length+ys.length<=16777216 then some (.lst (xs++ys))else none
 |.tup xs,.tup ys=>if xs.isEmpty=false/\ys.isEmpty=false/\xs.length+ys.length<=1000000 then some (.tup (xs++ys))else none
 |_,_=>none
theorem Pr.ow0 {vs:List V}(h:Pr (Al K ct F G 0) ds vs):jU (Ow K ct F H 0) ds vs []:=jU.ofPr (h.mono λ_ _ q=>⟨q,rfl⟩)
theorem Al.lst1 {v:V}(hn:n<=1)(h:Al K ct F G n (.lst ds) v)(s:dz F G):∃a vs,v=.ref a/\gZ K G a vs/\Pr (Al K ct F G 0) ds vs:=by
 obtain⟨a,vs,e,h1,h2⟩:=h.lst s;have:n-1=0:=by omega
 rw[this]at h2;exact⟨a,vs,e,h1,h2⟩
theorem Al.tup1 {v:V}(hn:n<=1)(h:Al K ct F G n (.tup ds) v)(s:dz F G):∃a vs,v=.ref a/\G a=some (.tup vs)/\Pr (Al K ct F G 0) ds vs:=by
 obtain⟨a,vs,e,h1,h2⟩:=h.tup s;have:n-1=0:=by omega
 rw[this]at h2;exact⟨a,vs,e,h1,h2⟩
theorem wp {vs:List V}{Q:VK}(s:dz F H)(hp:Pr (Al K ct F H 0) ds vs)(w:∀v F' H' fp,ir F H F' H'->Ow K ct F' H' 1 (.lst ds) v fp->fp.Nodup->(∀a∈fp,H a=none)->Q v H'):∀p,H p=none->Q (.ref p) (eS H p (.lst vs)):=λp h0=>by obtain⟨o,nd⟩:=PV s (hp.ow0 (H:=H)) h0;exact w _ F _ [p] (ir.newO s h0 _) o (nd dk) λa z=>by rw[cz]at z;subst z;exact h0
theorem IH (hn:n<=1)(hm:m<=1):EZ K ct n m 1 (Du K) cA:=by
 intro F H x y d1 d2 d Q s l1 l2 e w;have ws:∀d v,d.sc=true->Dt K ct F d v->(∀v F' H' fp,ir F H F' H'->Ow K ct F' H' 1 d v fp->fp.Nodup->(∀a∈fp,H a=none)->Q v H')->Q v H:=λd v hs hd w=>w v F H [] (.refl s) (Ow.scal hd hs) dk λa z=>(by cases z);cases d1 with
 |int i=>
  cases d2 with
  |int j=>cases e;exact .inl ⟨i,j,l1.int,l2.int,ws _ _ rfl (.int _) w⟩
  |_=>cases e
 |str i=>
  cases d2 with
  |str j=>
   unfold cA at e;dsimp only at e;by_cases hz:i.length+j.length<=16777216
   ·rw[if_pos hz]at e;cases e;exact .inr (.inl ⟨i,j,l1.str,l2.str,by rw[dD];exact hz,ws _ _ rfl (.str _) w⟩)
   ·rw[if_neg hz]at e;cases e
  |_=>cases e
 |lst xs=>
  cases d2 with
  |lst ys=>
   unfold cA at e;dsimp only at e;by_cases hz:xs.length+ys.length<=16777216
   ·rw[if_pos hz]at e;cases e;obtain⟨a,vs,rfl,ha,hp⟩:=Al.lst1 hn l1 s;obtain⟨b,us,rfl,hb,hq⟩:=Al.lst1 hm l2 s;exact .inr (.inr (.inl ⟨a,b,vs,us,rfl,rfl,ha,hb,by rw[←hp.length,←hq.length,dD];exact hz,wp s (hp.append hq) w⟩))
   ·rw[if_neg hz]at e;cases e
  |_=>cases e
 |tup xs=>
  cases d2 with
  |tup ys=>
   unfold cA at e;dsimp only at e;by_cases hz:xs.isEmpty=false/\ys.isEmpty=false/\xs.length+ys.length<=1000000
   ·rw[if_pos hz]at e;cases e;obtain⟨a,vs,rfl,ha,hp⟩:=Al.tup1 hn l1 s;obtain⟨b,us,rfl,hb,hq⟩:=Al.tup1 hm l2 s;have hl:=hp.length;have rO:=hq.length;have e1:vs≠[]:=λz=>by rw[z]at hl;have:=tS.mp hl;rw[this]at hz;exact absurd hz.1 (by decide)
    have e2:us≠[]:=λz=>by rw[z]at rO;have:=tS.mp rO;rw[this]at hz;exact absurd hz.2.1 (by decide)
    refine .inr (.inr (.inr ⟨a,b,vs,us,rfl,rfl,oU.of ha,oU.of hb,e1,by rw[←hl,←rO,dD];omega,λz=>absurd z e2,λ_ p h0=>?_⟩));have x2:=ir.newS s h0 (.tup (vs++us));exact w _ _ _ [] x2 (.inr (.tup zk (jU.ofPr ((hp.append hq).mono λ_ _ q=>⟨Dt.mono x2.ff q,rfl⟩)))) dk λa z=>(by cases z)
   ·rw[if_neg hz]at e;cases e
  |_=>cases e
 |_=>cases e
def Gm:R2:=λx y H Q=>∃l k xs,x=.ref l/\y=.int k/\Rd H l (.lst xs)/\-(2 ^ 63)<=k/\k<2 ^ 63/\xs.length*k.toNat<=sizeLine /\
 ∀p,H p=none->Q (.ref p) (eS H p (.lst (cE k.toNat xs).flatten))
theorem P7:lS X (gz .Mult) Gm:=by
 intro bX s σ H x y v u Q I rx ry h;obtain⟨l,k,xs,rfl,rfl,hH,h1,h2,hz,q⟩:=h;cases rx;obtain⟨t,rfl⟩:=ry;obtain⟨z,dJ,n,r,hl,e⟩:=KJ I hH;have ki:dJ.toArray.size*k.toNat<=sizeLine:=by rw[cJ,←hl];exact hz
 have rj:¬dJ.toArray.size*k.toNat > (2 ^ 63-1)/8:=by
  have:(sizeLine:Nat)<=(2 ^ 63-1)/8:=by decide
  omega
 have J0:¬(!Builtin.List.listFitsIndex k)=true:=by rw[fitsIndex_both h1 h2];exact cD
 have AC:¬Builtin.List.listTooLong (dJ.toArray.size*k.toNat)=true:=by rw[uI ki];exact cD
 have Kg:xP (λx1 x2=>x1++x2) #[] (cE (if dJ.toArray.isEmpty=true then 0 else k.toNat) dJ.toArray)=(cE k.toNat dJ).flatten.toArray:=by
  have f0:∀m:Nat,xP (λx1 x2=>x1++x2) #[] (cE m dJ.toArray)=(cE m dJ).flatten.toArray:=λm=>by have:=foldl_rep dJ m [];rw[qW]at this;exact this
  rw[f0];cases dJ with
  |nil=>simp
  |cons a r'=>rw[if_neg (by simp)]
 refine wpAny_binaryOp_repeat_ref (T:="list") (U:="int") (by decide) ⟨_,e,rfl⟩ (λs'=>Cb s' k t) noFill_list_mul F.fills_int_mul F.slot_int_rmul repeat_list F.slot_int_index.lookup
  (lq F.slot_int_rmul (Cb s k t) F.entry_int_rmul (F.args_int_rmul_2 _ _) (int___rmul___int_list k t l dJ.toArray n)
   ⟨e,rfl,⟨_,e,rfl⟩,lq F.slot_list_mul ⟨_,e,rfl⟩ F.entry_list_mul (F.args_list_mul_2 _ _) (AutoListH.list___mul___list_int_3 l dJ.toArray n k t J0 rj AC) ⟨e,?_⟩⟩)
 rw[Kg];exact⟨.ref _,_,I.lnew (t':=s.toks) (r.rep k.toNat) (by rw[Zg,Nat.mul_comm];exact hz),rfl,q _ I.fresh⟩
theorem Yn:rM K ct n m k (rI sr λi j=>.int (i*j)) jJ:=Y2
def uJ:D->D->Option D
 |.lst xs,.int j=>if -1000000<j/\j<1000000/\xs.length<=16 then some (.lst (cE j.toNat xs).flatten)else none
 |_,_=>none
theorem zue (ha:XO X ct ms 1 a f)(hb:XE X ct ms m b g):XO X ct ms 1 (.BinOp a .Mult b pos) (e2 uJ f g):=by
 obtain⟨ta,pa,qa⟩:=ha;obtain⟨tb,pb,qb⟩:=hb;refine⟨_,Jf P7 pa pb,λF0 B F H ρ σ d Q rs e w=>?_⟩;obtain⟨d1,d2,h1,h2,h3⟩:=gD e;refine qa F0 B F H ρ σ d1 _ rs h1 λv F1 H1 fp x1 o nd hf=>?_;refine qb F0 B F1 H1 ρ σ d2 _ (rs.ext x1) h2 λv2 F2 H2 x2 l2=>?_;cases d1 with
 |lst xs=>
  cases d2 with
  |int j=>
   unfold uJ at h3;dsimp only at h3;by_cases hz:-1000000<j/\j<1000000/\xs.length<=16
   ·rw[if_pos hz]at h3;cases h3;obtain⟨ad,vs,fr,rfl,rfl,hF,hH,ol⟩:=(o.ext x2).lst_inv;have hp:Pr (Al X.K ct F2 H2 0) xs vs:=ol.pr λ_ _ _ _ q=>q.1;have N6:=x1.trans x2;refine⟨ad,j,vs,rfl,l2.int,.inl hH,by omega,by omega,?_,wp x2.fh (hp.rep _) λv F' H' fp x o nd hf=>w v F' H' fp (N6.trans x) o nd λz hz=>N6.hh.free (hf z hz)⟩;rw[←hp.length,dD];have h1:j.toNat<=1000000:=by omega
    have h2:xs.length*j.toNat<=16*1000000:=B8 hz.2.2 h1;omega
   ·rw[if_neg hz]at h3;cases h3
  |_=>cases h3
 |_=>cases h3
def AM:D->Option D
 |.int i=>some (.int (-i))
 |_=>none
theorem MA (ha:XE X ct ms n a f):XE X ct ms k (.UnaryOp .USub a pos) (e1 AM f):=by
 refine zvx ztd (λF H x d1 d Q s l e w=>?_) ha;cases d1 with
 |int i=>cases e;exact⟨i,l.int,w _ F H (.refl s) (Al.of (.int _))⟩
 |_=>cases e
theorem P8 {u:bV}(hg:Gl X x)(hm:X.mg x=some u)(hs:d.sc=true)(r:RelV d.v u)(hd:lx x:=by decide):XE X ct ms n (.Name x pos) (eC d):=by
 refine⟨_,L6 hg hm r hd,λF0 B F H ρ σ d' Q rs e w=>?_⟩;cases e;refine w _ F H (.refl rs.fh) (Al.of ?_);cases d with
 |non=>exact .non
 |bl b=>exact .bl b
 |int b=>exact .int b
 |str b=>exact .str b
 |_=>cases hs
def rz:List D->Option D
 |[.lst ds]=>some (.lst ds)
 |[.tup ds]=>some (.lst ds)
 |_=>none
theorem Pf (hn:n<=1):E3 K ct [n] 1 (λxs H Q=>∃p ys,xs=[.ref p]/\(gZ K H p ys\/oU K H p ys)/\∀l,H l=none->Q (.ref l) (eS H l (.lst ys))) rz:=by
 intro F H vs ds d Q s l e w;cases l with
 |cons h t=>
  cases t;rename_i d1 v;cases d1 with
  |lst xs=>cases e;obtain⟨a,us,rfl,ha,hp⟩:=Al.lst1 hn h s;exact⟨a,us,rfl,.inl ha,wp s hp w⟩
  |tup xs=>cases e;obtain⟨a,us,rfl,ha,hp⟩:=Al.tup1 hn h s;exact⟨a,us,rfl,.inr (oU.of ha),wp s hp w⟩
  |_=>cases e
abbrev PF:=Env->Option (Option Int)
def pNo:PF:=λ_=>some none
def pInt (f:EF):PF:=λρ=>(f ρ).bind λd=>match d with
 |.int i=>some (some i)
 |_=>none
def XP (X:Cx)(ct:Nat->ce)(ms:List Mo)(e:Option Expr)(f:PF):Prop:=∃t,PO X e t/\∀(F0 B F H:Hp) (ρ:Env) (σ:St) (o:Option Int) (Q:Option Int->Hp->Prop),RS X.K ct F0 B ms F H ρ σ->f ρ=some o->(∀F' H',ir F H F' H'->Q o H')->t σ H Q
theorem ji:XP X ct ms none pNo:=⟨_,Zc,λF0 B F H ρ σ o Q rs e w=>by cases e;exact w F H (.refl rs.fh)⟩
theorem yr (h:XE X ct ms n e f):XP X ct ms (some e) (pInt f):=by
 obtain⟨t,pt,qt⟩:=h;refine⟨_,L7 pt,λF0 B F H ρ σ o Q rs e w=>?_⟩;obtain⟨d,h1,h2⟩:=cQ e;refine qt F0 B F H ρ σ d _ rs h1 λv F' H' x l=>?_;cases d with
 |int i=>cases h2;exact⟨i,l.int,w F' H' x⟩
 |_=>cases h2
def cutD (xs:List D)(lo hi:Option Int):List D:=(xs.drop (HT.sIx xs.length 0 lo)).take (HT.sIx xs.length xs.length hi-HT.sIx xs.length 0 lo)
theorem ZI {vs:List V}{lo hi:Option Int}(h:Pr R ds vs):Pr R (cutD ds lo hi) (yG vs lo hi):=by unfold cutD yG;rw[h.length];exact(h.drop _).take _
def eU (d:D)(lo hi:Option Int):Option D:=match d with
 |.lst xs=>some (.lst (cutD xs lo hi))
 |_=>none
theorem yj {lo hi:Option Expr}{pl ph:PF}{p1}(hn:n<=1)(he:XE X ct ms n e f)(hl:XP X ct ms lo pl)(hh:XP X ct ms hi ph):XO X ct ms 1 (.Subscript e (.Slice lo hi none p1) pos) (λρ=>(f ρ).bind λd=>(pl ρ).bind λl=>(ph ρ).bind λh=>eU d l h):=by
 obtain⟨t,pt,qt⟩:=he;obtain⟨t1,wB,wC⟩:=hl;obtain⟨t2,pO,tL⟩:=hh;refine⟨_,O9 Zf pt wB pO,λF0 B F H ρ σ r Q rs e w=>?_⟩;obtain⟨d,l,h1,h2,h3⟩:=gD e;obtain⟨hh,h4,h5⟩:=cQ h3;refine qt F0 B F H ρ σ d _ rs h1 λv F1 H1 x1 l1=>?_;refine wC F0 B F1 H1 ρ σ l _ (rs.ext x1) h2 λF2 H2 x2=>?_;refine tL F0 B F2 H2 ρ σ hh _ ((rs.ext x1).ext x2) h4 λF3 H3 x3=>?_;cases d with
 |lst xs=>cases h5;have uO:=x2.trans x3;obtain⟨a,vs,rfl,ha,hp⟩:=Al.lst1 hn (l1.mono uO.ff uO.hh) uO.fh;exact⟨a,vs,rfl,ha,wp uO.fh (ZI hp) λv F' H' fp x o nd hf=>w v F' H' fp ((x1.trans uO).trans x) o nd λz hz=>(x1.trans uO).hh.free (hf z hz)⟩
 |_=>cases h5
def tE:List D->Option D
 |[.int i]=>some (.int i)
 |[.bl b]=>some (.int (if b then 1 else 0))
 |_=>none
theorem P9:Bc K ct [n] k (λxs H Q=>(∃i,xs=[.int i]/\Q (.int i) H)\/∃b,xs=[.bl b]/\Q (.int (if b then 1 else 0)) H) tE:=by
 intro F H vs ds d Q s l e w;cases l with
 |cons h t=>
  cases t;rename_i d1 v;cases d1 with
  |int i=>cases e;exact .inl ⟨i,by rw[h.int],w _ F H (.refl s) (Al.of (.int _))⟩
  |bl i=>cases e;exact .inr ⟨i,by rw[h.bl],w _ F H (.refl s) (Al.of (.int _))⟩
  |_=>cases e
def Jr:List D->Option D
 |[.int i]=>some (.int (if i<0 then -i else i))
 |_=>none
def ii (g:Int->Int->D):List D->Option D
 |[.int i,.int j]=>some (g i j)
 |_=>none
theorem Q7 {g:Int->Int->D}(hg:∀i j F,Dt K ct F (g i j) (gv i j)):Bc K ct [n,m] k (λxs H Q=>∃i j,xs=[.int i,.int j]/\Q (gv i j) H) (ii g):=by
 intro F H vs ds d Q s l e w;cases l with
 |cons h t=>
  cases t with
  |cons h' t=>
   cases t;rename_i d1 v d2 v2;cases d1 with
   |int i=>
    cases d2 with
    |int j=>cases e;exact⟨i,j,by rw[h.int,h'.int],w _ F H (.refl s) (Al.of (hg i j F))⟩
    |_=>cases e
   |_=>cases e
def sK:List D->Option D:=ii λi j=>.int (if j > i then j else i)
def xG:List D->Option D:=ii λi j=>.int (if j<i then j else i)
theorem Pg:Bc K ct [n,m] k (λxs H Q=>∃i j,xs=[.int i,.int j]/\Q (.int (if j > i then j else i)) H) sK:=Q7 λ_ _ _=>.int _
theorem Yo:Bc K ct [n,m] k (λxs H Q=>∃i j,xs=[.int i,.int j]/\Q (.int (if j<i then j else i)) H) xG:=Q7 λ_ _ _=>.int _
def Dz (i:Nat)(o:D->D->Option D)(f:EF):SF:=λρ=>(eV i ρ).bind λx=>(f ρ).bind λy=>(o x y).bind λd=>some (.nx (ρ.set i (some d)))
theorem zuf {gi:Int->Int->Int}(ho:D0 X op (HC gi))(hm:ms[i]?=some (.ow k))(hN:X.N.Nodup)(hi:X.N[i]?=some x)(hx:Loc X.env.scope x)(he:XE X ct ms n e f)(hf:uZ X x:=by walk_at "v2") :
  XS X ct ms rk (.AugAssign (.Name x pos') op e pos) (Dz i (i2 λi j=>.int (gi i j)) f):=by
 obtain⟨t,pt,qt⟩:=he;refine⟨_,zs8 hN hi hx pt ho hf,λF0 B F H ρ σ o E rs e z=>?_⟩;obtain⟨d1,d2,h1,h2,h3⟩:=gD e;obtain⟨d,h4,h5⟩:=cQ h3;cases h5;obtain⟨v,hv,l⟩:=rs.get hm (z6 h1);refine⟨v,hv,qt F0 B F H ρ σ d2 _ rs h2 λy F' H' x1 l2=>?_⟩;cases d1 with
 |int i'=>
  cases d2 with
  |int j'=>cases h4;exact⟨i',j',l.int,l2.int,z _ F' H' (rs.set hm x1 (Ow.scal (.int _) rfl) dk λa z=>(by cases z))⟩
  |_=>cases h4
 |_=>cases h4
def sPar (i j:Nat)(fs:Env->Option (List D)):SF:=λρ=>(fs ρ).bind λds=>match ds with
 |[x,y]=>some (.nx ((ρ.set i (some x)).set j (some y)))
 |_=>none
theorem zug {px py:m9}{kt k2 pO}(FB:ms[i]?=some (.ow 0))(Ts:ms[j]?=some (.ow 0))(hc:X.calm=true)(hN:X.N.Nodup)(hi:X.N[i]?=some x)(hj:X.N[j]?=some y)(J6:i≠j)
  (hx:X.env.scope.names.lookup x=some .local) (hy:X.env.scope.names.lookup y=some .local) (ha:XA X ct ms [a,b] [0,0] fs)
  (hw:qE [.Tuple [.Name x px,.Name y py] kt pt] (.Tuple [a,b] k2 pO) X.env=pure (some [x,y]))
  (hs:qF [.Tuple [.Name x px,.Name y py] kt pt] (.Tuple [a,b] k2 pO) pos.line X.env=pure false:=by rfl) :
  XS X ct ms rk (.Assign [.Tuple [.Name x px,.Name y py] kt pt] (.Tuple [a,b] k2 pO) pos) (sPar i j fs):=by
 obtain⟨t,pt,_,qt⟩:=ha;refine⟨_,zs7 hc hN hi hj J6 hx hy pt hw hs,λF0 B F H ρ σ o E rs e z=>?_⟩;obtain⟨ds,h1,h2⟩:=cQ e;refine qt F0 B F H ρ σ ds _ rs h1 λvs F' H' x1 l=>?_;cases l with
 |cons l1 l=>
  cases l with
  |cons l2 l=>cases l;cases h2;have r1:=rs.set FB x1 (Ow.zero l1) dk λa z=>(by cases z);exact⟨_,_,rfl,z _ F' H' (r1.set Ts (.refl x1.fh) (Ow.zero l2) dk λa z=>(by cases z))⟩
def sAsg (g:D->Env->Option Env)(f:EF):SF:=λρ=>(f ρ).bind λd=>(g d ρ).bind λρ'=>some (.nx ρ')
theorem DQ (he:XE X ct ms 0 e f)(hg:XG X ct ms 0 tg gg)(hs:qF [tg] e pos.line X.env=pure false:=by rfl)(hw:qE [tg] e X.env=pure none:=by rfl)
  (h1:(eK [tg] X.env).map (·.2)=[pj tg X.env]:=by rfl):XS X ct ms rk (.Assign [tg] e pos) (sAsg gg f):=by
 obtain⟨t,pt,qt⟩:=he;obtain⟨t2,pO,tL⟩:=hg;refine⟨_,Z8 pt pO hs hw h1,λF0 B F H ρ σ o E rs e z=>?_⟩;obtain⟨d,h1,h2⟩:=cQ e;obtain⟨ρ',h3,h4⟩:=cQ h2;cases h4;exact qt F0 B F H ρ σ d _ rs h1 λv F' H' x l=>tL F0 B F' H' ρ ρ' σ d v _ (rs.ext x) l h3 λσ' r=>z σ' F' H' r
def l5:List Nat->List Mo->Bool
 |[],_=>true
 |n::ns,.al m::ms=>decide (n=m)&&l5 ns ms
 |n::ns,.ow m::ms=>decide (n=0)&&decide (m=0)&&l5 ns ms
 |_,_=>false
theorem wq:∀{pm:List Nat} {ms:List Mo},l5 pm ms=true->∀(i n:Nat),pm[i]?=some n->ms[i]?=some (Mo.al n)\/(n=0/\ms[i]?=some (Mo.ow 0))
 |[],_,_,i,n,e=>by simp at e
 |x::ns,.al m::ms,h,i,n,e=>by
  simp only[l5,cx,decide_eq_true_eq]at h;cases i with
  |zero=>simp at e;subst e;rw[h.1];exact .inl rfl
  |succ i=>simpa using wq h.2 i n (by simpa using e)
 |x::ns,.ow m::ms,h,i,n,e=>by
  simp only[l5,cx,decide_eq_true_eq]at h;cases i with
  |zero=>simp at e;subst e;rw[h.1.1,h.1.2];exact .inr ⟨rfl,rfl⟩
  |succ i=>simpa using wq h.2 i n (by simpa using e)
 |_::_,[],h,_,_,_=>by simp[l5]at h
 |_::_,.px _::_,h,_,_,_=>by simp[l5]at h
 |_::_,.so _::_,h,_,_,_=>by simp[l5]at h
def Ci (X:Cx)(scope:oC)(N:List Str)(own:Nat)(cap:List Nat):Bool :=
 decide (scope.kind=.function)&&scope.names.all (λx=>(decide (x.2≠.cell) || decide (scope.names.lookup x.1=some .cell))&&(decide (x.2≠.local) || decide (scope.names.lookup x.1=some .local))&&(decide (x.2≠.free) || (decide (X.env.kindOf x.1=some .cell) || decide (X.env.kindOf x.1=some .free)))) &&
 decide (N.length=own+cap.length)&&(dQ cap.length).all λj=>match N[own+j]?,cap[j]? with
  |some x,some i=>decide (X.N[i]?=some x)&&decide (scope.names.lookup x=some .free)
  |_,_=>false
theorem IZ (h:Ci X scope N own cap=true):oy X scope N own cap:=by
 unfold Ci at h;simp only[cx,decide_eq_true_eq,dB,jD]at h;obtain⟨⟨⟨h1,h2⟩,h3⟩,h4⟩:=h;refine⟨h1,λx hx hl=>((h2 x hx).1.1).elim (λz=>absurd hl z) id,λx hx hl=>((h2 x hx).1.2).elim (λz=>absurd hl z) id,λx hx hf=>((h2 x hx).2).elim (λz=>absurd hf z) id,h3,λj x hj=>?_⟩;have Ay:j<cap.length:=by have:=(cM.mp hj).1;omega
 have q:=h4 j (eu.mpr Ay);rw[hj]at q;have hc:cap[j]?=some cap[j]:=by simp[Ay]
 rw[hc]at q;simp only[cx,decide_eq_true_eq]at q;exact⟨_,hc,q.1,q.2⟩
def Il:D->Option String
 |.non=>some "NoneType"
 |.bl _=>some "bool"
 |.int _=>some "int"
 |.str _=>some "str"
 |.lst _=>some "list"
 |.tup _=>some "tuple"
 |.dK _ _=>some "dict"
 |_=>none
def N2 (K:bZ)(H:Hp)(v:V)(t:String):Prop:=oG K H v (.type t)\/(t = "list"/\∃a xs,v=.ref a/\gZ K H a xs)
theorem Al.ty {v:V}{t:String}(s:dz F H)(h:Al K ct F H n d v)(e:Il d=some t):N2 K H v t:=by
 cases d with
 |non=>cases e;rw[h.non];exact .inl .non
 |bl b=>cases e;rw[h.bl];exact .inl (.bl b)
 |int b=>cases e;rw[h.int];exact .inl (.int b)
 |str b=>cases e;rw[h.str];exact .inl (.str b)
 |lst xs=>cases e;obtain⟨a,vs,rfl,ha,_⟩:=h.lst s;exact .inr ⟨rfl,a,vs,rfl,ha⟩
 |tup xs=>cases e;obtain⟨a,vs,rfl,ha,_⟩:=h.tup s;exact .inl (.tup ha)
 |dK ks xs=>cases e;obtain⟨a,vs,rfl,ha,_⟩:=h.dK s;exact .inl (.dK ha)
 |_=>cases e
theorem Xh:iq X (.builtin "isinstance") (λxs H Q=>∃x c t b,xs=[x,.ty c]/\N2 X.K H x t/\cV X.K (.type t) (.type c)=some b/\Q (.bl b) H):=by
 intro bX s σ H xs us Q I r h;obtain⟨x,c,t,b,rfl,ty,e,q⟩:=h;rcases ty with ty|⟨rfl,a,ys,rfl,hq⟩
 ·exact XB bX s σ H _ us Q I r ⟨x,c,_,b,rfl,ty,e,q⟩
 ·obtain⟨u,w',rfl,ru,tM⟩:=vals2 r;cases(show w'=bV.type c from tM);cases(show u=bV.ref a from ru);obtain⟨dJ,rv,⟨o,n,h1,h2,_⟩,_⟩:=I.list hq;exact d7 oR I.kIn ⟨o,h1,h2⟩ e (λz=>nomatch z) λtk=>⟨.bl b,H,I.tok tk,rfl,q⟩
def FQ (t c:String):Bool:=t==c || (t == "bool" && c == "int")
theorem ZJ:∀t∈(["NoneType","bool","int","str","list","tuple","dict"]:List String),∀c∈(["bool","int","str","list","tuple","dict"]:List String),cV K (.type t) (.type c)=some (FQ t c):=by intro t ht c hc;simp only[cn,df,or_false]at ht hc;rcases ht with rfl|rfl|rfl|rfl|rfl|rfl|rfl<;>rcases hc with rfl|rfl|rfl|rfl|rfl|rfl<;>rfl
theorem ZK {t:String}(e:Il d=some t):t∈(["NoneType","bool","int","str","list","tuple","dict"]:List String):=by cases d<;>simp[Il]at e<;>subst e<;>decide
variable {p2:m9}
def mw (c:String)(d:D):Option D:=(Il d).bind λt=>some (.bl (FQ t c))
theorem EI {c:String}(hc:c∈(["bool","int","str","list","tuple","dict"]:List String))(hm:X.mg "isinstance"=none)(tX:X.mg c=none)(hb:dY c=some (.type c))(he:XE X ct ms n e f)(hg:Gl X "isinstance":=by rfl)(tW:Gl X c:=by rfl)(Bk:Str.ofString c≠"__name__":=by decide)(hd2:(Str.ofString c==("__debug__":Str))=false:=by decide)
  (sE:c9 [e,.Name c p2] X.env=(false,ei e X.env)::c9 [.Name c p2] X.env:=by rfl) (o8:c9 [.Name c p2] X.env=(false,ei (.Name c p2) X.env)::c9 [] X.env:=by rfl) (gW:(jM pos (c9 [.Name c p2] X.env)).any (·.1)=false:=by rfl) :
  XE X ct ms k (.Call (.Name "isinstance" pp) [e,.Name c p2] [] pos) (e1 (mw c) f):=by
 obtain⟨t,pt,qt⟩:=he;refine⟨_,u0 Xh hg hm xk (zy pt (zy (PR (v:=.ty c) tW tX hb rfl Bk hd2) yy o8) sE) (by decide) (by decide) sE gW,λF0 B F H ρ σ d Q rs e w=>?_⟩;obtain⟨d1,h1,h2⟩:=cQ e;obtain⟨ty,h3,h4⟩:=cQ h2;cases h4;exact qt F0 B F H ρ σ d1 _ rs h1 λv F' H' x l=>⟨v,c,ty,_,rfl,l.ty x.fh h3,ZJ _ (ZK h3) _ hc,w _ F' H' x (Al.of (.bl _))⟩
def sQ (K:bZ):Sp:=λvs H Q _=>∃(a:ce) (ns:List Int),vs=[.ref a]/\gZ K H a (ns.map V.int)/\ns.length<=63/\∀H',Q (.bl true) H'
theorem Dts.ints {K:bZ}{ct:Nat->ce}{F:Hp}:∀ns:List Int,Dts K ct F (ns.map D.int) (ns.map V.int)
 |[]=>.nil
 |n::ns=>.cons (.int n) (Dts.ints ns)
theorem zuh {w:dw}{f:ce}{fd:cH}{m:List D->Option D}(Fn:dM P w K mg base gC k f fd ps (kd K ct [0] 0 m))
  (h:∀ns:List Int,ns.length<=63->m [.lst (ns.map .int)]=some (.bl true)):dM P w K mg base gC k f fd ps (sQ K):=by
 have to:∀vs H Q E,sQ K vs H Q E->kd K ct [0] 0 m vs H Q E:=by
  rintro vs H Q E ⟨a,ns,rfl,hS,hl,q⟩;refine⟨H,[.lst (ns.map .int)],.bl true,.refl _,.cons (Dt.lst hS (Dts.ints ns)) .nil,h ns hl,λv F' H' fp x o nd hf=>?_⟩;have hv:v=.bl true:=by have o:Dt K ct F' (.bl true) v/\fp=[]:=o;cases o.1;rfl
  subst hv;exact q H'
 exact⟨λvs H Q E z=>Fn.len vs H Q E (to vs H Q E z),λA outer s H args us vs Q E hr e0 hb hv z=>Fn.run A outer s H args us vs Q E hr e0 hb hv (to vs H Q E z)⟩
theorem OO {g:D->Env->Option Env}{b:SF}(I:List D->Env->Prop)(all:List D)(st:∀pre d post ρ,all=pre++d::post->I pre ρ->∃ρ1 ρ2,g d ρ=some ρ1/\(b ρ1=some (.nx ρ2)\/b ρ1=some (.ct ρ2))/\I (pre++[d]) ρ2):∀(ds pre:List D) (ρ:Env),all=pre++ds->I pre ρ ->
  ∃ρ',nw g b ds ρ=some (.nx ρ')/\I all ρ'
 |[],pre,ρ,e,h=>⟨ρ,rfl,by rw[e,cS];exact h⟩
 |d::ds,pre,ρ,e,h=>by obtain⟨ρ1,ρ2,h1,h2,h3⟩:=st pre d ds ρ e h;obtain⟨ρ',h4,h5⟩:=OO I all st ds (pre++[d]) ρ2 (by rw[e];simp) h3;refine⟨ρ',?_,h5⟩;show(g d ρ).bind _=_;rw[h1];show(b ρ1).bind _=_;rcases h2 with h2|h2<;>(rw[h2];exact h4)
theorem Ph {g:D->Env->Option Env}{b:SF}(I:List D->Env->Prop)(h:I [] ρ)(st:∀pre d post ρ,ds=pre++d::post->I pre ρ->∃ρ1 ρ2,g d ρ=some ρ1/\(b ρ1=some (.nx ρ2)\/b ρ1=some (.ct ρ2))/\I (pre++[d]) ρ2) :
  ∃ρ',nw g b ds ρ=some (.nx ρ')/\I ds ρ':=OO I ds st ds [] ρ rfl h
theorem zui {all pre post:List α}{d:α}(h:all=pre++d::post):all[pre.length]?=some d:=by subst h;simp
theorem OP {α S:Type}{g:D->Env->Option Env}{b:SF}(enc:α->D)(st:S->Env)(f:S->α->S)(P:S->Prop):∀(xs:List α) (s:S),P s ->
  (∀s x,x∈xs->P s->∃ρ1,g (enc x) (st s)=some ρ1/\(b ρ1=some (.nx (st (f s x)))\/b ρ1=some (.ct (st (f s x))))/\P (f s x))->nw g b (xs.map enc) (st s)=some (.nx (st (xs.foldl f s)))/\P (xs.foldl f s)
 |[],s,hp,_=>⟨rfl,hp⟩
 |x::xs,s,hp,h=>by obtain⟨ρ1,h1,h2,h3⟩:=h s x b9 hp;have ih:=OP enc st f P xs (f s x) h3 λs y hy=>h s y (cj _ hy);refine⟨?_,ih.2⟩;show(g (enc x) (st s)).bind _=_;rw[h1];show(b ρ1).bind _=_;rcases h2 with h2|h2<;>(rw[h2];exact ih.1)
theorem OQ {g:D->Env->Option Env}{b:SF}(I:Nat->Env->Prop)(lo:Int):∀(n k:Nat) (ρ:Env),I k ρ ->
  (∀j ρ,k<=j->j<k+n->I j ρ->∃ρ1 ρ2,g (.int (lo+(j:Int))) ρ=some ρ1/\(b ρ1=some (.nx ρ2)\/b ρ1=some (.ct ρ2))/\I (j+1) ρ2) ->
  ∃ρ',nw g b ((List.range' k n).map λ(t:Nat)=>D.int (lo+(t:Int))) ρ=some (.nx ρ')/\I (k+n) ρ'
 |0,k,ρ,h,_=>⟨ρ,rfl,h⟩
 |n+1,k,ρ,h,st=>by obtain⟨ρ1,ρ2,h1,h2,h3⟩:=st k ρ (cI _) (by omega) h;obtain⟨ρ',h4,h5⟩:=OQ I lo n (k+1) ρ2 h3 λj ρ hj hl hI=>st j ρ (by omega) (by omega) hI;refine⟨ρ',?_,by rw[show k+(n+1)=k+1+n by omega];exact h5⟩;rw[List.range'_succ,cL];show(g _ ρ).bind _=_;rw[h1];show(b ρ1).bind _=_;rcases h2 with h2|h2<;>(rw[h2];exact h4)
theorem Ol {g:D->Env->Option Env}{b:SF}(I:Nat->Env->Prop){lo:Int}(h:I 0 ρ)
  (st:∀j ρ,j<n->I j ρ->∃ρ1 ρ2,g (.int (lo+(j:Int))) ρ=some ρ1/\(b ρ1=some (.nx ρ2)\/b ρ1=some (.ct ρ2))/\I (j+1) ρ2):∃ρ',nw g b (kW lo n) ρ=some (.nx ρ')/\I n ρ':=by
 obtain⟨ρ',h1,h2⟩:=OQ (g:=g) (b:=b) I lo n 0 ρ h λj ρ _ hj hI=>st j ρ (by omega) hI;rw[pY]at h2;exact⟨ρ',by unfold kW;rw[List.range_eq_range'];exact h1,h2⟩
theorem Om {c:BF}{b:SF}(I:Env->Prop)(μ:Env->Nat)(st:∀ρ,I ρ->∃t,c ρ=some t/\(t=true->∃ρ',(b ρ=some (.nx ρ')\/b ρ=some (.ct ρ'))/\I ρ'/\μ ρ' < μ ρ)) :
  ∀(n:Nat) (ρ:Env),I ρ->μ ρ<n->∃ρ',nP c b n ρ=some (.nx ρ')/\I ρ'/\c ρ'=some false
 |0,_,_,h=>absurd h (by omega)
 |n+1,ρ,hI,h=>by
  obtain⟨t,h1,h2⟩:=st ρ hI;cases t with
  |false=>exact⟨ρ,by show(c ρ).bind _=_;rw[h1];rfl,hI,h1⟩
  |true=>obtain⟨ρ',h3,h4,h5⟩:=h2 rfl;obtain⟨ρ2,h6,h7,h8⟩:=Om I μ st n ρ' h4 (by omega);refine⟨ρ2,?_,h7,h8⟩;show(c ρ).bind _=_;rw[h1];show(b ρ).bind _=_;rcases h3 with h3|h3<;>(rw[h3];exact h6)
theorem ZL (h:n<2 ^ k)(hk:k<=9000):n<uD:=dg h (wU (by decide) hk)
theorem Qa (h:n<1048576):n<uD:=ZL (k:=20) h (by decide)
theorem vm {i j:Int}(h1:0<j)(h2:j<4611686018427387904):fZ (.int i) (.int j)=some (.int (i/j)):=by unfold fZ;simp[h1,h2]
theorem z7 {i j:Int}(h:0<j):fM (.int i) (.int j)=some (.int (i%j)):=by unfold fM;simp[h]
theorem zgx {i j:Int}(h1:-18446744073709551616<j)(h2:j<18446744073709551616):jJ (.int i) (.int j)=some (.int (i*j)):=by simp[jJ,AI,p6,h1,h2]
theorem zbs {i j:Int}(h1:-18446744073709551616<i)(h2:i<18446744073709551616):jJ (.int i) (.int j)=some (.int (i*j)):=by simp[jJ,AI,p6,h1,h2]
theorem znj {i j:Int}(h1:0<=j)(h2:j<=1000000)(h3:i.natAbs<18446744073709551616):AQ (.int i) (.int j)=some (.int (i ^ j.toNat)):=by simp[AQ,AI,sP,h1,h2,h3]
theorem znk {i j:Int}(h1:0<=j)(h2:j<=1000000)(h3:i.natAbs<18446744073709551616):BW (.int i) (.int j)=some (.int (i*2 ^ j.toNat)):=by simp[BW,AI,sP,h1,h2,h3]
theorem zgy {i j:Int}(h1:0<=j):yQ (.int i) (.int j)=some (.int (i/2 ^ j.toNat)):=by simp[yQ,AI,h1]
theorem znl (i j:Int):cA (.int i) (.int j)=some (.int (i+j)):=rfl
theorem yo {xs ys:List D}(h:xs.length+ys.length<=16777216):cA (.lst xs) (.lst ys)=some (.lst (xs++ys)):=by simp[cA,h]
theorem zx (h:x.length+y.length<=16777216):cA (.str x) (.str y)=some (.str (x++y)):=by simp[cA,h]
theorem znm (i j:Int):uM (.int i) (.int j)=some (.int (i-j)):=rfl
theorem zan (i j:Int):yM (.int i) (.int j)=some (.bl (decide (i<j))):=rfl
theorem zrf (i j:Int):Bl (.int i) (.int j)=some (.bl (decide (i<=j))):=rfl
theorem zao (i j:Int):Ap (.int i) (.int j)=some (.bl (decide (j<i))):=rfl
theorem zrg (i j:Int):D8 (.int i) (.int j)=some (.bl (decide (j<=i))):=rfl
theorem znn (i:Int):AM (.int i)=some (.int (-i)):=rfl
theorem yp (ds:List D):gx [.lst ds]=some (.int ds.length):=rfl
theorem zno (ds:List D):gx [.tup ds]=some (.int ds.length):=rfl
theorem znp (i:Int):Jr [.int i]=some (.int (if i<0 then -i else i)):=rfl
theorem zap (i j:Int):sK [.int i,.int j]=some (.int (if j > i then j else i)):=rfl
theorem zek (i j:Int):xG [.int i,.int j]=some (.int (if j<i then j else i)):=rfl
theorem zrh (neg:Bool)(d:D):NG neg d .non=some (.bl (if neg then !d.isN else d.isN)):=by cases d<;>rfl
theorem zuj (neg b:Bool)(d:D):NG neg d (.bl b)=some (.bl (if neg then !d.isB b else d.isB b)):=by cases d<;>rfl
theorem zel (b:Bool):Hb (.bl b)=some b:=rfl
theorem zaq (ds:List D):Fa (.lst ds)=some ds:=rfl
theorem zbt (ds:List D)(l h:Option Int):eU (.lst ds) l h=some (.lst (cutD ds l h)):=rfl
theorem qq {j:Int}(h1:-4611686018427387904<=j)(h2:j<4611686018427387904):si [.int j]=some (kW 0 j.toNat):=by simp[si,h1,h2]
theorem Yp {i j:Int}(h1:-4611686018427387904<=i)(h2:i<4611686018427387904)(h3:-4611686018427387904<=j)(h4:j<4611686018427387904):yO [.int i,.int j]=some (kW i (j-i).toNat):=by simp[yO,h1,h2,h3,h4]
theorem ZM (enc:α->D){xs:List α}{i:Int}{x:α}(hi:i=(j:Int)\/i=(j:Int)-xs.length)(h:xs[j]?=some x):atI (xs.map enc) i=some (enc x):=by
 have hj:=(cM.mp h).1;unfold L2.atI L2.ixN;rw[ck];rcases hi with rfl|rfl
 ·rw[if_pos (by omega),if_pos (by omega)];simp[h]
 ·rw[if_neg (by omega),if_pos (by omega)];have:((j:Int)-(xs.length:Int)+(xs.length:Int)).toNat=j:=by omega
  simp[this,h]
theorem LB (xs:List D)(k:Nat):cutD xs none (some (k:Int))=xs.take k:=by
 unfold cutD;rw[HT.sIx_none,HT.sIx_nat,Nat.sub_zero,Bt];rcases pW k xs.length with h|h
 ·rw[lm h]
 ·rw[m8 h,hJ (cI _),hJ h]
theorem wa (xs:List D)(k:Nat):cutD xs (some (k:Int)) none=xs.drop k:=by
 unfold cutD;rw[HT.sIx_none,HT.sIx_nat];rcases pW k xs.length with h|h
 ·rw[lm h,hJ (by rw[dW];omega)]
 ·rw[m8 h,ke (cI _),ke h];simp
theorem Yq (xs:List D)(k l:Nat):cutD xs (some (k:Int)) (some (l:Int))=(xs.drop k).take (l-k):=by
 unfold cutD;rw[HT.sIx_nat,HT.sIx_nat];rcases pW k xs.length with h|h
 ·rw[lm h];rcases pW l xs.length with g|g
  ·rw[lm g]
  ·rw[m8 g,hJ (by rw[dW];omega),hJ (by rw[dW];omega)]
 ·rw[m8 h,ke (cI _),ke h];simp
theorem OR {α:Type}{g:D->Env->Option Env}{p:BF}{f:EF}{ρ0:Env}(enc:α->D)(q:α->Bool)(h:α->D):∀(xs:List α),(∀x∈xs,∃ρ1,g (enc x) ρ0=some ρ1/\p ρ1=some (q x)/\(q x=true->f ρ1=some (h x)))->sC g p f ρ0 (xs.map enc)=some ((xs.filter q).map h)
 |[],_=>rfl
 |x::xs,H=>by
  obtain⟨ρ1,h1,h2,h3⟩:=H x b9;have ih:=OR enc q h xs λy hy=>H y (cj _ hy);show(g (enc x) ρ0).bind _=_;rw[h1];show(p ρ1).bind _=_;rw[h2];cases hq:q x with
  |false=>rw[cP,if_neg cD,tP (by rw[hq];exact cD)];exact ih
  |true=>rw[cP,if_pos rfl,h3 hq,tQ hq];show(sC g p f ρ0 (xs.map enc)).bind _=_;rw[ih];rfl
section
open PySem PySem.Spec L2
structure sW (α:Type)[DecidableEq α] where
 enc:α->D
 py:α->cU
 dep:Nat
 is:∀x,(enc x).py=some (py x)
 lay:∀x,(py x).canLay0=true
 dp:∀x,(py x).depth<=dep
 eqv:∀x y,cU.eqv (py x) (py y)=decide (x=y)
section
variable {γ δ ε:Type}[DecidableEq α][DecidableEq β][DecidableEq γ][DecidableEq δ][DecidableEq ε]
theorem sW.eq (E:sW α)(h:E.dep<=60)(x y:α):iz neg (E.enc x) (E.enc y)=some (.bl (if neg then !decide (x=y)else decide (x=y))):=by
 have h1:tI (E.py x)=true:=by unfold tI;rw[E.lay x,decide_eq_true (d9 (E.dp x) h)];rfl
 have h2:tI (E.py y)=true:=by unfold tI;rw[E.lay y,decide_eq_true (d9 (E.dp y) h)];rfl
 unfold iz;rw[E.is x,E.is y];simp only[cP];rw[if_pos ⟨h1,h2⟩,E.eqv]
def Ei:sW Int:=⟨.int,.int,0,λ_=>by simp[D.py],λ_=>rfl,λ_=>by simp[cU.depth],λx y=>by show(x==y)=_;by_cases h:x=y<;>simp[h]⟩
def Eb:sW Bool:=⟨.bl,.bool,0,λ_=>by simp[D.py],λ_=>rfl,λ_=>by simp[cU.depth],λx y=>by cases x<;>cases y<;>rfl⟩
def BD:Option Int->D
 |none=>.non
 |some i=>.int i
def KU:Option Int->cU
 |none=>.none
 |some i=>.int i
def Eo:sW (Option Int):=⟨BD,KU,0,λx=>by cases x<;>simp[BD,KU,D.py],λx=>by cases x<;>rfl,λx=>by cases x<;>simp[KU,cU.depth],λx y=>by
 cases x<;>cases y
 ·rfl
 ·rfl
 ·rfl
 ·rename_i a b;show(a==b)=_;by_cases h:a=b<;>simp[h]⟩
def E2 (A:sW α)(B:sW β):sW (α×β):=⟨λp=>.tup [A.enc p.1,B.enc p.2],λp=>.tuple [A.py p.1,B.py p.2],max A.dep B.dep+1,λp=>by simp[D.py,D.pys,A.is,B.is],λp=>by simp[cU.canLay0,cU.canLayAll0,A.lay,B.lay],
 λp=>by have:=A.dp p.1;have:=B.dp p.2;simp only[cU.depth,cU.depthAll];omega,λp q=>by simp only[cU.eqv,cU.eqvAll,A.eqv,B.eqv];obtain⟨a,b⟩:=p;obtain⟨c,d⟩:=q;by_cases h:a=c<;>by_cases g:b=d<;>simp[h,g]⟩
end
theorem zrj (a b:Int):iz neg (.int a) (.int b)=some (.bl (if neg then !decide (a=b)else decide (a=b))):=Ei.eq (by decide) a b
theorem zuk (a b:Bool):iz neg (.bl a) (.bl b)=some (.bl (if neg then !decide (a=b)else decide (a=b))):=Eb.eq (by decide) a b
end
theorem OS:∀{bs:List Bool} {us:List bV},dA (bs.map V.bl) us->us=bs.map bV.bool
 |[],_,.nil=>rfl
 |b::bs,_,.cons r t=>by rw[OS t];cases(show _=bV.bool b from r);rfl
theorem LC (hc:X.calm=true):iq X (.builtin "all") (λxs H Q=>∃(a:ce) (bs:List Bool),xs=[.ref a]/\gZ X.K H a (bs.map V.bl)/\Q (.bl (bs.all id)) H):=by
 intro bX s σ H xs us Q I r h;obtain⟨a,bs,rfl,hq,q⟩:=h;obtain⟨u,rfl,ru⟩:=r.one;cases(show u=bV.ref a from ru);obtain⟨dJ,rv,pl,hz⟩:=I.list hq;have hb:=OS rv;subst hb;have hl:=pl.isList;have pz:a<s.heap.objs.size:=by obtain⟨_,e,_⟩:=hl;exact cy e
 refine PySem.call_all_walk (iU hl ?_);refine⟨s.heap.objs.size,[s.heap.objs.size,a],[s.heap.objs.size],(bs.map bV.bool).toArray.size,_,_,λi=>(bs[i]?).getD true,rfl,Walks.list (A:=X.A.in1) (I.ok.hd hc) _ a (cW pz) (bs.map bV.bool).toArray,
  ⟨⟨_,cO _ rfl,rfl,rfl⟩,hl.push _⟩,λi v s' Q' E' hP hQ=>?_,λh' tk hk=>?_⟩
 ·have hP:(bs.map bV.bool)[i]?=some v:=by simpa using hP
  rw[dG]at hP;obtain⟨b,hb,rfl⟩:=eP.mp hP;simp only[hb,xU]at hQ;exact iV hQ
 ·have e:((dQ (bs.map bV.bool).toArray.size).all λi=>(bs[i]?).getD true)=bs.all id:=by rw[cJ,ck];exact PyProof.Rows.LSm.range_all bs
  rw[e];refine⟨.bl (bs.all id),H,I.kept (t':=tk) λb o JO=>hk b o (λhm=>?_) (bY _ JO),rfl,q⟩;rw[cz.mp hm]at JO;exact gP _ (cy JO)
def Cy:List D->Option (List Int)
 |[]=>some []
 |.int i::ds=>(Cy ds).bind λns=>some (i::ns)
 |_=>none
def nI:List D->Option (List Bool)
 |[]=>some []
 |.bl i::ds=>(nI ds).bind λns=>some (i::ns)
 |_=>none
theorem Oe:∀{ds:List D} {ns:List Bool},nI ds=some ns->ds=ns.map .bl
 |[],_,e=>by cases e;rfl
 |d::ds,ns,e=>by
  cases d with
  |bl i=>obtain⟨ms,h1,h2⟩:=cQ (show(nI ds).bind _=_ from e);cases h2;rw[Oe h1];rfl
  |_=>cases e
theorem Pr.blV {F G:Hp}:∀{ns:List Bool} {vs:List V},Pr (Al K ct F G n) (ns.map .bl) vs->vs=ns.map V.bl
 |[],_,.nil=>rfl
 |i::ns,_,.cons h t=>by rw[Pr.blV t,h.bl];rfl
def Uq:List D->Option D
 |[.lst ds]=>(Cy ds).bind λns=>some (.int ns.sum)
 |_=>none
def oH:List D->Option D
 |[.lst ds]=>(nI ds).bind λbs=>some (.bl (bs.all id))
 |_=>none
theorem Mc:Bc K ct [n] k (λxs H Q=>∃(a:ce) (bs:List Bool),xs=[.ref a]/\gZ K H a (bs.map V.bl)/\Q (.bl (bs.all id)) H) oH:=by
 intro F H vs ds d Q s l e w
 match ds,l,e with
 |[.lst xs],l,e=>
  obtain⟨bs,h1,h2⟩:=cQ (show(nI xs).bind _=_ from e);cases h2;cases l with
  |cons h t=>cases t;obtain⟨a,us,rfl,ha,hp⟩:=h.lst s;have:=Oe h1;subst this;have:=hp.blV;subst this;exact⟨a,bs,rfl,ha,w _ F H (.refl s) (Al.of (.bl _))⟩
def tq (H:Hp)(x:ce):Hp:=λb=>if b=x then none else H b
theorem qr (H:Hp)(x:ce):dz (tq H x) H:=λb o h=>by
 unfold tq at h;by_cases e:b=x
 ·rw[if_pos e]at h;cases h
 ·rw[if_neg e]at h;exact h
theorem Q8 (H:Hp)(x:ce):tq H x x=none:=if_pos rfl
theorem EJ {x b:ce}(h:b≠x):tq H x b=H b:=if_neg h
def zQ (K:bZ)(ct:Nat->ce)(cs:List Nat)(pm:List Nat)(mi:Nat->List D->Option D):Sp:=λvs H Q _=>∃(F:Hp) (c:Nat) (ds:List D) (d:D) (x dx:ce) (us:List V),c∈cs/\vs=.ref x::us/\H x=some (.ins (ct c) dx [])/\F x=none/\dz F H/\nc K ct F (tq H x) pm ds us/\mi c ds=some d /\
 ∀F' H',dz F F'->dz (tq H x) H'->dz F' H'->(∀a o,tq H x a=some o->nH o->F a=none->F' a=none)->F' x=none->Ow K ct F' H' 1 d (.ref x) [x]->Q .non H'
variable {mi:Nat->List D->Option D}
theorem zQ.len (h:pm.length+1=ps.length):∀vs H Q E,zQ K ct cs pm mi vs H Q E->vs.length=ps.length:=by rintro vs H Q E ⟨F,c,ds,d,x,dx,us,_,rfl,_,_,_,l,_⟩;rw[cm,l.length,h]
def En (N:List Str)(b:SF)(c:Nat)(ds:List D):Option D:=(b (some (.obj c [] [])::startD N.tail ds)).bind λo=>match o with
 |.nx ρ=>(ρ[0]?).join
 |_=>none
variable {N0:Str}
theorem Xi {w:dw}{fd:cH}(Fn:Fun2 K x qual st fa fd)(S:fI (N0::N) ps (dc st))(AF:pm.length+1=ps.length)(BJ:ms.length=N.length)(tD:pm.length<=N.length)
  (AD:∀(i n:Nat),pm[i]?=some n->ms[i]?=some (Mo.al n)\/(n=0/\ms[i]?=some (Mo.ow 0)))
  (body:∀(x:ce) (gN:bV) (A:c7) (outer:List PySem.Env) (s:cq) (H:Hp) (E:XK),fw kk (A.deeper (envOfC qual (dc st) s.heap.objs.size fa gN))->tm (nJ gC P w K mg base (N0::N) qual (dc st) fa gN A outer s H E).nox ct (.so x::ms) rk (fU st) bf) :
  dM P w K mg base gC (kk+1) fa fd ps (zQ K ct cs pm (En (N0::N) bf)):=by
 refine Fn.ok S (zQ.len AF) λgN A outer s H vs Q E hr h=>?_;obtain⟨F,c,ds,d,x,dx,us,hc,rfl,hx,hF,sF,l,hm,q⟩:=h;obtain⟨t,pt,qt⟩:=body x gN A outer s H E hr;refine⟨t,pt,?_⟩;obtain⟨o,h1,h2⟩:=cQ hm;have hdl:ds.length=us.length:=l.length';have Nv:us.length=pm.length:=l.length;have ow:Ow K ct F H 1 (.obj c [] []) (.ref x) [x]:=.inr (Bd.obj (vs:=[]) hF hx rfl .nil);have sFB:dz F (tq H x):=λb o hb=>by rw[EJ (λe=>by rw[e,hF]at hb;cases hb)];exact sF _ _ hb
 refine qt F (tq H x) F H (some (.obj c [] [])::startD N ds) (L2.start (N0::N) (.ref x::us)) o _ ⟨.refl _,qr H x,sF,λ_ _ _ _ h=>h,[x],?_,by simp,λa z=>by rw[cz]at z;subst z;exact Q8 H _⟩ h1 ?_
 ·have e:L2.start (N0::N) (.ref x::us)=some (.ref x)::(us.map some++cE (N.length-us.length) none):=by unfold L2.start;simp
  rw[e];unfold startD;rw[hdl];exact SL.so (fp:=[]) ow (SL.start _ l AD (by omega))
 ·cases o with
  |nx ρ=>
   intro σ F' H' r;obtain⟨fp,sl,nd,hb⟩:=r.sl;cases sl with
   |no _=>cases h2
   |so F9 _=>cases h2;exact q F' H' r.f0 r.bh r.fh r.nf (F9.cells x b9).1 F9
  |rt d'=>cases h2
  |bk ρ=>cases h2
  |ct ρ=>cases h2
theorem Pj {f:Str}{y:V}:∀{ns:List Str} {vs:List V},ns.length=vs.length->ns.contains f=false->nz f y (ns.zip vs)=(ns++[f]).zip (vs++[y])
 |[],[],_,_=>rfl
 |[],_::_,h,_=>by simp at h
 |_::_,[],h,_=>by simp at h
 |n::ns,v::vs,h,hc=>by
  rw[oW,vH]at hc;have hn:¬n=f:=λe=>by rw[e]at hc;simp at hc
  have ih:=Pj (f:=f) (y:=y) (ns:=ns) (vs:=vs) (by simpa using h) hc.2;show nz f y ((n,v)::ns.zip vs)=(n,v)::(ns++[f]).zip (vs++[y]);rw[←ih];show(if n=f then _ else _)=_;rw[if_neg hn]
theorem Ow.obj_inv {c:Nat}{ns:List Str}{v:V}(h:Ow K ct F H (k+1) (.obj c ns ds) v fp):∃a dx vs fr,v=.ref a/\fp=a::fr/\F a=none/\H a=some (.ins (ct c) dx (ns.zip vs))/\ns.length=vs.length/\jU (Ow K ct F H k) ds vs fr:=by
 rcases h with⟨h,_⟩|h
 ·cases h
 ·cases h with
  |obj h1 h2 h3 h4=>exact⟨_,_,_,_,rfl,rfl,h1,h2,h3,h4⟩
variable {C:ce}
section
variable {x0:ce}
def nO (cs:List Nat)(x:Str)(f:EF):SF:=λρ=>(f ρ).bind λd=>(eV 0 ρ).bind λo=>match o with
 |.obj c ns ds=>if cs.contains c=true/\ns.contains x=false/\ns.length<900 then some (.nx (ρ.set 0 (some (.obj c (ns++[x]) (ds++[d])))))else none
 |_=>none
theorem RS.self {F' H':Hp}(rs:RS K ct F0 B (.so x0::ms) F H ρ σ)(hd:ρ[0]?=some (some d)):σ[0]?=some (some (.ref x0))/\Ow K ct F H 1 d (.ref x0) [x0]/\B x0=none /\
  ∀(F' H':Hp) (d':D),dz F F'->dz B H'->dz F' H'->(∀a o,B a=some o->nH o->F0 a=none->F' a=none)->(∀a o,H a=some o->a≠x0->H' a=some o)->(∀a o,H a=some o->a≠x0->nH o->F a=none->F' a=none)->Ow K ct F' H' 1 d' (.ref x0) [x0]->RS K ct F0 B (.so x0::ms) F' H' (ρ.set 0 (some d')) σ:=by
 obtain⟨fp,sl,nd,hb⟩:=rs.sl;cases sl with
 |no _=>simp at hd
 |so ow t=>simp at hd;subst hd;refine⟨rfl,ow,hb _ b9,λF' H' d' s1 s2 s3 s4 k1 k2 o'=>⟨rs.f0.trans s1,s2,s3,s4,_,.so o' (t.frame s1 λa z=>?_),nd,hb⟩⟩;obtain⟨hn,o,ho,nt⟩:=t.cells a z;have ne:a≠x0:=λe=>(dC.mp nd).1 (by rw[←e];exact z);exact⟨(k1 a o ho ne).trans ho.symm,k2 a o ho ne nt hn⟩
theorem EK {s:Str}(hc:∀c∈cs,qG X.K (ct c)/\iX X.K (ct c) x)(he:XE X ct (.so x0::ms) 0 e f)(hN:X.N[0]?=some s:=by rfl)(hv:vU X.env.scope s:=by walk_at "v1")(hd:lx s:=by decide)
  (lT:yE s:=by decide) (hs:gQ e (some (.Attribute (.Name s p1) x pos')) pos.line X.env=pure false:=by rfl):XS X ct (.so x0::ms) rk (.Assign [.Attribute (.Name s p1) x pos'] e pos) (nO cs x f):=by
 obtain⟨t,pt,qt⟩:=he;refine⟨_,zth (yb hN hv hd lT) pt hs,λF0 B F H ρ σ o E rs e z=>?_⟩;obtain⟨d,h1,h2⟩:=cQ e;obtain⟨ob,h3,h4⟩:=cQ h2;refine qt F0 B F H ρ σ d _ rs h1 λy F1 H1 x1 l=>?_;have wD:=rs.ext x1;obtain⟨hσ,ow,hB,put⟩:=wD.self (F':=F) (H':=H) (z6 h3);refine⟨_,hσ,?_⟩;cases ob with
 |obj c ns ds=>
  dsimp only at h4;by_cases hz:cs.contains c=true/\ns.contains x=false/\ns.length<900
  ·rw[if_pos hz]at h4;cases h4;obtain⟨a,dx,vs,fr,e1,e2,hF,hH,hl,ol⟩:=ow.obj_inv;cases e1;cases e2;have hh:=hc c (by simpa using hz.1);refine⟨x0,_,dx,_,rfl,hH,hh.1,hh.2,by rw[kZ,←hl,pX];omega,?_⟩;rw[Pj hl hz.2.1];refine z σ F1 _ (put F1 _ _ (.refl _) (λb o h=>?_) (λb o h=>?_) wD.nf (λb o h ne=>by rw[zj ne];exact h) (λb o h ne _ hn=>hn) (.inr (Bd.obj (vs:=vs++[y]) hF zk (by simp[hl]) ?_)))
   ·rw[zj (λe=>by rw[e,hB]at h;cases h)];exact wD.bh _ _ h
   ·rw[zj (λe=>by rw[e,hF]at h;cases h)];exact wD.fh _ _ h
   ·have o1:jU (Ow X.K ct F1 (eS H1 x0 (.ins (ct c) dx ((ns++[x]).zip (vs++[y])))) 0) ds vs []:=ol.mono λ_ _ _ _ q=>⟨q.1,q.2⟩;have:=o1.append (jU.cons (f:=[]) (g:=[]) (R:=Ow X.K ct F1 (eS H1 x0 (.ins (ct c) dx ((ns++[x]).zip (vs++[y])))) 0) ⟨l,rfl⟩ .nil);exact this
  ·rw[if_neg hz]at h4;cases h4
 |_=>cases h4
variable {fd:cH}
theorem ZN (M:Mk X.K (ct c0) fa)(vY:c0∈cs)(Fn:dM X.prog X.w X.K X.mg X.base gC kk fa fd ps (zQ X.K ct cs (ns++nd) mi))(hr:fw (kk+1) X.A)(hg:Gl X x)(hm:X.mg x=some (.ref (ct c0)))
  (hb:fF X.K fd ps rX) (hd:dA jS rX) (Au:∀F G,nc X.K ct F G nd mq jS) (ha:XA X ct ms (e::es) ns fs)
  (kM:lx x:=by decide) (he:SE X e es:=by rfl) (gW:oa X pos es:=by rfl) :
  XO X ct ms 1 (.Call (.Name x pp) (e::es) [] pos) (λρ=>(fs ρ).bind λds=>mi c0 (ds++mq)):=by
 obtain⟨t,pt,_,qt⟩:=ha;refine⟨_,Zb M Fn hr hg hm hb hd sO pt kM he gW,λF0 B F H ρ σ r Q rs e w=>?_⟩;obtain⟨ds,h1,h2⟩:=cQ e;refine qt F0 B F H ρ σ ds _ rs h1 λvs F1 H1 x1 l y dy hy JX mE=>?_;have sH:dz H1 (tq (eS (eS H1 dy (.own y)) y (.ins (ct c0) dy [])) y):=λb o h=>by have n1:b≠y:=zl h hy;rw[EJ n1,zj n1,zj (zl h JX)];exact h
 have K1:dz H1 (eS (eS H1 dy (.own y)) y (.ins (ct c0) dy [])):=sH.trans (qr _ _);refine⟨F1,c0,ds++mq,r,y,dy,vs++jS,vY,rfl,zk,x1.fh.free hy,x1.fh.trans K1,nc.mono (.refl _) sH (nc.append (Au F1 H1) l),h2,λF' H' s1 s2 s3 s4 hn ow=>⟨rfl,?_⟩⟩;refine w _ F' H' [y] ⟨x1.ff.trans s1,(x1.hh.trans sH).trans s2,s3,λb o h t n=>s4 b o (sH _ _ (x1.hh _ _ h)) t (x1.nf b o h t n)⟩ ow (by simp) λb z=>?_;rw[cz]at z;subst z;exact x1.hh.free hy
theorem Yr {sp:Sp}{ds:List bV}{E:XK}{m:Str}{p:m9}{t:TA}{mc:bV}(Fn:dM X.prog X.w X.K X.mg X.base gC kk fa fd ps sp)(hr:fw kk X.A)(hg:Gl X x)(hm:X.mg x=some (.ref C))
  (h1:fC X.K (.ref C) "__getattribute__"=some (some (.builtin "type.__getattribute__"))) (h2:kT X.K C mc=true) (h3:kS X.K (.ref C) mc m=some (.val (.ref fa))) (hk:dn X.K (.ref fa)=true) (hb:fF X.K fd ps ds) (hd:dA jS ds) (hx:mn gC X E) (ha:PA X (e::es) t)
  (kM:lx x:=by decide) (ky:SE X e es:=by rfl) (gW:oa X pos es:=by rfl)
  (ht:ei (.Call (.Attribute (.Name x p) m gq) (e::es) [] pos) X.env=(do
   let ov ← ei (.Name x p) X.env
   lz gq.atName
   let(f,first) ← kh [ov] (kz ov m pl)
   mT pos f first (jM pos (c9 (e::es) X.env)) (lP pos (iu [] X.env))):=by rfl) :
  PE X (.Call (.Attribute (.Name x p) m gq) (e::es) [] pos) (CH sp jS E t):=by
 intro bX s σ H Q I h;refine ie (pl:=pl) (x6 I hg hm ?_ kM) ht;refine uX I.kIn h1 (vL I.kIn h2 h3 rfl ?_);have I1:Inv X bX σ H { s with toks:=s.toks+1 }:=I.tok _;refine fJ (first:=[]) (h₀:=X.base) I.ok.mod.kin hk (fN (ha pos bX _ σ H _ I1 h) λus s2 ⟨vs,H2,I2,r,q2⟩=>⟨I2.kIn,?_⟩) ky gW;exact IV (us:=us) (vs:=vs) Fn hr hb hd hx I2 r q2
theorem nc.flat {vs:List V}(h:nc K ct F G ns ds vs)(e:ns.all (· == 0)=true):nc K ct F G' ns ds vs:=by
 induction h with
 |nil=>exact .nil
 |cons h t ih=>rw[gp,cx]at e;cases eq_of_beq e.1;exact .cons h (ih e.2)
def tN (cs:List Nat)(fs:Env->Option (List D))(mi:Nat->List D->Option D):SF:=λρ=>(eV 0 ρ).bind λo=>(fs ρ).bind λds=>match o with
 |.obj c [] []=>if cs.contains c=true then(mi c ds).bind λd=>some (.nx (ρ.set 0 (some d)))else none
 |_=>none
theorem Md {s m:Str}{p:m9}{mc:bV}(Fn:dM X.prog X.w X.K X.mg X.base gC kk fa fd ps (zQ X.K ct cs ns mi))(hr:fw kk X.A)(hm:X.mg x=some (.ref C))
  (h1:fC X.K (.ref C) "__getattribute__"=some (some (.builtin "type.__getattribute__"))) (h2:kT X.K C mc=true) (h3:kS X.K (.ref C) mc m=some (.val (.ref fa))) (hk:dn X.K (.ref fa)=true) (hb:fF X.K fd ps []) (hz:ns.all (· == 0)=true) (ha:XA X ct (.so x0::ms) es ns fs)
  (hg:Gl X x:=by rfl) (hN:X.N[0]?=some s:=by rfl) (hv:vU X.env.scope s:=by walk_at "v1") (hd:lx s:=by decide)
  (lT:yE s:=by decide) (kM:lx x:=by decide) (ky:c9 (.Name s p1::es) X.env=(false,ei (.Name s p1) X.env)::c9 es X.env:=by rfl) (gW:oa X gU es:=by rfl)
  (ht:ei (.Call (.Attribute (.Name x p) m gq) (.Name s p1::es) [] gU) X.env=(do
   let ov ← ei (.Name x p) X.env
   lz gq.atName
   let(f,first) ← kh [ov] (kz ov m pl)
   mT gU f first (jM gU (c9 (.Name s p1::es) X.env)) (lP gU (iu [] X.env))):=by rfl)
  (AH:gQ (.Call (.Attribute (.Name x p) m gq) (.Name s p1::es) [] gU) none pos.line X.env=pure false:=by rfl) :
  XS X ct (.so x0::ms) rk (.Expr (.Call (.Attribute (.Name x p) m gq) (.Name s p1::es) [] gU) pos) (tN cs fs mi):=by
 obtain⟨t,pt,_,qt⟩:=ha;refine⟨_,ve (Yr (E:=E0) Fn hr hg hm h1 h2 h3 hk hb .nil sO (zy (yb hN hv hd lT) pt ky) kM ky gW ht) AH,λF0 B F H ρ σ o E rs e z=>?_⟩;obtain⟨ob,ds,g1,g2,g3⟩:=gD e;obtain⟨hσ,ow,hB,put⟩:=rs.self (F':=F) (H':=H) (z6 g1);refine⟨_,hσ,qt F0 B F H ρ σ ds _ rs g2 λvs F1 H1 x1 l=>?_⟩;have wD:=rs.ext x1;obtain⟨hσ,ow,hB,put⟩:=wD.self (F':=F) (H':=H) (z6 g1)
 match ob,g3,ow with
 |.obj c [] [],g3,ow=>
  dsimp only at g3;by_cases hc:cs.contains c=true
  ·rw[if_pos hc]at g3;obtain⟨d,g4,g5⟩:=cQ g3;cases g5;obtain⟨a,dx,us,fr,e1,e2,hF,hH,hl,ol⟩:=ow.obj_inv;cases e1;cases e2;refine⟨F1,c,ds,d,x0,dx,vs++[],by simpa using hc,rfl,hH,hF,x1.fh,?_,g4,λF' H' s1 s2 s3 s4 hn o'=>?_⟩
   ·rw[cS];exact l.flat hz
   ·have sB:dz B (tq H1 x0):=λb o h=>by rw[EJ (λe=>by rw[e,hB]at h;cases h)];exact wD.bh _ _ h
    exact z σ F' H' (put F' H' d s1 (sB.trans s2) s3 (λb o h t n=>s4 b o (sB _ _ h) t (wD.nf b o h t n)) (λb o h ne=>s2 _ _ (by rw[EJ ne];exact h)) (λb o h ne t Bj=>s4 b o (by rw[EJ ne];exact h) t Bj) o')
  ·rw[if_neg hc]at g3;cases g3
end
structure nr (K:bZ)(mg:Str->Option bV)(x:Str)(st:ek)(ps:List Str)(f:ce)(fd:cH):Prop where
 fn:Fun2 K x x st f fd
 mgx:mg x=some (.ref f)
 bd:fF K fd ps []
structure Dm (K:bZ)(C:ce)(m qual:Str)(st:ek)(ps:List Str)(f:ce)(fd:cH):Prop where
 fn:Fun2 K m qual st f fd
 me:pI K C m f
 bd:fF K fd ps []
structure Dc (K:bZ)(mg:Str->Option bV)(x:Str)(C:ce):Prop where
 cl:qG K C
 mgx:mg x=some (.ref C)
 mks:p4 K C=true
 kp:dn K (.ref C)=true
structure Dq (K:bZ)(C:ce)(m:Str)(f:ce):Prop where
 sp:fC K (.ref C) "__getattribute__"=some (some (.builtin "type.__getattribute__"))
 rd:kT K C (.type "type")=true
 fc:kS K (.ref C) (.type "type") m=some (.val (.ref f))
variable {an od:Option ce}{gN dV doc oc:bV}{xH:Array (Option bV)}
theorem Qb {f:ce}{kV pm ct:bV}(l:K.lookup f=some ⟨oc,od,.func (jO x qual (la st) (fU st) (dc st) dV kV doc pm an gN ct),xH⟩)
  (c:nE K gN qual=true) (k:dn K (.ref f)=true):Fun2 K x qual st f (jO x qual (la st) (fU st) (dc st) dV kV doc pm an gN ct):=⟨⟨oc,od,dV,kV,doc,pm,an,gN,ct,xH,rfl,l,c⟩,k⟩
variable {T:ce}{items:Array bV}
theorem ZO {fd:cH}{ds:List bV}{o:f9}(hd:fd.defaults=.ref T)(ho:K.lookup T=some o)(hs:o.data=.seq items n)
  (h:∀us:List bV,(us++ds).length=ps.length->∃k,bindArgs fd ⟨us,[]⟩=seqItems? fd.defaults >>= k/\k (some items)=pure (ps.zip (us++ds))):fF K fd ps ds:=λs us X hl=>by
 obtain⟨k,h1,h2⟩:=h us hl;exact PySem.W.binds_K X hd ho hs h1 h2
theorem Qc (m:Nat){fd:cH}{ds:List bV}{o:f9}(ho:K.lookup T=some o)(h:∀us:List bV,us.length=m->∃k,bindArgs fd ⟨us,[]⟩=seqItems? fd.defaults >>= k/\k (some items)=pure (ps.zip (us++ds)))(hd:fd.defaults=.ref T:=by rfl)(hs:o.data=.seq items n:=by rfl)(hm:m+ds.length=ps.length:=by rfl):fF K fd ps ds :=
 ZO hd ho hs λus hl=>h us (by rw[cp]at hl;omega)
def Jp (x:Str):It:=⟨λi _=>∃c,x.cps[i]?=some c,λi H v H'=>H'=H/\∃c,x.cps[i]?=some c/\v=.str ⟨#[c]⟩,λi _=>x.cps[i]?=none⟩
theorem Ys {w:dw}(x:Str)(t:Tok)(it:ce):Turn P w K tg (Jp x) [it] it (λi h=>h.IsStrIter it (fu x) x t i) where
 mem:=by simp
 obj:=λi h st b hb=>by
  have e:b=it:=by simpa using hb
  subst e;obtain⟨o,e,c,d⟩:=st;exact⟨o,e,λv z=>by rw[d]at z;cases z⟩
 keep:=λi h h' st k=>by obtain⟨o,e,c,d⟩:=st;exact⟨o,k it (by simp) o e,c,d⟩
 item:=by
  intro X hP hw hK hc i bX s σ H E I hf st hg;subst hP hw hK;obtain⟨c,hx⟩:=hg;obtain⟨f0,f1,f2,f3,f4,f5⟩:=hf it (by simp);have fin:∀h':cB,h'.IsStrIter it (fu x) x t (i+1)->gK it s.heap h'->cF (cC X.prog X.w) X.A (lV tg (.ref it) (.str ⟨#[c]⟩ s.toks)) (λ_ s2=>∃v H',Inv X bX σ H' s2/\RelV v (.str ⟨#[c]⟩ s.toks)/\(Jp x).yld i H v H'/\s2.heap.IsStrIter it (fu x) x t (i+1)/\∀b∈[it],H' b=none) E { s with heap:=h',toks:=s.toks+1 }:=λh' wI sb=>by have I1:Inv X bX σ H { s with heap:=h',toks:=s.toks+1 }:=I.turned (t':=s.toks+1) (λb o hb e=>(sb.2 b hb).trans e) f0 f1 f3 f4 f5;obtain⟨o,e,cc,d⟩:=id wI;refine Je (s:={ s with heap:=h',toks:=s.toks+1 }) e cc d ?_ ⟨.str ⟨#[c]⟩,H,I1,⟨_,rfl⟩,⟨rfl,c,hx,rfl⟩,wI,λb hb=>(hf b hb).1⟩;unfold fu;split<;>decide
  cases ha:x.cps.all (·<128)with
  |true=>
   have e:fu x = "str_ascii_iterator":=by unfold fu;rw[ha];rfl
   rw[e]at st fin;exact wpAny_pyNext_ascii_item st hx λh' wI sb=>⟨_,rfl,by rw[e];exact fin h' wI sb⟩
  |false=>
   have e:fu x = "str_iterator":=by unfold fu;rw[ha];rfl
   rw[e]at st fin;exact wpAny_pyNext_wide_item st hx λh' wI sb=>⟨_,rfl,by rw[e];exact fin h' wI sb⟩
 done:=by
  intro X hP hw hK hc i bX s σ H E I hf st hg;subst hP hw hK;obtain⟨f0,f1,f2,f3,f4,f5⟩:=hf it (by simp);cases ha:x.cps.all (·<128)with
  |true=>
   have e:fu x = "str_ascii_iterator":=by unfold fu;rw[ha];rfl
   rw[e]at st;exact wpAny_pyNext_ascii_end (I.ok.hd hc) st hg λh' eb=>⟨rfl,I.turned (t':=s.toks) (λb o hb e=>eb b o hb e) f0 f1 f3 f4 f5⟩
  |false=>
   have e:fu x = "str_iterator":=by unfold fu;rw[ha];rfl
   rw[e]at st;exact wpAny_pyNext_wide_end (I.ok.hd hc) st hg λh' eb=>⟨rfl,I.turned (t':=s.toks) (λb o hb e=>eb b o hb e) f0 f1 f3 f4 f5⟩
 self:=λA i s Q E st h=>by
  cases ha:x.cps.all (·<128)with
  |true=>
   have e:fu x = "str_ascii_iterator":=by unfold fu;rw[ha];rfl
   rw[e]at st;exact wpAny_pyIter_striter_ascii st h
  |false=>
   have e:fu x = "str_iterator":=by unfold fu;rw[ha];rfl
   rw[e]at st;exact wpAny_pyIter_striter_wide st h
def Ky (tl:TE):TI:=λσ H R=>tl σ H λx H1=>∃z,x=.str z/\R (Jp z) H1
theorem zul {l:Expr}{tl:TE}(hl:PE X l tl):PI X tg l (Ky tl):=by
 intro bX s σ H R I h;refine fN (hl bX s σ H _ I h) λv s1 gu=>?_;obtain⟨x,H1,I1,r,z,e,q⟩:=gu;subst e;obtain⟨t,rfl⟩:=r;refine wpAny_pyIter_strU ?_;refine⟨s1.heap.objs.size,[s1.heap.objs.size],_,_,H1,rfl,I1.kept (t':=s1.toks) λb o e=>bY _ e,(Ys z t _).ok,⟨_,cO _ rfl,rfl,rfl⟩,λb hb=>?_,q⟩;have e:b=s1.heap.objs.size:=by simpa using hb
 subst e;exact I1.fpOk (cI _) (I1.hok.fresh (cI _))
def rD (x:Str):List D:=x.cps.toList.map λc=>.str ⟨#[c]⟩
def Jt:D->Option (List D)
 |.str x=>some (rD x)
 |_=>none
theorem Q9 (he:XE X ct ms m e f):XI X ct ms n tg e (λρ=>(f ρ).bind Jt):=by
 obtain⟨t,pt,qt⟩:=he;refine⟨_,zul pt,λF0 B F H ρ σ ds R rs e w=>?_⟩;obtain⟨d,h1,h2⟩:=cQ e;refine qt F0 B F H ρ σ _ _ rs h1 λv F' H' x l=>?_;cases d with
 |str z=>
  cases h2;refine⟨z,l.str,w _ F' H' x λi F2 H2 s1 s2 s3=>⟨λd hd=>?_,λhl=>?_⟩⟩
  ·unfold rD at hd;rw[dG]at hd;obtain⟨c,hc,rfl⟩:=eP.mp hd;have Cm:z.cps[i]?=some c:=by simpa using hc
   refine⟨⟨c,Cm⟩,λy H3 hy=>?_⟩;obtain⟨rfl,c2,h3,rfl⟩:=hy;rw[Cm]at h3;cases h3;exact⟨F2,.refl s3,Al.of (.str _)⟩
  ·unfold rD at hl;rw[ck,iY]at hl;exact Array.getElem?_eq_none hl
 |_=>cases h2
theorem Yt [DecidableEq κ](k:κ)(v:V):∀{ks:List κ} {vs:List V},ks.length=vs.length->putK (ks.zip vs) k v=(if ks.contains k=true then ks.zip ((ks.zip vs).map λp=>if p.1=k then v else p.2)else(ks++[k]).zip (vs++[v])):=by
 intro ks vs hl;unfold putK;have e:((ks.zip vs).any λkv=>decide (kv.1=k))=ks.contains k:=by
  rw[Bool.eq_iff_iff,Aa,gB];constructor
  ·rintro⟨p,hp,he⟩;have:=decide_eq_true_iff.mp he;rw[←this];exact(jE hp).1
  ·intro hk;obtain⟨i,hi,rfl⟩:=List.getElem_of_mem hk;exact⟨(ks[i],vs[i]'(by omega)),iL.mpr ⟨i,by simp;omega,by simp⟩,by simp⟩
 rw[e];by_cases h:ks.contains k=true
 ·rw[if_pos h,if_pos h];clear e h;induction ks generalizing vs with
  |nil=>simp
  |cons y ks ih=>
   cases vs with
   |nil=>simp at hl
   |cons u vs=>simp only[hV,cL,ih (by simpa using hl)];by_cases hy:y=k<;>simp[hy]
 ·rw[if_neg h,if_neg h,A7 hl];rfl
variable {all sub:List Nat}
def oz (i:Nat)(fj f:EF):SF:=λρ=>(f ρ).bind λd=>(eV i ρ).bind λo=>(fj ρ).bind λj=>match o with
 |.dK ks ds=>(BQ j).bind λk=>if ks.length<16777216 then some (.nx (ρ.set i (some (.dK (iF ks ds k d).1 (iF ks ds k d).2))))else none
 |.dT ks ds=>(match j with
  |.tup js=>(uH js).bind λk=>if ks.length<16777216 then some (.nx (ρ.set i (some (.dT (iF ks ds k d).1 (iF ks ds k d).2))))else none
  |_=>none)
 |_=>none
theorem OX [DecidableEq κ]{v:V}(r:R d v)(k:κ){ks:List κ}{vs:List V}(hl:ks.length=vs.length)(hp:Pr R ds vs) :
  ∃us,putK (ks.zip vs) k v=(iF ks ds k d).1.zip us/\(iF ks ds k d).1.length=us.length/\Pr R (iF ks ds k d).2 us:=by
 rw[Yt k v hl];unfold iF;by_cases h:ks.contains k=true
 ·rw[if_pos h,if_pos h];refine⟨_,rfl,by simp[hl],?_⟩;clear h;induction ks generalizing ds vs with
  |nil=>simp;exact .nil
  |cons y ks ih=>
   cases hp with
   |nil=>simp at hl
   |cons h t=>
    simp only[hV,cL];refine .cons ?_ (ih (by simpa using hl) t);by_cases hy:y=k
    ·rw[if_pos hy,if_pos hy];exact r
    ·rw[if_neg hy,if_neg hy];exact h
 ·rw[if_neg h,if_neg h];exact⟨_,rfl,by simp[hl],hp.append (.cons r .nil)⟩
theorem Me (i:Nat){j:Expr}{wL:m9}{fj:EF}(hm:ms[i]?=some (.ow 1))(hu:X.A.units+1<kR)(hj:XE X ct ms 0 j fj)(he:XE X ct ms 0 e f)(hN:X.N[i]?=some x:=by rfl)(hv:vU X.env.scope x:=by walk_at "v1")(hd:lx x:=by decide)
  (lT:yE x:=by decide) (hs:gQ e (some (.Subscript (.Name x p1) j wL)) pos.line X.env=pure false:=by rfl) :
  XS X ct ms rk (.Assign [.Subscript (.Name x p1) j wL] e pos) (oz i fj f):=by
 obtain⟨t,pt,qt⟩:=he;obtain⟨tj,KS,KW⟩:=hj;refine⟨_,Zn hu (yb hN hv hd lT) KS pt hs,λF0 B F H ρ σ o E rs e z=>?_⟩;obtain⟨d,g1,g2⟩:=cQ e;obtain⟨d1,Fd,g3,g4,g5⟩:=gD g2;refine qt F0 B F H ρ σ d _ rs g1 λv0 F1 H1 x1 l0=>?_;have wD:=rs.ext x1;obtain⟨f1,fr,n1,b1,dj,i4,cf,put⟩:=wD.put (F':=F) (H':=H) hm;obtain⟨v,hσ,ow⟩:=i4 d1 (z6 g3);refine⟨v,hσ,KW F0 B F1 H1 ρ σ Fd _ wD g4 λvj F2 H2 x2 lj=>?_⟩;have NH:Dt X.K ct F2 d v0:=Dt.mono x2.ff l0;cases d1 with
 |dK ks ds=>
  dsimp only at g5;obtain⟨key,g6,g7⟩:=cQ g5;by_cases hz:ks.length<16777216
  ·rw[if_pos hz]at g7;cases g7;obtain⟨ad,vs,Fe,rfl,rfl,hF,hH,hl,ol⟩:=ow.dK_inv;have hA:=x2.hh _ _ hH;have fA:F2 ad=none:=x2.nf ad _ hH nofun hF;have e0:=ol.nil0;subst e0;have hp:Pr (Dt X.K ct F2) ds vs:=ol.pr λ_ _ _ _ q=>q.1.mono x2.ff;obtain⟨us,Ks,FG,Kt⟩:=OX NH key hl hp;have hk:=Mr g6 lj;subst hk;refine⟨ad,_,rfl,uC.k hA (by rw[kZ,←hl,pX,dD];exact hz),?_⟩;rw[Ks];refine z σ F2 _ (wD.change hm x2 hσ b1 dj cf put b9 fA (.inr (.dK fA zk FG (jU.ofPr (Kt.mono λ_ _ q=>⟨q,rfl⟩)))) (fn:=[ad]) (by simp) ?_);intro a ha;rw[cz]at ha;subst ha;exact .inl b9
  ·rw[if_neg hz]at g7;cases g7
 |dT ks ds=>
  cases Fd with
  |tup js=>
   dsimp only at g5;obtain⟨key,g6,g7⟩:=cQ g5;by_cases hz:ks.length<16777216
   ·rw[if_pos hz]at g7;cases g7;obtain⟨ad,vs,Fe,rfl,rfl,hF,hH,hl,ol⟩:=ow.dT_inv;have hA:=x2.hh _ _ hH;have fA:F2 ad=none:=x2.nf ad _ hH nofun hF;have e0:=ol.nil0;subst e0;have hp:Pr (Dt X.K ct F2) ds vs:=ol.pr λ_ _ _ _ q=>q.1.mono x2.ff;obtain⟨us,Ks,FG,Kt⟩:=OX NH key hl hp;obtain⟨bd,ws,rfl,hb,Kn⟩:=lj.tup x2.fh;have hk:=PZ g6 Kn;subst hk;refine⟨ad,_,rfl,uC.t hA hb (by rw[kZ,←hl,pX,dD];exact hz),?_⟩;rw[Ks];refine z σ F2 _ (wD.change hm x2 hσ b1 dj cf put b9 fA (.inr (.dT fA zk FG (jU.ofPr (Kt.mono λ_ _ q=>⟨q,rfl⟩)))) (fn:=[ad]) (by simp) ?_);intro a ha;rw[cz]at ha;subst ha;exact .inl b9
   ·rw[if_neg hz]at g7;cases g7
  |_=>cases g5
 |_=>cases g5
def Gg (K:bZ):V->V->Hp->VK->Prop:=λo i H Q=>∃p xs k v,o=.ref p/\i=.int k/\gZ K H p xs/\atI xs k=some v/\Q v H
theorem Xj:E4 X (Gg X.K):=by
 intro bX s σ H o i ov iv Q I ro ri h;obtain⟨p,xs,k,z,rfl,rfl,hq,he,q⟩:=h;cases ro;obtain⟨t,rfl⟩:=ri;obtain⟨dJ,r,pl,hz⟩:=I.list hq;obtain⟨j,h1,h2,h3,h4,h5⟩:=Iw he;obtain⟨w,ew,tM⟩:=r.get h2;have hl:=r.length;have hn:=oM;have fin:EP X bX σ Q w s:=⟨z,H,I,tM,q⟩;by_cases h0:0<=k
 ·have hj:k.toNat=j:=by rw[sU h0 h5]at h1;exact Option.some.inj h1
  exact wpAny_getItem_list pl.isList h0 (by omega) (by rw[hj];simpa using ew) fin
 ·have hj:(k+(dJ.toArray.size:Int)).toNat=j:=by rw[rJ (by omega) h4]at h1;rw[cJ,←hl];exact Option.some.inj h1
  exact wpAny_getItem_list_neg pl.isList (by omega) (by rw[cJ]<;>omega) (by omega) (by rw[hj];simpa using ew) fin
def uK (i:Nat)(fj:EF)(gi:Int->Int->Int)(f:EF):SF:=λρ=>(eV i ρ).bind λo=>(fj ρ).bind λj=>(f ρ).bind λy=>match o,j with
 |.lst ds,.int z=>(atI ds z).bind λx=>(match x,y with
  |.int a,.int b=>(xJ ds z (.int (gi a b))).bind λyH=>some (.nx (ρ.set i (some (.lst yH))))
  |_,_=>none)
 |_,_=>none
theorem Qd (i:Nat){j:Expr}{wL:m9}{fj:EF}{gi:Int->Int->Int}(ho:D0 X op (HC gi))(hm:ms[i]?=some (.ow 1))(hj:XE X ct ms n j fj)(he:XE X ct ms m e f)(hN:X.N[i]?=some x:=by rfl)(hv:vU X.env.scope x:=by walk_at "v1")(hd:lx x:=by decide)
  (lT:yE x:=by decide) (ha:∀ov iv new,augStore j ov iv new=(do kh [new,ov,iv] (setItem ov iv new);release [new,ov,iv] [];pure .next):=by intros;rfl) :
  XS X ct ms rk (.AugAssign (.Subscript (.Name x p1) j wL) op e pos) (uK i fj gi f):=by
 obtain⟨t,pt,qt⟩:=he;obtain⟨tj,KS,KW⟩:=hj;refine⟨_,YU (yb hN hv hd lT) KS Xj pt ho X3 ha,λF0 B F H ρ σ o E rs e z=>?_⟩;obtain⟨d1,Fd,g3,g4,g5⟩:=gD e;obtain⟨d2,g6,g7⟩:=cQ g5;obtain⟨f1,fr,n1,b1,dj,i4,cf,put⟩:=rs.put (F':=F) (H':=H) hm;obtain⟨v,hσ,ow⟩:=i4 d1 (z6 g3);refine⟨v,hσ,KW F0 B F H ρ σ Fd _ rs g4 λvj F2 H2 x2 lj=>?_⟩;cases d1<;>try (cases g7;done)
 rename_i ds;cases Fd<;>try (cases g7;done)
 rename_i zi
 ·skip
  dsimp only at g7;obtain⟨da,g8,g9⟩:=cQ g7;obtain⟨ad,vs,Fe,rfl,rfl,hF,hH,ol⟩:=ow.lst_inv;have hA:H2 ad=some (.lst vs):=x2.hh _ _ hH;have hp:Pr (Al X.K ct F2 H2 0) ds vs:=ol.pr λ_ _ _ _ q=>q.1.mono x2.ff;obtain⟨va,JK,BI⟩:=hp.atI g8;refine⟨ad,vs,zi,va,rfl,lj.int,gZ.of hA,JK,qt F0 B F2 H2 ρ σ d2 _ (rs.ext x2) g6 λvy F3 H3 x3 ly=>?_⟩;have uO:=x2.trans x3;cases da<;>try (cases g9;done)
  rename_i ia;cases d2<;>try (cases g9;done)
  rename_i ib
  ·skip
   dsimp only at g9;obtain⟨yH,Sw,Sx⟩:=cQ g9;cases Sx;obtain⟨jn,Sy,SA⟩:=cQ Sw;cases SA;have SO:H3 ad=some (.lst vs):=x3.hh _ _ hA;have fA:F3 ad=none:=uO.nf ad _ hH nofun hF;have e0:=ol.nil0;subst e0;refine⟨ia,ib,BI.int,ly.int,ad,vs,zi,jn,rfl,lj.int,SO,by rw[←ol.length];exact Sy,?_⟩;refine z σ F3 _ (rs.change hm uO hσ b1 dj cf put b9 fA (.inr (.lst fA zk (jU.set0 ⟨.int _,rfl⟩ (λ_ _ _ q=>q.2) jn (ol.mono λ_ _ _ _ q=>⟨q.1.mono uO.ff,q.2⟩)))) (fn:=[ad]) (by simp) ?_);intro a ha;rw[cz]at ha;subst ha;exact .inl b9
structure Ic (K:bZ)(C:ce):Prop where
 cl:qG K C
 ha:cT K (.ref C) "__class__"=some (some (.builtin "object.__class__"))
 hn:fC K (.builtin "object.__class__") "__get__"=some (some (.builtin "getset_descriptor.__get__"))
 ht:p5 K (.builtin "object.__class__")=some true
 hm:eX K C (.type "object")=some true
def rq (all sub:List Nat):D->Option D
 |.obj c _ _=>if all.contains c=true then some (.bl (sub.contains c))else none
 |_=>none
theorem Qe (hI:∀c∈all,Ic X.K (ct c)/\cV X.K (.ref (ct c)) (.ref C)=some (sub.contains c))(hm:X.mg "isinstance"=none)(tX:X.mg x=some (.ref C))(he:XE X ct ms n e f)(hg:Gl X "isinstance":=by rfl)(tW:Gl X x:=by rfl)(hd2:lx x:=by decide)
  (sE:c9 [e,.Name x p2] X.env=(false,ei e X.env)::c9 [.Name x p2] X.env:=by rfl) (o8:c9 [.Name x p2] X.env=(false,ei (.Name x p2) X.env)::c9 [] X.env:=by rfl) (gW:(jM pos (c9 [.Name x p2] X.env)).any (·.1)=false:=by rfl) :
  XE X ct ms k (.Call (.Name "isinstance" pp) [e,.Name x p2] [] pos) (e1 (rq all sub) f):=by
 obtain⟨t,pt,qt⟩:=he;refine⟨_,u0 WX hg hm xk (zy pt (zy (L6 (v:=.ref C) tW tX rfl hd2) yy o8) sE) (by decide) (by decide) sE gW,λF0 B F H ρ σ d Q rs e w=>?_⟩;obtain⟨d1,h1,h2⟩:=cQ e;refine qt F0 B F H ρ σ d1 _ rs h1 λv F' H' x l=>?_;cases d1 with
 |obj c ns ds=>
  unfold rq at h2;dsimp only at h2;by_cases hc:all.contains c=true
  ·rw[if_pos hc]at h2;cases h2;obtain⟨a,dx,vs,rfl,ha,_⟩:=l.obj x.fh;obtain⟨ic,FV⟩:=hI c (by simpa using hc);exact⟨_,C,_,_,rfl,.ins ha ic.cl ic.ha ic.hn ic.ht ic.hm,FV,w _ F' H' x (Al.of (.bl _))⟩
  ·rw[if_neg hc]at h2;cases h2
 |_=>cases h2
section
open PySem PySem.Spec L2
def jI (i:Int):Str:=((toString i:String):Str)
def wK:List D->Option D
 |[.int i]=>if i.natAbs.log2<1920 then some (.str (jI i))else none
 |_=>none
theorem II:Bc K ct [n] k (λxs H Q=>∃i,xs=[.int i]/\i.natAbs.log2<1920/\Q (.str (toString i)) H) wK:=by
 intro F H vs ds d Q s l e w;cases l with
 |cons h t=>
  cases t;rename_i d1 v;cases d1 with
  |int i=>
   unfold wK at e;dsimp only at e;by_cases hz:i.natAbs.log2<1920
   ·rw[if_pos hz]at e;cases e;exact⟨i,by rw[h.int],hz,w _ F H (.refl s) (Al.of (.str _))⟩
   ·rw[if_neg hz]at e;cases e
  |_=>cases e
theorem uf (s:String):cU.strOk (s:Str)=true:=by
 unfold cU.strOk;rw[←yT,dB];intro x hx;rw[decide_eq_true_iff];show x<0x110000;rw[Str.ofString_eq_toList]at hx;simp at hx;obtain⟨c,_,rfl⟩:=hx;have h:=c.valid;rcases h with h|⟨h1,h2⟩
 ·have:c.val.toNat<0xd800:=h;show c.val.toNat<_;omega
 ·exact h2
theorem MB (i:Int):cU.strOk (jI i)=true:=uf _
theorem Ra (hx:cU.strOk x=true)(hy:cU.strOk y=true):cU.strOk (x++y)=true:=by unfold cU.strOk at *;show(x.cps++y.cps).all _=true;rw[Array.all_append,hx,hy];rfl
def Es:sW {x:Str // cU.strOk x=true}:=⟨λx=>.str x.1,λx=>.str x.1,0,λ_=>by simp[D.py],λx=>by simp only[cU.canLay0];exact x.2,λ_=>by simp[cU.depth],λx y=>by
 show(x.1==y.1)=_;by_cases h:x=y
 ·subst h;simp
 ·have:x.1≠y.1:=λz=>h (Subtype.ext z);simp[h,this]⟩
theorem vn (hx:cU.strOk x=true)(hy:cU.strOk y=true):iz neg (.str x) (.str y)=some (.bl (if neg then !decide (x=y)else decide (x=y))):=by have:=Es.eq (by decide) (neg:=neg) ⟨x,hx⟩ ⟨y,hy⟩;simpa[Es]using this
theorem yi (x y:Str):(x++y).length=x.length+y.length:=by show(x.cps++y.cps).size=_;rw[Array.size_append];rfl
end
def Dw (K:bZ):V->List V->Hp->VK->Prop:=λx vs H Q=>∃p ys y j,x=.ref p/\vs=[y]/\gZ K H p ys/\mL y=true/\ys.all mL=true/\ys.findIdx? (λz=>yI z y)=some j/\Q (.int (j:Nat)) H
theorem Qf:∀{xs:List V} {us:List bV} {x:V},dA xs us->xs.all mL=true->us.map (zS x)=xs.map λy=>yI y x
 |_,_,_,.nil,_=>rfl
 |y::xs,u::us,x,.cons r t,f=>by rw[gp,cx]at f;rw[cL,cL,Mn r f.1,Qf t f.2]
theorem Yu:DY X "list.index" (Dw X.K):=by
 intro bX s σ H x vs v us Q I rx rv h;obtain⟨p,ys,y,j,rfl,rfl,hq,fy,fs,hj,q⟩:=h;cases rx;obtain⟨u,rfl,ru⟩:=rv.one;obtain⟨dJ,r,pl,hz⟩:=I.list hq;obtain⟨⟨cls,dd,data,sl⟩,ho,hc,n,hd⟩:=pl.isList;simp only at hc hd;subst hc hd;have hm:=Qf (x:=y) r fs;have ki:=r.length;obtain⟨j1,j2,j3⟩:=jT.mp hj;have Nb:∀i (hi:i<dJ.length),zS y dJ[i]=yI (ys[i]'(by omega)) y:=λi hi=>by have:=congrArg (λl=>l[i]?) hm;simp only[dG]at this;rw[cX hi,cX (by omega)]at this;simpa using this
 have hzl:ys.length<=16777216:=hz;refine lq PySem.F.slot_list_index ⟨_,ho,rfl⟩ PySem.F.entry_list_index (PySem.F.args_list_index_2 _ _)
  (SeqAt.list_indexAt p dJ.toArray n dd sl u (zS y) j (by simp;omega) (by omega) ?_ ?_) ⟨ho,λw hw=>qk ru fy r fs w (by simpa using hw),.int (j:Nat),H,I.tok _,⟨_,rfl⟩,q⟩
 ·simp only[vJ];rw[Nb j (by omega)];exact j2
 ·intro i hi pz;simp only[vJ];rw[Nb i (by simpa using hi)];simpa using j3 i pz
def oK:D->D->Option D
 |.lst ds,x=>if x.sc=true/\ds.all D.sc=true then(ds.findIdx? λy=>D6 y x).bind λj=>some (.int (j:Nat))else none
 |_,_=>none
theorem Rb {x:D}(hx:x.sc=true):∀{ds:List D},ds.all D.sc=true->(ds.map D.v).findIdx? (λz=>yI z x.v)=ds.findIdx? λy=>D6 y x
 |[],_=>rfl
 |d::ds,h=>by rw[gp,cx]at h;rw[cL,xO,xO,RC h.1 hx,Rb hx h.2]
theorem qv (ho:XE X ct ms n o f)(he:XE X ct ms m e g)(ky:SE X e []:=by rfl)
  (lD:Ag X o "index":=by rfl)
  (rm:DW X gU [e]:=by rfl)
  (lE:(gq.endLine==gU.line)=true:=by rfl) (lF:oa X gU []:=by rfl) :
  XE X ct ms k (.Call (.Attribute o "index" gq) [e] [] gU) (e2 oK f g):=by
 obtain⟨ta,pa,qa⟩:=ho;obtain⟨tb,pb,qb⟩:=he;refine⟨_,G1 PySem.F.plainAttrs_list PySem.F.slot_list_index PySem.F.type_list_index Yu pa (zy pb yy ky) lD rm lE ky lF,λF0 B F H ρ σ d Q rs e w=>?_⟩;obtain⟨d1,d2,h1,h2,h3⟩:=gD e;refine qa F0 B F H ρ σ d1 _ rs h1 λv1 F1 H1 x1 l1=>?_;cases d1 with
 |lst ds=>
  unfold oK at h3;dsimp only at h3;by_cases hz:d2.sc=true/\ds.all D.sc=true
  ·rw[if_pos hz]at h3;obtain⟨j,hj,h4⟩:=cQ h3;cases h4;obtain⟨p,vs,rfl,hp,Hw⟩:=l1.lst x1.fh;refine⟨.inl ⟨rfl,_,hp⟩,qb F0 B F1 H1 ρ σ d2 _ (rs.ext x1) h2 λv2 F2 H2 x2 l2=>?_⟩;have hv:=Hw.vs hz.2;subst hv;have hx:=Al.v l2 hz.1;subst hx;exact⟨p,_,_,j,rfl,rfl,x2.hh.seq hp,D.flat hz.1,u6 hz.2,by rw[Rb hz.1 hz.2];exact hj,w _ F2 H2 (x1.trans x2) (Al.of (.int _))⟩
  ·rw[if_neg hz]at h3;cases h3
 |_=>cases h3
theorem Qg:∀{xs:List V} {us:List bV},xs.length=us.length->(∀(i:Nat) (x:V) (u:bV),xs[i]?=some x->us[i]?=some u->L2.RelV x u)->dA xs us
 |[],[],_,_=>.nil
 |[],_::_,h,_=>by cases h
 |_::_,[],h,_=>by cases h
 |x::xs,u::us,h,r=>.cons (r 0 x u rfl rfl) (Qg (by simpa using h) λi y w hy hw=>r (i+1) y w (by simpa using hy) (by simpa using hw))
theorem On {uL:m9}
  (hm:ms[i]?=some (.ow k)) (hN:X.N.Nodup) (Fw:X.N[i]?=some x) (hx:Loc X.env.scope x)
  (B:oy X scope N own cap) (hc:X.calm=true) (ho:om.length=own) (rj:∀i∈cap,i<ms.length) (hi:XIc X ct ms n tg iter fi)
  (hg:∀cl C fp s₀ H₀,Bf (nv X scope cl N C fp s₀ H₀) ct (om++ko ms cap) own n tg gg) (ht:∀cl C fp s₀ H₀,Cg (nv X scope cl N C fp s₀ H₀) ct (om++ko ms cap) ifs p) (he:∀cl C fp s₀ H₀,XO (nv X scope cl N C fp s₀ H₀) ct (om++ko ms cap) (k-1) oV f)
  (AH:gQ (.ListComp oV [⟨tg,iter,ifs,0⟩] scope pos) (some (.Name x pos')) uL.line X.env=pure true:=by rfl)
  (hs:Aj X iter:=by intro _;rfl) (hf:uZ X x:=by walk_at "v2") :
  XS X ct ms rk (.Assign [.Name x pos'] (.ListComp oV [⟨tg,iter,ifs,0⟩] scope pos) uL) (sSet i (iR fi own cap gg p f)):=by
 obtain⟨wi,g,tt,te,pi,kg,pg,pt,pe,q⟩:=Pe (k:=k-1) (pos:=pos) B hc ho rj hi hg ht he;refine⟨_,Wf B hc pi kg pg pt pe hN Fw hx AH hs hf,λF0 B F H ρ σ o E rs e w=>?_⟩;obtain⟨d,h1,h2⟩:=cQ e;cases h2;cases k with
 |succ k=>exact q F0 B F H ρ σ d _ rs h1 λv F' H' fp x l nd hf=>w _ F' H' (rs.set hm x l nd hf)
 |zero=>refine q F0 B F H ρ σ d _ rs h1 λv F' H' fp x l nd hf=>?_;obtain⟨F2,x2,l2⟩:=l.freeze x hf;exact w _ F2 H' (rs.set hm x2 (Ow.zero l2) dk λa z=>by cases z)
theorem Qh (hm:ms[i]?=some (.ow k))(hN:X.N[i]?=some x:=by rfl)(hv:vU X.env.scope x:=by walk_at "v1")(hd:lx x:=by decide)
  (lT:yE x:=by decide):XS X ct ms 0 (.Return (some (.Name x pos')) pos) (sRet (eV i)):=by
 refine⟨_,Mp (yb hN hv hd lT),λF0 B F H ρ σ o E rs e w=>?_⟩;obtain⟨d,h1,h2⟩:=cQ e;cases h2;obtain⟨fp,sl,nd,hb⟩:=rs.sl;obtain⟨f1,fr,i1,i2,i3,i4,i5⟩:=sl.put hm;obtain⟨v,Em,l⟩:=i4 d (z6 h1);obtain⟨F',x,l2⟩:=l.freeze (⟨rs.f0,rs.bh,rs.fh,rs.nf⟩:ir F0 B F H) (λz hz=>hb z (i1 z hz));exact⟨v,Em,w v F' H [] x.ff x.hh x.fh x.nf (Ow.zero l2) dk λz hz=>by cases hz⟩
theorem zum (hu:X.A.units+1<kR)(ha:XE X ct ms n a f)(hb:XE X ct ms m b g)(hm:fX .In b=false):XT X ct ms (.Compare a [.In] [b] pos) (tb λρ=>(f ρ).bind λx=>(g ρ).bind λy=>(lW y x).bind λr=>some (.bl r.isSome)):=by
 obtain⟨ta,tb',pa,pb,q⟩:=ha.bin hb;refine⟨_,QW (ztw hu pa pb) hm,λF0 B F H ρ σ t Q rs e w=>?_⟩;obtain⟨d0,h0,h9⟩:=cQ e;obtain⟨d1,d2,h1,h2,h3⟩:=gD h0;obtain⟨r,h4,h5⟩:=cQ h3;cases h5;cases h9;refine q F0 B F H ρ σ d1 d2 _ rs h1 h2 λx y F' H' x1 l1 l2=>?_;obtain⟨a,o,rfl,g,_,h⟩:=Mb (r:=r) x1.fh l2 l1 h4;refine⟨a,o,rfl,g,?_⟩;cases r with
 |none=>rw[h.none_of];exact⟨_,rfl,w F' H' x1⟩
 |some d=>obtain⟨u,rfl,Di⟩:=h.some_of;exact⟨_,rfl,w F' H' x1⟩
theorem Xk (hu:X.A.units+1<kR)(ha:XE X ct ms n a f)(hb:XE X ct ms m b g)(hm:fX .NotIn b=false):XT X ct ms (.Compare a [.NotIn] [b] pos) (tb λρ=>(f ρ).bind λx=>(g ρ).bind λy=>(lW y x).bind λr=>some (.bl (!r.isSome))):=by
 obtain⟨ta,tb',pa,pb,q⟩:=ha.bin hb;refine⟨_,QW (WV hu pa pb) hm,λF0 B F H ρ σ t Q rs e w=>?_⟩;obtain⟨d0,h0,h9⟩:=cQ e;obtain⟨d1,d2,h1,h2,h3⟩:=gD h0;obtain⟨r,h4,h5⟩:=cQ h3;cases h5;cases h9;refine q F0 B F H ρ σ d1 d2 _ rs h1 h2 λx y F' H' x1 l1 l2=>?_;obtain⟨a,o,rfl,g,_,h⟩:=Mb (r:=r) x1.fh l2 l1 h4;refine⟨a,o,rfl,g,?_⟩;cases r with
 |none=>rw[h.none_of];exact⟨_,rfl,w F' H' x1⟩
 |some d=>obtain⟨u,rfl,Di⟩:=h.some_of;exact⟨_,rfl,w F' H' x1⟩
theorem SL.fz (h0:SL K ct F B H ms ρ σ fp)(s:dz F H):fp.Nodup->ms[i]?=some (.ow k)->∃f1:List ce,(∀a∈f1,a∈fp) /\
  ∃iA,SL K ct (mh F H f1) B H (ms.set i (.ow 0)) ρ σ iA/\iA.Nodup/\∀a∈iA,a∈fp/\a∉f1:=by
 induction h0 generalizing i with
 |nil=>intro _ e;simp at e
 |@no m0 o0 ms ρ σ fp t ih=>
  intro nd e;cases i with
  |zero=>obtain⟨w1,w2,w3⟩:=xf (F:=F) (H:=H) (fp:=[]) s (λa z=>by cases z);exact⟨[],λa z=>(by cases z),fp,.no (t.frame w1 λa z=>⟨rfl,by unfold mh;rw[if_neg (by simp)];exact(t.cells a z).1⟩),nd,λa z=>⟨z,by simp⟩⟩
  |succ i=>obtain⟨f1,h1,iA,q1,q2,q3⟩:=ih (i:=i) nd (by simpa using e);exact⟨f1,h1,iA,.no q1,q2,q3⟩
 |@al n0 d0 v0 ms ρ σ fp h t ih=>
  intro nd e;cases i with
  |zero=>simp at e
  |succ i=>obtain⟨f1,h1,iA,q1,q2,q3⟩:=ih (i:=i) nd (by simpa using e);obtain⟨w1,w2,w3⟩:=xf (F:=F) (H:=H) (fp:=f1) s (λa z=>(t.cells a (h1 a z)).1);exact⟨f1,h1,iA,.al (h.mono w1 (.refl _)) q1,q2,q3⟩
 |@px d0 v0 ms ρ σ fp h t ih=>
  intro nd e;cases i with
  |zero=>simp at e
  |succ i=>obtain⟨f1,h1,iA,q1,q2,q3⟩:=ih (i:=i) nd (by simpa using e);obtain⟨w1,w2,w3⟩:=xf (F:=F) (H:=H) (fp:=f1) s (λa z=>(t.cells a (h1 a z)).1);exact⟨f1,h1,iA,.px (h.mono w1 (.refl _)) q1,q2,q3⟩
 |@so d0 x ms ρ σ fp h t ih=>
  intro nd e;cases i with
  |zero=>simp at e
  |succ i=>
   obtain⟨n1,n2⟩:=dC.mp nd;obtain⟨f1,h1,iA,q1,q2,q3⟩:=ih (i:=i) n2 (by simpa using e);obtain⟨w1,w2,w3⟩:=xf (F:=F) (H:=H) (fp:=f1) s (λa z=>(t.cells a (h1 a z)).1);refine⟨f1,λa z=>cj _ (h1 a z),x::iA,.so (h.frame w1 λa z=>⟨rfl,?_⟩) q1,dC.mpr ⟨λz=>n1 (q3 x z).1,q2⟩,λa z=>?_⟩
   ·rw[cz]at z;unfold mh;rw[if_neg λq=>n1 (z▸h1 a q)];exact(h.cells a (by rw[z];exact b9)).1
   ·rcases cn.mp z with z|z
    ·exact⟨z▸b9,λq=>n1 (z▸h1 a q)⟩
    ·exact⟨cj _ (q3 a z).1,(q3 a z).2⟩
 |@ow n0 d0 v0 ms ρ σ f fp h t ih=>
  intro nd e;cases i with
  |zero=>obtain⟨w1,w2,w3⟩:=xf (F:=F) (H:=H) (fp:=f) s (λa z=>(h.cells a z).1);obtain⟨n1,n2,n3⟩:=c8.mp nd;refine⟨f,λa z=>cN _ z,[]++fp,.ow ⟨h.dt w1 w3,rfl⟩ (t.frame w1 λa z=>⟨rfl,?_⟩),n2,λa z=>⟨cK _ z,λq=>n3 a q a z rfl⟩⟩;unfold mh;rw[if_neg λq=>n3 a q a z rfl];exact(t.cells a z).1
  |succ i=>
   obtain⟨n1,n2,n3⟩:=c8.mp nd;obtain⟨f1,h1,iA,q1,q2,q3⟩:=ih (i:=i) n2 (by simpa using e);obtain⟨w1,w2,w3⟩:=xf (F:=F) (H:=H) (fp:=f1) s (λa z=>(t.cells a (h1 a z)).1);refine⟨f1,λa z=>cK _ (h1 a z),f++iA,.ow (h.frame w1 λa z=>⟨rfl,?_⟩) q1,c8.mpr ⟨n1,q2,λa z b zb=>n3 a z b (q3 b zb).1⟩,λa z=>?_⟩
   ·unfold mh;rw[if_neg λq=>n3 a z a (h1 a q) rfl];exact(h.cells a z).1
   ·rcases cG.mp z with z|z
    ·exact⟨cN _ z,λq=>n3 a z a (h1 a q) rfl⟩
    ·exact⟨cK _ (q3 a z).1,(q3 a z).2⟩
theorem SL.forget (m':Mo)(i:Nat)(h0:SL K ct F B H ms ρ σ fp):∃iA,SL K ct F B H (ms.set i m') (ρ.set i none) σ iA/\iA.Sublist fp:=by
 induction h0 generalizing i with
 |nil=>exact⟨[],.nil,.refl _⟩
 |@no m0 o0 ms ρ σ fp t ih=>
  cases i with
  |zero=>exact⟨fp,.no t,.refl _⟩
  |succ i=>obtain⟨iA,q1,q2⟩:=ih i;exact⟨iA,.no q1,q2⟩
 |@al n0 d0 v0 ms ρ σ fp h t ih=>
  cases i with
  |zero=>exact⟨fp,.no t,.refl _⟩
  |succ i=>obtain⟨iA,q1,q2⟩:=ih i;exact⟨iA,.al h q1,q2⟩
 |@px d0 v0 ms ρ σ fp h t ih=>
  cases i with
  |zero=>exact⟨fp,.no t,.refl _⟩
  |succ i=>obtain⟨iA,q1,q2⟩:=ih i;exact⟨iA,.px h q1,q2⟩
 |@so d0 x ms ρ σ fp h t ih=>
  cases i with
  |zero=>exact⟨fp,.no t,uA _ _⟩
  |succ i=>obtain⟨iA,q1,q2⟩:=ih i;exact⟨_,.so h q1,q2.cons₂ _⟩
 |@ow n0 d0 v0 ms ρ σ f fp h t ih=>
  cases i with
  |zero=>exact⟨fp,.no t,sm _ _⟩
  |succ i=>obtain⟨iA,q1,q2⟩:=ih i;exact⟨_,.ow h q1,(List.Sublist.refl _).append q2⟩
theorem RS.fz (rs:RS K ct F0 B ms F H ρ σ)(hm:ms[i]?=some (.ow k)):∃F',RS K ct F0 B (ms.set i (.ow 0)) F' H ρ σ:=by
 obtain⟨fp,sl,nd,hb⟩:=rs.sl;obtain⟨f1,h1,iA,q1,q2,q3⟩:=sl.fz rs.fh nd hm;obtain⟨w1,w2,w3⟩:=xf (F:=F) (H:=H) (fp:=f1) rs.fh (λa z=>(sl.cells a (h1 a z)).1);refine⟨mh F H f1,rs.f0.trans w1,rs.bh,w2,λa o ho nt hn=>?_,iA,q1,q2,λa z=>hb a (q3 a z).1⟩;have:¬a∈f1:=λz=>by rw[hb a (h1 a z)]at ho;cases ho
 unfold mh;rw[if_neg this];exact rs.nf a o ho nt hn
theorem RS.forget (m':Mo)(i:Nat)(rs:RS K ct F0 B ms F H ρ σ):RS K ct F0 B (ms.set i m') F H (ρ.set i none) σ:=by obtain⟨fp,sl,nd,hb⟩:=rs.sl;obtain⟨iA,q1,q2⟩:=sl.forget m' i;exact⟨rs.f0,rs.bh,rs.fh,rs.nf,iA,q1,q2.nodup nd,λa z=>hb a (q2.subset z)⟩
def xI (i:Nat):Out->Out
 |.nx ρ=>.nx (ρ.set i none)
 |.rt d=>.rt d
 |.bk ρ=>.bk (ρ.set i none)
 |.ct ρ=>.ct (ρ.set i none)
def sFz (i:Nat)(u:SF):SF:=λρ=>(u ρ).bind λo=>some (xI i o)
theorem Oo (hm:ms[i]?=some (.ow k)):(ms.set i (.ow 0)).set i (.ow k)=ms:=by
 rw[pD];apply my;intro j;rw[yZ];split
 ·next h=>subst h;rw[hm];have:=(cM.mp hm).1;rw[if_pos this]
 ·rfl
theorem zv1 {t:lA->St->Hp->Prop}(hm:ms[i]?=some (.ow k))
  (q:∀(F0 B F H:Hp) (ρ:Env) (σ:St) (o:Out) (E:lA),RS X.K ct F0 B (ms.set i (.ow 0)) F H ρ σ->w ρ=some o->nj X.K ct F0 B (ms.set i (.ow 0)) rk E o->t E σ H)
  (F0 B F H:Hp) (ρ:Env) (σ:St) (o:Out) (E:lA) (rs:RS X.K ct F0 B ms F H ρ σ) (e:sFz i w ρ=some o) (z:nj X.K ct F0 B ms rk E o):t E σ H:=by
 obtain⟨F',r2⟩:=rs.fz hm;obtain⟨o1,e1,e2⟩:=cQ e;refine q F0 B F' H ρ σ o1 E r2 e1 ?_;have back:∀{ρ':Env} {σ':St} {F2 H2:Hp},RS X.K ct F0 B (ms.set i (.ow 0)) F2 H2 ρ' σ'->RS X.K ct F0 B ms F2 H2 (ρ'.set i none) σ':=λr=>by have:=r.forget (.ow k) i;rw[Oo hm]at this;exact this
 cases o1 with
 |nx ρ'=>cases e2;exactλσ' F2 H2 r=>z σ' F2 H2 (back r)
 |rt d=>cases e2;exact z
 |bk ρ'=>cases e2;exactλσ' F2 H2 r=>z σ' F2 H2 (back r)
 |ct ρ'=>cases e2;exactλσ' F2 H2 r=>z σ' F2 H2 (back r)
theorem zun {Gu:List ek}(hm:ms[i]?=some (.ow k))(h:tm X ct (ms.set i (.ow 0)) rk Gu w):tm X ct ms rk Gu (sFz i w):=by obtain⟨t,pt,qt⟩:=h;exact⟨t,pt,zv1 hm qt⟩
theorem znw:xI i (.rt d)=.rt d:=rfl
theorem znx:xI i (.nx ρ)=.nx (ρ.set i none):=rfl
def kg (p q:Nat)(rv:Bool)(us ws:List α):List α:=if us.length=p/\ws.length=q then us++(if rv then ws.reverse else ws)else[]
theorem ZP:qR (bV.type "list_reverseiterator") (Str.ofString "__len__")=pure none:=by with_unfolding_all rfl
theorem Yv:qR (bV.type "list_reverseiterator") (Str.ofString "__length_hint__")=pure (some (bV.builtin "list_reverseiterator.__length_hint__")):=by with_unfolding_all rfl
theorem Xl:splitId "list_reverseiterator.__length_hint__"=some ("list_reverseiterator","__length_hint__"):=by with_unfolding_all rfl
theorem ZQ:isSubtype (bV.type "list_reverseiterator") (bV.type "list_reverseiterator")=pure true:=by with_unfolding_all rfl
variable {A:c7}{it:ce}{prog:dH}
theorem Yw {w:dw}{E:bV->cq->Prop}{i:Int}{Q:Bool->cq->Prop}(st:s.heap.IsRevIter it l i)(h:Q false s):cF (cC prog w) A (Builtin.List.listLengthHint (bV.ref it)) Q E s:=by unfold Builtin.List.listLengthHint;refine bW (tT st.typeIs ZP ?_);simp only[];refine bW (tT st.typeIs Yv ?_);simp only[Xl];refine bW (wpAny_isInstance st.typeIs ZQ ?_);rw[if_neg (by decide)];rw[if_pos (by with_unfolding_all decide),if_neg (by decide)];exact cw h
theorem Wv {w:dw}{R:Result->cq->Prop}(hh:A.handled=none)(st:s.heap.IsRevIter it l ((items.size:Int)-1))(hl:s.heap.IsList l items)(mE:l≠it)(hsz:items.size<=sizeLine)(S:ce)(res:bV)(c₀:Nat)(hS:s.heap.get? S=some { cls:=bV.type "list",data:=ot.seq #[] c₀ })(SX:S≠l)
    (hR:∀(h':cB) (tk:Nat) (pL:Array bV) (c':Nat),(∀(b:ce) (o:f9),b≠S->b≠it->s.heap.get? b=some o->h'.get? b=some o)->h'.get? S=some { cls:=bV.type "list",data:=ot.seq pL c' }->ItemsOf (λi v=>items[items.size-1-i]?=some v) pL items.size->R (Except.ok (Flow.ret res)) { s with heap:=h',toks:=tk }) :
    cF (cC prog w) A.in1 (Builtin.List.listExtendWith (bV.ref S) (bV.ref it) res) (λfin s'=>match fin with|Fin.done f=>R (Except.ok f) s'|Fin.again c'=>c'.quiet=true/\ix (cC prog w) A c' R s') (λe s'=>R (Except.error e) s') s:=by
  have Fh:S≠it:=λe=>by obtain⟨o,h1,h2,h3⟩:=st;rw[←e,hS]at h1;cases h1;simp at h2
  have W:=(Walks.listRev (prog:=prog) (w:=w) (A:=A.in1) hh it l mE items).toS;have key:ix (cC prog w) A (rG.builtin "list.extend.loop" { pos:=[bV.ref S,bV.ref it,res] }) R s:=by refine codeAny_extend_loopS W hsz S (by simp[Fh,SX]) res items.size 0 s #[] c₀ rfl (eI _) ⟨eI _,by simpa using st,hl⟩ hS (ItemsOf.nil _) λs' pL c' hm JI As=>?_;rw[Moved.eq_with hm];exact hR s'.heap s'.toks pL c' (λb o hb hi e=>hm.heap b o (by simp[hb,hi]) e) JI As
  unfold Builtin.List.listExtendWith;refine bW (wpAny_typeOf st.typeIs ?_);have h1:Builtin.List.listSameRef (bV.ref S) (bV.ref it)=false:=by simp[Builtin.List.listSameRef,Fh]
  have h2:(bV.type "list_reverseiterator" == bV.type "list")=false:=by decide
  have h3:(bV.type "list_reverseiterator" == bV.type "tuple")=false:=by decide
  simp only[h1,h2,h3,sS,eM,if_false];refine bW (wpAny_pyIter_revIter st ?_);refine bW (iM (Yw st ?_));rw[if_neg (by with_unfolding_all decide)];exact cw ⟨plainId_quiet F.plain_extend_loop _,key⟩
theorem Vs {w:dw}{E:bV->cq->Prop}{Q:bV->cq->Prop}(hh:A.handled=none)(st:s.heap.IsRevIter it l ((items.size:Int)-1))(hl:s.heap.IsList l items)(mE:l≠it)(hsz:items.size<=sizeLine)
    (hQ:∀(h':cB) (tk:Nat) (pL:Array bV) (c':Nat),(∀(b:ce) (o:f9),b≠it->s.heap.get? b=some o->h'.get? b=some o)->h'.get? s.heap.objs.size=some { cls:=bV.type "list",data:=ot.seq pL c' }->ItemsOf (λi v=>items[items.size-1-i]?=some v) pL items.size->Q (bV.ref s.heap.objs.size) { s with heap:=h',toks:=tk }) :
    cF (cC prog w) A (call (bV.type "list") [bV.ref it]) Q E s:=by
  refine callType_codes (Q₁:=λobj s₁=>obj=bV.ref s.heap.objs.size/\s₁ = { s with heap:=s.heap.push { cls:=bV.type "list",data:=ot.seq #[] } }) F.called_list (F.typeCall_list_1 (bV.ref it)) F.entry_list_init (code_list_new (bV.ref it) ⟨rfl,rfl⟩) λobj s₁ h₁=>?_;obtain⟨rfl,rfl⟩:=h₁;have hS:=cO s.heap (o:={ cls:=bV.type "list",data:=ot.seq #[] }) rfl;refine⟨⟨_,hS,rfl⟩,F.args_list_init_2 (bV.ref s.heap.objs.size) (bV.ref it),?_⟩;have FY:∀b o,s.heap.get? b=some o->b≠s.heap.objs.size:=λb o e=>cW (cy e);have Tq:s.heap.objs.size≠l:=λe=>by obtain⟨o,h1,_⟩:=hl;exact FY l o h1 e.symm
  have TQ:(#[]:Array bV).size<=sizeLine:=eI _;have Dk:(#[]:Array bV).size<=sizeLine+1:=eI _;show cF _ _ (Builtin.List.listItems (bV.ref s.heap.objs.size) >>= _) _ _ _;refine bW ?_;show cF _ _ (seqItems? (bV.ref s.heap.objs.size) >>= _) _ _ _;refine bW (wpAny_seqItems hS rfl ?_);refine cw ?_;show cF _ _ (updateSeq s.heap.objs.size (λ_=>#[]) >>= _) _ _ _;refine bW (wpAny_updateSeq hS rfl ?_ TQ Dk);have SY:((s.heap.push { cls:=bV.type "list",data:=ot.seq #[] }).update s.heap.objs.size (f9.mapSeq λ_=>#[])).get? s.heap.objs.size=some { cls:=bV.type "list",data:=ot.seq #[] 0 }:=eZ (f9.mapSeq λ_=>#[]) hS rfl;have KR:∀(b:ce) (o:f9),b≠s.heap.objs.size->s.heap.get? b=some o->((s.heap.push { cls:=bV.type "list",data:=ot.seq #[] }).update s.heap.objs.size (f9.mapSeq λ_=>#[])).get? b=some o:=λb o hb e=>(eR _ _ (Ne.symm hb)).trans (bY _ e);refine bW (wpAny_letGo ?_);obtain⟨oi,i1,i2,i3⟩:=st;obtain⟨ol,l1,l2,l3⟩:=hl;refine Wv (A:=A.in1) (R:=wants (λr s₂=>r=bV.none/\Q (bV.ref s.heap.objs.size) s₂) E) (s:={ s with heap:=(s.heap.push { cls:=bV.type "list",data:=ot.seq #[] }).update s.heap.objs.size (f9.mapSeq λ_=>#[]) }) (l:=l) (items:=items) hh ⟨oi,KR it oi (FY it oi i1) i1,i2,i3⟩ ⟨ol,KR l ol (FY l ol l1) l1,l2,l3⟩ mE hsz s.heap.objs.size bV.none _ SY Tq λh' tk pL c' hk JI As=>⟨rfl,hQ h' tk pL c' (λb o hb e=>hk b o (FY b o e) hb (KR b o (FY b o e) e)) JI As⟩
def CF (K:bZ):V->Hp->VK->Prop:=λx H Q=>∃a xs,x=.ref a/\gZ K H a xs/\∀p,H p=none->Q (.ref p) (eS H p (.lst xs.reverse))
def Gy (K:bZ)(te:TE):TE:=λσ H Q=>te σ H λx H1=>CF K x H1 Q
theorem ZR {te:TE}{rC:m9}(hc:X.calm=true)(hg:Gl X "list")(hm:X.mg "list"=none)(tW:Gl X "reversed")(tX:X.mg "reversed"=none)(he:PE X e te)(hs:SN X e:=by rfl)
  (o8:c9 [.Call (.Name "reversed" p2) [e] [] rC] X.env=[(false,ei (.Call (.Name "reversed" p2) [e] [] rC) X.env)]:=by rfl) :
  PE X (.Call (.Name "list" p1) [.Call (.Name "reversed" p2) [e] [] rC] [] pos) (Gy X.K te):=by
 intro bX s σ H Q I h;refine eT (ux I hg hm GR ?_ (by decide) (by decide));refine ej ?_ o8 rfl;rw[o8];show cF _ _ (spliced ((false,ei (.Call (.Name "reversed" p2) [e] [] rC) X.env)::[])) _ _ s;refine Calls.spliced_cons ?_;refine eT (ux (u:=.type "reversed") I tW tX (by rfl) ?_ (by decide) (by decide));refine ej (fN ((zy he yy hs) rC bX s σ H (λvs H1=>match vs with|[x]=>CF X.K x H1 Q|_=>False) I h) λus s1 ⟨vs,H1,I1,r,q⟩=>?_) hs rfl
 match vs,q with
 |[x],q=>
  obtain⟨a,xs,rfl,hq,q⟩:=q;obtain⟨u,rfl,ru⟩:=r.one;cases ru;obtain⟨dJ,rv,pl,hz⟩:=I1.list hq;have hl:=rv.length;refine call_reversed_list pl.isList (Calls.spliced_nil ?_);have I2:L2.Inv X bX σ H1 { s1 with heap:=s1.heap.push (Ca a ((dJ.toArray.size:Int)-1)) }:=I1.kept (t':=s1.toks) λb o e=>bY _ e;have st:(s1.heap.push (Ca a ((dJ.toArray.size:Int)-1))).IsRevIter s1.heap.objs.size a ((dJ.toArray.size:Int)-1):=⟨_,cO _ rfl,rfl,by simp[Ca]⟩;have Ia:(s1.heap.push (Ca a ((dJ.toArray.size:Int)-1))).IsList a dJ.toArray:=by obtain⟨o,h1,h2⟩:=pl.isList;exact⟨o,bY _ h1,h2⟩
  have RQ:a≠s1.heap.objs.size:=by obtain⟨o,h1,h2⟩:=pl.isList;exact cW (cy h1)
  refine Vs (I2.ok.hd hc) st Ia RQ (by rw[cJ,←hl];exact hz) λh' tk pL c' kp hS As=>?_;have Cu:(s1.heap.push (Ca a ((dJ.toArray.size:Int)-1))).objs.size=s1.heap.objs.size+1:=by simp[cB.push]
  have hv:dA xs.reverse pL.toList:=by
   obtain⟨e1,e2⟩:=As;have e3:pL.size=dJ.length:=by rw[e1,cJ]
   refine Qg ((ll).trans (hl.trans (e3.symm.trans iY.symm))) λi x u hx hu=>?_;have hi:i<xs.length:=by have:=(cM.mp hx).1;rwa[ll]at this
   rw[List.getElem?_reverse hi]at hx;obtain⟨u',Di,ru⟩:=rv.get hx;have:=e2 i u (by simpa using hu);rw[cJ,←hl]at this;have h3:dJ[xs.length-1-i]?=some u:=by simpa using this
   rw[Di]at h3;cases h3;exact ru
  have ki:xs.reverse.length<=sizeLine:=by rw[ll];exact hz
  refine⟨.ref _,_,I1.laid (t':=tk) (λb o e=>kp b o (cW (cy e)) (bY _ e)) (by rw[Cu];omega) (show gM X.prog X.w _ h' _ (.lst _)from⟨ki,pL.toList,c',hv,hS⟩),rfl,q _ (I1.hok.fresh (by rw[Cu];omega))⟩
def AK:D->Option D
 |.lst ds=>some (.lst ds.reverse)
 |_=>none
theorem ZS {rC:m9}(hn:n<=1)(hc:X.calm=true)(hg:Gl X "list")(hm:X.mg "list"=none)(tW:Gl X "reversed")(tX:X.mg "reversed"=none)(he:XE X ct ms n e f)(hs:SN X e:=by rfl)
  (o8:c9 [.Call (.Name "reversed" p2) [e] [] rC] X.env=[(false,ei (.Call (.Name "reversed" p2) [e] [] rC) X.env)]:=by rfl) :
  XO X ct ms 1 (.Call (.Name "list" p1) [.Call (.Name "reversed" p2) [e] [] rC] [] pos) (e1 AK f):=by
 obtain⟨t,pt,qt⟩:=he;refine⟨_,ZR hc hg hm tW tX pt hs o8,λF0 B F H ρ σ r Q rs e w=>?_⟩;obtain⟨d,h1,h2⟩:=cQ e;refine qt F0 B F H ρ σ d _ rs h1 λv F1 H1 x1 l=>?_;cases d with
 |lst ds=>cases h2;obtain⟨a,vs,rfl,ha,hp⟩:=Al.lst1 hn l x1.fh;exact⟨a,vs,rfl,ha,wp x1.fh (Pr.reverse hp) λv F2 H2 fp x2 l2 nd hf=>w v F2 H2 fp (x1.trans x2) l2 nd λz hz=>x1.hh.free (hf z hz)⟩
 |_=>cases h2
def gS (i:Nat):D->Env->Option Env:=λd ρ=>if d.sc=true then some (ρ.set i (some d))else none
def gL (gs:List D->Env->Option Env):D->Env->Option Env:=λd ρ=>match d with
 |.lst ds=>gs ds ρ
 |_=>none
theorem Rc (hc:X.calm=true)(h:E9 X ct ms (n-1) oA gs)(hl:(eK oA X.env).length=oA.length:=by rfl)(ky:(eK oA X.env).findIdx? (·.1)=none:=by rfl):XG X ct ms n (.Tuple oA j pos) (gL gs):=by
 obtain⟨t,pt,lt,qt⟩:=h;refine⟨_,ztz (n:=oA.length) hc pt hl ky,λF0 B F H ρ ρ' σ d v Q rs l e w=>?_⟩;cases d with
 |lst ds=>
  have:∃a vs,v=.ref a/\gZ X.K H a vs/\Pr (Al X.K ct F B (n-1)) ds vs:=by
   cases n with
   |zero=>
    have l:Dt X.K ct F (.lst ds) v:=l;cases l with
    |lst q t=>exact⟨_,_,rfl,rs.fh.seq q,t.pr⟩
   |succ n=>
    rcases l with l|l
    ·cases l with
     |lst q t=>exact⟨_,_,rfl,rs.fh.seq q,t.pr.mono λ_ _=>Al.of⟩
    ·cases l with
     |lst q t=>exact⟨_,_,rfl,gZ.of (rs.bh _ _ q),t⟩
  obtain⟨a,vs,rfl,ha,hp⟩:=this;exact⟨a,vs,rfl,ha,hp.length.symm.trans (lt _ _ _ e),qt F0 B F H ρ ρ' σ ds vs Q rs hp e w⟩
 |_=>cases e
def rJoin (K:bZ):V->List V->Hp->VK->Prop:=λx vs H Q=>∃sp p ys,x=.str sp/\vs=[.ref p]/\gZ K H p (ys.map V.str)/\(ys.map (·.length)).sum+ys.length*sp.length<=16777216/\Q (.str (PySem.Str.join sp ys)) H
theorem mQ:∀{ys:List Str} {us:List bV},dA (ys.map V.str) us->StrsAre us ys
 |[],_,.nil=>.nil
 |y::ys,_,.cons r t=>by obtain⟨tk,rfl⟩:=r;exact .cons y tk (mQ t)
theorem ZT:DY X "str.join" (rJoin X.K):=by intro bX s σ H x vs v us Q I rx rv h;obtain⟨sp,p,ys,rfl,rfl,hq,hl,q⟩:=h;obtain⟨tk,rfl⟩:=rx;obtain⟨u,rfl,ru⟩:=rv.one;cases ru;obtain⟨dJ,r,pl,hz⟩:=I.list hq;refine PyProof.Rows.join_list pl.isList (by simpa using mQ r) hl λt' k=>⟨.str (PySem.Str.join sp ys),H,I.tok _,⟨t',?_⟩,q⟩;have:PySem.Txt.join sp ys=PySem.Str.join sp ys:=PySem.StrLaws.glued_eq_join sp ys;rw[this]
def p7:List D->Option (List Str)
 |[]=>some []
 |.str i::ds=>(p7 ds).bind λns=>some (i::ns)
 |_=>none
theorem Oq:∀{ds:List D} {ns:List Str},p7 ds=some ns->ds=ns.map .str
 |[],_,e=>by cases e;rfl
 |d::ds,ns,e=>by
  cases d with
  |str i=>obtain⟨ms,h1,h2⟩:=cQ (show(p7 ds).bind _=_ from e);cases h2;rw[Oq h1];rfl
  |_=>cases e
def lG:D->D->Option D
 |.str sp,.lst ds=>(p7 ds).bind λys=>if(ys.map (·.length)).sum+ys.length*sp.length<=16777216 then some (.str (PySem.Str.join sp ys))else none
 |_,_=>none
theorem Re {F H:Hp}{K:bZ}:∀{ys:List Str} {vs:List V},Pr (Al K ct F H n) (ys.map D.str) vs->vs=ys.map V.str
 |[],_,.nil=>rfl
 |y::ys,_,.cons h t=>by have q:=Al.scal (F':=F) h rfl;cases q;rw[Re t];rfl
theorem ut (ho:XE X ct ms n o f)(he:XE X ct ms m e g)(ky:SE X e []:=by rfl)
  (lD:Ag X o "join":=by rfl)
  (rm:DW X gU [e]:=by rfl)
  (lE:(gq.endLine==gU.line)=true:=by rfl) (lF:oa X gU []:=by rfl) :
  XE X ct ms k (.Call (.Attribute o "join" gq) [e] [] gU) (e2 lG f g):=by
 obtain⟨ta,pa,qa⟩:=ho;obtain⟨tb,pb,qb⟩:=he;refine⟨_,G1 PySem.F.plainAttrs_str PySem.F.slot_str_join PySem.F.type_str_join ZT pa (zy pb yy ky) lD rm lE ky lF,λF0 B F H ρ σ d Q rs e w=>?_⟩;obtain⟨d1,d2,h1,h2,h3⟩:=gD e;refine qa F0 B F H ρ σ d1 _ rs h1 λv1 F1 H1 x1 l1=>?_;cases d1 with
 |str sp=>
  cases d2 with
  |lst ds=>
   obtain⟨ys,h4,h5⟩:=cQ (show(p7 ds).bind _=_ from h3);by_cases hz:(ys.map (·.length)).sum+ys.length*sp.length<=16777216
   ·rw[if_pos hz]at h5;cases h5;have q1:=Al.scal (F':=F1) l1 rfl;cases q1;refine⟨rfl,qb F0 B F1 H1 ρ σ _ _ (rs.ext x1) h2 λv2 F2 H2 x2 l2=>?_⟩;obtain⟨p,vs,rfl,hp,Hw⟩:=l2.lst x2.fh;rw[Oq h4]at Hw;have hv:=Re Hw;subst hv;exact⟨sp,p,ys,rfl,rfl,hp,hz,w _ F2 H2 (x1.trans x2) (Al.of (.str _))⟩
   ·rw[if_neg hz]at h5;cases h5
  |_=>cases h3
 |_=>cases h3
variable {kq:Nat}
section
variable {fd:cH}
theorem e9 (h:XO X ct ms k e f):XO X ct ms 0 e f:=XE.ow (XO.sh (n:=0) h)
theorem vG (hN:X.N.Nodup)(ho:i<own:=by decide)(hm:ms[i]?=some (.ow 0):=by rfl)(hi:X.N[i]?=some x:=by rfl)(hx:Loc X.env.scope x:=by walk_at "v3")
  (hf:uZ X x:=by walk_at "v2"):Bf X ct ms own 0 (.Name x pos) (gV i):=Yl ho hm hN hi hx hf
theorem kX (hN:X.N.Nodup)(he:XO X ct ms k e f)(hm:ms[i]?=some (.ow k):=by rfl)(hi:X.N[i]?=some x:=by rfl)(hx:Loc X.env.scope x:=by walk_at "v3")
  (hs:G8 X e x pos' pos:=by rfl)
  (hf:uZ X x:=by walk_at "v2"):XS X ct ms rk (.Assign [.Name x pos'] e pos) (sSet i f):=zt8 hm hN hi hx he hs hf
theorem pB (hN:X.N.Nodup)(hm:ms[i]?=some (.ow 0):=by rfl)(hi:X.N[i]?=some x:=by rfl)(hx:Loc X.env.scope x:=by walk_at "v3")
  (hf:uZ X x:=by walk_at "v2"):XG X ct ms 0 (.Name x pos) (gV i):=Y0 hm hN hi hx hf
theorem kP (d:nr X.K X.mg x st ps fa fd)(Fn:dM X.prog X.w X.K X.mg X.base gC kk fa fd ps (kd X.K ct ns rk mf))(hr:fw kq X.A)(ha:XA X ct ms (e::es) ns fs)(tD:kk<=kq:=by decide)(hg:Gl X x:=by rfl)
  (kM:lx x:=by decide) (he:SE X e es:=by rfl) (gW:oa X pos es:=by rfl) :
  XO X ct ms rk (.Call (.Name x pp) (e::es) [] pos) (λρ=>(fs ρ).bind λds=>mf (ds++[])) :=
 YZ (ns:=ns) (nd:=[]) (mq:=[]) (by rw[cS];exact Fn) (hr.mono tD) hg d.mgx d.fn.kp d.bd .nil (λ_ _=>.nil) ha kM he gW
theorem dU {i:Int}{j}:XE X ct ms 0 (.Constant (.int i) j pos) (eC (.int i)):=zt3
theorem yS {j}:XE X ct ms 0 (.Constant .none j pos) (eC .non):=zt4
theorem dP (ha:XE X ct ms 0 a f)(hb:XE X ct ms 0 b g):XO X ct ms 1 (.BinOp a .Add b pos) (e2 cA f g):=Jh IG (IH (by decide) (by decide)) ha hb
theorem jK (ha:XE X ct ms 0 a f)(hb:XE X ct ms 0 b g)(hp:qS b:=by exactλ_ _=>rfl):XE X ct ms 0 (.Subscript a b pos) (e2 eJ f g):=Rw (n:=0) QM Q5 ha hb hp
theorem rF (hm:X.mg "len"=none)(ha:XA X ct ms [e] [n] fs)(hg:Gl X "len":=by rfl)(he:SE X e []:=by rfl)(gW:oa X pos []:=by rfl):XE X ct ms 0 (.Call (.Name "len" pp) [e] [] pos) (eN gx fs):=wm (k:=0) WM Y6 hg hm ztx ha (by decide) (by decide) he gW
theorem lA0 {P:List bV->Prop}(h:P [])(us:List bV)(e:us.length=0):P us:=by
 cases us with
 |nil=>exact h
 |cons a t=>cases e
theorem lA1 {P:List bV->Prop}(h:∀a1,P [a1])(us:List bV)(e:us.length=1):P us:=by
 cases us with
 |nil=>cases e
 |cons a t=>exact lA0 (P:=λt=>P (a::t)) (h a) t (Nat.succ.inj e)
theorem lA2 {P:List bV->Prop}(h:∀a1 a2,P [a1,a2])(us:List bV)(e:us.length=2):P us:=by
 cases us with
 |nil=>cases e
 |cons a t=>exact lA1 (P:=λt=>P (a::t)) (h a) t (Nat.succ.inj e)
theorem lA3 {P:List bV->Prop}(h:∀a1 a2 a3,P [a1,a2,a3])(us:List bV)(e:us.length=3):P us:=by
 cases us with
 |nil=>cases e
 |cons a t=>exact lA2 (P:=λt=>P (a::t)) (h a) t (Nat.succ.inj e)
theorem lA4 {P:List bV->Prop}(h:∀a1 a2 a3 a4,P [a1,a2,a3,a4])(us:List bV)(e:us.length=4):P us:=by
 cases us with
 |nil=>cases e
 |cons a t=>exact lA3 (P:=λt=>P (a::t)) (h a) t (Nat.succ.inj e)
theorem lA5 {P:List bV->Prop}(h:∀a1 a2 a3 a4 a5,P [a1,a2,a3,a4,a5])(us:List bV)(e:us.length=5):P us:=by
 cases us with
 |nil=>cases e
 |cons a t=>exact lA4 (P:=λt=>P (a::t)) (h a) t (Nat.succ.inj e)
theorem lA6 {P:List bV->Prop}(h:∀a1 a2 a3 a4 a5 a6,P [a1,a2,a3,a4,a5,a6])(us:List bV)(e:us.length=6):P us:=by
 cases us with
 |nil=>cases e
 |cons a t=>exact lA5 (P:=λt=>P (a::t)) (h a) t (Nat.succ.inj e)
end
inductive mI where
 |ok (d:D)|xc (d:D)
inductive uF where
 |ok (o:Out)|xc (ρ:Env) (d:D)
abbrev oj:=Env->Option uF
abbrev CQ:=Env->Option mI
def Bz (K:bZ)(ct:Nat->ce)(F H:Hp)(d:D)(a:ce):Prop:=∃c ns ds T dx,d=.exc c ns ds/\F a=none/\F T=none/\vA H a (ct c) dx (some T) /\
 ((ns=[]/\ds=[]/\dx=none)\/∃y vs,dx=some y/\F y=some (.xd (ns.zip vs))/\ns.length=vs.length/\Dts K ct F ds vs)
def pJ (K:bZ)(cl:Nat->ce)(F0 B:Hp)(ms:List Mo)(rk:Nat)(E:lA)(G:GK):uF->Prop
 |.ok o=>nj K cl F0 B ms rk E o
 |.xc ρ d=>∀a σ F1 H0 F H,RS K cl F0 B ms F1 H0 ρ σ->ir F1 H0 F H->H0 a=none->Bz K cl F H d a->G σ a H
theorem Bz.note {a:ce}(h:Bz K ct F H d a)(s:dz F H):∃C dx T,vA H a C dx (some T)/\∀T',H T'=none->Bz K ct F (gY H a C dx T') d a/\dz F (gY H a C dx T')/\∀b o,b≠a->H b=some o->gY H a C dx T' b=some o:=by
 obtain⟨c,ns,ds,T,dx,rfl,fa,fT,xr,r⟩:=h;refine⟨ct c,dx,T,xr,λT' hT=>⟨⟨c,ns,ds,T',dx,rfl,fa,s.free hT,L9 xr hT,r⟩,λb o e=>?_,λb o hb e=>?_⟩⟩
 ·unfold gY;rw[zj (zl e fa),zj (zl e (s.free hT))];exact s _ _ e
 ·unfold gY;rw[zj hb,zj (zl e hT)];exact e
theorem ir.note {H0:Hp}{a:ce}{dx:Option ce}{T':ce}(x:ir F1 H0 F H)(ha:H0 a=none)(hT:H T'=none)(s:dz F (gY H a C dx T')):ir F1 H0 F (gY H a C dx T') :=
 ⟨x.ff,λb o e=>by unfold gY;rw[zj (zl e ha),zj (zl (x.hh _ _ e) hT)];exact x.hh _ _ e,s,x.nf⟩
section
variable (X:Cx)(G:GK)(ct:Nat->ce)(ms:List Mo)(rk:Nat)
def Cf (st:ek)(f:oj):Prop:=∃t,PS X st t/\∀(F0 B F H:Hp) (ρ:Env) (σ:St) (o:uF) (E:lA),RS X.K ct F0 B ms F H ρ σ->f ρ=some o->pJ X.K ct F0 B ms rk E G o->t E σ H
def qK (st:List ek)(f:oj):Prop:=∃t,rV X st t/\∀(F0 B F H:Hp) (ρ:Env) (σ:St) (o:uF) (E:lA),RS X.K ct F0 B ms F H ρ σ->f ρ=some o->pJ X.K ct F0 B ms rk E G o->t E σ H
def D4 (k:Nat)(e:Expr)(f:CQ):Prop:=∃t,PE X e t/\∀(F0 B F H:Hp) (ρ:Env) (σ:St) (r:mI) (Q:VK),RS X.K ct F0 B ms F H ρ σ->f ρ=some r ->
 (match r with
  |.ok d=>∀v F' H' fp,ir F H F' H'->Ow X.K ct F' H' k d v fp->fp.Nodup->(∀a∈fp,H a=none)->Q v H'
  |.xc d=>∀a F' H',ir F H F' H'->H a=none->Bz X.K ct F' H' d a->G σ a H')->t σ H Q
end
def xOf (u:SF):oj:=λρ=>(u ρ).map .ok
def sSeqX (f g:oj):oj:=λρ=>(f ρ).bind λo=>match o with
 |.ok (.nx ρ')=>g ρ'
 |o=>some o
def sIfX (c:BF)(f g:oj):oj:=λρ=>(c ρ).bind λb=>if b=true then f ρ else g ρ
def sSetX (i:Nat)(f:CQ):oj:=λρ=>(f ρ).bind λr=>match r with
 |.ok d=>some (.ok (.nx (ρ.set i (some d))))
 |.xc d=>some (.xc ρ d)
def sDropX (f:CQ):oj:=λρ=>(f ρ).bind λr=>match r with
 |.ok _=>some (.ok (.nx ρ))
 |.xc d=>some (.xc ρ d)
def sRetX (f:CQ):oj:=λρ=>(f ρ).bind λr=>match r with
 |.ok d=>some (.ok (.rt d))
 |.xc d=>some (.xc ρ d)
def oJ (g:D->Env->Option Env)(b:oj):List D->oj
 |[],ρ=>some (.ok (.nx ρ))
 |d::ds,ρ=>(g d ρ).bind λρ1=>(b ρ1).bind λo=>match o with
   |.ok (.nx ρ')=>oJ g b ds ρ'
   |.ok (.ct ρ')=>oJ g b ds ρ'
   |.ok (.bk ρ')=>some (.ok (.nx ρ'))
   |.ok (.rt d)=>some (.ok (.rt d))
   |.xc ρ' d=>some (.xc ρ' d)
def sForX (f:Env->Option (List D))(g:D->Env->Option Env)(b:oj):oj:=λρ=>(f ρ).bind λds=>oJ g b ds ρ
section
variable {G:GK}{u w:oj}
theorem IT {u:SF}(h:XS X ct ms rk st u):Cf X G ct ms rk st (xOf u):=by obtain⟨t,pt,qt⟩:=h;refine⟨t,pt,λF0 B F H ρ σ o E rs e z=>?_⟩;obtain⟨o',h1,rfl⟩:=eP.mp e;exact qt F0 B F H ρ σ o' E rs h1 z
theorem wt {u:SF}(h:tm X ct ms rk rest u):qK X G ct ms rk rest (xOf u):=by obtain⟨t,pt,qt⟩:=h;refine⟨t,pt,λF0 B F H ρ σ o E rs e z=>?_⟩;obtain⟨o',h1,rfl⟩:=eP.mp e;exact qt F0 B F H ρ σ o' E rs h1 z
theorem yq (h1:Cf X G ct ms rk st u):qK X G ct ms rk [st] u:=by obtain⟨t,pt,qt⟩:=h1;exact⟨_,jc pt,qt⟩
theorem yg (h1:Cf X G ct ms rk st u)(h2:qK X G ct ms rk rest w):qK X G ct ms rk (st::rest) (sSeqX u w):=by
 obtain⟨t,pt,qt⟩:=h1;obtain⟨t2,pO,tL⟩:=h2;refine⟨_,vx pt pO,λF0 B F H ρ σ o E rs e z=>?_⟩;obtain⟨o1,e1,e2⟩:=cQ e;refine qt F0 B F H ρ σ o1 _ rs e1 ?_;cases o1 with
 |xc ρ' d=>cases e2;exact z
 |ok o1=>
  cases o1 with
  |nx ρ'=>exactλσ' F' H' Gp=>tL F0 B F' H' ρ' σ' o E Gp e2 z
  |rt d=>cases e2;exact z
  |bk ρ'=>cases e2;exact z
  |ct ρ'=>cases e2;exact z
theorem DS {Gs Bo:List ek}(hc:XT X ct ms c p)(h1:qK X G ct ms rk Gs u)(h2:qK X G ct ms rk Bo w):Cf X G ct ms rk (.If c Gs Bo pos) (sIfX p u w):=by
 obtain⟨t,pt,qt⟩:=hc;obtain⟨t1,wB,wC⟩:=h1;obtain⟨t2,pO,tL⟩:=h2;refine⟨_,Rv pt wB pO,λF0 B F H ρ σ o E rs e z=>?_⟩;obtain⟨x,h1,h2⟩:=cQ e;refine qt F0 B F H ρ σ x _ rs h1 λF1 H1 x1=>?_;cases x with
 |true=>rw[if_pos rfl]at h2 ⊢;exact wC F0 B F1 H1 ρ σ o E (rs.ext x1) h2 z
 |false=>rw[if_neg cD]at h2 ⊢;exact tL F0 B F1 H1 ρ σ o E (rs.ext x1) h2 z
theorem OY {f:CQ}(he:D4 X G ct ms k e f)(hs:gQ e none pos.line X.env=pure false:=by rfl):Cf X G ct ms rk (.Expr e pos) (sDropX f):=by
 obtain⟨t,pt,qt⟩:=he;refine⟨_,ve pt hs,λF0 B F H ρ σ o E rs e z=>?_⟩;obtain⟨r,h1,h2⟩:=cQ e;refine qt F0 B F H ρ σ r _ rs h1 ?_;cases r with
 |ok d=>cases h2;exactλv F' H' fp x l nd hf=>z σ F' H' (rs.ext x)
 |xc d=>cases h2;exactλa F' H' x ha xd=>z a σ F H F' H' rs x ha xd
theorem ZU {f:CQ}(he:D4 X G ct ms rk e f):Cf X G ct ms rk (.Return (some e) pos) (sRetX f):=by
 obtain⟨t,pt,qt⟩:=he;refine⟨_,Mp pt,λF0 B F H ρ σ o E rs e z=>?_⟩;obtain⟨r,h1,h2⟩:=cQ e;refine qt F0 B F H ρ σ r _ rs h1 ?_;cases r with
 |ok d=>cases h2;intro v F' H' fp x l nd hf;have q:=rs.ext x;exact z v F' H' fp q.f0 q.bh q.fh q.nf l nd λy hy=>rs.bh.free (hf y hy)
 |xc d=>cases h2;exactλa F' H' x ha xd=>z a σ F H F' H' rs x ha xd
theorem pJ.re {E:lA}{o:uF}(r:RS K ct F0 B ms F H ρ σ)(z:pJ K ct F0 B ms rk E G o):pJ K ct F B ms rk E G o:=by
 cases o with
 |ok o=>exact nj.re (o:=o) r z
 |xc ρ d=>exactλa σ' F1 H0 F' H' q=>z a σ' F1 H0 F' H' (r.back q)
theorem Mf (hi:XI X ct ms n tg iter fi)(hg:XG X ct ms n tg gg)(hb:qK X G ct ms rk rest u)(hp:gj (cC X.prog X.w) X.A X.env X.xe)(hc:X.calm=true)
  (hs:Aj X iter:=by intro _;rfl):Cf X G ct ms rk (.For tg iter rest [] pos) (sForX fi gg u):=by
 obtain⟨wi,pi,qi⟩:=hi;obtain⟨Lo,pg,qg⟩:=hg;obtain⟨t1,wB,wC⟩:=hb;refine⟨_,QZ hp hc pi pg wB hs,λF0 B F H ρ σ o E rs e z=>?_⟩;obtain⟨ds,h1,h2⟩:=cQ e;refine qi F0 B F H ρ σ ds _ rs h1 λJ F1 H1 x1 ok=>?_;refine⟨λi m σ H=>m=ds.length-i/\i<=ds.length/\∃F ρ,dz F1 F/\RS X.K ct F0 B ms F H ρ σ/\oJ gg u (ds.drop i) ρ=some o,⟨ds.length,rfl,eI _,F1,ρ,.refl _,rs.ext x1,h2⟩,?_⟩;rintro i m σ H ⟨rfl,Nk,F,ρ,s1,rs,e⟩;obtain⟨k1,k2⟩:=ok i F H s1 rs.bh rs.fh;by_cases pz:i<ds.length
 ·right;have hd:ds[i]?=some ds[i]:=by simp[pz]
  obtain⟨go,yl⟩:=k1 _ hd;rw[ml pz]at e;obtain⟨ρ1,h3,h4⟩:=cQ e;obtain⟨o1,h5,h6⟩:=cQ h4;refine⟨go,λσ H=>i+1<=ds.length/\∃F ρ,dz F1 F/\RS X.K ct F0 B ms F H ρ σ/\oJ gg u (ds.drop (i+1)) ρ=some o,λσ' H' h=>⟨ds.length-(i+1),by omega,rfl,h⟩,λx H2 y=>?_⟩;obtain⟨F2,x2,l⟩:=yl x H2 y;refine qg F0 B F2 H2 ρ ρ1 σ _ x _ (rs.ext x2) l h3 λσ' r=>?_;have s2:=s1.trans x2.ff;refine wC F2 B F2 H2 ρ1 σ' o1 _ r.re h5 ?_;cases o1 with
  |xc ρ' d=>cases h6;exact pJ.re (o:=.xc ρ' d) r z
  |ok o1=>
   cases o1 with
   |nx ρ'=>exactλσ' F' H' q=>⟨pz,F',ρ',s2.trans q.f0,r.back q,h6⟩
   |ct ρ'=>exactλσ' F' H' q=>⟨pz,F',ρ',s2.trans q.f0,r.back q,h6⟩
   |bk ρ'=>cases h6;exactλσ' F' H' q=>z σ' F' H' (r.back q)
   |rt d=>cases h6;exact nj.re (o:=.rt d) r z
 ·left;refine⟨k2 (by omega),?_⟩
  have:ds.drop i=[]:=nq (by omega);rw[this]at e;cases e;exact z σ F H rs
end
def sZ (K:bZ)(ct:Nat->ce)(pm:List Nat)(rk:Nat)(m:List D->Option mI):Sp:=λvs H Q E=>∃(F:Hp) (ds:List D) (r:mI),dz F H/\nc K ct F H pm ds vs/\m ds=some r /\
 match r with
  |.ok d=>∀v F' H' fp,ir F H F' H'->Ow K ct F' H' rk d v fp->fp.Nodup->(∀a∈fp,H a=none)->Q v H'
  |.xc d=>∀a F' H',ir F H F' H'->H a=none->Bz K ct F' H' d a->E (.ref a) none H'
theorem sZ.len {m:List D->Option mI}(h:pm.length=ps.length):∀vs H Q E,sZ K ct pm rk m vs H Q E->vs.length=ps.length:=by rintro vs H Q E ⟨F,ds,r,_,l,_⟩;rw[l.length,h]
theorem RD {H1:Hp}{a:ce}{G:GK}(x1:ir F H F1 H1)(x2:ir F1 H1 F' H')(ha:H1 a=none)(xd:Bz K ct F' H' d a)(w:∀a F' H',ir F H F' H'->H a=none->Bz K ct F' H' d a->G σ a H'):EX G σ (.ref a) none H':=by obtain⟨C,dx,T,xr,nt⟩:=xd.note x2.fh;refine⟨a,C,dx,T,rfl,xr,λT' hT=>?_⟩;obtain⟨q1,q2,_⟩:=nt T' hT;exact w a F' _ ((x1.trans x2).note (x1.hh.free ha) hT q2) (x1.hh.free ha) q1
variable {z:Str}
section
variable {G:GK}{u w:oj}{fd:cH}{mf:List D->Option mI}
theorem OZ (hx:mH X G)(Fn:dM X.prog X.w X.K X.mg X.base (uY X.prog X.w) kk fa fd ps (sZ X.K ct (ns++nd) rk mf))(hr:fw kk X.A)(hg:Gl X x)(hm:X.mg x=some (.ref fa))(hk:dn X.K (.ref fa)=true)
  (hb:fF X.K fd ps rX) (hd:dA jS rX) (Au:∀F G,nc X.K ct F G nd mq jS) (ha:XA X ct ms (e::es) ns fs)
  (kM:lx x:=by decide) (he:SE X e es:=by rfl) (gW:oa X pos es:=by rfl) :
  D4 X G ct ms rk (.Call (.Name x pp) (e::es) [] pos) (λρ=>(fs ρ).bind λds=>mf (ds++mq)):=by
 obtain⟨t,pt,_,qt⟩:=ha;refine⟨_,X5 Fn hr hg hm hk hb hd hx pt kM he gW,λF0 B F H ρ σ r Q rs e w=>?_⟩;obtain⟨ds,h1,h2⟩:=cQ e;refine qt F0 B F H ρ σ ds _ rs h1 λvs F1 H1 x1 l=>⟨F1,ds++mq,r,x1.fh,nc.append (Au F1 H1) l,h2,?_⟩;cases r with
 |ok d=>exactλv F2 H2 fp x2 o nd hf=>w v F2 H2 fp (x1.trans x2) o nd λz hz=>x1.hh.free (hf z hz)
 |xc d=>exactλa F2 H2 x2 ha xd=>RD x1 x2 ha xd w
def mOfX (N:List Str)(b:oj)(ds:List D):Option mI:=(b (startD N ds)).bind λo=>match o with
 |.ok (.rt d)=>some (.ok d)
 |.ok (.nx _)=>some (.ok .non)
 |.xc _ d=>some (.xc d)
 |_=>none
theorem Cz {w:dw}{fd:cH}{bf:oj}(Fn:Fun2 K x qual st fa fd)(S:fI N ps (dc st))(AF:pm.length=ps.length)(BJ:ms.length=N.length)(tD:ps.length<=N.length)
  (AD:∀(i n:Nat),pm[i]?=some n->ms[i]?=some (Mo.al n)\/(n=0/\ms[i]?=some (Mo.ow 0)))
  (body:∀(gN:bV) (A:c7) (outer:List PySem.Env) (s:cq) (H:Hp) (E:XK),fw kk (A.deeper (envOfC qual (dc st) s.heap.objs.size fa gN))->qK (nJ (uY P w) P w K mg base N qual (dc st) fa gN A outer s H E) (λ_ a H'=>E (.ref a) none H') ct ms rk (fU st) bf) :
  dM P w K mg base (uY P w) (kk+1) fa fd ps (sZ K ct pm rk (mOfX N bf)):=by
 obtain⟨oc,od,dV,kV,doc,NQ,an,gN,MY,xH,rfl,lk,lT⟩:=Fn.ex;refine MM lk lT S (sZ.len AF) λA outer s H vs Q E hr h=>?_;obtain⟨F,ds,r,sF,l,hm,q⟩:=h;obtain⟨t,pt,qt⟩:=body gN A outer s H E hr;refine⟨t,pt,?_⟩;obtain⟨o,h1,h2⟩:=cQ hm;have TL:vs.length=pm.length:=l.length;have hdl:ds.length=vs.length:=l.length';refine qt F H F H (startD N ds) (L2.start N vs) o _ ⟨.refl _,.refl _,sF,λ_ _ _ _ h=>h,[],?_,dk,λa z=>(by cases z)⟩ h1 ?_
 ·unfold startD L2.start;rw[hdl];exact SL.start _ l AD (by omega)
 ·cases o with
  |xc ρ d=>cases h2;exactλa σ F1 H0 F' H' rs x ha xd=>q a F' H' (ir.trans ⟨rs.f0,rs.bh,rs.fh,rs.nf⟩ x) (rs.bh.free ha) xd
  |ok o=>
   cases o with
   |nx ρ=>cases h2;exactλσ F' H' r=>q .non F' H' [] ⟨r.f0,r.bh,r.fh,r.nf⟩ (Ow.scal .non rfl) dk λa z=>(by cases z)
   |rt d'=>cases h2;exactλv F' H' fp s1 s2 s3 s4 o nd hf=>q v F' H' fp ⟨s1,s2,s3,s4⟩ o nd hf
   |bk ρ=>cases h2
   |ct ρ=>cases h2
def XR (X:Cx)(ct:Nat->ce)(ms:List Mo)(e:Expr)(f:EF):Prop:=∃t,PE X e t/\∀(F0 B F H:Hp) (ρ:Env) (σ:St) (d:D) (Q:VK),RS X.K ct F0 B ms F H ρ σ->f ρ=some d ->
 (∀a F' H' c ns ds dx,ir F H F' H'->H a=none->d=.exc c ns ds->F' a=none->tV X.K (ct c)->vA H' a (ct c) dx none->((ns=[]/\ds=[]/\dx=none)\/∃y vs,dx=some y/\F' y=some (.xd (ns.zip vs))/\ns.length=vs.length/\Dts X.K ct F' ds vs)->Q (.ref a) H')->t σ H Q
def sRaise (f:EF):oj:=λρ=>(f ρ).bind λd=>some (.xc ρ d)
theorem xn (hc:X.calm=true)(hx:mH X G)(he:XR X ct ms e f):Cf X G ct ms rk (.Raise (some e) none pos) (sRaise f):=by
 obtain⟨t,pt,qt⟩:=he;refine⟨_,X8 hc hx pt,λF0 B F H ρ σ o E rs e z=>?_⟩;obtain⟨d,h1,h2⟩:=cQ e;cases h2;refine qt F0 B F H ρ σ d _ rs h1 λa F' H' c ns ds dx x ha hd fa cl xr r=>⟨a,ct c,dx,rfl,cl,xr,λT hT=>?_⟩;have sN:dz F' (gY H' a (ct c) dx T):=λb o e=>by unfold gY;rw[zj (zl e fa),zj (zl e (x.fh.free hT))];exact x.fh _ _ e
 exact z a σ F H F' _ rs (x.note ha hT sN) ha ⟨c,ns,ds,T,dx,hd,fa,x.fh.free hT,L9 xr hT,r⟩
def oo:D->Option D
 |.non=>some .non
 |.int i=>if i.natAbs.log2<1920 then some (.int i)else none
 |_=>none
theorem Xm {v:V}(h:oo d=some d')(l:Al K ct F G' n d v):d'=d/\sv v/\∀F',Dt K ct F' d v:=by
 cases d with
 |non=>unfold oo at h;cases h;refine⟨rfl,.inl l.non,λF'=>?_⟩;rw[l.non];exact .non
 |int i=>
  unfold oo at h;dsimp only at h;by_cases hi:i.natAbs.log2<1920
  ·rw[if_pos hi]at h;cases h;refine⟨rfl,.inr ⟨i,l.int,hi⟩,λF'=>?_⟩;rw[l.int];exact .int i
  ·rw[if_neg hi]at h;cases h
 |_=>unfold oo at h;cases h
def vV (f:Str)(C:ce):Sp:=λvs H Q _=>∃a u,vs=[.ref a,u]/\H a=some (nk a C none none)/\sv u/\∀dx,H dx=none->dx≠a->Q .non (eS (eS H dx (.xd [(f,u)])) a (nk a C (some dx) none))
theorem vV.len {f:Str}:∀vs H Q E,vV f C vs H Q E->vs.length=[y,z].length:=by rintro vs H Q E ⟨a,u,rfl,_⟩;rfl
theorem u7 {fn:Str}(cl:tV X.K (ct c0))(Df:dn X.K (.ref (ct c0))=true)(hi:cT X.K (.ref (ct c0)) "__init__"=some (some (.ref fa)))(vC:iH X.K (.ref fa)=true)(Fn:dM X.prog X.w X.K X.mg X.base gC kk fa fd ps (vV fn (ct c0)))(hr:fw (kk+1) X.A)(hm:X.mg x=some (.ref (ct c0)))(hb:fF X.K fd ps [])
  (he:XE X ct ms n e f) (hg:Gl X x:=by rfl) (kM:lx x:=by decide) (ky:SE X e []:=by rfl) (gW:oa X pos []:=by rfl) :
  XR X ct ms (.Call (.Name x pp) [e] [] pos) (λρ=>(f ρ).bind λd=>(oo d).bind λd=>some (.exc c0 [fn] [d])):=by
 obtain⟨t,pt,qt⟩:=he;refine⟨_,LH cl Df hi vC Fn hr hg hm hb (zy pt yy ky) kM ky gW,λF0 B F H ρ σ d Q rs e w=>?_⟩;obtain⟨d1,h1,h2⟩:=cQ e;obtain⟨d2,h3,h4⟩:=cQ h2;cases h4;refine qt F0 B F H ρ σ d1 _ rs h1 λv F1 H1 x1 l=>⟨by simp,λa ha=>⟨a,v,rfl,zk,?_⟩⟩;obtain⟨rfl,fo,dt⟩:=Xm h3 l;refine⟨fo,λdx Bi mE=>⟨rfl,?_⟩⟩;have Av:H1 dx=none:=by rw[zj mE]at Bi;exact Bi
 have hH:eS (eS (eS H1 a (nk a (ct c0) none none)) dx (.xd [(fn,v)])) a (nk a (ct c0) (some dx) none)=eS (eS H1 dx (.xd [(fn,v)])) a (nk a (ct c0) (some dx) none):=by
  funext b;by_cases h1:b=a
  ·rw[h1,zk,zk]
  ·rw[zj h1,zj h1];by_cases h2:b=dx
   ·rw[h2,zk,zk]
   ·rw[zj h2,zj h2,zj h1]
 rw[hH];have x2:ir F1 H1 (eS F1 dx (.xd [(fn,v)])) (eS H1 dx (.xd [(fn,v)])):=ir.newS x1.fh Av _;have BI:eS H1 dx (.xd [(fn,v)]) a=none:=by rw[zj (Ne.symm mE)];exact ha
 have x3:=ir.newO x2.fh BI (nk a (ct c0) (some dx) none);refine w a _ _ c0 [fn] [d2] (some dx) ((x1.trans x2).trans x3) (x1.hh.free ha) rfl ?_ cl ⟨zk,λT z=>by cases z⟩ (.inr ⟨dx,[v],rfl,zk,rfl,.cons (dt _) .nil⟩);rw[zj (Ne.symm mE)];exact x1.fh.free ha
end
def yC (K:bZ)(ct:Nat->ce)(cs:List Nat)(pm:List Nat)(mi:Nat->List D->Option mI):Sp:=λvs H Q E=>∃(F:Hp) (c:Nat) (ds:List D) (r:mI) (x dx:ce) (us:List V),c∈cs/\vs=.ref x::us/\H x=some (.ins (ct c) dx [])/\F x=none/\dz F H/\nc K ct F (tq H x) pm ds us/\mi c ds=some r /\
 match r with
  |.ok d=>∀F' H',dz F F'->dz (tq H x) H'->dz F' H'->(∀a o,tq H x a=some o->nH o->F a=none->F' a=none)->F' x=none->Ow K ct F' H' 1 d (.ref x) [x]->Q .non H'
  |.xc d=>∀a F' H',dz F F'->dz (tq H x) H'->dz F' H'->(∀a o,tq H x a=some o->nH o->F a=none->F' a=none)->tq H x a=none->Bz K ct F' H' d a->E (.ref a) none H'
theorem yC.len {mi:Nat->List D->Option mI}(h:pm.length+1=ps.length):∀vs H Q E,yC K ct cs pm mi vs H Q E->vs.length=ps.length:=by rintro vs H Q E ⟨F,c,ds,r,x,dx,us,_,rfl,_,_,_,l,_⟩;rw[cm,l.length,h]
def wA (N:List Str)(b:oj)(c:Nat)(ds:List D):Option mI:=(b (some (.obj c [] [])::startD N.tail ds)).bind λo=>match o with
 |.ok (.nx ρ)=>((ρ[0]?).join).map .ok
 |.xc _ d=>some (.xc d)
 |_=>none
variable {N1:Str}
section
variable {G:GK}{fd:cH}
theorem Ww {w:dw}{fd:cH}{bf:oj}(Fn:Fun2 K x qual st fa fd)(S:fI (N0::N) ps (dc st))(AF:pm.length+1=ps.length)(BJ:ms.length=N.length)(tD:pm.length<=N.length)
  (AD:∀(i n:Nat),pm[i]?=some n->ms[i]?=some (Mo.al n)\/(n=0/\ms[i]?=some (Mo.ow 0)))
  (body:∀(x:ce) (gN:bV) (A:c7) (outer:List PySem.Env) (s:cq) (H:Hp) (E:XK),fw kk (A.deeper (envOfC qual (dc st) s.heap.objs.size fa gN))->qK (nJ (uY P w) P w K mg base (N0::N) qual (dc st) fa gN A outer s H E) (λ_ a H'=>E (.ref a) none H') ct (.so x::ms) rk (fU st) bf) :
  dM P w K mg base (uY P w) (kk+1) fa fd ps (yC K ct cs pm (wA (N0::N) bf)):=by
 obtain⟨oc,od,dV,kV,doc,NQ,an,gN,MY,xH,rfl,lk,lT⟩:=Fn.ex;refine MM lk lT S (yC.len AF) λA outer s H vs Q E hr h=>?_;obtain⟨F,c,ds,r,x,dx,us,hc,rfl,hx,hF,sF,l,hm,q⟩:=h;obtain⟨t,pt,qt⟩:=body x gN A outer s H E hr;refine⟨t,pt,?_⟩;obtain⟨o,h1,h2⟩:=cQ hm;have hdl:ds.length=us.length:=l.length';have Nv:us.length=pm.length:=l.length;have ow:Ow K ct F H 1 (.obj c [] []) (.ref x) [x]:=.inr (Bd.obj (vs:=[]) hF hx rfl .nil);refine qt F (tq H x) F H (some (.obj c [] [])::startD N ds) (L2.start (N0::N) (.ref x::us)) o _ ⟨.refl _,qr H x,sF,λ_ _ _ _ h=>h,[x],?_,by simp,λa z=>by rw[cz]at z;subst z;exact Q8 H _⟩ h1 ?_
 ·have e:L2.start (N0::N) (.ref x::us)=some (.ref x)::(us.map some++cE (N.length-us.length) none):=by unfold L2.start;simp
  rw[e];unfold startD;rw[hdl];exact SL.so (fp:=[]) ow (SL.start _ l AD (by omega))
 ·cases o with
  |xc ρ d=>cases h2;exactλa σ F1 H0 F' H' rs x ha xd=>q a F' H' (rs.f0.trans x.ff) (rs.bh.trans x.hh) x.fh (λb o h t n=>x.nf b o (rs.bh _ _ h) t (rs.nf b o h t n)) (rs.bh.free ha) xd
  |ok o=>
   cases o with
   |nx ρ=>
    obtain⟨d,h3,rfl⟩:=eP.mp h2;intro σ F' H' r;obtain⟨fp,sl,nd,hb⟩:=r.sl;cases sl with
    |no _=>cases h3
    |so F9 _=>cases h3;exact q F' H' r.f0 r.bh r.fh r.nf (F9.cells x b9).1 F9
   |rt d'=>cases h2
   |bk ρ=>cases h2
   |ct ρ=>cases h2
theorem Ya {mi:Nat->List D->Option mI}(hx:mH X G)(M:Mk X.K (ct c0) fa)(vY:c0∈cs)(Fn:dM X.prog X.w X.K X.mg X.base (uY X.prog X.w) kk fa fd ps (yC X.K ct cs (ns++nd) mi))(hr:fw (kk+1) X.A)(hg:Gl X x)(hm:X.mg x=some (.ref (ct c0)))
  (hb:fF X.K fd ps rX) (hd:dA jS rX) (Au:∀F G,nc X.K ct F G nd mq jS) (ha:XA X ct ms (e::es) ns fs)
  (kM:lx x:=by decide) (he:SE X e es:=by rfl) (gW:oa X pos es:=by rfl) :
  D4 X G ct ms 1 (.Call (.Name x pp) (e::es) [] pos) (λρ=>(fs ρ).bind λds=>mi c0 (ds++mq)):=by
 obtain⟨t,pt,_,qt⟩:=ha;refine⟨_,X6 M Fn hr hg hm hb hd hx pt kM he gW,λF0 B F H ρ σ r Q rs e w=>?_⟩;obtain⟨ds,h1,h2⟩:=cQ e;refine qt F0 B F H ρ σ ds _ rs h1 λvs F1 H1 x1 l y dy hy JX mE=>?_;have sH:dz H1 (tq (eS (eS H1 dy (.own y)) y (.ins (ct c0) dy [])) y):=λb o h=>by have n1:b≠y:=zl h hy;rw[EJ n1,zj n1,zj (zl h JX)];exact h
 have K1:dz H1 (eS (eS H1 dy (.own y)) y (.ins (ct c0) dy [])):=sH.trans (qr _ _);refine⟨F1,c0,ds++mq,r,y,dy,vs++jS,vY,rfl,zk,x1.fh.free hy,x1.fh.trans K1,nc.mono (.refl _) sH (nc.append (Au F1 H1) l),h2,?_⟩;cases r with
 |ok d=>refineλF' H' s1 s2 s3 s4 hn ow=>⟨rfl,?_⟩;refine w _ F' H' [y] ⟨x1.ff.trans s1,(x1.hh.trans sH).trans s2,s3,λb o h t n=>s4 b o (sH _ _ (x1.hh _ _ h)) t (x1.nf b o h t n)⟩ ow (by simp) λb z=>?_;rw[cz]at z;subst z;exact x1.hh.free hy
 |xc d=>refineλa F' H' s1 s2 s3 s4 ha xd=>RD x1 (F':=F') (H':=H') ⟨s1,sH.trans s2,s3,λb o h n=>s4 b o (sH _ _ h) n⟩ (sH.free ha) xd w
theorem O0 {w:dw}{fn:Str}{fd:cH}(Fn:Fun2 K "__init__" qual st fa fd)(S:fI [N0,N1] [N0,N1] (dc st))(cl:tV K C)(hd:dL K C=true/\cT K (.ref C) "__setattr__"=some (some (.builtin "object.__setattr__"))/\eL K C fn=some none)
  (body:∀(gN:bV) (A:c7) (outer:List PySem.Env) (s:cq) (H:Hp) (E:XK),∃tf:TF,(∀σ H v (Q:Hp->Prop),σ[1]?=some (some v)->sv v->Q H->tf σ H Q)/\rV (nJ gC P w K mg base [N0,N1] qual (dc st) fa gN A outer s H E).nox (fU st) (B0 (xL (tO K (pR 0) (λσ H Q=>tf σ H λH1=>∀x,Q (.str x) H1))) (xM K fn (pR 1) (pR 0)))) :
  dM P w K mg base gC (kk+1) fa fd [N0,N1] (vV fn C):=by
 refine Fn.ok S vV.len λgN A outer s H vs Q E hr h=>?_;obtain⟨a,u,rfl,ha,fo,q⟩:=h;obtain⟨tf,Kq,p⟩:=body gN A outer s H E;exact⟨_,p,.ref a,rfl,Kq _ _ u _ rfl fo λx=>⟨a,C,none,none,rfl,cl,ha,u,rfl,.ref a,rfl,a,C,none,rfl,cl,hd.1,hd.2.1,hd.2.2,ha,λdx h1 h2=>q dx h1 h2⟩⟩
theorem NY {v:V}{Q:Hp->Prop}(h1:σ[1]?=some (some v))(h2:sv v)(h3:Q H):pR 1 σ H (λv H1=>sv v/\Q H1):=⟨v,h1,h2,h3⟩
def thD (hit:Nat->Option Bool)(i:Option Nat)(u:SF)(rest:Nat->D->SF):Nat->D->SF:=λc d ρ=>(hit c).bind λb=>if b=true then
  (match i with
   |none=>u ρ
   |some i=>(u (ρ.set i (some d))).bind λo=>match o with
    |.nx ρ'=>some (.nx (ρ'.set i none))
    |.bk ρ'=>some (.bk (ρ'.set i none))
    |.ct ρ'=>some (.ct (ρ'.set i none))
    |.rt d=>some (.rt d))
 else rest c d ρ
def sTry (b:oj)(h:Nat->D->SF):SF:=λρ=>(b ρ).bind λo=>match o with
 |.ok o=>some o
 |.xc ρ' (.exc c ns ds)=>h c (.exc c ns ds) ρ'
 |.xc _ _=>none
def Ha (X:Cx)(ct:Nat->ce)(ms:List Mo)(rk:Nat)(hs:List ExceptHandler)(h:Nat->D->SF):Prop:=∃th,PH X hs th/\∀(F0 B F H:Hp) (ρ:Env) (σ:St) (o:Out) (E:lA) (a:ce) (c:Nat) (d:D),RS X.K ct F0 B ms F H ρ σ->Dt X.K ct F d (.ref a)->h c d ρ=some o->nj X.K ct F0 B ms rk E o->th a (ct c) E σ H
theorem ZV:Ha X ct ms rk [] (λ_ _ _=>none):=⟨_,ztr,λF0 B F H ρ σ o E a c d rs dt e z=>by cases e⟩
theorem SL.unset (h0:SL K ct F B H ms ρ σ fp)(hm:ms[i]?=some (.ow 0)):∃iA,SL K ct F B H ms (ρ.set i Option.none) (σ.set i Option.none) iA/\(∀a∈iA,a∈fp)/\(fp.Nodup->iA.Nodup):=by
 induction h0 generalizing i with
 |nil=>simp at hm
 |no t ih=>
  cases i with
  |zero=>exact⟨_,.no t,λ_ z=>z,λz=>z⟩
  |succ i=>obtain⟨iA,h1,h2,h3⟩:=ih (by simpa using hm);exact⟨iA,.no h1,h2,h3⟩
 |al h t ih=>
  cases i with
  |zero=>simp at hm
  |succ i=>obtain⟨iA,h1,h2,h3⟩:=ih (by simpa using hm);exact⟨iA,.al h h1,h2,h3⟩
 |px h t ih=>
  cases i with
  |zero=>simp at hm
  |succ i=>obtain⟨iA,h1,h2,h3⟩:=ih (by simpa using hm);exact⟨iA,.px h h1,h2,h3⟩
 |so h t ih=>
  cases i with
  |zero=>simp at hm
  |succ i=>obtain⟨iA,h1,h2,h3⟩:=ih (by simpa using hm);refine⟨_,.so h h1,λa z=>(cn.mp z).elim (λz=>z▸b9) λz=>cj _ (h2 a z),λz=>?_⟩;obtain⟨n1,n2⟩:=dC.mp z;exact dC.mpr ⟨λz=>n1 (h2 _ z),h3 n2⟩
 |ow h t ih=>
  cases i with
  |zero=>exact⟨_,.no t,λa z=>cK _ z,λz=>(c8.mp z).2.1⟩
  |succ i=>obtain⟨iA,h1,h2,h3⟩:=ih (by simpa using hm);refine⟨_,.ow h h1,λa z=>(cG.mp z).elim (λz=>cN _ z) λz=>cK _ (h2 a z),λz=>?_⟩;obtain⟨n1,n2,n3⟩:=c8.mp z;exact c8.mpr ⟨n1,h3 n2,λa z b y=>n3 a z b (h2 b y)⟩
theorem RS.unset (r:RS K ct F0 B ms F H ρ σ)(hm:ms[i]?=some (.ow 0)):RS K ct F0 B ms F H (ρ.set i none) (σ.set i none):=by obtain⟨fp,sl,nd,hb⟩:=r.sl;obtain⟨iA,h1,h2,h3⟩:=sl.unset hm;exact⟨r.f0,r.bh,r.fh,r.nf,iA,h1,h3 nd,λa z=>hb a (h2 a z)⟩
theorem zup {body:List ek}{h0:ExceptHandler}{hs:List ExceptHandler}{bf:oj}{hf:Nat->D->SF}(hb:∀(E:bV->cq->Prop) (bX:List (ce×f9)) (G:GK),gj (cC X.prog X.w) X.A X.env E->mH (X.tr E bX) G->qK (X.tr E bX) G ct ms rk body bf)(hh:Ha X ct ms rk (h0::hs) hf)
  (ky:X.stack=X.env::X.outer:=by rfl) (De:X.env.frame=some X.env.locals:=by rfl):XS X ct ms rk (.Try body (h0::hs) [] [] pos) (sTry bf hf):=by
 obtain⟨th,ph,qh⟩:=hh;refine⟨_,zts (tb:=λE bX G h1 h2=>(hb E bX G h1 h2).choose) ky De (λE bX G h1 h2=>(hb E bX G h1 h2).choose_spec.1) ph,λF0 B F H ρ σ o E rs e z E' bX h1 h2=>?_⟩;obtain⟨r,g1,g2⟩:=cQ e;refine(hb E' bX (DL th E) h1 h2).choose_spec.2 F0 B F H ρ σ r E rs g1 ?_;cases r with
 |ok o'=>cases g2;exact z
 |xc ρ' d=>
  intro a σ' F1 H0 F' H' Gp x ha xd;obtain⟨c,ns,ds,T,dx,rfl,fa,fT,xr,rr⟩:=xd;refine⟨ct c,dx,T,xr,?_⟩;have x2:ir F1 H0 (eS F' a (nk a (ct c) dx (some T))) H':=⟨x.ff.trans (yn fa _),x.hh,λb o q=>by
   by_cases hb:b=a
   ·rw[hb,zk]at q;rw[hb,xr.1];exact q
   ·rw[zj hb]at q;exact x.fh _ _ q,λb o h n=>by rw[zj (zl h ha)];exact x.nf b o h n⟩
  refine qh F0 B _ H' ρ' σ' o E a c _ (Gp.ext x2) ?_ g2 z;rcases rr with⟨rfl,rfl,rfl⟩|⟨y,vs,rfl,hy,hl,Jx⟩
  ·exact .exc0 zk
  ·exact .exc (vs:=vs) zk (yn fa _ _ _ hy) hl (Jx.mono (yn fa _))
end
theorem Al.dtx {c:Nat}{ns:List Str}{v:V}(h:Al K ct F G n (.exc c ns ds) v):Dt K ct F (.exc c ns ds) v:=by
 cases n with
 |zero=>exact h
 |succ n=>
  rcases h with h|h
  ·exact h
  ·cases h
theorem Dt.exc_inv {c:Nat}{ns:List Str}{v:V}(h:Dt K ct F (.exc c ns ds) v):∃a dx tb,v=.ref a/\F a=some (nk a (ct c) dx tb)/\((ns=[]/\ds=[]/\dx=none)\/∃y vs,dx=some y/\F y=some (.xd (ns.zip vs))/\ns.length=vs.length/\Dts K ct F ds vs):=by
 cases h with
 |exc0 h=>exact⟨_,none,_,rfl,h,.inl ⟨rfl,rfl,rfl⟩⟩
 |exc h h' l t=>exact⟨_,some _,_,rfl,h,.inr ⟨_,_,rfl,h',l,t⟩⟩
def fldX (cs:List Nat)(x:Str):D->Option D
 |.exc c ns ds=>if cs.contains c=true then(ns.zip ds).lookup x else none
 |_=>none
def isiX (all sub:List Nat):D->Option D
 |.exc c _ _=>if all.contains c=true then some (.bl (sub.contains c))else none
 |.non=>some (.bl false)
 |_=>none
theorem Mg (he:XE X ct ms n e f)(hc:∀c∈cs,XAt X.K (ct c) x)(hb:Ag X e x):XE X ct ms k (.Attribute e x pos) (e1 (fldX cs x) f):=by
 obtain⟨t,pt,qt⟩:=he;refine⟨_,Zj pt hb,λF0 B F H ρ σ r Q rs e w=>?_⟩;obtain⟨o,h1,h2⟩:=cQ e;refine qt F0 B F H ρ σ o _ rs h1 λv F1 H1 x1 l=>?_;cases o with
 |exc c ns ds=>
  obtain⟨a,dx,tb,rfl,ha,rr⟩:=l.dtx.exc_inv;unfold fldX at h2;dsimp only at h2;by_cases vY:cs.contains c=true
  ·rw[if_pos vY]at h2;rcases rr with⟨rfl,rfl,rfl⟩|⟨y,vs,rfl,hy,hl,Jx⟩
   ·simp at h2
   ·obtain⟨u,hu,du⟩:=jh Jx.pr h2;exact⟨a,_,y,tb,_,u,rfl,x1.fh _ _ ha,x1.fh _ _ hy,hc c (by simpa using vY),hu,w u F1 H1 x1 (Al.of du)⟩
  ·rw[if_neg vY]at h2;cases h2
 |_=>cases h2
theorem jw (hI:∀c∈all,L2.XIc X.K (ct c)/\cV X.K (.ref (ct c)) (.ref C)=some (sub.contains c))(hN:cV X.K (.type "NoneType") (.ref C)=some false)(hm:X.mg "isinstance"=none)(tX:X.mg x=some (.ref C))(he:XE X ct ms n e f)(hg:Gl X "isinstance":=by rfl)(tW:Gl X x:=by rfl)(hd2:lx x:=by decide)
  (sE:c9 [e,.Name x p2] X.env=(false,ei e X.env)::c9 [.Name x p2] X.env:=by rfl) (o8:c9 [.Name x p2] X.env=(false,ei (.Name x p2) X.env)::c9 [] X.env:=by rfl) (gW:(jM pos (c9 [.Name x p2] X.env)).any (·.1)=false:=by rfl) :
  XE X ct ms k (.Call (.Name "isinstance" pp) [e,.Name x p2] [] pos) (e1 (isiX all sub) f):=by
 obtain⟨t,pt,qt⟩:=he;refine⟨_,u0 Pd hg hm xk (zy pt (zy (L6 (v:=.ref C) tW tX rfl hd2) yy o8) sE) (by decide) (by decide) sE gW,λF0 B F H ρ σ d Q rs e w=>?_⟩;obtain⟨d1,h1,h2⟩:=cQ e;refine qt F0 B F H ρ σ d1 _ rs h1 λv F' H' x l=>?_;cases d1 with
 |exc c ns ds=>
  unfold isiX at h2;dsimp only at h2;by_cases hc:all.contains c=true
  ·rw[if_pos hc]at h2;cases h2;obtain⟨a,dx,tb,rfl,ha,rr⟩:=l.dtx.exc_inv;obtain⟨ic,FV⟩:=hI c (by simpa using hc);refine⟨_,.ref C,_,rfl,λu ru=>.inl ⟨a,_,dx,tb,rfl,x.fh _ _ ha,?_,ic,?_⟩,w _ F' H' x (Al.of (.bl _))⟩
   ·rcases rr with⟨_,_,z⟩|⟨y,vs,z,hy,_⟩
    ·exact .inl z
    ·exact .inr ⟨y,_,z,x.fh _ _ hy⟩
   ·cases ru;exact FV
  ·rw[if_neg hc]at h2;cases h2
 |non=>cases h2;exact⟨_,.ref C,_,rfl,λu ru=>.inr ⟨l.non,by cases ru;exact hN⟩,w _ F' H' x (Al.of (.bl _))⟩
 |_=>cases h2
theorem ZW (hI:∀c∈all,L2.XIc X.K (ct c)/\cV X.K (.ref (ct c)) (.type "ValueError")=some true)(hN:cV X.K (.type "NoneType") (.type "ValueError")=some false)(hm:X.mg "isinstance"=none)(tX:X.mg "ValueError"=none)(he:XE X ct ms n e f)(hg:Gl X "isinstance":=by rfl)(tW:Gl X "ValueError":=by rfl)
  (sE:c9 [e,.Name "ValueError" p2] X.env=(false,ei e X.env)::c9 [.Name "ValueError" p2] X.env:=by rfl) (o8:c9 [.Name "ValueError" p2] X.env=(false,ei (.Name "ValueError" p2) X.env)::c9 [] X.env:=by rfl) (gW:(jM pos (c9 [.Name "ValueError" p2] X.env)).any (·.1)=false:=by rfl) :
  XE X ct ms k (.Call (.Name "isinstance" pp) [e,.Name "ValueError" p2] [] pos) (e1 (isiX all all) f):=by
 obtain⟨t,pt,qt⟩:=he;refine⟨_,u0 Pd hg hm xk (zy pt (zy (PR (v:=.ty "ValueError") (u:=.type "ValueError") tW tX rfl rfl) yy o8) sE) (by decide) (by decide) sE gW,λF0 B F H ρ σ d Q rs e w=>?_⟩;obtain⟨d1,h1,h2⟩:=cQ e;refine qt F0 B F H ρ σ d1 _ rs h1 λv F' H' x l=>?_;cases d1 with
 |exc c ns ds=>
  unfold isiX at h2;dsimp only at h2;by_cases hc:all.contains c=true
  ·rw[if_pos hc,hc]at h2;cases h2;obtain⟨a,dx,tb,rfl,ha,rr⟩:=l.dtx.exc_inv;obtain⟨ic,FV⟩:=hI c (by simpa using hc);refine⟨_,.ty "ValueError",true,rfl,λu ru=>.inl ⟨a,_,dx,tb,rfl,x.fh _ _ ha,?_,ic,?_⟩,w _ F' H' x (Al.of (.bl _))⟩
   ·rcases rr with⟨_,_,z⟩|⟨y,vs,z,hy,_⟩
    ·exact .inl z
    ·exact .inr ⟨y,_,z,x.fh _ _ hy⟩
   ·cases ru;exact FV
  ·rw[if_neg hc]at h2;cases h2
 |non=>cases h2;exact⟨_,.ty "ValueError",false,rfl,λu ru=>.inr ⟨l.non,by cases ru;exact hN⟩,w _ F' H' x (Al.of (.bl _))⟩
 |_=>cases h2
theorem exm_of {B:ce}{b:Bool}(h1:xZ K B=true)(h2:zP K (.ref B)=some (.type "type"))(h3:Af K (.ref C) (.ref B)=some b)(h4:Af K (.ref B) (.type "BaseException")=some true):fO K (.ref C) (.ref B)=some b:=by unfold fO PySem.W.kitCls;rw[h4,if_pos (by decide)];dsimp only;rw[if_pos,h3];unfold xZ at h1;rw[h1,h2];rfl
def hitL (all sub:List Nat):Nat->Option Bool:=λc=>if all.contains c=true then some (sub.contains c)else none
theorem IU {B:ce}(h:∀c∈all,fO K (.ref (ct c)) (.ref B)=some (sub.contains c)):∀c b,hitL all sub c=some b->fO K (.ref (ct c)) (.ref B)=some b:=by
 intro c b e;unfold hitL at e;by_cases hc:all.contains c=true
 ·rw[if_pos hc]at e;cases e;exact h c (by simpa using hc)
 ·rw[if_neg hc]at e;cases e
theorem zuq {G:GK}{f:CQ}(he:D4 X G ct ms k e f):D4 X G ct ms 0 e f:=by
 obtain⟨t,p,q⟩:=he;refine⟨t,p,λF0 B F H ρ σ r Q rs e w=>q F0 B F H ρ σ r Q rs e ?_⟩;cases r with
 |ok d=>intro v F' H' fp x o nd hf;obtain⟨F2,x2,h2⟩:=o.freeze x hf;exact w v F2 H' [] x2 ⟨h2,rfl⟩ dk λa z=>(by cases z)
 |xc d=>exact w
def mj:List D->List D->List D->List D
 |x::xs,y::ys,u::us=>.tup [x,y,u]::mj xs ys us
 |_,_,_=>[]
theorem OT:∀{xs ys us:List D} {i:Nat} {d:D},(mj xs ys us)[i]?=some d->∃x y u,xs[i]?=some x/\ys[i]?=some y/\us[i]?=some u/\d=.tup [x,y,u]
 |[],_,_,_,_,h=>by simp[mj]at h
 |_::_,[],_,_,_,h=>by simp[mj]at h
 |_::_,_::_,[],_,_,h=>by simp[mj]at h
 |x::xs,y::ys,u::us,0,d,h=>by simp[mj]at h;subst h;exact⟨x,y,u,rfl,rfl,rfl,rfl⟩
 |x::xs,y::ys,u::us,i+1,d,h=>by obtain⟨a,b,c,h1,h2,h3,h4⟩:=OT (xs:=xs) (ys:=ys) (us:=us) (i:=i) (d:=d) (by simpa[mj]using h);exact⟨a,b,c,by simpa using h1,by simpa using h2,by simpa using h3,h4⟩
theorem OU:∀{xs ys us:List D},(mj xs ys us).length=min xs.length (min ys.length us.length)
 |[],_,_=>by simp[mj]
 |_::_,[],_=>by simp[mj]
 |_::_,_::_,[]=>by simp[mj]
 |x::xs,y::ys,u::us=>by simp only[mj,cm,OU (xs:=xs) (ys:=ys) (us:=us)];omega
theorem zur {a b c:ce}{vs ws:List V}{es fs:List D}(hp:Pr (Al K ct F B n) ds vs)(Hs:Pr (Al K ct F B n) es us)(Ej:Pr (Al K ct F B n) fs ws)(keep:∀F' H',dz F F'->dz B H'->dz F' H'->gZ K H' a vs)(FT:∀F' H',dz F F'->dz B H'->dz F' H'->gZ K H' b us)(FU:∀F' H',dz F F'->dz B H'->dz F' H'->gZ K H' c ws):yD K ct F B (n+1) (Jn K a b c) (mj ds es fs):=by intro i F' H' s1 s2 s3;have hs:gZ K H' a vs:=keep F' H' s1 s2 s3;have Cr:gZ K H' b us:=FT F' H' s1 s2 s3;have o8:gZ K H' c ws:=FU F' H' s1 s2 s3;refine⟨λd hd=>?_,λhl=>⟨vs,us,ws,⟨hs,Cr,o8⟩,by rw[←hp.length,←Hs.length,←Ej.length];rw[OU]at hl;omega⟩⟩;obtain⟨x,y,u,hx,hy,hu,rfl⟩:=OT hd;obtain⟨v,hv,l⟩:=hp.get' hx;obtain⟨v',Em,l'⟩:=Hs.get' hy;obtain⟨v2,Nx,l2⟩:=Ej.get' hu;refine⟨⟨vs,us,ws,v,v',v2,⟨hs,Cr,o8⟩,hv,Em,Nx⟩,λz H2 q=>?_⟩;obtain⟨r,w1,w2,w3,hr,rfl,rfl,q1,q2,q3⟩:=q;have e1:=q1 vs hs;have e2:=q2 us Cr;have e3:=q3 ws o8;rw[hv]at e1;rw[Em]at e2;rw[Nx]at e3;cases e1;cases e2;cases e3;exact⟨_,ir.newS s3 hr _,.inr (.tup zk (.cons (l.mono (s1.trans (yn (s3.free hr) _)) (.refl _)) (.cons (l'.mono (s1.trans (yn (s3.free hr) _)) (.refl _)) (.cons (l2.mono (s1.trans (yn (s3.free hr) _)) (.refl _)) .nil))))⟩
def CO:List D->Option (List D)
 |[.lst xs,.lst ys,.lst us]=>some (mj xs ys us)
 |_=>none
theorem Yb {rY:List Expr}{kt:Nat}(hm:X.mg "zip"=none)(ha:XA X ct ms [a,b,c] [n,n,n] fs)(hg:Gl X "zip":=by rfl)(hs:c9 [a,b,c] X.env=[(false,ei a X.env),(false,ei b X.env),(false,ei c X.env)]:=by rfl)(o8:c9 [b,c] X.env=[(false,ei b X.env),(false,ei c X.env)]:=by rfl) :
  XIc X ct ms (n-1+1) (.Tuple rY kt pt) (.Call (.Name "zip" pp) [a,b,c] [] pos) (λρ=>(fs ρ).bind CO):=by
 obtain⟨t,pt,_,qt⟩:=ha;refine⟨_,Zt hg hm pt hs o8,λF0 B F H ρ σ ds R rs e w=>?_⟩;obtain⟨yH,h1,h2⟩:=cQ e;refine qt F0 B F H ρ σ _ _ rs h1 λvs F' H' x l=>?_;cases l with
 |cons h t=>
  cases t with
  |cons h' t=>
   cases t with
   |cons h3 t=>
    cases t;rename_i d v d' v' d3 v3;cases d with
    |lst xs=>
     cases d' with
     |lst ys=>
      cases d3 with
      |lst us=>cases h2;obtain⟨a,vs,rfl,ha,hp⟩:=h.lst x.fh;obtain⟨b,us,rfl,hb,Hs⟩:=h'.lst x.fh;obtain⟨c,ws,rfl,hc,Ej⟩:=h3.lst x.fh;exact⟨a,b,c,rfl,⟨vs,us,ws,ha,hb,hc⟩,w _ F' H' x (zur hp Hs Ej (λF2 H2 s1 s2 s3=>s2.seq ha) (λF2 H2 s1 s2 s3=>s2.seq hb) (λF2 H2 s1 s2 s3=>s2.seq hc))⟩
      |_=>cases h2
     |_=>cases h2
    |_=>cases h2
def yN (c n:Nat):Str:=⟨zZ n c⟩
theorem foldl_rep (c:Nat):∀(n:Nat) (jR:Array Nat),(cE n #[c]).foldl (· ++ ·) jR=jR++zZ n c
 |0,jR=>by simp
 |n+1,jR=>by rw[eE,nD,foldl_rep c n,wO];congr 1;apply mS.mp;simp[eE]
theorem ZX (c:Nat)(i:Int):Txt.mul ⟨#[c]⟩ i=yN c i.toNat:=by
 unfold Txt.mul yN;by_cases h:i<1
 ·rw[if_pos h,show i.toNat=0 by omega];rfl
 ·rw[if_neg h];by_cases h1:i=1
  ·subst h1;rfl
  ·rw[if_neg (by
    have:(i==1)=false:=by simpa using h1
    rw[this];exact cD)]
   rw[foldl_rep];simp
def CG:R2:=λx y H Q=>∃c i,x=.str ⟨#[c]⟩/\y=.int i/\-1000000<=i/\i<=1000000/\Q (.str (yN c i.toNat)) H
def Dp:D->D->Option D
 |.str y,.int i=>match y.cps.toList with
  |[c]=>if -1000000<=i/\i<=1000000 then some (.str (yN c i.toNat))else none
  |_=>none
 |_,_=>none
theorem Xn:lS X (gz .Mult) CG:=by
 intro bX s σ H x y v u Q I rx ry h;obtain⟨c,i,rfl,rfl,h1,h2,q⟩:=h;obtain⟨t,rfl⟩:=rx;obtain⟨t',rfl⟩:=ry;refine PySem.SB.mul ⟨?_,λh3 h4=>?_,λh3 h4=>?_⟩ λtk kk=>⟨.str (yN c i.toNat),H,I.tok _,⟨tk,by rw[ZX]⟩,q⟩
 ·rw[decide_eq_false (by omega),decide_eq_false (by omega)];rfl
 ·have h5:((⟨#[c]⟩:Str).length:Int)=1:=rfl;rw[h5];have:1<=(2 ^ 63-1:Int)/i:=Int.le_ediv_of_mul_le (by omega) (by omega);omega
 ·unfold Builtin.Str.tooLong;have h5:(⟨#[c]⟩:Str).length=1:=rfl;rw[h5];apply decide_eq_false;unfold sizeLine;omega
theorem Yc:rM K ct n m k CG Dp:=by
 intro F H x y d1 d2 d Q s l1 l2 e w;cases d1 with
 |str z=>
  cases d2 with
  |int i=>
   have e:(match z.cps.toList with|[c]=>if -1000000<=i/\i<=1000000 then some (D.str (yN c i.toNat))else none|_=>none)=some d:=e;split at e
   ·rename_i c hz;by_cases hb:-1000000<=i/\i<=1000000
    ·rw[if_pos hb]at e;cases e;have q1:=Al.scal (F':=F) l1 rfl;cases q1;have q2:=Al.scal (F':=F) l2 rfl;cases q2;have:z=⟨#[c]⟩:=by cases z with|mk cps=>exact congrArg Str.mk (mS.mp hz)
     exact⟨c,i,by rw[this],rfl,hb.1,hb.2,w _ F H (.refl s) (Al.of (.str _))⟩
    ·rw[if_neg hb]at e;cases e
   ·cases e
  |_=>cases e
 |_=>cases e
def KZ:V->Option Int->Option Int->Hp->VK->Prop:=λx lo hi H Q=>∃y,x=.str y/\y.length<=sizeLine/\Q (.str (Txt.slice y lo hi)) H
theorem zus:Jq X KZ:=by
 intro bX s σ H x v vl vu lo hi sl Q I rx hs pl pu h;obtain⟨y,rfl,hz,q⟩:=h;obtain⟨t,rfl⟩:=rx;have key:∀l u:Option (Int×Tok),vl=PySem.partValue l->vu=PySem.partValue u->lo=l.map (·.1)->hi=u.map (·.1)->cF (cC X.prog X.w) X.A (pF (.str y t) (.ref sl)) (EP X bX σ Q) X.xe s:=by rintro l u rfl rfl rfl rfl;refine wpAny_getItem_str_slice (l:=l) (u:=u) (st:=none) hs rfl (post_val_or_str ⟨d9 (Txt.slice_le y (l.map (·.1)) (u.map (·.1))) hz,λt' k=>⟨.str (Txt.slice y (l.map (·.1)) (u.map (·.1))),H,I.tok _,⟨t',rfl⟩,q⟩⟩)
 refine⟨"str",_,F.slot_str_getitem.lookup,typeIs_str _ _ _,?_⟩;cases pl with
 |none=>cases pu with
  |none=>exact key none none rfl rfl rfl rfl
  |int j tj=>exact key none (some (j,tj)) rfl rfl rfl rfl
 |int i ti=>cases pu with
  |none=>exact key (some (i,ti)) none rfl rfl rfl rfl
  |int j tj=>exact key (some (i,ti)) (some (j,tj)) rfl rfl rfl rfl
def wG (d:D)(lo hi:Option Int):Option D:=match d with
 |.str y=>if y.length<=16777216 then some (.str (Txt.slice y lo hi))else none
 |_=>none
theorem Xo {lo hi:Option Expr}{pl ph:PF}{p1}(he:XE X ct ms n e f)(hl:XP X ct ms lo pl)(hh:XP X ct ms hi ph):XE X ct ms k (.Subscript e (.Slice lo hi none p1) pos) (λρ=>(f ρ).bind λd=>(pl ρ).bind λl=>(ph ρ).bind λh=>wG d l h):=by
 obtain⟨t,pt,qt⟩:=he;obtain⟨t1,wB,wC⟩:=hl;obtain⟨t2,pO,tL⟩:=hh;refine⟨_,O9 zus pt wB pO,λF0 B F H ρ σ r Q rs e w=>?_⟩;obtain⟨d,l,h1,h2,h3⟩:=gD e;obtain⟨hh,h4,h5⟩:=cQ h3;refine qt F0 B F H ρ σ d _ rs h1 λv F1 H1 x1 l1=>?_;refine wC F0 B F1 H1 ρ σ l _ (rs.ext x1) h2 λF2 H2 x2=>?_;refine tL F0 B F2 H2 ρ σ hh _ ((rs.ext x1).ext x2) h4 λF3 H3 x3=>?_;cases d with
 |str y=>
  have h5:(if y.length<=16777216 then some (D.str (Txt.slice y l hh))else none)=some r:=h5;by_cases hz:y.length<=16777216
  ·rw[if_pos hz]at h5;cases h5;have q1:=Al.scal (F':=F1) l1 rfl;cases q1;exact⟨y,rfl,hz,w _ F3 H3 ((x1.trans x2).trans x3) (Al.of (.str _))⟩
  ·rw[if_neg hz]at h5;cases h5
 |_=>cases h5
def gSb (i:Nat)(fj:EF):D->Env->Option Env:=λd ρ=>(eV i ρ).bind λo=>(fj ρ).bind λj=>match o,j with
 |.lst ds,.int z=>(xJ ds z d).bind λyH=>some (ρ.set i (some (.lst yH)))
 |_,_=>none
def NT (f g:EF):SF:=λρ=>(f ρ).bind λo=>(g ρ).bind λ_=>match o with
 |.lst ds=>if ds.length<16777216 then some (.nx ρ)else none
 |_=>none
def rA:List D->Option (List Int)
 |[]=>some []
 |.int i::ds=>if 0<=i/\i<16384 then(rA ds).bind λns=>some (i::ns)else none
 |_=>none
def C3:D->Option D
 |.lst ds=>(rA ds).bind λns=>if ns.length<=100 then some (.lst ds)else none
 |_=>none
theorem Ot {K:bZ}{F:Hp}:∀{ds:List D} {ns:List Int} {vs:List V},rA ds=some ns->Pr (Dt K ct F) ds vs->vs=ns.map V.int/\ds=ns.map D.int/\∀i∈ns,0<=i/\i<16384
 |[],_,_,h,.nil=>by cases h;exact⟨rfl,rfl,λ_ z=>by cases z⟩
 |.int i::ds,ns,_,h,.cons l t=>by
  unfold rA at h;by_cases hi:0<=i/\i<16384
  ·rw[if_pos hi]at h;obtain⟨ms,h1,h2⟩:=cQ h;cases h2;obtain⟨r1,r2,r3⟩:=Ot h1 t;cases l;refine⟨by rw[r1];rfl,by rw[r2];rfl,λj z=>?_⟩;rcases cn.mp z with rfl|z
   ·exact hi
   ·exact r3 j z
  ·rw[if_neg hi]at h;cases h
theorem AR {K:bZ}{F:Hp}:∀ns:List Int,Pr (Dt K ct F) (ns.map D.int) (ns.map V.int)
 |[]=>.nil
 |n::ns=>.cons (.int n) (AR ns)
def sy (K:bZ)(f:Str)(C:ce):Sp:=λvs H Q _=>∃a p ns,vs=[.ref a,.ref p]/\H a=some (nk a C none none)/\gZ K H p (ns.map V.int)/\vS ns /\
 ∀l dx,H l=none->H dx=none->l≠a->dx≠a->dx≠l->Q .non (eS (eS (eS H l (.lst (ns.map V.int))) dx (.xd [(f,.ref l)])) a (nk a C (some dx) none))
theorem sy.len {f:Str}:∀vs H Q E,sy K f C vs H Q E->vs.length=[y,z].length:=by rintro vs H Q E ⟨a,p,ns,rfl,_⟩;rfl
theorem Xp {w:dw}{fn:Str}{fd:cH}(Fn:Fun2 K "__init__" qual st fa fd)(S:fI [N0,N1] [N0,N1] (dc st))(cl:tV K C)(hd:dL K C=true/\cT K (.ref C) "__setattr__"=some (some (.builtin "object.__setattr__"))/\eL K C fn=some none)
  (body:∀(gN:bV) (A:c7) (outer:List PySem.Env) (s:cq) (H:Hp) (E:XK),fw kk (A.deeper (envOfC qual (dc st) s.heap.objs.size fa gN))->rV (nJ gC P w K mg base [N0,N1] qual (dc st) fa gN A outer s H E).nox (fU st) (B0 (xL (tO K (pR 0) (λσ H Q=>pR 1 σ H λv H1=>EQ K H1 v/\∀x,Q (.str x) H1))) (xM K fn (Lc (λxs H Q=>∃p ys,xs=[.ref p]/\(gZ K H p ys\/oU K H p ys)/\∀l,H l=none->Q (.ref l) (eS H l (.lst ys))) (CI (pR 1) DH)) (pR 0)))) :
  dM P w K mg base gC (kk+1) fa fd [N0,N1] (sy K fn C):=by
 refine Fn.ok S sy.len λgN A outer s H vs Q E hr h=>?_;obtain⟨a,p,ns,rfl,ha,hq,hs,q⟩:=h;refine⟨_,body gN A outer s H E hr,.ref a,rfl,.ref p,rfl,⟨p,ns,rfl,hq,hs⟩,λx=>⟨a,C,none,none,rfl,cl,ha,?_⟩⟩;refine⟨.ref p,rfl,p,_,rfl,.inl hq,λl hl=>⟨.ref a,rfl,a,C,none,rfl,cl,hd.1,hd.2.1,hd.2.2,?_,λdx h1 h2=>?_⟩⟩
 ·rw[zj (zl ha hl)];exact ha
 ·have hdl:dx≠l:=λz=>by rw[z,zk]at h1;cases h1
  rw[zj hdl]at h1;exact q l dx hl h1 (Ne.symm (zl ha hl)) h2 hdl
theorem Yd {fn:Str}{fd:cH}(cl:tV X.K (ct c0))(Df:dn X.K (.ref (ct c0))=true)(hi:cT X.K (.ref (ct c0)) "__init__"=some (some (.ref fa)))(vC:iH X.K (.ref fa)=true)(Fn:dM X.prog X.w X.K X.mg X.base gC kk fa fd ps (sy X.K fn (ct c0)))(hr:fw (kk+1) X.A)(hm:X.mg x=some (.ref (ct c0)))(hb:fF X.K fd ps [])
  (he:XE X ct ms 0 e f) (hg:Gl X x:=by rfl) (kM:lx x:=by decide) (ky:SE X e []:=by rfl) (gW:oa X pos []:=by rfl) :
  XR X ct ms (.Call (.Name x pp) [e] [] pos) (λρ=>(f ρ).bind λd=>(C3 d).bind λd=>some (.exc c0 [fn] [d])):=by
 obtain⟨t,pt,qt⟩:=he;refine⟨_,LH cl Df hi vC Fn hr hg hm hb (zy pt yy ky) kM ky gW,λF0 B F H ρ σ d Q rs e w=>?_⟩;obtain⟨d1,h1,h2⟩:=cQ e;obtain⟨d2,h3,h4⟩:=cQ h2;cases h4;refine qt F0 B F H ρ σ d1 _ rs h1 λv F1 H1 x1 l=>⟨by simp,λa ha=>?_⟩;cases d1 with
 |lst ds=>
  obtain⟨ns,h5,h6⟩:=cQ h3;by_cases hl:ns.length<=100
  ·rw[if_pos hl]at h6;cases h6;have l:Dt X.K ct F1 (.lst ds) v:=l;cases l with
   |@lst p vs _ q t=>
    obtain⟨rfl,rfl,hs⟩:=Ot h5 t.pr;refine⟨a,p,ns,rfl,zk,?_,⟨hl,hs⟩,λl dx Cq Bi Kb mE hdl=>⟨rfl,?_⟩⟩
    ·exact(x1.fh.trans (yn ha _)).seq q
    ·have o7:H1 l=none:=by rw[zj Kb]at Cq;exact Cq
     have Av:H1 dx=none:=by rw[zj mE]at Bi;exact Bi
     have hH:eS (eS (eS (eS H1 a (nk a (ct c0) none none)) l (.lst (ns.map V.int))) dx (.xd [(fn,.ref l)])) a (nk a (ct c0) (some dx) none)=eS (eS (eS H1 l (.lst (ns.map V.int))) dx (.xd [(fn,.ref l)])) a (nk a (ct c0) (some dx) none):=by
      funext b;by_cases h1:b=a
      ·rw[h1,zk,zk]
      ·rw[zj h1,zj h1];by_cases h2:b=dx
       ·rw[h2,zk,zk]
       ·rw[zj h2,zj h2];by_cases h3:b=l
        ·rw[h3,zk,zk]
        ·rw[zj h3,zj h3,zj h1]
     rw[hH];have x2:ir F1 H1 (eS F1 l (.lst (ns.map V.int))) (eS H1 l (.lst (ns.map V.int))):=ir.newS x1.fh o7 _;have JW:eS H1 l (.lst (ns.map V.int)) dx=none:=by rw[zj hdl];exact Av
     have x3:=ir.newS x2.fh JW (.xd [(fn,.ref l)]);have BI:eS (eS H1 l (.lst (ns.map V.int))) dx (.xd [(fn,.ref l)]) a=none:=by rw[zj (Ne.symm mE),zj (Ne.symm Kb)];exact ha
     have x4:=ir.newO x3.fh BI (nk a (ct c0) (some dx) none);refine w a _ _ c0 [fn] [.lst (ns.map D.int)] (some dx) (((x1.trans x2).trans x3).trans x4) (x1.hh.free ha) rfl ?_ cl ⟨zk,λT z=>by cases z⟩ (.inr ⟨dx,[.ref l],rfl,zk,rfl,.cons (.lst (gZ.of (by rw[zj (Ne.symm hdl),zk])) (.of ?_)) .nil⟩)
     ·rw[zj (Ne.symm mE),zj (Ne.symm Kb)];exact x1.fh.free ha
     ·exact AR ns
  ·rw[if_neg hl]at h6;cases h6
 |_=>cases h3
def oN:D->D->Option D
 |.str y,.str z=>if(z.length==0)=false/\y.length<=16777216/\(Txt.split y z).length<=16777216 then some (.lst ((Txt.split y z).map .str))else none
 |_,_=>none
theorem P2 {K:bZ}{F:Hp}:∀l:List Str,Pr (Dt K ct F) (l.map D.str) (l.map V.str)
 |[]=>.nil
 |x::l=>.cons (.str x) (P2 l)
theorem O1 (ho:XE X ct ms n o f)(he:XE X ct ms m e g)(ky:SE X e []:=by rfl)
  (lD:Ag X o "split":=by rfl)
  (rm:DW X gU [e]:=by rfl)
  (lE:(gq.endLine==gU.line)=true:=by rfl) (lF:oa X gU []:=by rfl) :
  XO X ct ms 1 (.Call (.Attribute o "split" gq) [e] [] gU) (e2 oN f g):=by
 obtain⟨ta,pa,qa⟩:=ho;obtain⟨tb,pb,qb⟩:=he;refine⟨_,G1 PySem.F.plainAttrs_str PySem.F.slot_str_split PySem.F.type_str_split XF pa (zy pb yy ky) lD rm lE ky lF,λF0 B F H ρ σ d Q rs e w=>?_⟩;obtain⟨d1,d2,h1,h2,h3⟩:=gD e;refine qa F0 B F H ρ σ d1 _ rs h1 λv1 F1 H1 x1 l1=>?_;cases d1 with
 |str y=>
  cases d2 with
  |str z=>
   have h3:(if(z.length==0)=false/\y.length<=16777216/\(Txt.split y z).length<=16777216 then some (D.lst ((Txt.split y z).map .str))else none)=some d:=h3;by_cases hp:(z.length==0)=false/\y.length<=16777216/\(Txt.split y z).length<=16777216
   ·rw[if_pos hp]at h3;cases h3;have q1:=Al.scal (F':=F1) l1 rfl;cases q1;refine⟨rfl,qb F0 B F1 H1 ρ σ _ _ (rs.ext x1) h2 λv2 F2 H2 x2 l2=>?_⟩;have q2:=Al.scal (F':=F2) l2 rfl;cases q2;refine⟨y,z,rfl,rfl,hp.1,by rw[dD];exact hp.2.1,by rw[dD];exact hp.2.2,wp x2.fh (P2 _) λv F' H' fp x o nd hf=>w v F' H' fp ((x1.trans x2).trans x) o nd λz hz=>(x1.trans x2).hh.free (hf z hz)⟩
   ·rw[if_neg hp]at h3;cases h3
  |_=>cases h3
 |_=>cases h3
theorem Pr.every2 {vs:List V}(h:Pr R ds vs):Pr R (L2.every2 ds) (L2.every2 vs):=by
 have:∀(n:Nat) (ds:List D) (vs:List V),ds.length<=n->Pr R ds vs->Pr R (L2.every2 ds) (L2.every2 vs):=by
  intro n;induction n with
  |zero=>
   intro xs us hl r;cases r with
   |nil=>exact .nil
   |cons _ _=>simp at hl
  |succ n ih=>
   intro xs us hl r;cases r with
   |nil=>exact .nil
   |cons h t=>
    cases t with
    |nil=>exact .cons h .nil
    |cons h2 t2=>exact .cons h (ih _ _ (by simp at hl;omega) t2)
 exact this _ _ _ (cI _) h
theorem IJ {sl sp:Expr}(hn:n<=1)(he:XE X ct ms n e f)(hl:XE X ct ms m sl (eC (.int (i:Int))))(hp:XE X ct ms k sp (eC (.int 2))):XO X ct ms 1 (.Subscript e (.Slice (some sl) none (some sp) p1) pos) (λρ=>((lsD f) ρ).bind λds=>some (.lst (every2 (ds.drop i)))):=by obtain⟨t,pt,qt⟩:=he;obtain⟨t1,wB,wC⟩:=hl;obtain⟨t2,pO,tL⟩:=hp;refine⟨_,Zv pt (L7 wB) (L7 pO),λF0 B F H ρ σ r Q rs e w=>?_⟩;obtain⟨ds,h1,h2⟩:=cQ e;cases h2;obtain⟨d,h3,h4⟩:=cQ h1;rw[qp h4]at h3;refine qt F0 B F H ρ σ _ _ rs h3 λv F1 H1 x1 l1=>?_;refine wC F0 B F1 H1 ρ σ (.int (i:Int)) _ (rs.ext x1) rfl λu F2 H2 x2 l2=>⟨_,l2.int,?_⟩;refine tL F0 B F2 H2 ρ σ (.int 2) _ ((rs.ext x1).ext x2) rfl λu F3 H3 x3 l3=>⟨_,l3.int,?_⟩;have uO:=x2.trans x3;obtain⟨a,vs,rfl,ha,hp⟩:=Al.lst1 hn (l1.mono uO.ff uO.hh) uO.fh;exact⟨i,a,vs,rfl,rfl,rfl,ha,wp uO.fh (hp.drop i).every2 λv F' H' fp x o nd hf=>w v F' H' fp ((x1.trans uO).trans x) o nd λz hz=>(x1.trans uO).hh.free (hf z hz)⟩
def rZ:List D->Option D
 |[.str y]=>if y.length<=640 then(PySem.intText? y).bind λi=>some (.int i)else none
 |_=>none
theorem wv:Bc K ct [n] k (λxs H Q=>∃y i,xs=[.str y]/\PySem.intText? y=some i/\y.length<=640/\Q (.int i) H) rZ:=by
 intro F H vs ds d Q s l e w;cases l with
 |cons h t=>
  cases t;rename_i d0 v0;cases d0 with
  |str y=>
   have e:(if y.length<=640 then(PySem.intText? y).bind λi=>some (D.int i)else none)=some d:=e;by_cases hl:y.length<=640
   ·rw[if_pos hl]at e;obtain⟨i,h1,h2⟩:=cQ e;cases h2;exact⟨y,i,by rw[h.str],h1,hl,w _ F H (.refl s) (Al.of (.int i))⟩
   ·rw[if_neg hl]at e;cases e
  |_=>cases e
def AT (i:Nat)(f:EF):SF:=λρ=>(eV i ρ).bind λo=>(f ρ).bind λd=>match o,d with
 |.lst ds,.lst es=>if ds.length+es.length<=16777216 then some (.nx (ρ.set i (some (.lst (ds++es)))))else none
 |_,_=>none
theorem Xa (i:Nat)(hm:ms[i]?=some (.ow 1))(he:XO X ct ms 1 e f)(hN:X.N[i]?=some x:=by rfl)(hv:vU X.env.scope x:=by walk_at "v1")(hd:lx x:=by decide)
  (lT:yE x:=by decide) (ky:SE X e []:=by rfl)
  (lD:qD (.Name x p1) "extend" X.env (ei (.Name x p1) X.env)=ei (.Name x p1) X.env:=by rfl)
  (rm:DW X gU [e]:=by rfl)
  (lE:(gq.endLine==gU.line)=true:=by rfl) (lF:oa X gU []:=by rfl)
  (AH:gQ (.Call (.Attribute (.Name x p1) "extend" gq) [e] [] gU) none pos.line X.env=pure false:=by rfl) :
  XS X ct ms rk (.Expr (.Call (.Attribute (.Name x p1) "extend" gq) [e] [] gU) pos) (AT i f):=by
 obtain⟨t,pt,qt⟩:=he;refine⟨_,ve (G1 PySem.F.plainAttrs_list PySem.F.slot_list_extend PySem.F.type_list_extend WN (yb hN hv hd lT) (zy pt yy ky) lD rm lE ky lF) AH,λF0 B F H ρ σ o E rs e z=>?_⟩;obtain⟨d1,d2,h1,h2,h3⟩:=gD e;obtain⟨f1,fr,n1,b1,dj,i4,cf,put⟩:=rs.put (F':=F) (H':=H) hm;obtain⟨v,hσ,ow⟩:=i4 d1 (z6 h1);refine⟨v,hσ,?_⟩;cases d1 with
 |lst ds=>
  cases d2 with
  |lst es=>
   dsimp only at h3;by_cases hz:ds.length+es.length<=16777216
   ·rw[if_pos hz]at h3;cases h3;obtain⟨ad,vs,Fe,rfl,rfl,hF,hH,ol⟩:=ow.lst_inv;refine⟨.inl ⟨rfl,_,gZ.of hH⟩,qt F0 B F H ρ σ _ _ rs h2 λv2 F' H' fp x1 o2 Ep Hm=>?_⟩;obtain⟨bd,us,fr2,rfl,rfl,hF2,SQ,KP⟩:=o2.lst_inv;have hA:H' ad=some (.lst vs):=x1.hh _ _ hH;have fA:F' ad=none:=x1.nf ad _ hH nofun hF;have e0:=ol.nil0;have e1:=KP.nil0;subst e0 e1;refine⟨ad,bd,vs,us,rfl,rfl,hA,SQ,by rw[←ol.length,←KP.length,dD];exact hz,?_⟩;refine z σ F' _ (rs.change hm x1 hσ b1 dj cf put b9 fA (.inr (.lst fA zk ((ol.mono λ_ _ _ _ q=>⟨q.1.mono x1.ff,q.2⟩).append (KP.mono λ_ _ _ _ q=>⟨q.1,q.2⟩)))) (fn:=[ad]) (by simp) ?_);intro a ha;rw[cz]at ha;subst ha;exact .inl b9
   ·rw[if_neg hz]at h3;cases h3
  |_=>cases h3
 |_=>cases h3
def Ds (i:Nat):uF->uF
 |.ok o=>.ok (xI i o)
 |.xc ρ d=>.xc (ρ.set i none) d
def DA (i:Nat)(u:oj):oj:=λρ=>(u ρ).bind λo=>some (Ds i o)
section
variable {G:GK}{fd:cH}
theorem ZY {Gu:List ek}{w:oj}(hm:ms[i]?=some (.ow k))(h:qK X G ct (ms.set i (.ow 0)) rk Gu w):qK X G ct ms rk Gu (DA i w):=by
 obtain⟨t,pt,qt⟩:=h;refine⟨t,pt,λF0 B F H ρ σ o E rs e z=>?_⟩;obtain⟨F',r2⟩:=rs.fz hm;obtain⟨o1,e1,e2⟩:=cQ e;refine qt F0 B F' H ρ σ o1 E r2 e1 ?_;have back:∀{ρ':Env} {σ':St} {F2 H2:Hp},RS X.K ct F0 B (ms.set i (.ow 0)) F2 H2 ρ' σ'->RS X.K ct F0 B ms F2 H2 (ρ'.set i none) σ':=λr=>by have:=r.forget (.ow k) i;rw[Oo hm]at this;exact this
 cases o1 with
 |xc ρ' d=>cases e2;exactλa σ F1 H0 F H rs x ha xd=>z a σ F1 H0 F H (back rs) x ha xd
 |ok o1=>
  cases o1 with
  |nx ρ'=>cases e2;exactλσ' F2 H2 r=>z σ' F2 H2 (back r)
  |rt d=>cases e2;exact z
  |bk ρ'=>cases e2;exactλσ' F2 H2 r=>z σ' F2 H2 (back r)
  |ct ρ'=>cases e2;exactλσ' F2 H2 r=>z σ' F2 H2 (back r)
def yJ:D->Option D
 |.str x=>if cU.strOk x=true/\x.length<=100 then some (.str x)else none
 |_=>none
theorem Xb {v:V}(h:yJ d=some d')(l:Al K ct F G' n d v):d'=d/\yB v/\∀F',Dt K ct F' d v:=by
 cases d with
 |str x=>
  unfold yJ at h;dsimp only at h;split at h
  ·next hx=>cases h;refine⟨rfl,⟨x,l.str,hx.1,hx.2⟩,λF'=>?_⟩;rw[l.str];exact .str x
  ·cases h
 |_=>unfold yJ at h;cases h
def sA (f:Str)(C:ce):Sp:=λvs H Q _=>∃a u,vs=[.ref a,u]/\H a=some (nk a C none none)/\yB u/\∀dx,H dx=none->dx≠a->Q .non (eS (eS H dx (.xd [(f,u)])) a (nk a C (some dx) none))
theorem sA.len {f:Str}:∀vs H Q E,sA f C vs H Q E->vs.length=[y,z].length:=by rintro vs H Q E ⟨a,u,rfl,_⟩;rfl
theorem Xc {w:dw}{fn:Str}{fd:cH}(Fn:Fun2 K "__init__" qual st fa fd)(S:fI [N0,N1] [N0,N1] (dc st))(cl:tV K C)(hd:dL K C=true/\cT K (.ref C) "__setattr__"=some (some (.builtin "object.__setattr__"))/\eL K C fn=some none)
  (body:∀(gN:bV) (A:c7) (outer:List PySem.Env) (s:cq) (H:Hp) (E:XK),∃tf:TF,(∀σ H v (Q:Hp->Prop),σ[1]?=some (some v)->yB v->Q H->tf σ H Q)/\rV (nJ gC P w K mg base [N0,N1] qual (dc st) fa gN A outer s H E).nox (fU st) (B0 (xL (tO K (pR 0) (λσ H Q=>tf σ H λH1=>∀x,Q (.str x) H1))) (xM K fn (pR 1) (pR 0)))) :
  dM P w K mg base gC (kk+1) fa fd [N0,N1] (sA fn C):=by
 refine Fn.ok S sA.len λgN A outer s H vs Q E hr h=>?_;obtain⟨a,u,rfl,ha,fo,q⟩:=h;obtain⟨tf,Kq,p⟩:=body gN A outer s H E;exact⟨_,p,.ref a,rfl,Kq _ _ u _ rfl fo λx=>⟨a,C,none,none,rfl,cl,ha,u,rfl,.ref a,rfl,a,C,none,rfl,cl,hd.1,hd.2.1,hd.2.2,ha,λdx h1 h2=>q dx h1 h2⟩⟩
theorem UA {v:V}{Q:Hp->Prop}(h1:σ[1]?=some (some v))(h2:yB v)(h3:Q H):pR 1 σ H (λv H1=>yB v/\Q H1):=⟨v,h1,h2,h3⟩
theorem Ye {fn:Str}(cl:tV X.K (ct c0))(Df:dn X.K (.ref (ct c0))=true)(hi:cT X.K (.ref (ct c0)) "__init__"=some (some (.ref fa)))(vC:iH X.K (.ref fa)=true)(Fn:dM X.prog X.w X.K X.mg X.base gC kk fa fd ps (sA fn (ct c0)))(hr:fw (kk+1) X.A)(hm:X.mg x=some (.ref (ct c0)))(hb:fF X.K fd ps [])
  (he:XE X ct ms n e f) (hg:Gl X x:=by rfl) (kM:lx x:=by decide) (ky:SE X e []:=by rfl) (gW:oa X pos []:=by rfl) :
  XR X ct ms (.Call (.Name x pp) [e] [] pos) (λρ=>(f ρ).bind λd=>(yJ d).bind λd=>some (.exc c0 [fn] [d])):=by
 obtain⟨t,pt,qt⟩:=he;refine⟨_,LH cl Df hi vC Fn hr hg hm hb (zy pt yy ky) kM ky gW,λF0 B F H ρ σ d Q rs e w=>?_⟩;obtain⟨d1,h1,h2⟩:=cQ e;obtain⟨d2,h3,h4⟩:=cQ h2;cases h4;refine qt F0 B F H ρ σ d1 _ rs h1 λv F1 H1 x1 l=>⟨by simp,λa ha=>⟨a,v,rfl,zk,?_⟩⟩;obtain⟨rfl,fo,dt⟩:=Xb h3 l;refine⟨fo,λdx Bi mE=>⟨rfl,?_⟩⟩;have Av:H1 dx=none:=by rw[zj mE]at Bi;exact Bi
 have hH:eS (eS (eS H1 a (nk a (ct c0) none none)) dx (.xd [(fn,v)])) a (nk a (ct c0) (some dx) none)=eS (eS H1 dx (.xd [(fn,v)])) a (nk a (ct c0) (some dx) none):=by
  funext b;by_cases h1:b=a
  ·rw[h1,zk,zk]
  ·rw[zj h1,zj h1];by_cases h2:b=dx
   ·rw[h2,zk,zk]
   ·rw[zj h2,zj h2,zj h1]
 rw[hH];have x2:ir F1 H1 (eS F1 dx (.xd [(fn,v)])) (eS H1 dx (.xd [(fn,v)])):=ir.newS x1.fh Av _;have BI:eS H1 dx (.xd [(fn,v)]) a=none:=by rw[zj (Ne.symm mE)];exact ha
 have x3:=ir.newO x2.fh BI (nk a (ct c0) (some dx) none);refine w a _ _ c0 [fn] [d2] (some dx) ((x1.trans x2).trans x3) (x1.hh.free ha) rfl ?_ cl ⟨zk,λT z=>by cases z⟩ (.inr ⟨dx,[v],rfl,zk,rfl,.cons (dt _) .nil⟩);rw[zj (Ne.symm mE)];exact x1.fh.free ha
theorem RS.setP {a:ce}(rs:RS K ct F0 B ms F H ρ σ)(dt:Dt K ct F d (.ref a)):RS K ct F0 B (ms.set i (.px (.ref a))) F H (ρ.set i (some d)) (σ.set i (some (.ref a))):=by
 obtain⟨fp,sl,nd,hb⟩:=rs.sl;have key:∀{ms:List Mo} {ρ:Env} {σ:St} {fp:List ce} (i:Nat),SL K ct F B H ms ρ σ fp->∃iA,SL K ct F B H (ms.set i (.px (.ref a))) (ρ.set i (some d)) (σ.set i (some (.ref a))) iA/\iA.Sublist fp:=by
  intro ms ρ σ fp i h;induction h generalizing i with
  |nil=>exact⟨[],.nil,.refl _⟩
  |no t ih=>
   cases i with
   |zero=>exact⟨_,.px (Al.of dt) t,.refl _⟩
   |succ i=>obtain⟨iA,h1,h2⟩:=ih i;exact⟨iA,.no h1,h2⟩
  |al h t ih=>
   cases i with
   |zero=>exact⟨_,.px (Al.of dt) t,.refl _⟩
   |succ i=>obtain⟨iA,h1,h2⟩:=ih i;exact⟨iA,.al h h1,h2⟩
  |px h t ih=>
   cases i with
   |zero=>exact⟨_,.px (Al.of dt) t,.refl _⟩
   |succ i=>obtain⟨iA,h1,h2⟩:=ih i;exact⟨iA,.px h h1,h2⟩
  |so h t ih=>
   cases i with
   |zero=>exact⟨_,.px (Al.of dt) t,uA _ _⟩
   |succ i=>obtain⟨iA,h1,h2⟩:=ih i;exact⟨_,.so h h1,h2.cons₂ _⟩
  |ow h t ih=>
   cases i with
   |zero=>exact⟨_,.px (Al.of dt) t,sm _ _⟩
   |succ i=>obtain⟨iA,h1,h2⟩:=ih i;exact⟨_,.ow h h1,(List.Sublist.refl _).append h2⟩
 obtain⟨iA,h1,h2⟩:=key i sl;exact⟨rs.f0,rs.bh,rs.fh,rs.nf,iA,h1,h2.nodup nd,λa z=>hb a (h2.subset z)⟩
theorem IK {hs:List ExceptHandler}{np:m9}{nm:Str}{body:List ek}{Ba:ce}{hit:Nat->Option Bool}{r:Nat->D->SF}(hN:X.N.Nodup)(hi:X.N[i]?=some nm)(FB:ms[i]?=some (.ow 0))(hm:X.mg x=some (.ref Ba))(hh:∀c b,hit c=some b->fO X.K (.ref (ct c)) (.ref Ba)=some b)(hb:∀a,tm (X.hd a) ct (ms.set i (.px (.ref a))) rk body u)(hr:Ha X ct ms rk hs r)
  (hl:X.env.scope.names.lookup nm=some .local:=by rfl) (hg:Gl X x:=by rfl) (mE:body≠[]:=by simp) (kM:lx x:=by decide) :
  Ha X ct ms rk (.ExceptHandler (some (.Name x np)) (some nm) body pos::hs) (thD hit (some i) u r):=by
 obtain⟨th,ph,qh⟩:=hr;refine⟨_,zvt hN hi hl hg hm (λa=>(hb a).choose_spec.1) ph mE kM,λF0 B F H ρ σ o E a c d rs dt e z=>?_⟩;obtain⟨b,h1,h2⟩:=cQ e;refine⟨b,hh c b h1,?_⟩;cases b with
 |true=>
  rw[if_pos rfl]at h2 ⊢;obtain⟨o1,h3,h4⟩:=cQ h2;have back:∀{ρ':Env} {σ':St} {F2 H2:Hp},RS X.K ct F0 B (ms.set i (.px (.ref a))) F2 H2 ρ' σ'->RS X.K ct F0 B ms F2 H2 (ρ'.set i none) (σ'.set i none):=λq=>by
   have q2:=q.forget (.ow 0) i;rw[pD]at q2;have e2:ms.set i (.ow 0)=ms:=by
    apply my;intro j;rw[yZ];split
    ·next h=>subst h;rw[FB,if_pos (cM.mp FB).1]
    ·rfl
   rw[e2]at q2;have q3:=q2.unset FB;rw[pD]at q3;exact q3
  refine(hb a).choose_spec.2 F0 B F H (ρ.set i (some d)) (σ.set i (some (.ref a))) o1 _ (rs.setP dt) h3 ?_;cases o1 with
  |nx ρ'=>cases h4;exactλσ' F' H' q=>z _ F' H' (back q)
  |bk ρ'=>cases h4;exactλσ' F' H' q=>z _ F' H' (back q)
  |ct ρ'=>cases h4;exactλσ' F' H' q=>z _ F' H' (back q)
  |rt d=>cases h4;exact z
 |false=>rw[if_neg cD]at h2 ⊢;exact qh F0 B F H ρ σ o E a c d rs dt h2 z
theorem SL.atP {v:V}(h:SL K ct F B H ms ρ σ fp):ms[i]?=some (.px v)->ρ[i]?=some (some d)->σ[i]?=some (some v)/\Al K ct F B 1 d v:=by
 induction h generalizing i with
 |nil=>intro e;simp at e
 |no t ih=>intro e e';cases i with
  |zero=>simp at e'
  |succ i=>simpa using ih (by simpa using e) (by simpa using e')
 |al h t ih=>intro e e';cases i with
  |zero=>simp at e
  |succ i=>simpa using ih (by simpa using e) (by simpa using e')
 |so h t ih=>intro e e';cases i with
  |zero=>simp at e
  |succ i=>simpa using ih (by simpa using e) (by simpa using e')
 |ow h t ih=>intro e e';cases i with
  |zero=>simp at e
  |succ i=>simpa using ih (by simpa using e) (by simpa using e')
 |px h t ih=>intro e e';cases i with
  |zero=>simp at e e';subst e;subst e';exact⟨rfl,h⟩
  |succ i=>simpa using ih (by simpa using e) (by simpa using e')
theorem qw {a:ce}{pn:m9}(Fn:sx G5 X.prog X.w X.K X.mg X.base kk fa fd ps (kd X.K ct [1] rk mf))(hr:kL kk X.A)(hA:X.A.handled=some (.ref a))(hm:X.mg x=some (.ref fa))(hk:dn X.K (.ref fa)=true)(hb:fF X.K fd ps [])
  (hi:ms[i]?=some (.px (.ref a)):=by rfl) (hg:Gl X x:=by rfl) (hN:X.N[i]?=some y:=by rfl) (hv:vU X.env.scope y:=by walk_at "v1") (hd:lx y:=by decide) (lT:yE y:=by decide)
  (kM:lx x:=by decide) (he:c9 [.Name y pn] X.env=(false,ei (.Name y pn) X.env)::c9 [] X.env:=by rfl) (gW:oa X pos []:=by rfl) :
  XO X ct ms rk (.Call (.Name x pp) [.Name y pn] [] pos) (λρ=>(eV i ρ).bind λd=>mf [d]):=by
 refine⟨_,XJ Fn hr hA hg hm hk hb sO hN hv hd lT kM he gW,λF0 B F H ρ σ r Q rs e w=>?_⟩;obtain⟨d,h1,h2⟩:=cQ e;obtain⟨fp,sl,_,_⟩:=rs.sl;obtain⟨q1,q2⟩:=sl.atP hi (z6 h1);exact⟨q1,F,[d],r,rs.fh,.cons (q2.mono (.refl _) rs.bh) .nil,h2,w⟩
theorem KH {w:dw}(Fn:Fun2 K x qual st fa fd)(S:fI (N0::N) [N0] (dc st))
  (body:∀(a:ce) (gN:bV) (A:c7) (outer:List PySem.Env) (s:cq) (H:Hp) (E:XK),kL kk (A.deeper (envOfC qual (dc st) s.heap.objs.size fa gN))->A.handled=some (.ref a)->tm (Hd P w K mg base (N0::N) qual (dc st) fa gN A outer s H E).nox ct (.px (.ref a)::ms) rk (fU st) bf)
  (BJ:ms.length=N.length:=by rfl) :
  sx G5 P w K mg base (kk+1) fa fd [N0] (kd K ct [1] rk (mOf (N0::N) bf)):=by
 obtain⟨oc,od,dV,kV,doc,NQ,an,gN,MY,xH,rfl,lk,lT⟩:=Fn.ex;refine zt1 lk lT S (kd.len rfl) λA outer s H vs Q E hr Fj h=>?_;obtain⟨a,GH,hA,rfl⟩:=Fj;obtain⟨F,ds,d,sF,l,hm,q⟩:=h;obtain⟨t,pt,qt⟩:=body a gN A outer s H E hr hA;refine⟨t,pt.nox,?_⟩;obtain⟨o,h1,h2⟩:=cQ hm;cases l with
 |cons l1 l2=>
  cases l2;refine qt F H F H (startD (N0::N) [_]) (L2.start (N0::N) [.ref a]) o _ ⟨.refl _,.refl _,sF,λ_ _ _ _ h=>h,[],?_,dk,λa z=>(by cases z)⟩ h1 ?_
  ·unfold startD L2.start;have:=SL.start (K:=K) (ct:=ct) (F:=F) (B:=H) (H:=H) (ms:=ms) (pm:=[]) N.length .nil (λi n e=>by simp at e) (by simpa using BJ);refine .px l1 ?_;have z:SL K ct F H H ms (cE N.length none) (cE N.length none) []:=by simpa using this
   exact z
  ·cases o with
   |nx ρ=>cases h2;exactλσ F' H' r=>q .non F' H' [] ⟨r.f0,r.bh,r.fh,r.nf⟩ (Ow.scal .non rfl) dk λa z=>(by cases z)
   |rt d'=>cases h2;exactλv F' H' fp s1 s2 s3 s4 o nd hf=>q v F' H' fp ⟨s1,s2,s3,s4⟩ o nd hf
   |bk ρ=>cases h2
   |ct ρ=>cases h2
def KI (i:Nat)(f:EF):Env->Option (List D):=λρ=>(eV i ρ).bind λd=>match d with
 |.exc _ _ _=>lsD f ρ
 |_=>none
theorem Xd {a:ce}(hA:X.A.handled=some (.ref a))(hi:ms[i]?=some (.px (.ref a)))(he:XE X ct ms n e f):By X True ct ms (n-1) tg e (KI i f):=by
 obtain⟨t,pt,qt⟩:=he;refine⟨_,XH hA pt,λF0 B F H ρ σ ds R rs e w=>?_⟩;unfold KI at e;obtain⟨dx,h0,e⟩:=cQ e;obtain⟨fp,sl,_,_⟩:=rs.sl;obtain⟨q1,q2⟩:=sl.atP hi (z6 h0);cases dx with
 |exc c ns es=>obtain⟨d,h1,h2⟩:=cQ e;rw[qp h2]at h1;refine qt F0 B F H ρ σ _ _ rs h1 λv F' H' x l=>?_;obtain⟨b,vs,rfl,ha,hp⟩:=l.lst x.fh;obtain⟨a',dx,tb,ea,hx,_⟩:=q2.dtx.exc_inv;cases ea;refine⟨b,rfl,⟨vs,ha⟩,w _ F' H' x ?_⟩;have ok:=Mz (ct:=ct) (K:=X.K) (G:=H') hp λF2 H2 s1 s2 s3=>s2.seq ha;intro j F2 H2 s1 s2 s3;obtain⟨k1,k2⟩:=ok j F2 H2 s1 s2 s3;exact⟨k1,λhl=>⟨k2 hl,_,dx,tb,s3 _ _ (s1 _ _ (x.ff _ _ hx))⟩⟩
 |_=>cases e
def GG:D->Option D
 |.str y=>if Builtin.Str.tooLong (Txt.upper y).length=false then some (.str (Txt.upper y))else none
 |_=>none
theorem Yf:DY X "str.upper" (λx vs H Q=>∃y,x=.str y/\vs=[]/\Builtin.Str.tooLong (Txt.upper y).length=false/\Q (.str (Txt.upper y)) H):=by intro bX s σ H x vs v us Q I rx rv h;obtain⟨y,rfl,rfl,hp,q⟩:=h;obtain⟨tk,rfl⟩:=rx;cases rv;exact PySem.SC.upper hp ⟨.str (Txt.upper y),H,I.tok _,⟨_,rfl⟩,q⟩
theorem Yg (ho:XE X ct ms n o f)(lD:Ag X o "upper":=by rfl)(lE:(gq.endLine==gU.line)=true:=by rfl):XE X ct ms k (.Call (.Attribute o "upper" gq) [] [] gU) (e1 GG f):=by
 obtain⟨ta,pa,qa⟩:=ho;refine⟨_,ztm PySem.F.plainAttrs_str PySem.F.slot_str_upper PySem.F.type_str_upper Yf pa lD lE,λF0 B F H ρ σ d Q rs e w=>?_⟩;obtain⟨d1,h1,h2⟩:=cQ e;refine qa F0 B F H ρ σ d1 _ rs h1 λv1 F1 H1 x1 l1=>?_;cases d1 with
 |str y=>
  unfold GG at h2;dsimp only at h2;by_cases hp:Builtin.Str.tooLong (Txt.upper y).length=false
  ·rw[if_pos hp]at h2;cases h2;have q1:=Al.scal (F':=F1) l1 rfl;cases q1;exact⟨rfl,y,rfl,rfl,hp,w _ F1 H1 x1 (Al.of (.str _))⟩
  ·rw[if_neg hp]at h2;cases h2
 |_=>cases h2
theorem ZZ {pn:m9}(hm:ms[i]?=some (.ow 1))(hb:XE X ct ms m b g)(hN:X.N[i]?=some y:=by rfl)(hv:vU X.env.scope y:=by walk_at "v1")(hd:lx y:=by decide)(lT:yE y:=by decide) :
  XO X ct ms 1 (.BinOp (.Name y pn) .Mult b pos) (e2 uJ (eV i) g):=by
 obtain⟨tb,pb,qb⟩:=hb;refine⟨_,Jf P7 (yb hN hv hd lT) pb,λF0 B F H ρ σ d Q rs e w=>?_⟩;obtain⟨d1,d2,h1,h2,h3⟩:=gD e;obtain⟨f1,fr,n1,b1,dj,i4,cf,put⟩:=rs.put (F':=F) (H':=H) hm;obtain⟨v,hσ,ow⟩:=i4 d1 (z6 h1);refine⟨v,hσ,qb F0 B F H ρ σ d2 _ rs h2 λv2 F2 H2 x2 l2=>?_⟩;cases d1 with
 |lst xs=>
  cases d2 with
  |int j=>
   unfold uJ at h3;dsimp only at h3;by_cases hz:-1000000<j/\j<1000000/\xs.length<=16
   ·rw[if_pos hz]at h3;cases h3;obtain⟨ad,vs,fr,rfl,rfl,hF,hH,ol⟩:=(ow.ext x2).lst_inv;have hp:Pr (Al X.K ct F2 H2 0) xs vs:=ol.pr λ_ _ _ _ q=>q.1;refine⟨ad,j,vs,rfl,l2.int,.inl hH,by omega,by omega,?_,wp x2.fh (hp.rep _) λv F' H' fp x o nd hf=>w v F' H' fp (x2.trans x) o nd λz hz=>x2.hh.free (hf z hz)⟩;rw[←hp.length,dD];have h1:j.toNat<=1000000:=by omega
    have h2:xs.length*j.toNat<=16*1000000:=B8 hz.2.2 h1;omega
   ·rw[if_neg hz]at h3;cases h3
  |_=>cases h3
 |_=>cases h3
end
section
variable {a b c d e f g h i j k l m n o p q r s t x:Option D}{z:Env}
@[simp 2000] theorem ev0:eV 0 (a::z)=a:=rfl
@[simp 2000] theorem es0:fL (a::z) 0 x=x::z:=rfl
@[simp 2000] theorem ev1:eV 1 (a::b::z)=b:=rfl
@[simp 2000] theorem es1:fL (a::b::z) 1 x=a::x::z:=rfl
@[simp 2000] theorem ev2:eV 2 (a::b::c::z)=c:=rfl
@[simp 2000] theorem Sa:fL (a::b::c::z) 2 x=a::b::x::z:=rfl
@[simp 2000] theorem ev3:eV 3 (a::b::c::d::z)=d:=rfl
@[simp 2000] theorem Sb:fL (a::b::c::d::z) 3 x=a::b::c::x::z:=rfl
@[simp 2000] theorem ev4:eV 4 (a::b::c::d::e::z)=e:=rfl
@[simp 2000] theorem Se:fL (a::b::c::d::e::z) 4 x=a::b::c::d::x::z:=rfl
@[simp 2000] theorem ev5:eV 5 (a::b::c::d::e::f::z)=f:=rfl
@[simp 2000] theorem vB:fL (a::b::c::d::e::f::z) 5 x=a::b::c::d::e::x::z:=rfl
@[simp 2000] theorem ev6:eV 6 (a::b::c::d::e::f::g::z)=g:=rfl
@[simp 2000] theorem wZ:fL (a::b::c::d::e::f::g::z) 6 x=a::b::c::d::e::f::x::z:=rfl
@[simp 2000] theorem ev7:eV 7 (a::b::c::d::e::f::g::h::z)=h:=rfl
@[simp 2000] theorem xA:fL (a::b::c::d::e::f::g::h::z) 7 x=a::b::c::d::e::f::g::x::z:=rfl
@[simp 2000] theorem ev8:eV 8 (a::b::c::d::e::f::g::h::i::z)=i:=rfl
@[simp 2000] theorem xB:fL (a::b::c::d::e::f::g::h::i::z) 8 x=a::b::c::d::e::f::g::h::x::z:=rfl
@[simp 2000] theorem ev9:eV 9 (a::b::c::d::e::f::g::h::i::j::z)=j:=rfl
@[simp 2000] theorem es9:fL (a::b::c::d::e::f::g::h::i::j::z) 9 x=a::b::c::d::e::f::g::h::i::x::z:=rfl
@[simp 2000] theorem Sg:eV 10 (a::b::c::d::e::f::g::h::i::j::k::z)=k:=rfl
@[simp 2000] theorem RX:fL (a::b::c::d::e::f::g::h::i::j::k::z) 10 x=a::b::c::d::e::f::g::h::i::j::x::z:=rfl
@[simp 2000] theorem Sh:eV 11 (a::b::c::d::e::f::g::h::i::j::k::l::z)=l:=rfl
@[simp 2000] theorem RY:fL (a::b::c::d::e::f::g::h::i::j::k::l::z) 11 x=a::b::c::d::e::f::g::h::i::j::k::x::z:=rfl
@[simp 2000] theorem Si:eV 12 (a::b::c::d::e::f::g::h::i::j::k::l::m::z)=m:=rfl
@[simp 2000] theorem RZ:fL (a::b::c::d::e::f::g::h::i::j::k::l::m::z) 12 x=a::b::c::d::e::f::g::h::i::j::k::l::x::z:=rfl
@[simp 2000] theorem Sj:eV 13 (a::b::c::d::e::f::g::h::i::j::k::l::m::n::z)=n:=rfl
@[simp 2000] theorem R0:fL (a::b::c::d::e::f::g::h::i::j::k::l::m::n::z) 13 x=a::b::c::d::e::f::g::h::i::j::k::l::m::x::z:=rfl
@[simp 2000] theorem Sk:eV 14 (a::b::c::d::e::f::g::h::i::j::k::l::m::n::o::z)=o:=rfl
@[simp 2000] theorem R4:fL (a::b::c::d::e::f::g::h::i::j::k::l::m::n::o::z) 14 x=a::b::c::d::e::f::g::h::i::j::k::l::m::n::x::z:=rfl
@[simp 2000] theorem Sl:eV 15 (a::b::c::d::e::f::g::h::i::j::k::l::m::n::o::p::z)=p:=rfl
@[simp 2000] theorem R5:fL (a::b::c::d::e::f::g::h::i::j::k::l::m::n::o::p::z) 15 x=a::b::c::d::e::f::g::h::i::j::k::l::m::n::o::x::z:=rfl
@[simp 2000] theorem Sm:eV 16 (a::b::c::d::e::f::g::h::i::j::k::l::m::n::o::p::q::z)=q:=rfl
@[simp 2000] theorem R6:fL (a::b::c::d::e::f::g::h::i::j::k::l::m::n::o::p::q::z) 16 x=a::b::c::d::e::f::g::h::i::j::k::l::m::n::o::p::x::z:=rfl
@[simp 2000] theorem Sn:eV 17 (a::b::c::d::e::f::g::h::i::j::k::l::m::n::o::p::q::r::z)=r:=rfl
@[simp 2000] theorem R7:fL (a::b::c::d::e::f::g::h::i::j::k::l::m::n::o::p::q::r::z) 17 x=a::b::c::d::e::f::g::h::i::j::k::l::m::n::o::p::q::x::z:=rfl
@[simp 2000] theorem So:eV 18 (a::b::c::d::e::f::g::h::i::j::k::l::m::n::o::p::q::r::s::z)=s:=rfl
@[simp 2000] theorem R8:fL (a::b::c::d::e::f::g::h::i::j::k::l::m::n::o::p::q::r::s::z) 18 x=a::b::c::d::e::f::g::h::i::j::k::l::m::n::o::p::q::r::x::z:=rfl
@[simp 2000] theorem Sq:eV 19 (a::b::c::d::e::f::g::h::i::j::k::l::m::n::o::p::q::r::s::t::z)=t:=rfl
@[simp 2000] theorem R9:fL (a::b::c::d::e::f::g::h::i::j::k::l::m::n::o::p::q::r::s::t::z) 19 x=a::b::c::d::e::f::g::h::i::j::k::l::m::n::o::p::q::r::s::x::z:=rfl
end
def NN:mI->Option D
 |.ok d=>some d
 |.xc _=>none
def An (m:List D->Option mI)(ds:List D):Option D:=(m ds).bind NN
section
variable {w:dw}{f:ce}{fd:cH}{m:List D->Option mI}
theorem P3 {vs:List V}{Q:VK}{E:XK}(h:kd K ct pm rk (An m) vs H Q E):sZ K ct pm rk m vs H Q λ_ _ _=>False:=by
 obtain⟨F,ds,d,s,l,e,z⟩:=h;obtain⟨r,e1,e2⟩:=cQ e;cases r with
 |ok d'=>cases e2;exact⟨F,ds,.ok d,s,l,e1,z⟩
 |xc _=>cases e2
theorem Z0 (F:dM P w K mg base (uY P w) k f fd ps (sZ K ct pm rk m)):dM P w K mg base gC k f fd ps (kd K ct pm rk (An m)) :=
 ⟨λvs H Q _ h=>F.len vs H Q _ (P3 h),λA outer s H args us vs Q _ hr e0 hb hv h=>gR (F.run A outer s H args us vs Q _ hr e0 hb hv (P3 h)) λr s' q=>by
  cases r with
  |error e=>obtain⟨_,_,_,_,_,_,_,_,_,_,_,z⟩:=q;exact z.elim
  |ok fl=>cases fl<;>exact q⟩
end
variable {xs:List Nat}
section
open PySem PySem.Spec PySem.W L2
open PyProof.Rows hiding St
section
variable {K:Frag}{h:cB}{q m:Str}{f N:ce}{Do pm ct:bV}{dd:Option ce}{fd:cH}{ds:List bV}{vs:List V}{o:f9}{p:Nat}
theorem m_na (h:findIn K (.ref C) x=some none):iX K C x:=h
theorem m_bd (m j:Nat)(hm:m+vs.length=ps.length)(hd:fd.defaults=.ref T)(ho:K.lookup T=some o)(hs:o.data=.seq items n)(hv:dA vs (items.toList.drop j))(h:∀us:List bV,us.length=m->∃k,bindArgs fd ⟨us,[]⟩=seqItems? fd.defaults >>= k/\k (some items)=pure (ps.zip (us++items.toList.drop j))) :
  ∃rX,True/\dA vs rX/\fF K fd ps rX:=⟨_,trivial,hv,Qc m ho h hd hs (by rw[←hv.length];exact hm)⟩
theorem m_xo {nm:Str}{bs bm sub:List bV}{mP ab:Bool}{sn:List Str}{col:Option Bool}{k0 k1 k2 k3 k5:Option bV}(l:K.lookup C=some (excClassObj nm q C N bs bm mP sn sub ab col dd k0 k1 k2 k3 k5 "ValueError.__new__"))(v:jV bm) :
  ∃(nm q:Str) (N:ce) (bs bm:List bV) (mP:Bool) (sn:List Str) (sub:List bV) (ab:Bool) (col:Option Bool) (dd:Option ce) (k0 k1 k2 k3 k5:Option bV),K.lookup C=some (excClassObj nm q C N bs bm mP sn sub ab col dd k0 k1 k2 k3 k5 "ValueError.__new__")/\jV bm :=
 ⟨_,_,_,_,_,_,_,_,_,_,_,_,_,_,_,_,l,v⟩
end
theorem m_al0 {P:Nat->Prop}:∀c∈([]:List Nat),P c:=λ_ h=>nomatch h
theorem m_al1 {P:Nat->Prop}{x:Nat}(h:P x)(t:∀c∈xs,P c):∀c∈x::xs,P c:=λc hc=>by
 rcases cn.mp hc with rfl|hc
 ·exact h
 ·exact t c hc
end
section
open PySem PySem.Spec PySem.W L2
open PyProof.Rows hiding St
section
variable {K:Frag}{h:cB}{q m:Str}{f N:ce}{Do pm ct:bV}{dd:Option ce}{fd:cH}{ds:List bV}{vs:List V}{o:f9}{p:Nat}
theorem zC (X:K.In h:=by assumption)(G:h.Ns fq mg:=by assumption)(a:nsIn K fq x=some (some (.ref C)):=by k_is)(b:makesIn K C=true:=by k_is)(k:keepIn K (.ref C)=true:=by k_is)(c:qG K C:=by exact⟨by k_is,by k_is,by k_is,by k_is⟩):Dc K mg x C:=⟨c,mg_of X G a,b,k⟩
theorem zX {v:bV}(X:K.In h:=by assumption)(G:h.Ns fq mg:=by assumption)(e:nsIn K fq x=some (some v):=by k_is):mg x=some v:=mg_of X G e
theorem zB (X:K.In h:=by assumption)(G:h.Ns fq mg:=by assumption)(e:nsIn K fq x=some none:=by k_is):mg x=none:=mg_none_of X G e
theorem zG {i:Int}{t:Tok}(e:mg x=some (.int i t):=by exact L3.zX):∃t,mg x=some (.int i t):=⟨t,e⟩
theorem zD (X:mg x=some (.ref f):=by exact L3.zX)(l:K.lookup f=some ⟨oc,od,.func (fnOf x x (la st) (fU st) (dc st) dV Do doc pm an gN ct),xH⟩:=by k_is)
  (c:codeIn K gN x=true:=by k_is) (k:keepIn K (.ref f)=true:=by k_is) (b:fF K (fnOf x x (la st) (fU st) (dc st) dV Do doc pm an gN ct) ps []:=by first|exact .all (L3.lA1 λ_=>rfl)|exact .all (L3.lA2 λ_ _=>rfl)|exact .all (L3.lA3 λ_ _ _=>rfl)|exact .all (L3.lA4 λ_ _ _ _=>rfl)|exact .all (L3.lA5 λ_ _ _ _ _=>rfl)|exact .all (L3.lA6 λ_ _ _ _ _ _=>rfl)):nr K mg x st ps f (fnOf x x (la st) (fU st) (dc st) dV Do doc pm an gN ct):=⟨Qb l c k,X,b⟩
theorem zM (a:findIn K (.ref C) m=some (some (.ref f)):=by k_is)(i:isFn K (.ref f)=true:=by k_is)(l:K.lookup f=some ⟨oc,od,.func (fnOf m q (la st) (fU st) (dc st) dV Do doc pm an gN ct),xH⟩:=by k_is)
  (c:codeIn K gN q=true:=by k_is) (k:keepIn K (.ref f)=true:=by k_is) (b:fF K (fnOf m q (la st) (fU st) (dc st) dV Do doc pm an gN ct) ps []:=by first|exact .all (L3.lA1 λ_=>rfl)|exact .all (L3.lA2 λ_ _=>rfl)|exact .all (L3.lA3 λ_ _ _=>rfl)|exact .all (L3.lA4 λ_ _ _ _=>rfl)|exact .all (L3.lA5 λ_ _ _ _ _=>rfl)|exact .all (L3.lA6 λ_ _ _ _ _ _=>rfl)):Dm K C m q st ps f (fnOf m q (la st) (fU st) (dc st) dV Do doc pm an gN ct):=⟨Qb l c k,⟨a,i,k⟩,b⟩
theorem zE (m:Nat)(h:∀us:List bV,us.length=m->∃k,bindArgs fd ⟨us,[]⟩=seqItems? fd.defaults >>= k/\k (some items)=pure (ps.zip (us++ds)))(hm:m+ds.length=ps.length:=by rfl)(hd:fd.defaults=.ref T:=by rfl)(ho:K.lookup T=some o:=by k_is)(hs:o.data=.seq items n:=by rfl):fF K fd ps ds:=Qc m ho h hd hs hm
end
theorem zF {P:Nat->Prop}{x:Nat}(t:∀c∈xs,P c)(h:P x:=by exact⟨⟨by k_is,by k_is,by k_is,by k_is⟩,L3.m_na (by k_is)⟩):∀c∈x::xs,P c:=m_al1 h t
theorem zI {P:Nat->Prop}{x:Nat}(t:∀c∈xs,P c)(h:P x:=by exact⟨⟨⟨by k_is,by k_is,by k_is,by k_is⟩,by k_is,by k_is,by k_is,by k_is⟩,by kit_is⟩):∀c∈x::xs,P c:=m_al1 h t
theorem zH {P:Nat->Prop}{x:Nat}(t:∀c∈xs,P c)(h:P x:=by apply L3.exm_of<;>k_is):∀c∈x::xs,P c:=m_al1 h t
end
section
variable {fd:cH}
theorem xv {o:Mo}(hm:ms[i]?=some o:=by rfl)(hl:o.lv=n:=by rfl)(hN:X.N[i]?=some x:=by rfl)(hv:vU X.env.scope x:=by walk_at "v1")(hd:lx x:=by decide)
  (lT:yE x:=by decide):XE X ct ms n (.Name x pos) (eV i):=zn i n hm hl hN hv hd lT
theorem tZ (hr:fw kq X.A)(ha:XE X ct ms n a f)(hb:XE X ct ms m b g):XT X ct ms (.Compare a [.Eq] [b] pos) (tb (e2 (iz false) f g)):=w6 (k:=0) (QO hr.u64) EH ha hb (kb _)
theorem Li (hr:fw kq X.A)(ha:XE X ct ms n a f)(hb:XE X ct ms m b g):XT X ct ms (.Compare a [.NotEq] [b] pos) (tb (e2 (iz true) f g)):=w6 (k:=0) (IW hr.u64) EH ha hb (kb _)
theorem vEq (hr:fw kq X.A)(ha:XE X ct ms n a f)(hb:XE X ct ms m b g):XE X ct ms 0 (.Compare a [.Eq] [b] pos) (e2 (iz false) f g):=G0 (k:=0) (QO hr.u64) EH ha hb (kb _)
theorem UG (hr:fw kq X.A)(ha:XE X ct ms n a f)(hb:XE X ct ms m b g):XE X ct ms 0 (.Compare a [.NotEq] [b] pos) (e2 (iz true) f g):=G0 (k:=0) (IW hr.u64) EH ha hb (kb _)
theorem CJ (ha:XE X ct ms n a f)(hb:XE X ct ms m b g):XT X ct ms (.Compare a [.Lt] [b] pos) (tb (e2 yM f g)):=w6 (k:=0) Ry QT ha hb (kb _)
theorem Ex (ha:XE X ct ms n a f)(hb:XE X ct ms m b g):XT X ct ms (.Compare a [.Gt] [b] pos) (tb (e2 Ap f g)):=w6 (k:=0) MK Mq ha hb (kb _)
theorem NW (ha:XE X ct ms n a f)(hb:XE X ct ms m b g):XT X ct ms (.Compare a [.GtE] [b] pos) (tb (e2 D8 f g)):=w6 (k:=0) Rz QU ha hb (kb _)
theorem Ey (ha:XE X ct ms n a f)(hb:XE X ct ms m b g):XE X ct ms 0 (.Compare a [.LtE] [b] pos) (e2 Bl f g):=G0 (k:=0) zub Y5 ha hb (kb _)
theorem UF (ha:XE X ct ms n a f)(hb:XE X ct ms m b g):XE X ct ms 0 (.Compare a [.Gt] [b] pos) (e2 Ap f g):=G0 (k:=0) MK Mq ha hb (kb _)
theorem UE (ha:XE X ct ms n a f)(hb:XE X ct ms m b g):XE X ct ms 0 (.Compare a [.GtE] [b] pos) (e2 D8 f g):=G0 (k:=0) Rz QU ha hb (kb _)
theorem Dr (ha:XE X ct ms n a f)(hb:XE X ct ms m b g):XE X ct ms 0 (.BinOp a .Sub b pos) (e2 uM f g):=Bp (k:=0) ztb Y1 ha hb
theorem oDiv (ha:XE X ct ms n a f)(hb:XE X ct ms m b g):XE X ct ms 0 (.BinOp a .FloorDiv b pos) (e2 fZ f g):=Bp (k:=0) Xz Yk ha hb
theorem oMod (ha:XE X ct ms n a f)(hb:XE X ct ms m b g):XE X ct ms 0 (.BinOp a .Mod b pos) (e2 fM f g):=Bp (k:=0) YV Y3 ha hb
theorem tH (ha:XE X ct ms n a f)(hb:XE X ct ms m b g):XE X ct ms 0 (.BinOp a .Mult b pos) (e2 jJ f g):=Bp (k:=0) Zo Yn ha hb
theorem dX (h:XO X ct ms k e f):XE X ct ms 0 e f:=XO.sh h
theorem xc (d:nr X.K X.mg x st ps fa fd)(Fn:dM X.prog X.w X.K X.mg X.base gC kk fa fd ps (kd X.K ct ns rk mf))(hr:fw kq X.A)(ha:XA X ct ms (e::es) ns fs)(tD:kk<=kq:=by decide)(hg:Gl X x:=by rfl)
  (kM:lx x:=by decide) (he:SE X e es:=by rfl) (gW:oa X pos es:=by rfl) :
  XE X ct ms 0 (.Call (.Name x pp) (e::es) [] pos) (λρ=>(fs ρ).bind λds=>mf (ds++[])):=dX (kP d Fn hr ha tD hg kM he gW)
theorem rh (he:XE X ct ms 0 e f)(hc:∀c∈cs,qG X.K (ct c)/\iX X.K (ct c) x)(hb:Ag X e x:=by rfl):XE X ct ms 0 (.Attribute e x pos) (e1 (gm cs x) f):=zt7 (n:=0) he hc hb
theorem HG (ha:XE X ct ms 1 a f)(hb:XE X ct ms m b g)(hp:qS b:=by exactλ_ _=>rfl):XE X ct ms 0 (.Subscript a b pos) (e2 eJ f g):=Rw (n:=1) QM Q5 ha hb hp
theorem GL {i:Int}(hm:∃t,X.mg x=some (.int i t))(hg:Gl X x:=by rfl)(hd:lx x:=by decide):XE X ct ms 0 (.Name x pos) (eC (.int i)):=hm.elim λ_ h=>P8 hg h rfl ⟨_,rfl⟩ hd
theorem xF (hi:XI X ct ms n tg iter fi)(hg:XG X ct ms n tg gg)(hb:tm X ct ms rk rest u)(hp:gj (cC X.prog X.w) X.A X.env X.xe:=by exact gj.never)(hc:X.calm=true:=by rfl)
  (hs:Aj X iter:=by intro _;rfl):XS X ct ms rk (.For tg iter rest [] pos) (sFor fi gg u):=zt9 hi hg hb hp hc hs
theorem N9 (hc:XT X ct ms c p)(hb:tm X ct ms rk rest u)(hp:gj (cC X.prog X.w) X.A X.env X.xe:=by exact gj.never):XS X ct ms rk (.While c rest [] pos) (pQ p u):=Yj hc hb hp
theorem nG (he:XE X ct ms 0 e f):XS X ct ms 0 (.Return (some e) pos) (sRet f):=yh (XE.ow he)
theorem oO (hN:X.N.Nodup)(he:XE X ct ms 0 e f)(hm:ms[i]?=some (.ow 0):=by rfl)(hi:X.N[i]?=some x:=by rfl)(hx:Loc X.env.scope x:=by walk_at "v3")
  (hs:G8 X e x pos' pos:=by rfl)
  (hf:uZ X x:=by walk_at "v2"):XS X ct ms rk (.Assign [.Name x pos'] e pos) (sSet i f):=kX hN (XE.ow he) hm hi hx hs hf
theorem qV (ht:XT X ct ms c p)(h:XS X ct ms rk st u):XS X ct ms rk (.If c [st] [] pos) (sIf p u sSkip):=EO ht (zm h) xi
theorem GJ (hi:XIc X ct ms n tg iter fi)
  (hg:∀cl C fp s₀ H₀,N.Nodup->Bf (nv X scope cl N C fp s₀ H₀) ct (om++ko ms cap) own n tg gg) (ht:∀cl C fp s₀ H₀,Cg (nv X scope cl N C fp s₀ H₀) ct (om++ko ms cap) ifs p) (he:∀cl C fp s₀ H₀,XO (nv X scope cl N C fp s₀ H₀) ct (om++ko ms cap) k oV f)
  (nd:N.Nodup:=by decide +kernel) (B:oy X scope N own cap:=by exact IZ (by rfl)) (hc:X.calm=true:=by rfl) (ho:om.length=own:=by rfl) (rj:∀i∈cap,i<ms.length:=by decide)
  (hs:Aj X iter:=by intro _;rfl):XO X ct ms (k+1) (.ListComp oV [⟨tg,iter,ifs,0⟩] scope pos) (iR fi own cap gg p f):=P5 B hc ho rj hi (λcl C fp s₀ H₀=>hg cl C fp s₀ H₀ nd) ht he hs
theorem DM {uL:m9}(hN:X.N.Nodup)(hi:XIc X ct ms n tg iter fi)
  (hg:∀cl C fp s₀ H₀,N.Nodup->Bf (nv X scope cl N C fp s₀ H₀) ct (om++ko ms cap) own n tg gg) (ht:∀cl C fp s₀ H₀,Cg (nv X scope cl N C fp s₀ H₀) ct (om++ko ms cap) ifs p) (he:∀cl C fp s₀ H₀,XO (nv X scope cl N C fp s₀ H₀) ct (om++ko ms cap) (k-1) oV f)
  (nd:N.Nodup:=by decide +kernel) (hm:ms[i]?=some (.ow k):=by rfl) (Fw:X.N[i]?=some x:=by rfl) (hx:Loc X.env.scope x:=by walk_at "v3")
  (B:oy X scope N own cap:=by exact IZ (by rfl)) (hc:X.calm=true:=by rfl) (ho:om.length=own:=by rfl) (rj:∀i∈cap,i<ms.length:=by decide)
  (AH:gQ (.ListComp oV [⟨tg,iter,ifs,0⟩] scope pos) (some (.Name x pos')) uL.line X.env=pure true:=by rfl)
  (hs:Aj X iter:=by intro _;rfl) (hf:uZ X x:=by walk_at "v2") :
  XS X ct ms rk (.Assign [.Name x pos'] (.ListComp oV [⟨tg,iter,ifs,0⟩] scope pos) uL) (sSet i (iR fi own cap gg p f)):=On hm hN Fw hx B hc ho rj hi (λcl C fp s₀ H₀=>hg cl C fp s₀ H₀ nd) ht he AH hs hf
theorem GM {q:Str}(M:Dc X.K X.mg x (ct c0))(d:Dm X.K (ct c0) "__init__" q st ps fa fd)(Fn:dM X.prog X.w X.K X.mg X.base gC kk fa fd ps (zQ X.K ct cs ns mi))(hr:fw kq X.A)(ha:XA X ct ms (e::es) ns fs)(vY:c0∈cs:=by decide)(tD:kk+1<=kq:=by decide)(hg:Gl X x:=by rfl)
  (kM:lx x:=by decide) (he:SE X e es:=by rfl) (gW:oa X pos es:=by rfl) :
  XO X ct ms 1 (.Call (.Name x pp) (e::es) [] pos) (λρ=>(fs ρ).bind λds=>mi c0 (ds++[])) :=
 ZN (ns:=ns) (nd:=[]) (mq:=[]) ⟨M.mks,d.me.at_,d.me.fn,M.kp⟩ vY (by rw[cS];exact Fn) (hr.mono tD) hg M.mgx d.bd .nil (λ_ _=>.nil) ha kM he gW
end
section
variable {w:dw}{fd:cH}
theorem lf (Fn:Fun2 K x qual st fa fd)(body:∀(gN:bV) (A:c7) (outer:List PySem.Env) (s:cq) (H:Hp) (E:XK),fw kk (A.deeper (envOfC qual (dc st) s.heap.objs.size fa gN))->N.Nodup->tm (nJ gC P w K mg base N qual (dc st) fa gN A outer s H E).nox ct ms rk (fU st) bf)
  (S:fI N ps (dc st):=by exact⟨rfl,rfl,rfl,by decide +kernel,rfl,by decide +kernel,by decide +kernel⟩)
  (AF:pm.length=ps.length:=by rfl) (BJ:ms.length=N.length:=by rfl) (tD:ps.length<=N.length:=by decide) (AD:∀(i n:Nat),pm[i]?=some n->ms[i]?=some (Mo.al n)\/(n=0/\ms[i]?=some (Mo.ow 0)):=by exact wq (by decide)) :
  dM P w K mg base gC (kk+1) fa fd ps (kd K ct pm rk (mOf N bf)):=lift Fn S AF BJ tD AD λa b c d e f g=>body a b c d e f g S.nd
theorem HS (Fn:Fun2 K x qual st fa fd)(body:∀(x:ce) (gN:bV) (A:c7) (outer:List PySem.Env) (s:cq) (H:Hp) (E:XK),fw kk (A.deeper (envOfC qual (dc st) s.heap.objs.size fa gN))->(N0::N).Nodup->tm (nJ gC P w K mg base (N0::N) qual (dc st) fa gN A outer s H E).nox ct (.so x::ms) rk (fU st) bf)
  (S:fI (N0::N) ps (dc st):=by exact⟨rfl,rfl,rfl,by decide +kernel,rfl,by decide +kernel,by decide +kernel⟩)
  (AF:pm.length+1=ps.length:=by rfl) (BJ:ms.length=N.length:=by rfl) (tD:pm.length<=N.length:=by decide) (AD:∀(i n:Nat),pm[i]?=some n->ms[i]?=some (Mo.al n)\/(n=0/\ms[i]?=some (Mo.ow 0)):=by exact wq (by decide)) :
  dM P w K mg base gC (kk+1) fa fd ps (zQ K ct cs pm (En (N0::N) bf)):=Xi Fn S AF BJ tD AD λx a b c d e f g=>body x a b c d e f g S.nd
end
end L3
namespace My
open PySem L2 L3
abbrev cl (m:List D->Option D)(fs:L3.Env->Option (List D)):EF:=λρ=>(fs ρ).bind λds=>m (ds++[])
abbrev sI (i:Int):Option D:=some (.int i)
abbrev sL (xs:List D):Option D:=some (.lst xs)
abbrev mO (l:List Nat):List Mo:=l.map .ow
def top (i:Nat):ek:=PySem.Challenge.pw_ringbeat_k83_texts_refused.main.body.getD i (.Pass ⟨0,0,0,0⟩)
abbrev Va:ek:=inClass (top 2) 0
abbrev Vt:ek:=inClass (top 3) 0
abbrev Vf:ek:=inClass (top 4) 0
abbrev Vg:ek:=inClass (top 5) 0
abbrev VX:ek:=inClass (top 3) 1
abbrev VY:ek:=inClass (top 4) 1
abbrev VZ:ek:=inClass (top 5) 1
abbrev uu:ek:=inClass (top 2) 1
abbrev vo:ek:=inClass (top 2) 2
abbrev Wx:ek:=inClass (top 3) 3
abbrev Wy:ek:=inClass (top 4) 3
abbrev Wz:ek:=inClass (top 5) 3
abbrev V0:ek:=top 22
abbrev V1:ek:=top 23
abbrev Xe:ek:=top 24
abbrev V2:ek:=top 25
abbrev Vh:ek:=top 26
abbrev WA:ek:=top 27
abbrev U4:ek:=top 28
abbrev j6:ek:=top 29
abbrev VC:ek:=top 30
abbrev vq:ek:=inClass (top 8) 0
abbrev ug:ek:=inClass (top 9) 0
abbrev uh:ek:=inClass (top 14) 0
abbrev w9:ek:=inClass (top 15) 0
abbrev jx:ek:=inClass (top 31) 0
abbrev V3:ek:=top 34
abbrev Vi:ek:=top 35
abbrev j7:ek:=top 36
abbrev Vb:ek:=top 37
abbrev vc:ek:=top 38
abbrev Vc:ek:=top 39
abbrev j8:ek:=top 40
abbrev U5:ek:=top 41
abbrev Z1:ek:=top 42
abbrev Rf:ek:=top 43
abbrev Vj:ek:=top 45
abbrev V4:ek:=top 46
abbrev VJ:ek:=top 47
abbrev VL:ek:=top 48
abbrev Xf:ek:=top 49
abbrev WB:ek:=top 50
abbrev Of:ek:=top 51
abbrev WC:ek:=top 52
abbrev U6:ek:=top 53
abbrev Vk:ek:=top 54
abbrev Vl:ek:=top 55
abbrev Vm:ek:=top 56
abbrev U7:ek:=top 57
abbrev VD:ek:=top 58
abbrev zv2:ek:=top 59
theorem j9:fI ["self","at"] ["self","at"] (dc vq):=⟨rfl,rfl,rfl,by decide +kernel,rfl,by decide +kernel,by decide +kernel⟩
theorem U8:fI ["self","ring"] ["self","ring"] (dc ug):=⟨rfl,rfl,rfl,by decide +kernel,rfl,by decide +kernel,by decide +kernel⟩
theorem UY:fI ["self","at"] ["self","at"] (dc uh):=⟨rfl,rfl,rfl,by decide +kernel,rfl,by decide +kernel,by decide +kernel⟩
theorem jk:fI ["self","name"] ["self","name"] (dc w9):=⟨rfl,rfl,rfl,by decide +kernel,rfl,by decide +kernel,by decide +kernel⟩
theorem xl:fI ["self","names","arrows","number","arrow","placed"] ["self","names","arrows"] (dc jx):=⟨rfl,rfl,rfl,by decide +kernel,rfl,by decide +kernel,by decide +kernel⟩
theorem we:fI ["told","names","name"] ["told","names"] (dc vc):=⟨rfl,rfl,rfl,by decide +kernel,rfl,by decide +kernel,by decide +kernel⟩
theorem GO:fI ["text","rows","names","arrows","number"] ["text"] (dc Rf):=⟨rfl,rfl,rfl,by decide +kernel,rfl,by decide +kernel,by decide +kernel⟩
theorem uv:fI ["_law_e","_law_some"] ["_law_e"] (dc Of):=⟨rfl,rfl,rfl,by decide +kernel,rfl,by decide +kernel,by decide +kernel⟩
set_option genInjectivity false
set_option genSizeOf false
structure Adr where
 b:ce
 c:ce
 d:ce
 e:ce
 f:ce
 g:ce
 h:ce
 i:ce
 j:ce
 k:ce
 l:ce
 m:ce
 n:ce
 o:ce
 p:ce
 q:cH
 r:ce
 s:cH
 t:ce
 u:cH
 v:ce
 x:cH
 y:ce
 z:cH
 aa:ce
 ab:cH
 ac:ce
 ad:cH
 ae:ce
 af:cH
 ag:ce
 ah:cH
 ai:ce
 aj:cH
 ak:ce
 al:cH
 am:ce
 an:cH
 ao:ce
 ap:cH
 aq:ce
 ar:cH
 au:ce
 av:cH
 aw:ce
 ax:cH
 ay:ce
 az:cH
 aA:ce
 aB:cH
 aC:ce
 aD:cH
 aE:ce
 aF:cH
 aG:ce
 aH:cH
 aI:ce
 aJ:cH
 aK:ce
 aL:cH
 aM:ce
 aN:cH
 aO:ce
 aP:cH
 aQ:ce
 aR:cH
 aS:ce
 aT:cH
 aU:ce
 aV:cH
 aW:ce
 aX:cH
 aY:ce
 aZ:cH
 a0:ce
 a1:cH
 a2:ce
 a3:cH
 a4:ce
 a5:cH
 a6:ce
 a7:cH
 a8:ce
 a9:cH
 ba:ce
 bb:cH
 bc:ce
 bd:cH
 be:ce
 bf:cH
 bg:ce
 bh:cH
 bi:ce
 bj:cH
 bk:ce
 bl:cH
 bm:ce
 bn:cH
 bo:ce
 bp:cH
 bq:ce
 br:cH
 bs:ce
 bt:cH
 bu:ce
 bv:cH
 bw:ce
 bx:cH
 bz:ce
 bA:cH
 bB:ce
 bC:cH
 bD:ce
 bE:cH
 bF:ce
 bG:cH
set_option genSizeOf true
set_option genInjectivity true
noncomputable def Adr.ct (a:Adr):Nat->ce
 |0=>a.b
 |1=>a.c
 |2=>a.d
 |3=>a.e
 |4=>a.f
 |5=>a.g
 |6=>a.h
 |7=>a.i
 |8=>a.j
 |9=>a.k
 |10=>a.l
 |11=>a.m
 |12=>a.n
 |13=>a.o
 |_=>0
structure Txt (K:bZ)(mg:Str->Option bV)(a:Adr):Prop where
 b:Dc K mg "Arrow" a.b
 c:Dc K mg "Ride" a.c
 d:Dc K mg "Wait" a.d
 e:Dc K mg "Back" a.e
 f:Dc K mg "Net" a.f
 g:mg "BeatError"=some (.ref a.g)
 h:mg "BadNet"=some (.ref a.h)
 i:mg "Stuck"=some (.ref a.i)
 j:mg "Loose"=some (.ref a.j)
 k:mg "NoFit"=some (.ref a.k)
 l:mg "TooMany"=some (.ref a.l)
 m:mg "Unlike"=some (.ref a.m)
 n:mg "NoRow"=some (.ref a.n)
 o:mg "BadName"=some (.ref a.o)
 p:Dm K a.b "__init__" "Arrow.__init__" Va ["self","start","goal","time","behind"] a.p a.q
 q:Dm K a.c "__init__" "Ride.__init__" Vt ["self","start","goal","time"] a.r a.s
 r:Dm K a.d "__init__" "Wait.__init__" Vf ["self","start","goal","time","behind"] a.t a.u
 s:∃rX,True/\dA [(V.int 0)] rX/\fF K a.u ["self","start","goal","time","behind"] rX
 t:Dm K a.e "__init__" "Back.__init__" Vg ["self","start","goal","time","behind"] a.v a.x
 u:∃rX,True/\dA [(V.int 1)] rX/\fF K a.x ["self","start","goal","time","behind"] rX
 v:Dm K a.c "word" "Ride.word" VX ["self"] a.y a.z
 x:Dm K a.d "word" "Wait.word" VY ["self"] a.aa a.ab
 y:Dm K a.e "word" "Back.word" VZ ["self"] a.ac a.ad
 z:Dm K a.b "row_to_time" "Arrow.row_to_time" uu ["self","names"] a.ae a.af
 aa:Dm K a.b "row_to_behind" "Arrow.row_to_behind" vo ["self","names"] a.ag a.ah
 ab:Dm K a.c "row" "Ride.row" Wx ["self","names"] a.ai a.aj
 ac:Dm K a.d "row" "Wait.row" Wy ["self","names"] a.ak a.al
 ad:Dm K a.e "row" "Back.row" Wz ["self","names"] a.am a.an
 ae:nr K mg "is_letter" V0 ["sign"] a.ao a.ap
 af:nr K mg "is_figure" V1 ["sign"] a.aq a.ar
 ag:nr K mg "is_name" Xe ["word"] a.au a.av
 ah:nr K mg "are_names" V2 ["names"] a.aw a.ax
 ai:nr K mg "lies_within" Vh ["number","least","most"] a.ay a.az
 aj:nr K mg "is_right" WA ["arrow","many"] a.aA a.aB
 ak:nr K mg "placed_goings" U4 ["many","arrows"] a.aC a.aD
 al:nr K mg "ring_back_from" j6 ["arrows","chosen","going"] a.aE a.aF
 am:nr K mg "stuck_ring" VC ["many","arrows","placed"] a.aG a.aH
 an:Dm K a.h "__init__" "BadNet.__init__" vq ["self","at"] a.aI a.aJ
 ao:Dm K a.i "__init__" "Stuck.__init__" ug ["self","ring"] a.aK a.aL
 ap:Dm K a.n "__init__" "NoRow.__init__" uh ["self","at"] a.aM a.aN
 aq:Dm K a.o "__init__" "BadName.__init__" w9 ["self","name"] a.aO a.aP
 ar:Dm K a.f "__init__" "Net.__init__" jx ["self","names","arrows"] a.aQ a.aR
 au:nr K mg "is_number" V3 ["word"] a.aS a.aT
 av:nr K mg "are_numbers" Vi ["words"] a.aU a.aV
 aw:nr K mg "has_arrow_form" j7 ["words"] a.aW a.aX
 ax:nr K mg "names_in_row" Vb ["words"] a.aY a.aZ
 ay:nr K mg "refuse_unknown" vc ["told","names"] a.a0 a.a1
 az:nr K mg "arrow_of_row" Vc ["words","names"] a.a2 a.a3
 aA:nr K mg "arrows_of_line" j8 ["words","names"] a.a4 a.a5
 aB:nr K mg "arrows_of_row" U5 ["words","names"] a.a6 a.a7
 aC:nr K mg "shown" Z1 ["net"] a.a8 a.a9
 aD:nr K mg "read" Rf ["text"] a.ba a.bb
 aE:nr K mg "_law_cell_at" Vj ["_law_script","_law_k"] a.bc a.bd
 aF:nr K mg "_law_mixed" V4 ["_law_cell","_law_k"] a.be a.bf
 aG:nr K mg "_law_names" VJ ["_law_cell","_law_many"] a.bg a.bh
 aH:nr K mg "_law_arrow" VL ["_law_cell","_law_k","_law_many"] a.bi a.bj
 aI:nr K mg "_law_row" Xf ["_law_names_here","_law_arrow_here"] a.bk a.bl
 aJ:nr K mg "_law_rows" WB ["_law_names_here","_law_plain"] a.bm a.bn
 aK:nr K mg "_law_told" Of ["_law_e"] a.bo a.bp
 aL:nr K mg "_law_said" WC ["_law_text"] a.bq a.br
 aM:nr K mg "_law_no_number" U6 ["_law_cell"] a.bs a.bt
 aN:nr K mg "_law_no_name" Vk ["_law_cell","_law_names_here"] a.bu a.bv
 aO:nr K mg "_law_bad_row" Vl ["_law_cell","_law_names_here"] a.bw a.bx
 aP:nr K mg "_law_unnamed" Vm ["_law_cell","_law_names_here"] a.bz a.bA
 aQ:nr K mg "_law_wrong_net" U7 ["_law_cell","_law_rows_here","_law_names_here"] a.bB a.bC
 aR:nr K mg "_law_spoilt" VD ["_law_script","_law_rows_here","_law_names_here"] a.bD a.bE
 aS:nr K mg "law" zv2 ["_law_script"] a.bF a.bG
 aT:pI K a.c "row_to_behind" a.ag
 aU:pI K a.c "row_to_time" a.ae
 aV:pI K a.d "row_to_behind" a.ag
 aW:pI K a.d "row_to_time" a.ae
 aX:pI K a.e "row_to_behind" a.ag
 aY:pI K a.e "row_to_time" a.ae
 aZ:Dq K a.b "__init__" a.p
 a0:∀c∈([4]:List Nat),qG K (a.ct c)/\iX K (a.ct c) "arrows"
 a1:∀c∈([0,1,2,3]:List Nat),qG K (a.ct c)/\iX K (a.ct c) "behind"
 a2:∀c∈([0,1,2,3]:List Nat),qG K (a.ct c)/\iX K (a.ct c) "goal"
 a3:∀c∈([4]:List Nat),qG K (a.ct c)/\iX K (a.ct c) "names"
 a4:∀c∈([0,1,2,3]:List Nat),qG K (a.ct c)/\iX K (a.ct c) "start"
 a5:∀c∈([0,1,2,3]:List Nat),qG K (a.ct c)/\iX K (a.ct c) "time"
 a6:∀c∈([0,1,2,3,4]:List Nat),Ic K (a.ct c)/\cV K (.ref (a.ct c)) (.ref a.e)=some (eO [3] c)
 a7:∀c∈([0,1,2,3,4]:List Nat),Ic K (a.ct c)/\cV K (.ref (a.ct c)) (.ref a.c)=some (eO [1] c)
 a8:dn K (.ref a.h)=true
 a9:tV K a.h
 ba:dL K a.h=true/\cT K (.ref a.h) "__setattr__"=some (some (.builtin "object.__setattr__"))/\eL K a.h "at"=some none
 bb:dn K (.ref a.i)=true
 bc:tV K a.i
 bd:dL K a.i=true/\cT K (.ref a.i) "__setattr__"=some (some (.builtin "object.__setattr__"))/\eL K a.i "ring"=some none
 be:dn K (.ref a.o)=true
 bf:tV K a.o
 bg:dL K a.o=true/\cT K (.ref a.o) "__setattr__"=some (some (.builtin "object.__setattr__"))/\eL K a.o "name"=some none
 bh:dn K (.ref a.n)=true
 bi:tV K a.n
 bj:dL K a.n=true/\cT K (.ref a.n) "__setattr__"=some (some (.builtin "object.__setattr__"))/\eL K a.n "at"=some none
 bk:fC K (.ref a.g) "__getattribute__"=some (some (.builtin "type.__getattribute__"))/\kT K a.g (.type "type")=true/\kS K (.ref a.g) (.type "type") "__init__"=some (.val (.builtin "ValueError.__init__"))
 bl:∀c∈([6,12]:List Nat),XAt K (a.ct c) "at"
 bm:∀c∈([13]:List Nat),XAt K (a.ct c) "name"
 bn:(∀c∈([6,7,13,12]:List Nat),L2.XIc K (a.ct c)/\cV K (.ref (a.ct c)) (.ref a.n)=some (eO [12] c))/\cV K (.type "NoneType") (.ref a.n)=some false
 bo:(∀c∈([6,7,13,12]:List Nat),L2.XIc K (a.ct c)/\cV K (.ref (a.ct c)) (.ref a.o)=some (eO [13] c))/\cV K (.type "NoneType") (.ref a.o)=some false
 bp:(∀c∈([6,7,13,12]:List Nat),L2.XIc K (a.ct c)/\cV K (.ref (a.ct c)) (.ref a.h)=some (eO [6] c))/\cV K (.type "NoneType") (.ref a.h)=some false
 bq:(∀c∈([6,7,13,12]:List Nat),L2.XIc K (a.ct c)/\cV K (.ref (a.ct c)) (.ref a.i)=some (eO [7] c))/\cV K (.type "NoneType") (.ref a.i)=some false
 br:(∀c∈([6,7,13,12]:List Nat),L2.XIc K (a.ct c)/\cV K (.ref (a.ct c)) (.ref a.j)=some (eO [] c))/\cV K (.type "NoneType") (.ref a.j)=some false
 bs:(∀c∈([6,7,13,12]:List Nat),L2.XIc K (a.ct c)/\cV K (.ref (a.ct c)) (.ref a.k)=some (eO [] c))/\cV K (.type "NoneType") (.ref a.k)=some false
 bt:(∀c∈([6,7,13,12]:List Nat),L2.XIc K (a.ct c)/\cV K (.ref (a.ct c)) (.ref a.l)=some (eO [] c))/\cV K (.type "NoneType") (.ref a.l)=some false
 bu:(∀c∈([6,7,13,12]:List Nat),L2.XIc K (a.ct c)/\cV K (.ref (a.ct c)) (.ref a.m)=some (eO [] c))/\cV K (.type "NoneType") (.ref a.m)=some false
 bv:(∀c∈([6,7,13,12]:List Nat),L2.XIc K (a.ct c)/\cV K (.ref (a.ct c)) (.type "ValueError")=some true)/\cV K (.type "NoneType") (.type "ValueError")=some false
 bw:∀c∈([6,7,13,12]:List Nat),fO K (.ref (a.ct c)) (.ref a.n)=some (eO [12] c)
 bx:∀c∈([6,7,13,12]:List Nat),fO K (.ref (a.ct c)) (.ref a.o)=some (eO [13] c)
 bz:∀c∈([6,7,13,12]:List Nat),fO K (.ref (a.ct c)) (.ref a.h)=some (eO [6] c)
 bA:∀c∈([6,7,13,12]:List Nat),fO K (.ref (a.ct c)) (.ref a.g)=some (eO [6,7,13,12] c)
 bB:mg "ValueError"=none
 bC:mg "all"=none
 bD:mg "bool"=none
 bE:mg "enumerate"=none
 bF:mg "int"=none
 bG:mg "isinstance"=none
 bH:mg "len"=none
 bI:mg "list"=none
 bJ:mg "max"=none
 bK:mg "min"=none
 bL:mg "range"=none
 bM:mg "reversed"=none
 bN:mg "str"=none
 bO:mg "zip"=none
 bP:∃t,mg "MOST_ARROWS"=some (.int 120 t)
 bQ:∃t,mg "MOST_BEHIND"=some (.int 4 t)
 bR:∃t,mg "MOST_FIGURES"=some (.int 15 t)
 bS:∃t,mg "MOST_NAMES"=some (.int 40 t)
 bT:∃t,mg "MOST_SIGNS"=some (.int 8 t)
 bU:∃t,mg "MOST_TIME"=some (.int 1000000000 t)
variable {K:bZ}{mg:Str->Option bV}
section
variable {P:dH}{w:dw}{base:cB}{a:Adr}{ct:Nat->ce}
noncomputable def ka:Nat->List D->Option D:=En ["self","start","goal","time","behind"]
  (sSeq (nO [0,1,2,3] "start" (eV 1))
  (sSeq (nO [0,1,2,3] "goal" (eV 2))
  (sSeq (nO [0,1,2,3] "time" (eV 3))
  (nO [0,1,2,3] "behind" (eV 4)))))
theorem xo (T:Txt K mg a):dM P w K mg base gC 1 a.p a.q ["self","start","goal","time","behind"] (zQ K a.ct [0,1,2,3] [0,0,0,0] ka) :=
 HS (ms:=mO [0,0,0,0]) (rk:=0) T.p.fn λ_ _ _ _ _ _ _ hr nd=>(ze (EK T.a4 xv) (ze (EK T.a2 xv) (ze (EK T.a5 xv) (zm (EK T.a1 xv)))))
noncomputable def kH:Nat->List D->Option D:=En ["self","start","goal","time"]
  (tN [0,1,2,3] (aCons (eV 1) (aCons (eV 2) (aCons (eV 3) (aCons (eC (.int 0)) aNil)))) ka)
theorem ui (T:Txt K mg a):dM P w K mg base gC 2 a.r a.s ["self","start","goal","time"] (zQ K a.ct [1] [0,0,0] kH) :=
 HS (ms:=mO [0,0,0]) (rk:=0) T.q.fn λ_ _ _ _ _ _ _ hr nd=>(zm (Md (ns:=[0,0,0,0]) (xo T) (hr.mono (by decide)) T.b.mgx T.aZ.sp T.aZ.rd T.aZ.fc T.p.fn.kp T.p.bd (by decide) (zc xv (zc xv (zc xv (zc dU zg))))))
noncomputable def mr:Nat->List D->Option D:=En ["self","start","goal","time","behind"]
  (tN [0,1,2,3] (aCons (eV 1) (aCons (eV 2) (aCons (eV 3) (aCons (eV 4) aNil)))) ka)
theorem Vd (T:Txt K mg a):dM P w K mg base gC 2 a.t a.u ["self","start","goal","time","behind"] (zQ K a.ct [2] [0,0,0,0] mr) :=
 HS (ms:=mO [0,0,0,0]) (rk:=0) T.r.fn λ_ _ _ _ _ _ _ hr nd=>(zm (Md (ns:=[0,0,0,0]) (xo T) (hr.mono (by decide)) T.b.mgx T.aZ.sp T.aZ.rd T.aZ.fc T.p.fn.kp T.p.bd (by decide) (zc xv (zc xv (zc xv (zc xv zg))))))
noncomputable def kG:Nat->List D->Option D:=En ["self","start","goal","time","behind"]
  (tN [0,1,2,3] (aCons (eV 1) (aCons (eV 2) (aCons (eV 3) (aCons (eV 4) aNil)))) ka)
theorem uj (T:Txt K mg a):dM P w K mg base gC 2 a.v a.x ["self","start","goal","time","behind"] (zQ K a.ct [3] [0,0,0,0] kG) :=
 HS (ms:=mO [0,0,0,0]) (rk:=0) T.t.fn λ_ _ _ _ _ _ _ hr nd=>(zm (Md (ns:=[0,0,0,0]) (xo T) (hr.mono (by decide)) T.b.mgx T.aZ.sp T.aZ.rd T.aZ.fc T.p.fn.kp T.p.bd (by decide) (zc xv (zc xv (zc xv (zc xv zg))))))
noncomputable def lY:List D->Option D:=mOf ["self"]
  (sRet (eC (.str "ride")))
theorem VE (T:Txt K mg a):dM P w K mg base gC 1 a.y a.z ["self"] (kd K a.ct [0] 0 lY) :=
 lf (ms:=mO [0]) T.v.fn λ_ _ _ _ _ _ hr nd=>(zm (nG (zf (n:=0))))
noncomputable def lZ:List D->Option D:=mOf ["self"]
  (sRet (eC (.str "wait")))
theorem VF (T:Txt K mg a):dM P w K mg base gC 1 a.aa a.ab ["self"] (kd K a.ct [0] 0 lZ) :=
 lf (ms:=mO [0]) T.x.fn λ_ _ _ _ _ _ hr nd=>(zm (nG (zf (n:=0))))
noncomputable def lX:List D->Option D:=mOf ["self"]
  (sRet (eC (.str "back")))
theorem VG (T:Txt K mg a):dM P w K mg base gC 1 a.ac a.ad ["self"] (kd K a.ct [0] 0 lX) :=
 lf (ms:=mO [0]) T.y.fn λ_ _ _ _ _ _ hr nd=>(zm (nG (zf (n:=0))))
noncomputable def dq:List D->Option D:=mOf ["self","names"]
  (sRet (e2 lG (eC (.str " ")) (λρ=>((aCons (λρ=>((λρ=>((eV 0) ρ).bind λo=>ik 1 "word" lY o []) ρ).or ((λρ=>((λρ=>((eV 0) ρ).bind λo=>ik 2 "word" lZ o []) ρ).or ((λρ=>((eV 0) ρ).bind λo=>ik 3 "word" lX o []) ρ)) ρ)) (aCons (e2 eJ (eV 1) (e1 (gm [0,1,2,3] "start") (eV 0))) (aCons (e2 eJ (eV 1) (e1 (gm [0,1,2,3] "goal") (eV 0))) (aCons (eN wK (aCons (e1 (gm [0,1,2,3] "time") (eV 0)) aNil)) aNil)))) ρ).bind λds=>some (.lst ds))))
theorem zq (T:Txt K mg a):dM P w K mg base gC 2 a.ae a.af ["self","names"] (kd K a.ct [0,0] 0 dq) :=
 lf (ms:=mO [0,0]) T.z.fn λ_ _ _ _ _ _ hr nd=>(zm (nG (ut (k:=0) (zf (n:=0)) (dX (zp (k:=0) (za (ub (LM (n:=0) (c0:=1) (nd:=[]) (mq:=[]) xv T.c.cl T.v.me (VE T) (hr.mono (by decide)) T.v.bd .nil (λ_ _=>.nil)) (ub (LM (n:=0) (c0:=2) (nd:=[]) (mq:=[]) xv T.d.cl T.x.me (VF T) (hr.mono (by decide)) T.x.bd .nil (λ_ _=>.nil)) (LM (n:=0) (c0:=3) (nd:=[]) (mq:=[]) xv T.e.cl T.y.me (VG T) (hr.mono (by decide)) T.y.bd .nil (λ_ _=>.nil)))) (za (XE.ow (jK xv (rh xv T.a4))) (za (XE.ow (jK xv (rh xv T.a2))) (za (XE.ow (z8 (k:=0) xq II rfl T.bN EG (zc (rh xv T.a5) zg))) zh)))))))))
noncomputable def dm:List D->Option D:=mOf ["self","names"]
  (sRet (e2 lG (eC (.str " ")) (λρ=>((aCons (λρ=>((λρ=>((eV 0) ρ).bind λo=>((aCons (eV 1) aNil) ρ).bind λds=>ik 0 "row_to_time" dq o (ds++[])) ρ).or ((λρ=>((λρ=>((eV 0) ρ).bind λo=>((aCons (eV 1) aNil) ρ).bind λds=>ik 1 "row_to_time" dq o (ds++[])) ρ).or ((λρ=>((λρ=>((eV 0) ρ).bind λo=>((aCons (eV 1) aNil) ρ).bind λds=>ik 2 "row_to_time" dq o (ds++[])) ρ).or ((λρ=>((eV 0) ρ).bind λo=>((aCons (eV 1) aNil) ρ).bind λds=>ik 3 "row_to_time" dq o (ds++[])) ρ)) ρ)) ρ)) (aCons (eN wK (aCons (e1 (gm [0,1,2,3] "behind") (eV 0)) aNil)) aNil)) ρ).bind λds=>some (.lst ds))))
theorem zo (T:Txt K mg a):dM P w K mg base gC 3 a.ag a.ah ["self","names"] (kd K a.ct [0,0] 0 dm) :=
 lf (ms:=mO [0,0]) T.aa.fn λ_ _ _ _ _ _ hr nd=>(zm (nG (ut (k:=0) (zf (n:=0)) (dX (zp (k:=0) (za (ub (yf (n:=0) (c0:=0) (ns:=[0]) (nd:=[]) (mq:=[]) xv T.b.cl T.z.me (zq T) (hr.mono (by decide)) T.z.bd .nil (λ_ _=>.nil) (zc xv zg)) (ub (yf (n:=0) (c0:=1) (ns:=[0]) (nd:=[]) (mq:=[]) xv T.c.cl T.aU (zq T) (hr.mono (by decide)) T.z.bd .nil (λ_ _=>.nil) (zc xv zg)) (ub (yf (n:=0) (c0:=2) (ns:=[0]) (nd:=[]) (mq:=[]) xv T.d.cl T.aW (zq T) (hr.mono (by decide)) T.z.bd .nil (λ_ _=>.nil) (zc xv zg)) (yf (n:=0) (c0:=3) (ns:=[0]) (nd:=[]) (mq:=[]) xv T.e.cl T.aY (zq T) (hr.mono (by decide)) T.z.bd .nil (λ_ _=>.nil) (zc xv zg))))) (za (XE.ow (z8 (k:=0) xq II rfl T.bN EG (zc (rh xv T.a1) zg))) zh)))))))
noncomputable def lI:List D->Option D:=mOf ["self","names"]
  (sRet (λρ=>((λρ=>((eV 0) ρ).bind λo=>((aCons (eV 1) aNil) ρ).bind λds=>ik 0 "row_to_time" dq o (ds++[])) ρ).or ((λρ=>((λρ=>((eV 0) ρ).bind λo=>((aCons (eV 1) aNil) ρ).bind λds=>ik 1 "row_to_time" dq o (ds++[])) ρ).or ((λρ=>((λρ=>((eV 0) ρ).bind λo=>((aCons (eV 1) aNil) ρ).bind λds=>ik 2 "row_to_time" dq o (ds++[])) ρ).or ((λρ=>((eV 0) ρ).bind λo=>((aCons (eV 1) aNil) ρ).bind λds=>ik 3 "row_to_time" dq o (ds++[])) ρ)) ρ)) ρ)))
theorem VM (T:Txt K mg a):dM P w K mg base gC 3 a.ai a.aj ["self","names"] (kd K a.ct [0,0] 0 lI) :=
 lf (ms:=mO [0,0]) T.ab.fn λ_ _ _ _ _ _ hr nd=>(zm (yh (ub (yf (n:=0) (c0:=0) (ns:=[0]) (nd:=[]) (mq:=[]) xv T.b.cl T.z.me (zq T) (hr.mono (by decide)) T.z.bd .nil (λ_ _=>.nil) (zc xv zg)) (ub (yf (n:=0) (c0:=1) (ns:=[0]) (nd:=[]) (mq:=[]) xv T.c.cl T.aU (zq T) (hr.mono (by decide)) T.z.bd .nil (λ_ _=>.nil) (zc xv zg)) (ub (yf (n:=0) (c0:=2) (ns:=[0]) (nd:=[]) (mq:=[]) xv T.d.cl T.aW (zq T) (hr.mono (by decide)) T.z.bd .nil (λ_ _=>.nil) (zc xv zg)) (yf (n:=0) (c0:=3) (ns:=[0]) (nd:=[]) (mq:=[]) xv T.e.cl T.aY (zq T) (hr.mono (by decide)) T.z.bd .nil (λ_ _=>.nil) (zc xv zg)))))))
noncomputable def lJ:List D->Option D:=mOf ["self","names"]
  (sRet (λρ=>((λρ=>((eV 0) ρ).bind λo=>((aCons (eV 1) aNil) ρ).bind λds=>ik 0 "row_to_behind" dm o (ds++[])) ρ).or ((λρ=>((λρ=>((eV 0) ρ).bind λo=>((aCons (eV 1) aNil) ρ).bind λds=>ik 1 "row_to_behind" dm o (ds++[])) ρ).or ((λρ=>((λρ=>((eV 0) ρ).bind λo=>((aCons (eV 1) aNil) ρ).bind λds=>ik 2 "row_to_behind" dm o (ds++[])) ρ).or ((λρ=>((eV 0) ρ).bind λo=>((aCons (eV 1) aNil) ρ).bind λds=>ik 3 "row_to_behind" dm o (ds++[])) ρ)) ρ)) ρ)))
theorem VN (T:Txt K mg a):dM P w K mg base gC 4 a.ak a.al ["self","names"] (kd K a.ct [0,0] 0 lJ) :=
 lf (ms:=mO [0,0]) T.ac.fn λ_ _ _ _ _ _ hr nd=>(zm (yh (ub (yf (n:=0) (c0:=0) (ns:=[0]) (nd:=[]) (mq:=[]) xv T.b.cl T.aa.me (zo T) (hr.mono (by decide)) T.aa.bd .nil (λ_ _=>.nil) (zc xv zg)) (ub (yf (n:=0) (c0:=1) (ns:=[0]) (nd:=[]) (mq:=[]) xv T.c.cl T.aT (zo T) (hr.mono (by decide)) T.aa.bd .nil (λ_ _=>.nil) (zc xv zg)) (ub (yf (n:=0) (c0:=2) (ns:=[0]) (nd:=[]) (mq:=[]) xv T.d.cl T.aV (zo T) (hr.mono (by decide)) T.aa.bd .nil (λ_ _=>.nil) (zc xv zg)) (yf (n:=0) (c0:=3) (ns:=[0]) (nd:=[]) (mq:=[]) xv T.e.cl T.aX (zo T) (hr.mono (by decide)) T.aa.bd .nil (λ_ _=>.nil) (zc xv zg)))))))
noncomputable def lH:List D->Option D:=mOf ["self","names"]
  (sRet (λρ=>((λρ=>((eV 0) ρ).bind λo=>((aCons (eV 1) aNil) ρ).bind λds=>ik 0 "row_to_behind" dm o (ds++[])) ρ).or ((λρ=>((λρ=>((eV 0) ρ).bind λo=>((aCons (eV 1) aNil) ρ).bind λds=>ik 1 "row_to_behind" dm o (ds++[])) ρ).or ((λρ=>((λρ=>((eV 0) ρ).bind λo=>((aCons (eV 1) aNil) ρ).bind λds=>ik 2 "row_to_behind" dm o (ds++[])) ρ).or ((λρ=>((eV 0) ρ).bind λo=>((aCons (eV 1) aNil) ρ).bind λds=>ik 3 "row_to_behind" dm o (ds++[])) ρ)) ρ)) ρ)))
theorem VO (T:Txt K mg a):dM P w K mg base gC 4 a.am a.an ["self","names"] (kd K a.ct [0,0] 0 lH) :=
 lf (ms:=mO [0,0]) T.ad.fn λ_ _ _ _ _ _ hr nd=>(zm (yh (ub (yf (n:=0) (c0:=0) (ns:=[0]) (nd:=[]) (mq:=[]) xv T.b.cl T.aa.me (zo T) (hr.mono (by decide)) T.aa.bd .nil (λ_ _=>.nil) (zc xv zg)) (ub (yf (n:=0) (c0:=1) (ns:=[0]) (nd:=[]) (mq:=[]) xv T.c.cl T.aT (zo T) (hr.mono (by decide)) T.aa.bd .nil (λ_ _=>.nil) (zc xv zg)) (ub (yf (n:=0) (c0:=2) (ns:=[0]) (nd:=[]) (mq:=[]) xv T.d.cl T.aV (zo T) (hr.mono (by decide)) T.aa.bd .nil (λ_ _=>.nil) (zc xv zg)) (yf (n:=0) (c0:=3) (ns:=[0]) (nd:=[]) (mq:=[]) xv T.e.cl T.aX (zo T) (hr.mono (by decide)) T.aa.bd .nil (λ_ _=>.nil) (zc xv zg)))))))
noncomputable def kO:List D->Option D:=mOf ["sign"]
  (sRet (eB (bAnd (tb (e2 Bl (eC (.str "a")) (eV 0))) (tb (e2 Bl (eV 0) (eC (.str "z")))))))
theorem jy (T:Txt K mg a):dM P w K mg base gC 1 a.ao a.ap ["sign"] (kd K a.ct [0] 0 kO) :=
 lf (ms:=mO [0]) T.ae.fn λ_ _ _ _ _ _ hr nd=>(zm (nG (ue (Ey (zf (n:=0)) xv) (vh (k:=0) (Ey xv (zf (n:=0)))))))
noncomputable def kN:List D->Option D:=mOf ["sign"]
  (sRet (eB (bAnd (tb (e2 Bl (eC (.str "0")) (eV 0))) (tb (e2 Bl (eV 0) (eC (.str "9")))))))
theorem jz (T:Txt K mg a):dM P w K mg base gC 1 a.aq a.ar ["sign"] (kd K a.ct [0] 0 kN) :=
 lf (ms:=mO [0]) T.af.fn λ_ _ _ _ _ _ hr nd=>(zm (nG (ue (Ey (zf (n:=0)) xv) (vh (k:=0) (Ey xv (zf (n:=0)))))))
noncomputable def l6:EF:=(iR (λρ=>((eV 0) ρ).bind Jt) 1 [] (gV 0) mK (eB (bOr (tb (cl kO (aCons (eV 0) aNil))) (tb (cl kN (aCons (eV 0) aNil))))))
noncomputable def kE:List D->Option D:=mOf ["word"]
  (sSeq (sIf (bOr (bNot (tb (e1 (mw "str") (eV 0)))) (bOr (tb (e2 yM (eN gx (aCons (eV 0) aNil)) (eC (.int 1)))) (tb (e2 Ap (eN gx (aCons (eV 0) aNil)) (eC (.int 8)))))) (sRet (eC (.bl false))) sSkip)
  (sRet (eB (bAnd (tb (cl kO (aCons (e2 eJ (eV 0) (eC (.int 0))) aNil))) (tb (eN oH (aCons l6 aNil)))))))
theorem WD (T:Txt K mg a):dM P w K mg base gC 2 a.au a.av ["word"] (kd K a.ct [0] 0 kE) :=
 lf (ms:=mO [0]) T.ag.fn λ_ _ _ _ _ _ hr nd=>(ze (qV (XW.t (jg (w8 (xg (EI (k:=0) (by decide) T.bG T.bN EG xv))) (jg (CJ (rF T.bH (zc xv zg)) dU) (ud (Ex (rF T.bH (zc xv zg)) (GL T.bT)))))) (nG (j5 (n:=0)))) (zm (nG (ue (xc T.ae (jy T) hr (zc (jK xv dU) zg)) (vh (k:=0) (wm (k:=0) (LC rfl) Mc rfl T.bC Mu (zc (dX (GJ (N:=["sign"]) (om:=mO [0]) (cap:=[]) (own:=1) (XI.cc (Q9 (n:=0) xv)) (λ_ _ _ _ _ h=>(vG h)) (λ_ _ _ _ _=>x8) (λ_ _ _ _ _=>(XE.ow (Rx (xc T.ae (jy T) hr (zc xv zg)) (vh (k:=0) (xc T.af (jz T) hr (zc xv zg)))))))) zg)))))))
noncomputable def ez:SF:=(sSeq (sIf (bOr (bNot (tb (cl kE (aCons (eV 2) aNil)))) (tb (λρ=>((eV 2) ρ).bind λx=>((eV 1) ρ).bind λy=>(lW y x).bind λr=>some (.bl r.isSome)))) (sRet (eC (.bl false))) sSkip)
  (oz 1 (eV 2) (eC (.bl true))))
noncomputable def dZ:List D->Option D:=mOf ["names","seen","name"]
  (sSeq (sIf (bOr (bNot (tb (e1 (mw "list") (eV 0)))) (bOr (tb (e2 yM (eN gx (aCons (eV 0) aNil)) (eC (.int 1)))) (tb (e2 Ap (eN gx (aCons (eV 0) aNil)) (eC (.int 40)))))) (sRet (eC (.bl false))) sSkip)
  (sSeq (sSet 1 (eC (.dK [] [])))
  (sSeq (sFor (lsD (eV 0)) (gV 2) ez)
  (sRet (eC (.bl true))))))
theorem zev (T:Txt K mg a):dM P w K mg base gC 3 a.aw a.ax ["names"] (kd K a.ct [0] 0 dZ) :=
 lf (ms:=mO [0,1,0]) T.ah.fn λ_ _ _ _ _ _ hr nd=>(ze (qV (XW.t (jg (w8 (xg (EI (k:=0) (by decide) T.bG T.bI GR xv))) (jg (CJ (rF T.bH (zc xv zg)) dU) (ud (Ex (rF T.bH (zc xv zg)) (GL T.bS)))))) (nG (j5 (n:=0)))) (ze (kX nd LK) (ze (xF (IF xv) (pB nd) (ze (qV (XW.t (jg (w8 (xg (xc T.ag (WD T) hr (zc xv zg)))) (ud (zum (CM hr) xv xv (by with_unfolding_all rfl))))) (nG (j5 (n:=0)))) (zm (Me 1 rfl (CM hr) xv (j5 (n:=0)))))) (zm (nG (j5 (n:=0)))))))
noncomputable def dI:List D->Option D:=mOf ["number","least","most"]
  (sSeq (sIf (bOr (bNot (tb (e1 (mw "int") (eV 0)))) (tb (e1 (mw "bool") (eV 0)))) (sRet (eC (.bl false))) sSkip)
  (sRet (eB (bAnd (tb (e2 Bl (eV 1) (eV 0))) (tb (e2 Bl (eV 0) (eV 2)))))))
theorem yz (T:Txt K mg a):dM P w K mg base gC 1 a.ay a.az ["number","least","most"] (kd K a.ct [0,0,0] 0 dI) :=
 lf (ms:=mO [0,0,0]) T.ai.fn λ_ _ _ _ _ _ hr nd=>(ze (qV (XW.t (jg (w8 (xg (EI (k:=0) (by decide) T.bG T.bF uc xv))) (ud (xg (EI (k:=0) (by decide) T.bG T.bD P1 xv))))) (nG (j5 (n:=0)))) (zm (nG (ue (Ey xv xv) (vh (k:=0) (Ey xv xv))))))
noncomputable def iC:List D->Option D:=mOf ["arrow","many","least","most"]
  (sSeq (sSet 2 (eIf (tb (e1 (rq [0,1,2,3,4] [3]) (eV 0))) (eC (.int 1)) (eC (.int 0))))
  (sSeq (sSet 3 (eIf (tb (e1 (rq [0,1,2,3,4] [1]) (eV 0))) (eC (.int 0)) (eC (.int 4))))
  (sSeq (sIf (bOr (bNot (tb (cl dI (aCons (e1 (gm [0,1,2,3] "start") (eV 0)) (aCons (eC (.int 0)) (aCons (e2 uM (eV 1) (eC (.int 1))) aNil)))))) (bNot (tb (cl dI (aCons (e1 (gm [0,1,2,3] "goal") (eV 0)) (aCons (eC (.int 0)) (aCons (e2 uM (eV 1) (eC (.int 1))) aNil))))))) (sRet (eC (.bl false))) sSkip)
  (sRet (eB (bAnd (tb (cl dI (aCons (e1 (gm [0,1,2,3] "time") (eV 0)) (aCons (eC (.int 0)) (aCons (eC (.int 1000000000)) aNil))))) (tb (cl dI (aCons (e1 (gm [0,1,2,3] "behind") (eV 0)) (aCons (eV 2) (aCons (eV 3) aNil)))))))))))
theorem VP (T:Txt K mg a):dM P w K mg base gC 2 a.aA a.aB ["arrow","many"] (kd K a.ct [0,0] 0 iC) :=
 lf (ms:=mO [0,0,0,0]) T.aj.fn λ_ _ _ _ _ _ hr nd=>(ze (oO nd (ML (xg (Qe (k:=0) T.a6 T.bG T.e.mgx xv)) dU dU)) (ze (oO nd (ML (xg (Qe (k:=0) T.a7 T.bG T.c.mgx xv)) dU (GL T.bQ))) (ze (qV (XW.t (jg (w8 (xg (xc T.ai (yz T) hr (zc (rh xv T.a4) (zc dU (zc (Dr xv dU) zg)))))) (ud (w8 (xg (xc T.ai (yz T) hr (zc (rh xv T.a2) (zc dU (zc (Dr xv dU) zg))))))))) (nG (j5 (n:=0)))) (zm (nG (ue (xc T.ai (yz T) hr (zc (rh xv T.a5) (zc dU (zc (GL T.bU) zg)))) (vh (k:=0) (xc T.ai (yz T) hr (zc (rh xv T.a1) (zc xv (zc xv zg)))))))))))
noncomputable def gH:SF:=(sIf (tb (e2 (iz false) (e1 (gm [0,1,2,3] "start") (eV 4)) (eV 7))) (sSeq (uK 3 (e1 (gm [0,1,2,3] "goal") (eV 4)) (λi j=>i-j) (eC (.int 1)))
  (sIf (tb (e2 (iz false) (e2 eJ (eV 3) (e1 (gm [0,1,2,3] "goal") (eV 4))) (eC (.int 0)))) (sApp 5 (e1 (gm [0,1,2,3] "goal") (eV 4))) sSkip)) sSkip)
noncomputable def jW:SF:=(sSeq (sSet 7 (e2 eJ (eV 5) (eV 6)))
  (sSeq (sFor (lsD (eV 2)) (gV 4) gH)
  (Dz 6 (i2 λi j=>.int (i+j)) (eC (.int 1)))))
noncomputable def l7:EF:=(iR (λρ=>((aCons (eV 0) aNil) ρ).bind si) 1 [3] (gV 0) (tb (e2 (iz false) (e2 eJ (eV 1) (eV 0)) (eC (.int 0)))) (eV 0))
noncomputable def jX:SF:=(uK 3 (e1 (gm [0,1,2,3] "goal") (eV 4)) (λi j=>i+j) (eC (.int 1)))
noncomputable def l9:EF:=(iR (lsD (eV 1)) 1 [] (gV 0) (tb (e2 (iz false) (e1 (gm [0,1,2,3] "behind") (eV 0)) (eC (.int 0)))) (eV 0))
noncomputable def fW:List D->Option D:=mOf ["many","arrows","within","waited","arrow","placed","done","here"]
  (sSeq (sSet 2 l9)
  (sSeq (sSet 3 (e2 uJ (λρ=>((aCons (eC (.int 0)) aNil) ρ).bind λds=>some (.lst ds)) (eV 0)))
  (sSeq (sFor (lsD (eV 2)) (gV 4) jX)
  (sSeq (sSet 5 l7)
  (sSeq (sSet 6 (eC (.int 0)))
  (sSeq (pQ (tb (e2 yM (eV 6) (eN gx (aCons (eV 5) aNil)))) jW)
  (sRet (eV 5))))))))
theorem qc (T:Txt K mg a):dM P w K mg base gC 1 a.aC a.aD ["many","arrows"] (kd K a.ct [0,0] 0 fW) :=
 lf (ms:=mO [0,0,0,1,0,1,0,0]) T.ak.fn λ_ _ _ _ _ _ hr nd=>(ze (DM (k:=0) (N:=["arrow"]) (om:=mO [0]) (cap:=[]) (own:=1) nd (wo (n:=0) xv) (λ_ _ _ _ _ h=>(vG h)) (λ_ _ _ _ _=>(IE (tZ hr (rh xv T.a1) dU))) (λ_ _ _ _ _=>(XE.ow xv))) (ze (kX nd (zue (zp (k:=0) (za (XE.ow dU) zh)) xv)) (ze (xF (IF xv) (pB nd) (zm (Qd 3 QY rfl (rh xv T.a2) dU))) (ze (DM (k:=1) (N:=["going","waited"]) (om:=mO [0]) (cap:=[3]) (own:=1) nd (XI.cc (vi (n:=0) T.bL (zc xv zg))) (λ_ _ _ _ _ h=>(vG h)) (λ_ _ _ _ _=>(IE (tZ hr (HG xv xv) dU))) (λ_ _ _ _ _=>(XE.ow xv))) (ze (oO nd dU) (ze (N9 (CJ xv (rF T.bH (zc xv zg))) (ze (oO nd (HG xv xv)) (ze (xF (IF xv) (pB nd) (zm (EO (tZ hr (rh xv T.a4) xv) (ze (Qd 3 zs9 rfl (rh xv T.a2) dU) (zm (qV (tZ hr (HG xv (rh xv T.a2)) dU) (ya 5 rfl (XE.ow (rh xv T.a2)))))) xi))) (zm (zuf QY rfl nd rfl (Or.inl rfl) dU))))) (zm (Qh (i:=5) rfl))))))))
noncomputable def i9:SF:=(sSeq (oz 4 (eV 3) (eN gx (aCons (eV 5) aNil)))
  (sSeq (sApp 5 (λρ=>((eV 1) ρ).bind λx=>((eV 3) ρ).bind λy=>(lW x y).join))
  (sSet 3 (e1 (gm [0,1,2,3] "start") (e2 eJ (eV 0) (λρ=>((eV 1) ρ).bind λx=>((eV 3) ρ).bind λy=>(lW x y).join))))))
noncomputable def iO:List D->Option D:=mOf ["arrows","chosen","going","here","seen","way"]
  (sSeq (sSet 3 (eV 2))
  (sSeq (sSet 4 (eC (.dK [] [])))
  (sSeq (sSet 5 (λρ=>(aNil ρ).bind λds=>some (.lst ds)))
  (sSeq (pQ (tb (λρ=>((eV 3) ρ).bind λx=>((eV 4) ρ).bind λy=>(lW y x).bind λr=>some (.bl (!r.isSome)))) i9)
  (sRet (e1 AK (λρ=>((eV 5) ρ).bind λd=>((pInt (λρ=>((eV 4) ρ).bind λx=>((eV 3) ρ).bind λy=>(lW x y).join)) ρ).bind λl=>(pNo ρ).bind λh=>eU d l h)))))))
theorem jm (T:Txt K mg a):dM P w K mg base gC 1 a.aE a.aF ["arrows","chosen","going"] (kd K a.ct [0,0,0] 0 iO) :=
 lf (ms:=mO [0,0,0,0,1,1]) T.al.fn λ_ _ _ _ _ _ hr nd=>(ze (oO nd xv) (ze (kX nd LK) (ze (kX nd (zp (k:=0) zh)) (ze (N9 (Xk (CM hr) xv xv (by with_unfolding_all rfl)) (ze (Me 4 rfl (CM hr) xv (rF T.bH (zc xv zg))) (ze (ya 5 rfl (XE.ow (Ms (CM hr) (zn 1 0) (zn 3 0) (λ_ _=>rfl)))) (zm (oO nd (rh (jK xv (Ms (CM hr) (zn 1 0) (zn 3 0) (λ_ _=>rfl))) T.a4)))))) (zm (yh (e9 (ZS (n:=0) (by decide) rfl rfl T.bI rfl T.bM (dX (yj (n:=1) (by decide) xv (yr (Ms (CM hr) (zn 4 1) (zn 3 0) (λ_ _=>rfl))) ji))))))))))
noncomputable def lK:EF:=(iR (λρ=>((aCons (eV 0) aNil) ρ).bind si) 1 [2] (gV 0) (tb (e2 (inD true) (eV 0) (eV 1))) (eV 0))
noncomputable def gr:SF:=(sIf (bAnd (tb (e2 (iz false) (e1 (gm [0,1,2,3] "behind") (eV 5)) (eC (.int 0)))) (tb (e2 (inD true) (e1 (gm [0,1,2,3] "start") (eV 5)) (eV 2)))) (oz 3 (e1 (gm [0,1,2,3] "goal") (eV 5)) (eV 4)) sSkip)
noncomputable def lc:List D->Option D:=mOf ["many","arrows","placed","chosen","number","arrow","unplaced"]
  (sSeq (sSet 3 (eC (.dK [] [])))
  (sSeq (sFor (λρ=>((aCons (eV 1) aNil) ρ).bind λds=>match ds with|[.lst xs]=>some (jF 0 xs)|_=>none) (gT (gsCons (gV 4) (gsCons (gV 5) gsNil))) gr)
  (sFz 3 (sSeq (sSet 6 lK)
  (sRet (cl iO (aCons (eV 1) (aCons (eV 3) (aCons (e2 eJ (eV 6) (eC (.int 0))) aNil)))))))))
theorem Vn (T:Txt K mg a):dM P w K mg base gC 2 a.aG a.aH ["many","arrows","placed"] (kd K a.ct [0,0,0] 0 lc) :=
 lf (ms:=mO [0,0,0,1,0,0,0]) T.am.fn λ_ _ _ _ _ _ hr nd=>(ze (kX nd LK) (ze (xF (P6 T.bE (zc xv zg)) (DP (n:=1) rfl (zu (pB nd) (zu (pB nd) wn))) (zm (qV (XW.t (QS (tZ hr (rh xv T.a1) dU) (PU (w6 (k:=0) vf Mt (rh xv T.a4) xv (by with_unfolding_all rfl))))) (Me 3 rfl (CM hr) (rh xv T.a2) xv)))) (zun (i:=3) rfl (ze (DM (k:=0) (N:=["going","placed"]) (om:=mO [0]) (cap:=[2]) (own:=1) nd (XI.cc (vi (n:=0) T.bL (zc xv zg))) (λ_ _ _ _ _ h=>(vG h)) (λ_ _ _ _ _=>(IE (w6 (k:=0) vf Mt xv xv (by with_unfolding_all rfl)))) (λ_ _ _ _ _=>(XE.ow xv))) (zm (yh (kP T.al (jm T) hr (zc xv (zc xv (zc (jK xv dU) zg))))))))))
theorem qd (T:Txt K mg a):dM P w K mg base gC 1 a.aI a.aJ ["self","at"] (vV "at" a.h) :=
 O0 (kk:=0) T.an.fn j9 T.a9 T.ba λgN A outer s H E=>⟨_,λ_ _ _ _ h1 h2 h3=>NY h1 h2 h3,vx (ve (qm (B:=a.g) rfl T.g T.bk.1 T.bk.2.1 T.bk.2.2 (yb (i:=0) rfl (Or.inl rfl)) (IC (xt qo (xt (RA (yb (i:=1) rfl (Or.inl rfl))) IA))))) (jc (Iz (yb (i:=0) rfl (Or.inl rfl)) (yb (i:=1) rfl (Or.inl rfl))))⟩
theorem UZ (T:Txt K mg a):dM P w K mg base gC 1 a.aK a.aL ["self","ring"] (sy K "ring" a.i) :=
 Xp (kk:=0) T.ao.fn U8 T.bc T.bd λgN A outer s H E hr=>vx (ve (qm (B:=a.g) rfl T.g T.bk.1 T.bk.2.1 T.bk.2.2 (yb (i:=0) rfl (Or.inl rfl)) (IC (xt qo (xt (ztt hr.gd hr.units (yb (i:=1) rfl (Or.inl rfl))) IA))))) (jc (Iz (yb (i:=0) rfl (Or.inl rfl)) (Ly vg rfl T.bI GR (zy (yb (i:=1) rfl (Or.inl rfl)) yy))))
theorem U0 (T:Txt K mg a):dM P w K mg base gC 1 a.aM a.aN ["self","at"] (vV "at" a.n) :=
 O0 (kk:=0) T.ap.fn UY T.bi T.bj λgN A outer s H E=>⟨_,λ_ _ _ _ h1 h2 h3=>NY h1 h2 h3,vx (ve (qm (B:=a.g) rfl T.g T.bk.1 T.bk.2.1 T.bk.2.2 (yb (i:=0) rfl (Or.inl rfl)) (IC (xt qo (xt (RA (yb (i:=1) rfl (Or.inl rfl))) IA))))) (jc (Iz (yb (i:=0) rfl (Or.inl rfl)) (yb (i:=1) rfl (Or.inl rfl))))⟩
theorem jo (T:Txt K mg a):dM P w K mg base gC 1 a.aO a.aP ["self","name"] (sA "name" a.o) :=
 Xc (kk:=0) T.aq.fn jk T.bf T.bg λgN A outer s H E=>⟨_,λ_ _ _ _ h1 h2 h3=>UA h1 h2 h3,vx (ve (qm (B:=a.g) rfl T.g T.bk.1 T.bk.2.1 T.bk.2.2 (yb (i:=0) rfl (Or.inl rfl)) (IC (xt qo (xt (zt2 (yb (i:=1) rfl (Or.inl rfl))) IA))))) (jc (Iz (yb (i:=0) rfl (Or.inl rfl)) (yb (i:=1) rfl (Or.inl rfl))))⟩
noncomputable def fG:oj:=(sIfX (bNot (tb (cl iC (aCons (eV 4) (aCons (eN gx (aCons (eV 1) aNil)) aNil))))) (sRaise (λρ=>((eV 3) ρ).bind λd=>(oo d).bind λd=>some (.exc 6 ["at"] [d]))) (xOf sSkip))
noncomputable def dF:Nat->List D->Option mI:=wA ["self","names","arrows","number","arrow","placed"]
  (sSeqX (sIfX (bOr (bNot (tb (cl dZ (aCons (eV 1) aNil)))) (tb (e2 Ap (eN gx (aCons (eV 2) aNil)) (eC (.int 120))))) (sRaise (λρ=>((eC .non) ρ).bind λd=>(oo d).bind λd=>some (.exc 6 ["at"] [d]))) (xOf sSkip))
  (sSeqX (sForX (λρ=>((aCons (eV 2) aNil) ρ).bind λds=>match ds with|[.lst xs]=>some (jF 0 xs)|_=>none) (gT (gsCons (gV 3) (gsCons (gV 4) gsNil))) fG)
  (sSeqX (xOf (sSet 5 (cl fW (aCons (eN gx (aCons (eV 1) aNil)) (aCons (eV 2) aNil)))))
  (sSeqX (sIfX (tb (e2 yM (eN gx (aCons (eV 5) aNil)) (eN gx (aCons (eV 1) aNil)))) (sRaise (λρ=>((cl lc (aCons (eN gx (aCons (eV 1) aNil)) (aCons (eV 2) (aCons (eV 5) aNil)))) ρ).bind λd=>(C3 d).bind λd=>some (.exc 7 ["ring"] [d]))) (xOf sSkip))
  (xOf (sSeq (nO [4] "names" (eN rz (aCons (eV 1) aNil)))
  (nO [4] "arrows" (eN rz (aCons (eV 2) aNil)))))))))
theorem Ve (T:Txt K mg a):dM P w K mg base (uY P w) 4 a.aQ a.aR ["self","names","arrows"] (yC K a.ct [4] [0,0] dF):=by
 have nh:=qd (P:=P) (w:=w) (base:=base) T;have qZ:=UZ (P:=P) (w:=w) (base:=base) T;have sY:=Vn (P:=P) (w:=w) (base:=base) T;have uE:=zev (P:=P) (w:=w) (base:=base) T;have vQ:=VP (P:=P) (w:=w) (base:=base) T;have qJ:=qc (P:=P) (w:=w) (base:=base) T;refine Ww (ms:=mO [0,0,0,0,0]) (rk:=0) T.ar.fn xl rfl rfl (by decide) (wq (by decide)) λx0 gN A outer s H E hr=>?_;exact(yg (DS (XW.t (jg (w8 (xg (XO.sh (n:=0) (kP T.ah uE hr (zc (zn 1 0) zg))))) (ud (w6 (k:=0) MK Mq (rF T.bH (zc (zn 2 0) zg)) (P8 (n:=0) (d:=(.int 120)) rfl T.bP.choose_spec rfl ⟨_,rfl⟩) (kb _))))) (yq (xn rfl yu (u7 (c0:=6) (fn:="at") T.a9 T.a8 T.an.me.at_ T.an.me.fn nh (hr.mono (by decide)) T.h T.an.bd yS))) (wt xi))
  (yg (Mf (P6 T.bE (zc (zn 2 0) zg)) (DP (n:=1) rfl (zu (pB xl.nd) (zu (pB xl.nd) wn))) (yq (DS (w8 (xg (XO.sh (n:=0) (kP T.aj vQ hr (zc (zn 4 0) (zc (rF T.bH (zc (zn 1 0) zg)) zg)))))) (yq (xn rfl yu (u7 (c0:=6) (fn:="at") T.a9 T.a8 T.an.me.at_ T.an.me.fn nh (hr.mono (by decide)) T.h T.an.bd (zn 3 0)))) (wt xi))) gj.leaving rfl)
  (yg (IT (kX xl.nd (kP T.ak qJ hr (zc (rF T.bH (zc (zn 1 0) zg)) (zc (zn 2 0) zg)))))
  (yg (DS (w6 (k:=0) Ry QT (rF T.bH (zc (zn 5 0) zg)) (rF T.bH (zc (zn 1 0) zg)) (kb _)) (yq (xn rfl yu (Yd (c0:=7) (fn:="ring") T.bc T.bb T.ao.me.at_ T.ao.me.fn qZ (hr.mono (by decide)) T.i T.ao.bd (XO.sh (n:=0) (kP T.am sY hr (zc (rF T.bH (zc (zn 1 0) zg)) (zc (zn 2 0) (zc (zn 5 0) zg)))))))) (wt xi))
  (wt (ze (EK T.a3 (XO.sh (n:=0) (ON vg (Pf (n:=0) (by decide)) rfl T.bI GR (zc (zn 1 0) zg))))
  (zm (EK T.a0 (XO.sh (n:=0) (ON vg (Pf (n:=0) (by decide)) rfl T.bI GR (zc (zn 2 0) zg)))))))))))
noncomputable def i7:EF:=(iR (λρ=>((eV 0) ρ).bind Jt) 1 [] (gV 0) mK (cl kN (aCons (eV 0) aNil)))
noncomputable def gX:List D->Option D:=mOf ["word"]
  (sSeq (sIf (bOr (tb (e2 yM (eN gx (aCons (eV 0) aNil)) (eC (.int 1)))) (bOr (tb (e2 Ap (eN gx (aCons (eV 0) aNil)) (eC (.int 15)))) (bNot (tb (eN oH (aCons i7 aNil)))))) (sRet (eC (.bl false))) sSkip)
  (sRet (eB (bOr (tb (e2 (iz false) (eV 0) (eC (.str "0")))) (tb (e2 (iz true) (e2 eJ (eV 0) (eC (.int 0))) (eC (.str "0"))))))))
theorem j0 (T:Txt K mg a):dM P w K mg base gC 2 a.aS a.aT ["word"] (kd K a.ct [0] 0 gX) :=
 lf (ms:=mO [0]) T.au.fn λ_ _ _ _ _ _ hr nd=>(ze (qV (XW.t (jg (CJ (rF T.bH (zc xv zg)) dU) (jg (Ex (rF T.bH (zc xv zg)) (GL T.bR)) (ud (w8 (xg (wm (k:=0) (LC rfl) Mc rfl T.bC Mu (zc (dX (GJ (N:=["sign"]) (om:=mO [0]) (cap:=[]) (own:=1) (XI.cc (Q9 (n:=0) xv)) (λ_ _ _ _ _ h=>(vG h)) (λ_ _ _ _ _=>x8) (λ_ _ _ _ _=>(kP T.af (jz T) hr (zc xv zg))))) zg)))))))) (nG (j5 (n:=0)))) (zm (nG (Rx (vEq hr xv (zf (n:=0))) (vh (k:=0) (UG hr (jK xv dU) (zf (n:=0))))))))
noncomputable def i8:EF:=(iR (lsD (eV 0)) 1 [] (gV 0) mK (cl gX (aCons (eV 0) aNil)))
noncomputable def i6:List D->Option D:=mOf ["words"]
  (sRet (eN oH (aCons i8 aNil)))
theorem uk (T:Txt K mg a):dM P w K mg base gC 3 a.aU a.aV ["words"] (kd K a.ct [0] 0 i6) :=
 lf (ms:=mO [0]) T.av.fn λ_ _ _ _ _ _ hr nd=>(zm (nG (wm (k:=0) (LC rfl) Mc rfl T.bC Mu (zc (dX (GJ (N:=["word"]) (om:=mO [0]) (cap:=[]) (own:=1) (wo (n:=0) xv) (λ_ _ _ _ _ h=>(vG h)) (λ_ _ _ _ _=>x8) (λ_ _ _ _ _=>(kP T.au (j0 T) hr (zc xv zg))))) zg))))
noncomputable def dE:List D->Option D:=mOf ["words"]
  (sSeq (sIf (tb (e2 (iz false) (e2 eJ (eV 0) (eC (.int 0))) (eC (.str "ride")))) (sRet (eB (bAnd (tb (e2 (iz false) (eN gx (aCons (eV 0) aNil)) (eC (.int 4)))) (tb (cl gX (aCons (e2 eJ (eV 0) (eC (.int 3))) aNil)))))) sSkip)
  (sSeq (sIf (bOr (tb (e2 (iz false) (e2 eJ (eV 0) (eC (.int 0))) (eC (.str "wait")))) (tb (e2 (iz false) (e2 eJ (eV 0) (eC (.int 0))) (eC (.str "back"))))) (sRet (eB (bAnd (tb (e2 (iz false) (eN gx (aCons (eV 0) aNil)) (eC (.int 5)))) (tb (cl i6 (aCons (λρ=>((eV 0) ρ).bind λd=>((pInt (eC (.int 3))) ρ).bind λl=>(pNo ρ).bind λh=>eU d l h) aNil)))))) sSkip)
  (sSeq (sIf (tb (e2 (iz false) (e2 eJ (eV 0) (eC (.int 0))) (eC (.str "line")))) (sRet (eB (bAnd (tb (e2 D8 (eN gx (aCons (eV 0) aNil)) (eC (.int 4)))) (bAnd (tb (e2 (iz false) (e2 fM (eN gx (aCons (eV 0) aNil)) (eC (.int 2))) (eC (.int 0)))) (tb (cl i6 (aCons (e2 cA (λρ=>((aCons (e2 eJ (eV 0) (eC (.int 1))) aNil) ρ).bind λds=>some (.lst ds)) (λρ=>((lsD (eV 0)) ρ).bind λds=>some (.lst (every2 (ds.drop 3))))) aNil))))))) sSkip)
  (sRet (eC (.bl false))))))
theorem jp (T:Txt K mg a):dM P w K mg base gC 4 a.aW a.aX ["words"] (kd K a.ct [0] 0 dE) :=
 lf (ms:=mO [0]) T.aw.fn λ_ _ _ _ _ _ hr nd=>(ze (qV (tZ hr (jK xv dU) (zf (n:=0))) (nG (ue (vEq hr (rF T.bH (zc xv zg)) dU) (vh (k:=0) (xc T.au (j0 T) hr (zc (jK xv dU) zg)))))) (ze (qV (XW.t (jg (tZ hr (jK xv dU) (zf (n:=0))) (ud (tZ hr (jK xv dU) (zf (n:=0)))))) (nG (ue (vEq hr (rF T.bH (zc xv zg)) dU) (vh (k:=0) (xc T.av (uk T) hr (zc (dX (yj (n:=0) (by decide) xv (yr dU) ji)) zg)))))) (ze (qV (tZ hr (jK xv dU) (zf (n:=0))) (nG (ue (UE (rF T.bH (zc xv zg)) dU) (ue (vEq hr (oMod (rF T.bH (zc xv zg)) dU) dU) (vh (k:=0) (xc T.av (uk T) hr (zc (dX (dP (dX (zp (k:=0) (za (XE.ow (jK xv dU)) zh))) (dX (IJ (n:=0) (i:=3) (by decide) xv dU dU)))) zg))))))) (zm (nG (j5 (n:=0)))))))
noncomputable def fR:List D->Option D:=mOf ["words"]
  (sRet (eIf (tb (e2 (iz false) (e2 eJ (eV 0) (eC (.int 0))) (eC (.str "line")))) (λρ=>((lsD (eV 0)) ρ).bind λds=>some (.lst (every2 (ds.drop 2)))) (λρ=>((eV 0) ρ).bind λd=>((pInt (eC (.int 1))) ρ).bind λl=>((pInt (eC (.int 3))) ρ).bind λh=>eU d l h)))
theorem U1 (T:Txt K mg a):dM P w K mg base gC 1 a.aY a.aZ ["words"] (kd K a.ct [0] 0 fR) :=
 lf (ms:=mO [0]) T.ax.fn λ_ _ _ _ _ _ hr nd=>(zm (nG (ML (tZ hr (jK xv dU) (zf (n:=0))) (dX (IJ (n:=0) (i:=2) (by decide) xv dU dU)) (dX (yj (n:=0) (by decide) xv (yr dU) (yr dU))))))
noncomputable def eA:oj:=(sIfX (tb (e2 (inD true) (eV 2) (eV 1))) (sRaise (λρ=>((eV 2) ρ).bind λd=>(yJ d).bind λd=>some (.exc 13 ["name"] [d]))) (xOf sSkip))
noncomputable def fV:List D->Option mI:=mOfX ["told","names","name"]
  (sForX (lsD (eV 0)) (gV 2) eA)
theorem u8 (T:Txt K mg a):dM P w K mg base (uY P w) 3 a.a0 a.a1 ["told","names"] (sZ K a.ct [0,0] 0 fV):=by have pG:=jo (P:=P) (w:=w) (base:=base) T;refine Cz (ms:=mO [0,0,0]) T.ay.fn we rfl rfl (by decide) (wq (by decide)) λ_ _ _ _ _ _ hr=>?_;exact(yq (Mf (IF (zn 0 0)) (pB we.nd) (yq (DS (w6 (k:=0) vf Mt (zn 2 0) (zn 1 0) (by with_unfolding_all rfl)) (yq (xn rfl yu (Ye (c0:=13) (fn:="name") T.bf T.be T.aq.me.at_ T.aq.me.fn pG (hr.mono (by decide)) T.o T.aq.bd (zn 2 0)))) (wt xi))) gj.leaving rfl))
noncomputable def fQ:List D->Option D:=mOf ["words","names","start","goal"]
  (sSeq (sSet 2 (e2 oK (eV 1) (e2 eJ (eV 0) (eC (.int 1)))))
  (sSeq (sSet 3 (e2 oK (eV 1) (e2 eJ (eV 0) (eC (.int 2)))))
  (sSeq (sIf (tb (e2 (iz false) (e2 eJ (eV 0) (eC (.int 0))) (eC (.str "ride")))) (sRet (cl (kH 1) (aCons (eV 2) (aCons (eV 3) (aCons (eN rZ (aCons (e2 eJ (eV 0) (eC (.int 3))) aNil)) aNil))))) sSkip)
  (sSeq (sIf (tb (e2 (iz false) (e2 eJ (eV 0) (eC (.int 0))) (eC (.str "wait")))) (sRet (cl (mr 2) (aCons (eV 2) (aCons (eV 3) (aCons (eN rZ (aCons (e2 eJ (eV 0) (eC (.int 3))) aNil)) (aCons (eN rZ (aCons (e2 eJ (eV 0) (eC (.int 4))) aNil)) aNil)))))) sSkip)
  (sRet (cl (kG 3) (aCons (eV 2) (aCons (eV 3) (aCons (eN rZ (aCons (e2 eJ (eV 0) (eC (.int 3))) aNil)) (aCons (eN rZ (aCons (e2 eJ (eV 0) (eC (.int 4))) aNil)) aNil))))))))))
theorem U2 (T:Txt K mg a):dM P w K mg base gC 4 a.a2 a.a3 ["words","names"] (kd K a.ct [0,0] 0 fQ) :=
 lf (ms:=mO [0,0,0,0]) T.az.fn λ_ _ _ _ _ _ hr nd=>(ze (oO nd (qv (k:=0) xv (jK xv dU))) (ze (oO nd (qv (k:=0) xv (jK xv dU))) (ze (qV (tZ hr (jK xv dU) (zf (n:=0))) (yh (e9 (GM T.c T.q (ui T) hr (zc xv (zc xv (zc (z8 (k:=0) xm wv rfl T.bF uc (zc (jK xv dU) zg)) zg))))))) (ze (qV (tZ hr (jK xv dU) (zf (n:=0))) (yh (e9 (GM T.d T.r (Vd T) hr (zc xv (zc xv (zc (z8 (k:=0) xm wv rfl T.bF uc (zc (jK xv dU) zg)) (zc (z8 (k:=0) xm wv rfl T.bF uc (zc (jK xv dU) zg)) zg)))))))) (zm (yh (e9 (GM T.e T.t (uj T) hr (zc xv (zc xv (zc (z8 (k:=0) xm wv rfl T.bF uc (zc (jK xv dU) zg)) (zc (z8 (k:=0) xm wv rfl T.bF uc (zc (jK xv dU) zg)) zg))))))))))))
noncomputable def jA:EF:=(iR (λρ=>((aCons (eV 2) (aCons (λρ=>((eV 2) ρ).bind λd=>((pInt (eC (.int 1))) ρ).bind λl=>(pNo ρ).bind λh=>eU d l h) (aCons (eV 3) aNil))) ρ).bind CO) 3 [] (gT (gsCons (gV 0) (gsCons (gV 1) (gsCons (gV 2) gsNil)))) mK (cl (kH 1) (aCons (eV 0) (aCons (eV 1) (aCons (eV 2) aNil)))))
noncomputable def jB:EF:=(iR (lsD (λρ=>((lsD (eV 0)) ρ).bind λds=>some (.lst (every2 (ds.drop 3))))) 1 [] (gV 0) mK (eN rZ (aCons (eV 0) aNil)))
noncomputable def jC:EF:=(iR (lsD (λρ=>((lsD (eV 0)) ρ).bind λds=>some (.lst (every2 (ds.drop 2))))) 1 [1] (gV 0) mK (e2 oK (eV 1) (eV 0)))
noncomputable def iN:List D->Option D:=mOf ["words","names","goings","times","rides"]
  (sSeq (sSet 2 jC)
  (sSeq (sSet 3 jB)
  (sSeq (sSet 4 jA)
  (sRet (e2 cA (eV 4) (λρ=>((aCons (cl (kG 3) (aCons (e2 eJ (eV 2) (e1 AM (eC (.int 1)))) (aCons (e2 eJ (eV 2) (eC (.int 0))) (aCons (e2 eJ (eV 3) (e1 AM (eC (.int 1)))) (aCons (eN rZ (aCons (e2 eJ (eV 0) (eC (.int 1))) aNil)) aNil))))) aNil) ρ).bind λds=>some (.lst ds)))))))
theorem jq (T:Txt K mg a):dM P w K mg base gC 4 a.a4 a.a5 ["words","names"] (kd K a.ct [0,0] 1 iN) :=
 lf (ms:=mO [0,0,0,0,0]) T.aA.fn λ_ _ _ _ _ _ hr nd=>(ze (DM (k:=0) (N:=["name","names"]) (om:=mO [0]) (cap:=[1]) (own:=1) nd (wo (n:=0) (dX (IJ (n:=0) (i:=2) (by decide) xv dU dU))) (λ_ _ _ _ _ h=>(vG h)) (λ_ _ _ _ _=>x8) (λ_ _ _ _ _=>(XE.ow (qv (k:=0) xv xv)))) (ze (DM (k:=0) (N:=["word"]) (om:=mO [0]) (cap:=[]) (own:=1) nd (wo (n:=0) (dX (IJ (n:=0) (i:=3) (by decide) xv dU dU))) (λ_ _ _ _ _ h=>(vG h)) (λ_ _ _ _ _=>x8) (λ_ _ _ _ _=>(XE.ow (z8 (k:=0) xm wv rfl T.bF uc (zc xv zg))))) (ze (DM (k:=0) (N:=["start","goal","time"]) (om:=mO [0,0,0]) (cap:=[]) (own:=3) nd (Yb (n:=0) T.bO (zc xv (zc (dX (yj (n:=0) (by decide) xv (yr dU) ji)) (zc xv zg)))) (λ_ _ _ _ _ h=>(Y7 (n:=1) rfl (Lz (vG h) (Lz (vG h) (Lz (vG h) Ym))))) (λ_ _ _ _ _=>x8) (λ_ _ _ _ _=>(e9 (GM T.c T.q (ui T) hr (zc xv (zc xv (zc xv zg))))))) (zm (yh (dP xv (dX (zp (k:=0) (za (e9 (GM T.e T.t (uj T) hr (zc (jK xv (MA (k:=0) dU)) (zc (jK xv dU) (zc (jK xv (MA (k:=0) dU)) (zc (z8 (k:=0) xm wv rfl T.bF uc (zc (jK xv dU) zg)) zg)))))) zh)))))))))
noncomputable def fH:List D->Option D:=mOf ["words","names"]
  (sSeq (sIf (tb (e2 (iz false) (e2 eJ (eV 0) (eC (.int 0))) (eC (.str "line")))) (sRet (cl iN (aCons (eV 0) (aCons (eV 1) aNil)))) sSkip)
  (sRet (λρ=>((aCons (cl fQ (aCons (eV 0) (aCons (eV 1) aNil))) aNil) ρ).bind λds=>some (.lst ds))))
theorem qf (T:Txt K mg a):dM P w K mg base gC 5 a.a6 a.a7 ["words","names"] (kd K a.ct [0,0] 1 fH) :=
 lf (ms:=mO [0,0]) T.aB.fn λ_ _ _ _ _ _ hr nd=>(ze (qV (tZ hr (jK xv dU) (zf (n:=0))) (yh (kP T.aA (jq T) hr (zc xv (zc xv zg))))) (zm (yh (zp (k:=0) (za (kP T.az (U2 T) hr (zc xv (zc xv zg))) zh)))))
noncomputable def pP:EF:=(iR (lsD (e1 (gm [4] "arrows") (eV 0))) 1 [0] (gV 0) mK (λρ=>((λρ=>((eV 0) ρ).bind λo=>((aCons (e1 (gm [4] "names") (eV 1)) aNil) ρ).bind λds=>ik 1 "row" lI o (ds++[])) ρ).or ((λρ=>((λρ=>((eV 0) ρ).bind λo=>((aCons (e1 (gm [4] "names") (eV 1)) aNil) ρ).bind λds=>ik 2 "row" lJ o (ds++[])) ρ).or ((λρ=>((eV 0) ρ).bind λo=>((aCons (e1 (gm [4] "names") (eV 1)) aNil) ρ).bind λds=>ik 3 "row" lH o (ds++[])) ρ)) ρ)))
noncomputable def o9:List D->Option D:=mOf ["net"]
  (sRet (e2 lG (eC (.str "\n")) (e2 cA (λρ=>((aCons (e2 lG (eC (.str " ")) (e2 cA (λρ=>((aCons (eC (.str "goings")) aNil) ρ).bind λds=>some (.lst ds)) (e1 (gm [4] "names") (eV 0)))) aNil) ρ).bind λds=>some (.lst ds)) pP)))
theorem O2 (T:Txt K mg a):dM P w K mg base gC 5 a.a8 a.a9 ["net"] (kd K a.ct [0] 0 o9) :=
 lf (ms:=mO [0]) T.aC.fn λ_ _ _ _ _ _ hr nd=>(zm (nG (ut (k:=0) (zf (n:=0)) (dX (dP (dX (zp (k:=0) (za (XE.ow (ut (k:=0) (zf (n:=0)) (dX (dP (dX (zp (k:=0) (za (XE.ow (zf (n:=0))) zh))) (rh xv T.a3))))) zh))) (dX (GJ (N:=["arrow","net"]) (om:=mO [0]) (cap:=[0]) (own:=1) (wo (n:=0) (rh xv T.a0)) (λ_ _ _ _ _ h=>(vG h)) (λ_ _ _ _ _=>x8) (λ_ _ _ _ _=>(ub (yf (n:=0) (c0:=1) (ns:=[0]) (nd:=[]) (mq:=[]) xv T.c.cl T.ab.me (VM T) (hr.mono (by decide)) T.ab.bd .nil (λ_ _=>.nil) (zc (rh xv T.a3) zg)) (ub (yf (n:=0) (c0:=2) (ns:=[0]) (nd:=[]) (mq:=[]) xv T.d.cl T.ac.me (VN T) (hr.mono (by decide)) T.ac.bd .nil (λ_ _=>.nil) (zc (rh xv T.a3) zg)) (yf (n:=0) (c0:=3) (ns:=[0]) (nd:=[]) (mq:=[]) xv T.e.cl T.ad.me (VO T) (hr.mono (by decide)) T.ad.bd .nil (λ_ _=>.nil) (zc (rh xv T.a3) zg))))))))))))
noncomputable def nX:EF:=(iR (lsD (e2 oN (eV 0) (eC (.str "\n")))) 1 [] (gV 0) mK (e2 oN (eV 0) (eC (.str " "))))
noncomputable def fS:oj:=(sSeqX (sIfX (bNot (tb (cl dE (aCons (e2 eJ (eV 1) (eV 4)) aNil)))) (sRaise (λρ=>((eV 4) ρ).bind λd=>(oo d).bind λd=>some (.exc 12 ["at"] [d]))) (xOf sSkip))
  (sSeqX (sDropX (λρ=>((aCons (cl fR (aCons (e2 eJ (eV 1) (eV 4)) aNil)) (aCons (eV 2) aNil)) ρ).bind λds=>fV (ds++[])))
  (xOf (AT 3 (cl fH (aCons (e2 eJ (eV 1) (eV 4)) (aCons (eV 2) aNil)))))))
noncomputable def f6:List D->Option mI:=mOfX ["text","rows","names","arrows","number"]
  (sSeqX (sIfX (bNot (tb (e1 (mw "str") (eV 0)))) (sRaise (λρ=>((eC (.int 0)) ρ).bind λd=>(oo d).bind λd=>some (.exc 12 ["at"] [d]))) (xOf sSkip))
  (sSeqX (xOf (sSet 1 nX))
  (sSeqX (sIfX (tb (e2 (iz true) (e2 eJ (e2 eJ (eV 1) (eC (.int 0))) (eC (.int 0))) (eC (.str "goings")))) (sRaise (λρ=>((eC (.int 0)) ρ).bind λd=>(oo d).bind λd=>some (.exc 12 ["at"] [d]))) (xOf sSkip))
  (sSeqX (xOf (sSet 2 (λρ=>((e2 eJ (eV 1) (eC (.int 0))) ρ).bind λd=>((pInt (eC (.int 1))) ρ).bind λl=>(pNo ρ).bind λh=>eU d l h)))
  (sSeqX (xOf (sSet 3 (λρ=>(aNil ρ).bind λds=>some (.lst ds))))
  (sSeqX (sForX (λρ=>((aCons (eC (.int 1)) (aCons (eN gx (aCons (eV 1) aNil)) aNil)) ρ).bind yO) (gV 4) fS)
  (DA 3 (sRetX (λρ=>((aCons (eV 2) (aCons (eV 3) aNil)) ρ).bind λds=>dF 4 (ds++[]))))))))))
theorem O3 (T:Txt K mg a):dM P w K mg base (uY P w) 6 a.ba a.bb ["text"] (sZ K a.ct [0] 0 f6):=by
 have rT:=Ve (P:=P) (w:=w) (base:=base) T;have oY:=u8 (P:=P) (w:=w) (base:=base) T;have lB:=U0 (P:=P) (w:=w) (base:=base) T;have pH:=jp (P:=P) (w:=w) (base:=base) T;have rc:=U1 (P:=P) (w:=w) (base:=base) T;have qI:=qf (P:=P) (w:=w) (base:=base) T;refine Cz (ms:=mO [0,0,0,1,0]) T.aD.fn GO rfl rfl (by decide) (wq (by decide)) λ_ _ _ _ _ _ hr=>?_;exact(yg (DS (w8 (xg (EI (k:=0) (by decide) T.bG T.bN EG (zn 0 0)))) (yq (xn rfl yu (u7 (c0:=12) (fn:="at") T.bi T.bh T.ap.me.at_ T.ap.me.fn lB (hr.mono (by decide)) T.n T.ap.bd dU))) (wt xi))
  (yg (IT (On (k:=0) (N:=["row"]) (om:=mO [0]) (cap:=[]) (own:=1) rfl GO.nd rfl (Or.inl rfl) (IZ (by rfl)) rfl rfl (by decide) (wo (n:=0) (XO.sh (n:=0) (O1 (zn 0 0) (zf (n:=0))))) (λ_ _ _ _ _=>(vG (show List.Nodup (["row"]:List Str)from by decide +kernel))) (λ_ _ _ _ _=>x8) (λ_ _ _ _ _=>(e9 (O1 (zn 0 0) (zf (n:=0)))))))
  (yg (DS (w6 (k:=0) (IW hr.u64) EH (jK (jK (zn 1 0) dU) dU) (zf (n:=0)) (kb _)) (yq (xn rfl yu (u7 (c0:=12) (fn:="at") T.bi T.bh T.ap.me.at_ T.ap.me.fn lB (hr.mono (by decide)) T.n T.ap.bd dU))) (wt xi))
  (yg (IT (kX GO.nd (e9 (yj (n:=0) (by decide) (jK (zn 1 0) dU) (yr dU) ji))))
  (yg (IT (kX GO.nd (zp (k:=0) zh)))
  (yg (Mf (Xg (n:=0) T.bL (zc dU (zc (rF T.bH (zc (zn 1 0) zg)) zg))) (pB GO.nd) (yg (DS (w8 (xg (XO.sh (n:=0) (kP T.aw pH hr (zc (jK (zn 1 0) (zn 4 0)) zg))))) (yq (xn rfl yu (u7 (c0:=12) (fn:="at") T.bi T.bh T.ap.me.at_ T.ap.me.fn lB (hr.mono (by decide)) T.n T.ap.bd (zn 4 0)))) (wt xi))
  (yg (OY (OZ (mq:=[]) (ns:=[0,0]) (nd:=[]) yu oY (hr.mono (by decide)) rfl T.ay.mgx T.ay.fn.kp T.ay.bd .nil (λ_ _=>.nil) (zc (XO.sh (n:=0) (kP T.ax rc hr (zc (jK (zn 1 0) (zn 4 0)) zg))) (zc (zn 2 0) zg))))
  (wt (zm (Xa 3 rfl (kP T.aB qI hr (zc (jK (zn 1 0) (zn 4 0)) (zc (zn 2 0) zg)))))))) gj.leaving rfl)
  (ZY (i:=3) rfl (yq (ZU (zuq (Ya (c0:=4) (mq:=[]) (ns:=[0,0]) (nd:=[]) yu ⟨T.f.mks,T.ar.me.at_,T.ar.me.fn,T.f.kp⟩ (by decide) rT (hr.mono (by decide)) rfl T.f.mgx T.ar.bd .nil (λ_ _=>.nil) (zc (zn 2 0) (zc (zn 3 0) zg)))))))))))))
noncomputable def tG:List D->Option D:=An f6
theorem P4 (T:Txt K mg a):dM P w K mg base gC 6 a.ba a.bb ["text"] (kd K a.ct [0] 0 tG):=Z0 (O3 T)
noncomputable def eY:List D->Option D:=mOf ["_law_script","_law_k"]
  (sSeq (sIf (tb (e2 yM (eV 1) (eN gx (aCons (eV 0) aNil)))) (sRet (e2 eJ (eV 0) (eV 1))) sSkip)
  (sRet (eC (.int 0))))
theorem xa (T:Txt K mg a):dM P w K mg base gC 1 a.bc a.bd ["_law_script","_law_k"] (kd K a.ct [0,0] 0 eY) :=
 lf (ms:=mO [0,0]) T.aE.fn λ_ _ _ _ _ _ hr nd=>(ze (qV (CJ xv (rF T.bH (zc xv zg))) (nG (jK xv xv))) (zm (nG dU)))
noncomputable def gc:List D->Option D:=mOf ["_law_cell","_law_k","_law_number"]
  (sSeq (sIf (bAnd (tb (e2 D8 (eV 0) (e2 BW (eC (.int 1)) (eC (.int 90))))) (tb (e2 Ap (e2 yQ (eV 0) (e2 cA (eC (.int 64)) (e2 jJ (eC (.int 31)) (eV 1)))) (eC (.int 0))))) (sRet (e2 fM (e2 yQ (eV 0) (e2 cA (eC (.int 64)) (e2 jJ (eC (.int 31)) (eV 1)))) (eC (.int 2147483648)))) sSkip)
  (sSeq (sSet 2 (e2 fM (e2 jJ (e2 cA (e2 cA (eV 0) (e2 jJ (eC (.int 7919)) (eV 1))) (eC (.int 1))) (eC (.int 48271))) (eC (.int 2147483647))))
  (sSeq (sSet 2 (e2 fM (e2 jJ (eV 2) (e2 cA (e2 fZ (eV 2) (eC (.int 1009))) (eC (.int 69621)))) (eC (.int 2147483647))))
  (sRet (e2 fM (e2 jJ (eV 2) (e2 cA (e2 fZ (eV 2) (eC (.int 1013))) (eC (.int 16807)))) (eC (.int 2147483647)))))))
theorem xh (T:Txt K mg a):dM P w K mg base gC 1 a.be a.bf ["_law_cell","_law_k"] (kd K a.ct [0,0] 0 gc) :=
 lf (ms:=mO [0,0,0]) T.aF.fn λ_ _ _ _ _ _ hr nd=>(ze (qV (XW.t (QS (NW xv (Bp (k:=0) ztc Y4 dU dU)) (PU (Ex (Bp (k:=0) QL PY xv (dX (dP dU (tH dU xv)))) dU)))) (nG (oMod (Bp (k:=0) QL PY xv (dX (dP dU (tH dU xv)))) dU))) (ze (oO nd (oMod (tH (dX (dP (dX (dP xv (tH dU xv))) dU)) dU) dU)) (ze (oO nd (oMod (tH xv (dX (dP (oDiv xv dU) dU))) dU)) (zm (nG (oMod (tH xv (dX (dP (oDiv xv dU) dU))) dU))))))
noncomputable def kF:SF:=(sSeq (sSet 10 (e2 cA (e2 fZ (eV 0) (e2 cA (eC (.int 64)) (e2 jJ (eC (.int 37)) (eV 9)))) (e2 jJ (eV 7) (eN tE (aCons (e2 (iz false) (eV 9) (eV 5)) aNil)))))
  (sIf (tb (e2 (iz false) (eV 9) (eC (.int 0)))) (sSet 8 (e2 eJ (eV 2) (e2 fM (eV 10) (eC (.int 26))))) (sSet 8 (e2 cA (eV 8) (e2 eJ (eV 3) (e2 fM (eV 10) (eC (.int 36))))))))
noncomputable def ig:SF:=(sSeq (sSet 8 (eC (.str "")))
  (sSeq (sFor (λρ=>((aCons (eV 4) aNil) ρ).bind si) (gV 9) kF)
  (sApp 6 (eV 8))))
noncomputable def iD:List D->Option D:=mOf ["_law_cell","_law_many","_law_letters","_law_signs","_law_size","_law_at","_law_names_here","_law_k","_law_name","_law_j","_law_sign"]
  (sSeq (sSet 2 (eC (.str "abcdefghijklmnopqrstuvwxyz")))
  (sSeq (sSet 3 (e2 cA (eV 2) (eC (.str "0123456789"))))
  (sSeq (sSet 4 (e2 cA (eC (.int 1)) (e2 fM (eV 0) (eC (.int 8)))))
  (sSeq (sSet 5 (e2 fM (e2 fZ (eV 0) (eC (.int 8))) (eV 4)))
  (sSeq (sSet 6 (λρ=>(aNil ρ).bind λds=>some (.lst ds)))
  (sSeq (sFor (λρ=>((aCons (eV 1) aNil) ρ).bind si) (gV 7) ig)
  (sRet (eV 6))))))))
theorem VH (T:Txt K mg a):dM P w K mg base gC 1 a.bg a.bh ["_law_cell","_law_many"] (kd K a.ct [0,0] 0 iD) :=
 lf (ms:=mO [0,0,0,0,0,0,1,0,0,0,0]) T.aG.fn λ_ _ _ _ _ _ hr nd=>(ze (oO nd (zf (n:=0))) (ze (kX nd (e9 (dP xv (zf (n:=0))))) (ze (kX nd (e9 (dP dU (oMod xv dU)))) (ze (oO nd (oMod (oDiv xv dU) xv)) (ze (kX nd (zp (k:=0) zh)) (ze (xF (vi (n:=0) T.bL (zc xv zg)) (pB nd) (ze (oO nd (zf (n:=0))) (ze (xF (vi (n:=0) T.bL (zc xv zg)) (pB nd) (ze (kX nd (e9 (dP (oDiv xv (dX (dP dU (tH dU xv)))) (tH xv (z8 (k:=0) OC P9 rfl T.bF uc (zc (vEq hr xv xv) zg)))))) (zm (EO (tZ hr xv dU) (zm (oO nd (jK xv (oMod xv dU)))) (zm (kX nd (e9 (dP xv (jK xv (oMod xv dU)))))))))) (zm (ya 6 rfl (XE.ow xv)))))) (zm (Qh (i:=6) rfl))))))))
noncomputable def gI:List D->Option D:=mOf ["_law_cell","_law_k","_law_many","_law_number","_law_start","_law_goal","_law_behind","_law_more","_law_time","_law_word"]
  (sSeq (sSet 3 (cl gc (aCons (eV 0) (aCons (eV 1) aNil))))
  (sSeq (sSet 4 (e2 fM (eV 3) (eV 2)))
  (sSeq (sSet 5 (e2 fM (e2 fZ (eV 3) (eC (.int 8))) (eV 2)))
  (sSeq (sSet 6 (e2 eJ (λρ=>((aCons (eC (.int 0)) (aCons (eC (.int 0)) (aCons (eC (.int 1)) (aCons (eC (.int 1)) (aCons (eC (.int 2)) (aCons (eC (.int 3)) (aCons (eC (.int 4)) aNil))))))) ρ).bind λds=>some (.lst ds)) (e2 fM (e2 fZ (eV 3) (eC (.int 64))) (eC (.int 7)))))
  (sSeq (sIf (tb (e2 (iz false) (eV 4) (eV 5))) (sSet 6 (eN sK (aCons (eC (.int 1)) (aCons (eV 6) aNil)))) sSkip)
  (sSeq (sIf (tb (e2 (iz false) (eV 6) (eC (.int 0)))) (sPar 4 5 (aCons (eN xG (aCons (eV 4) (aCons (eV 5) aNil))) (aCons (eN sK (aCons (eV 4) (aCons (eV 5) aNil))) aNil))) sSkip)
  (sSeq (sSet 7 (e2 fZ (eV 3) (eC (.int 512))))
  (sSeq (sSet 8 (e2 eJ (λρ=>((aCons (e2 fM (eV 7) (eC (.int 10))) (aCons (e2 fM (eV 7) (e2 cA (e2 AQ (eC (.int 10)) (eC (.int 9))) (eC (.int 1)))) (aCons (e2 AQ (eC (.int 10)) (eC (.int 9))) (aCons (eC (.int 0)) aNil)))) ρ).bind λds=>some (.lst ds)) (e2 fM (e2 fZ (eV 3) (eC (.int 448))) (eC (.int 4)))))
  (sSeq (sSet 9 (e2 eJ (λρ=>((aCons (eC (.str "wait")) (aCons (eC (.str "ride")) (aCons (eC (.str "wait")) (aCons (eC (.str "back")) aNil)))) ρ).bind λds=>some (.lst ds)) (e2 cA (e2 jJ (eC (.int 2)) (eN tE (aCons (e2 Ap (eV 6) (eC (.int 0))) aNil))) (e2 fM (e2 fZ (eV 3) (eC (.int 1792))) (eC (.int 2))))))
  (sRet (λρ=>((aCons (eV 9) (aCons (eV 4) (aCons (eV 5) (aCons (eV 8) (aCons (eV 6) aNil))))) ρ).bind λds=>some (.tup ds))))))))))))
theorem VI (T:Txt K mg a):dM P w K mg base gC 2 a.bi a.bj ["_law_cell","_law_k","_law_many"] (kd K a.ct [0,0,0] 0 gI) :=
 lf (ms:=mO [0,0,0,0,0,0,0,0,0,0]) T.aH.fn λ_ _ _ _ _ _ hr nd=>(ze (kX nd (kP T.aF (xh T) hr (zc xv (zc xv zg)))) (ze (oO nd (oMod xv xv)) (ze (oO nd (oMod (oDiv xv dU) xv)) (ze (oO nd (jK (dX (zp (k:=0) (za (XE.ow dU) (za (XE.ow dU) (za (XE.ow dU) (za (XE.ow dU) (za (XE.ow dU) (za (XE.ow dU) (za (XE.ow dU) zh))))))))) (oMod (oDiv xv dU) dU))) (ze (qV (tZ hr xv xv) (oO nd (wm (k:=0) (OB rfl) Pg rfl T.bJ QP (zc dU (zc xv zg))))) (ze (qV (tZ hr xv dU) (zug rfl rfl rfl nd rfl rfl (by decide) rfl rfl (zc (wm (k:=0) (Wo rfl) Yo rfl T.bK zty (zc xv (zc xv zg))) (zc (wm (k:=0) (OB rfl) Pg rfl T.bJ QP (zc xv (zc xv zg))) zg)) rfl)) (ze (oO nd (oDiv xv dU)) (ze (oO nd (jK (dX (zp (k:=0) (za (XE.ow (oMod xv dU)) (za (XE.ow (oMod xv (dX (dP (Bp (k:=0) QK PX dU dU) dU)))) (za (XE.ow (Bp (k:=0) QK PX dU dU)) (za (XE.ow dU) zh)))))) (oMod (oDiv xv dU) dU))) (ze (oO nd (jK (dX (zp (k:=0) (za (XE.ow (zf (n:=0))) (za (XE.ow (zf (n:=0))) (za (XE.ow (zf (n:=0))) (za (XE.ow (zf (n:=0))) zh)))))) (dX (dP (tH dU (z8 (k:=0) OC P9 rfl T.bF uc (zc (UF xv dU) zg))) (oMod (oDiv xv dU) dU))))) (zm (yh (e9 (zt (za (XE.ow xv) (za (XE.ow xv) (za (XE.ow xv) (za (XE.ow xv) (za (XE.ow xv) zh))))))))))))))))))
noncomputable def nW:List D->Option D:=mOf ["_law_names_here","_law_arrow_here","_law_word","_law_start","_law_goal","_law_time","_law_behind","_law_row_here"]
  (sSeq (sAsg (gT (gsCons (gV 2) (gsCons (gV 3) (gsCons (gV 4) (gsCons (gV 5) (gsCons (gV 6) gsNil)))))) (eV 1))
  (sSeq (sSet 7 (e2 cA (e2 cA (e2 cA (e2 cA (eV 2) (eC (.str " "))) (e2 eJ (eV 0) (eV 3))) (eC (.str " "))) (e2 eJ (eV 0) (eV 4))))
  (sSeq (sSet 7 (e2 cA (e2 cA (eV 7) (eC (.str " "))) (eN wK (aCons (eV 5) aNil))))
  (sSeq (sIf (tb (e2 (iz true) (eV 2) (eC (.str "ride")))) (sSet 7 (e2 cA (e2 cA (eV 7) (eC (.str " "))) (eN wK (aCons (eV 6) aNil)))) sSkip)
  (sRet (eV 7))))))
theorem WE (T:Txt K mg a):dM P w K mg base gC 1 a.bk a.bl ["_law_names_here","_law_arrow_here"] (kd K a.ct [0,0] 0 nW) :=
 lf (ms:=mO [0,0,0,0,0,0,0,0]) T.aI.fn λ_ _ _ _ _ _ hr nd=>(ze (DQ xv (DP (n:=0) rfl (zu (pB nd) (zu (pB nd) (zu (pB nd) (zu (pB nd) (zu (pB nd) wn))))))) (ze (kX nd (e9 (dP (dX (dP (dX (dP (dX (dP xv (zf (n:=0)))) (jK xv xv))) (zf (n:=0)))) (jK xv xv)))) (ze (kX nd (e9 (dP (dX (dP xv (zf (n:=0)))) (z8 (k:=0) xq II rfl T.bN EG (zc xv zg))))) (ze (qV (Li hr xv (zf (n:=0))) (kX nd (e9 (dP (dX (dP xv (zf (n:=0)))) (z8 (k:=0) xq II rfl T.bN EG (zc xv zg)))))) (zm (nG xv))))))
noncomputable def m6:EF:=(iR (lsD (eV 1)) 1 [0] (gV 0) mK (cl nW (aCons (eV 1) (aCons (eV 0) aNil))))
noncomputable def m5:List D->Option D:=mOf ["_law_names_here","_law_plain"]
  (sRet (e2 cA (λρ=>((aCons (e2 lG (eC (.str " ")) (e2 cA (λρ=>((aCons (eC (.str "goings")) aNil) ρ).bind λds=>some (.lst ds)) (eV 0))) aNil) ρ).bind λds=>some (.lst ds)) m6))
theorem VQ (T:Txt K mg a):dM P w K mg base gC 2 a.bm a.bn ["_law_names_here","_law_plain"] (kd K a.ct [0,0] 1 m5) :=
 lf (ms:=mO [0,0]) T.aJ.fn λ_ _ _ _ _ _ hr nd=>(zm (yh (dP (dX (zp (k:=0) (za (XE.ow (ut (k:=0) (zf (n:=0)) (dX (dP (dX (zp (k:=0) (za (XE.ow (zf (n:=0))) zh))) xv)))) zh))) (dX (GJ (N:=["_law_arrow_here","_law_names_here"]) (om:=mO [0]) (cap:=[0]) (own:=1) (wo (n:=0) xv) (λ_ _ _ _ _ h=>(vG h)) (λ_ _ _ _ _=>x8) (λ_ _ _ _ _=>(kP T.aI (WE T) hr (zc xv (zc xv zg)))))))))
noncomputable def tK:EF:=(iR (KI 0 (eV 1)) 1 [] (gV 0) (tb (eV 0)) (eV 0))
noncomputable def gJ:List D->Option D:=mOf ["_law_e","_law_some"]
  (sSeq (sSet 1 (λρ=>((aCons (e1 (isiX [6,7,13,12] [12]) (eV 0)) (aCons (e1 (isiX [6,7,13,12] [13]) (eV 0)) (aCons (e1 (isiX [6,7,13,12] [6]) (eV 0)) (aCons (e1 (isiX [6,7,13,12] [7]) (eV 0)) aNil)))) ρ).bind λds=>some (.lst ds)))
  (sSeq (sSet 1 (e2 cA (eV 1) (λρ=>((aCons (e1 (isiX [6,7,13,12] []) (eV 0)) (aCons (e1 (isiX [6,7,13,12] []) (eV 0)) (aCons (e1 (isiX [6,7,13,12] []) (eV 0)) (aCons (e1 (isiX [6,7,13,12] []) (eV 0)) aNil)))) ρ).bind λds=>some (.lst ds))))
  (sSeq (sIf (bOr (bNot (tb (e1 (isiX [6,7,13,12] [6,7,13,12]) (eV 0)))) (tb (e2 (iz true) (eN gx (aCons tK aNil)) (eC (.int 1))))) (sRet (λρ=>((aCons (eC (.str "other")) (aCons (eC .non) aNil)) ρ).bind λds=>some (.tup ds))) sSkip)
  (sRet (λρ=>((aCons (e2 eJ (λρ=>((aCons (eC (.str "row")) (aCons (eC (.str "name")) (aCons (eC (.str "net")) (aCons (eC (.str "stuck")) (aCons (eC (.str "")) (aCons (eC (.str "")) (aCons (eC (.str "")) (aCons (eC (.str "")) aNil)))))))) ρ).bind λds=>some (.lst ds)) (e2 oK (eV 1) (eC (.bl true)))) (aCons (eC .non) aNil)) ρ).bind λds=>some (.tup ds))))))
theorem xu (T:Txt K mg a):sx G5 P w K mg base 1 a.bo a.bp ["_law_e"] (kd K a.ct [1] 0 gJ):=by
 refine KH (ms:=mO [0]) T.aK.fn uv λ_ _ _ _ _ _ _ hr hA=>?_;exact(ze (kX uv.nd (e9 (zp (k:=0) (za (XE.ow (jw (k:=0) T.bn.1 T.bn.2 T.bG T.n (zn 0 1))) (za (XE.ow (jw (k:=0) T.bo.1 T.bo.2 T.bG T.o (zn 0 1))) (za (XE.ow (jw (k:=0) T.bp.1 T.bp.2 T.bG T.h (zn 0 1))) (za (XE.ow (jw (k:=0) T.bq.1 T.bq.2 T.bG T.i (zn 0 1))) zh)))))))
  (ze (kX uv.nd (e9 (dP (zn 1 0) (XO.sh (n:=0) (zp (k:=0) (za (XE.ow (jw (k:=0) T.br.1 T.br.2 T.bG T.j (zn 0 1))) (za (XE.ow (jw (k:=0) T.bs.1 T.bs.2 T.bG T.k (zn 0 1))) (za (XE.ow (jw (k:=0) T.bt.1 T.bt.2 T.bG T.l (zn 0 1))) (za (XE.ow (jw (k:=0) T.bu.1 T.bu.2 T.bG T.m (zn 0 1))) zh)))))))))
  (ze (EO (XW.t (jg (w8 (xg (ZW (k:=0) T.bv.1 T.bv.2 T.bG T.bB (zn 0 1)))) (ud (w6 (k:=0) (IW hr.u64) EH (rF T.bH (zc (XO.sh (n:=0) (P5 (N:=["_law_one"]) (om:=mO [0]) (cap:=[]) (own:=1) (IZ (by rfl)) trivial rfl (λ_ h=>nomatch h) (Xd (i:=0) hA rfl (zn 1 0)) (λ_ _ _ _ _=>(vG (show List.Nodup (["_law_one"]:List Str)from by decide +kernel))) (λ_ _ _ _ _=>(IE (xg (zn 0 0)))) (λ_ _ _ _ _=>(XE.ow (zn 0 0))))) zg)) dU (kb _))))) (zm (yh (e9 (zt (za (XE.ow (zf (n:=0))) (za (XE.ow yS) zh)))))) xi)
  (zm (yh (e9 (zt (za (XE.ow (jK (XO.sh (n:=0) (zp (k:=0) (za (XE.ow (zf (n:=0))) (za (XE.ow (zf (n:=0))) (za (XE.ow (zf (n:=0))) (za (XE.ow (zf (n:=0))) (za (XE.ow (zf (n:=0))) (za (XE.ow (zf (n:=0))) (za (XE.ow (zf (n:=0))) (za (XE.ow (zf (n:=0))) zh)))))))))) (qv (k:=0) (zn 1 0) (j5 (n:=0))))) (za (XE.ow yS) zh)))))))))
noncomputable def iE:List D->Option D:=mOf ["_law_text","_law_found","_law_field","_law_e"]
  (sSeq (sSet 1 (λρ=>((aCons (eC (.str "read")) (aCons (eC .non) aNil)) ρ).bind λds=>some (.tup ds)))
  (sSeq (sSet 2 (eC .non))
  (sSeq (sTry (sDropX (λρ=>((aCons (eV 0) aNil) ρ).bind λds=>f6 (ds++[]))) (thD (hitL [6,7,13,12] [12]) (some 3) (sSeq (sSet 1 (λρ=>(eV 3 ρ).bind λd=>gJ [d]))
  (sSet 2 (e1 (fldX [6,12] "at") (eV 3)))) (thD (hitL [6,7,13,12] [13]) (some 3) (sSeq (sSet 1 (λρ=>(eV 3 ρ).bind λd=>gJ [d]))
  (sSet 2 (e1 (fldX [13] "name") (eV 3)))) (thD (hitL [6,7,13,12] [6]) (some 3) (sSeq (sSet 1 (λρ=>(eV 3 ρ).bind λd=>gJ [d]))
  (sSet 2 (e1 (fldX [6,12] "at") (eV 3)))) (thD (hitL [6,7,13,12] [6,7,13,12]) (some 3) (sSet 1 (λρ=>(eV 3 ρ).bind λd=>gJ [d])) (λ_ _ _=>none))))))
  (sSeq (sIf (tb (e1 (mw "bool") (eV 2))) (sRet (λρ=>((aCons (eC (.str "truth")) (aCons (eC .non) aNil)) ρ).bind λds=>some (.tup ds))) sSkip)
  (sRet (λρ=>((aCons (e2 eJ (eV 1) (eC (.int 0))) (aCons (eV 2) aNil)) ρ).bind λds=>some (.tup ds)))))))
theorem Oa (T:Txt K mg a):dM P w K mg base gC 7 a.bq a.br ["_law_text"] (kd K a.ct [0] 0 iE) :=
 lf (ms:=mO [0,0,0,0]) T.aL.fn λ_ _ _ _ _ _ hr nd=>(ze (kX nd (e9 (zt (za (XE.ow (zf (n:=0))) (za (XE.ow yS) zh))))) (ze (oO nd yS) (ze (zup (λE bX G h1 h2=>(yq (OY (OZ (mq:=[]) (ns:=[0]) (nd:=[]) h2 (O3 T) (hr.mono (by decide)) rfl T.aD.mgx T.aD.fn.kp T.aD.bd .nil (λ_ _=>.nil) (zc xv zg))))) (IK (i:=3) nd rfl rfl T.n (IU T.bw) (λa=>(ze (kX nd (qw (a:=a) (xu T) ((hr.hm _).mono (by decide)) rfl T.aK.mgx T.aK.fn.kp T.aK.bd)) (zm (oO nd (Mg (k:=0) xv T.bl rfl))))) (IK (i:=3) nd rfl rfl T.o (IU T.bx) (λa=>(ze (kX nd (qw (a:=a) (xu T) ((hr.hm _).mono (by decide)) rfl T.aK.mgx T.aK.fn.kp T.aK.bd)) (zm (oO nd (Mg (k:=0) xv T.bm rfl))))) (IK (i:=3) nd rfl rfl T.h (IU T.bz) (λa=>(ze (kX nd (qw (a:=a) (xu T) ((hr.hm _).mono (by decide)) rfl T.aK.mgx T.aK.fn.kp T.aK.bd)) (zm (oO nd (Mg (k:=0) xv T.bl rfl))))) (IK (i:=3) nd rfl rfl T.g (IU T.bA) (λa=>(zm (kX nd (qw (a:=a) (xu T) ((hr.hm _).mono (by decide)) rfl T.aK.mgx T.aK.fn.kp T.aK.bd)))) ZV))))) (ze (qV (xg (EI (k:=0) (by decide) T.bG T.bD P1 xv)) (yh (e9 (zt (za (XE.ow (zf (n:=0))) (za (XE.ow yS) zh)))))) (zm (yh (e9 (zt (za (XE.ow (jK xv dU)) (za (XE.ow xv) zh))))))))))
noncomputable def hX:List D->Option D:=mOf ["_law_cell","_law_some"]
  (sSeq (sSet 1 (λρ=>((aCons (eC (.str "-1")) (aCons (eC (.str "+1")) (aCons (eC (.str "01")) (aCons (eC (.str "")) (aCons (eC (.str "1a")) (aCons (eC (.str "a")) (aCons (eC (.str "1.0")) (aCons (e2 cA (eC (.str "1")) (e2 Dp (eC (.str "0")) (eC (.int 15)))) (aCons (eC (.str "00")) (aCons (eC (.str "1_0")) (aCons (eC (.str "1,0")) (aCons (eC (.str "0x1")) (aCons (eC (.str "None")) (aCons (eC (.str "1/1")) (aCons (eC (.str "-0")) aNil))))))))))))))) ρ).bind λds=>some (.lst ds)))
  (sRet (e2 eJ (eV 1) (e2 fM (eV 0) (eC (.int 15))))))
theorem qj (T:Txt K mg a):dM P w K mg base gC 1 a.bs a.bt ["_law_cell"] (kd K a.ct [0] 0 hX) :=
 lf (ms:=mO [0,0]) T.aM.fn λ_ _ _ _ _ _ hr nd=>(ze (kX nd (e9 (zp (k:=0) (za (XE.ow (zf (n:=0))) (za (XE.ow (zf (n:=0))) (za (XE.ow (zf (n:=0))) (za (XE.ow (zf (n:=0))) (za (XE.ow (zf (n:=0))) (za (XE.ow (zf (n:=0))) (za (XE.ow (zf (n:=0))) (za (e9 (dP (zf (n:=0)) (Bp (k:=0) Xn Yc (zf (n:=0)) dU))) (za (XE.ow (zf (n:=0))) (za (XE.ow (zf (n:=0))) (za (XE.ow (zf (n:=0))) (za (XE.ow (zf (n:=0))) (za (XE.ow (zf (n:=0))) (za (XE.ow (zf (n:=0))) (za (XE.ow (zf (n:=0))) zh)))))))))))))))))) (zm (nG (jK xv (oMod xv dU)))))
noncomputable def ij:List D->Option D:=mOf ["_law_cell","_law_names_here"]
  (sRet (e2 eJ (λρ=>((aCons (eC (.str "")) (aCons (eC (.str "A")) (aCons (e1 GG (e2 eJ (eV 1) (eC (.int 0)))) (aCons (e2 cA (e2 cA (e2 eJ (eV 1) (eC (.int 0))) (e2 eJ (eV 1) (eC (.int 0)))) (eC (.str "q"))) (aCons (e2 cA (λρ=>((e2 eJ (eV 1) (eC (.int 0))) ρ).bind λd=>(pNo ρ).bind λl=>((pInt (e1 AM (eC (.int 1)))) ρ).bind λh=>wG d l h) (eC (.str "-"))) (aCons (eC (.str "9")) (aCons (eC (.str "Going")) aNil))))))) ρ).bind λds=>some (.lst ds)) (e2 fM (eV 0) (eC (.int 7)))))
theorem um (T:Txt K mg a):dM P w K mg base gC 1 a.bu a.bv ["_law_cell","_law_names_here"] (kd K a.ct [0,0] 0 ij) :=
 lf (ms:=mO [0,0]) T.aN.fn λ_ _ _ _ _ _ hr nd=>(zm (nG (jK (dX (zp (k:=0) (za (XE.ow (zf (n:=0))) (za (XE.ow (zf (n:=0))) (za (XE.ow (Yg (k:=0) (jK xv dU))) (za (e9 (dP (dX (dP (jK xv dU) (jK xv dU))) (zf (n:=0)))) (za (e9 (dP (Xo (k:=0) (jK xv dU) ji (yr (MA (k:=0) dU))) (zf (n:=0)))) (za (XE.ow (zf (n:=0))) (za (XE.ow (zf (n:=0))) zh))))))))) (oMod xv dU))))
noncomputable def gb:List D->Option D:=mOf ["_law_cell","_law_names_here","_law_one","_law_two","_law_bad","_law_some"]
  (sSeq (sAsg (gL (gsCons (gV 2) (gsCons (gV 3) gsNil))) (λρ=>((eV 1) ρ).bind λd=>(pNo ρ).bind λl=>((pInt (eC (.int 2))) ρ).bind λh=>eU d l h))
  (sSeq (sSet 4 (cl hX (aCons (e2 fZ (eV 0) (eC (.int 20))) aNil)))
  (sSeq (sSet 5 (λρ=>((aCons (eC (.str "")) (aCons (e2 cA (e2 cA (e2 cA (e2 cA (eC (.str " ride ")) (eV 2)) (eC (.str " "))) (eV 3)) (eC (.str " 5"))) (aCons (e2 cA (e2 cA (e2 cA (eC (.str "ride ")) (eV 2)) (eC (.str " "))) (eV 3)) (aCons (e2 cA (e2 cA (e2 cA (e2 cA (eC (.str "ride ")) (eV 2)) (eC (.str " "))) (eV 3)) (eC (.str " 5 0"))) aNil)))) ρ).bind λds=>some (.lst ds)))
  (sSeq (sSet 5 (e2 cA (eV 5) (λρ=>((aCons (e2 cA (e2 cA (e2 cA (e2 cA (eC (.str "wait ")) (eV 2)) (eC (.str " "))) (eV 3)) (eC (.str " 5"))) (aCons (e2 cA (e2 cA (e2 cA (e2 cA (eC (.str "back ")) (eV 2)) (eC (.str " "))) (eV 3)) (eC (.str " 5"))) (aCons (e2 cA (e2 cA (e2 cA (e2 cA (eC (.str "Ride ")) (eV 2)) (eC (.str " "))) (eV 3)) (eC (.str " 5"))) aNil))) ρ).bind λds=>some (.lst ds))))
  (sSeq (sSet 5 (e2 cA (eV 5) (λρ=>((aCons (e2 cA (e2 cA (e2 cA (e2 cA (eC (.str "wait ")) (eV 2)) (eC (.str " "))) (eV 3)) (eC (.str " 5 0 "))) (aCons (e2 cA (e2 cA (e2 cA (e2 cA (e2 cA (eC (.str "ride ")) (eV 2)) (eC (.str " "))) (eV 3)) (eC (.str " "))) (eV 4)) (aCons (eC (.str "rides")) aNil))) ρ).bind λds=>some (.lst ds))))
  (sSeq (sSet 5 (e2 cA (eV 5) (λρ=>((aCons (eC (.str "line")) (aCons (eC (.str "line 1")) aNil)) ρ).bind λds=>some (.lst ds))))
  (sSeq (sSet 5 (e2 cA (eV 5) (λρ=>((aCons (e2 cA (eC (.str "line 1 ")) (eV 2)) (aCons (e2 cA (e2 cA (e2 cA (eC (.str "line 1 ")) (eV 2)) (eC (.str " 5 "))) (eV 3)) (aCons (e2 cA (e2 cA (e2 cA (e2 cA (eC (.str "line ")) (eV 4)) (eC (.str " "))) (eV 2)) (eC (.str " 5"))) aNil))) ρ).bind λds=>some (.lst ds))))
  (sSeq (sSet 5 (e2 cA (eV 5) (λρ=>((aCons (e2 cA (e2 cA (e2 cA (eC (.str "line 1 ")) (eV 2)) (eC (.str " "))) (eV 4)) (aCons (e2 cA (eC (.str "goings ")) (eV 2)) (aCons (e2 cA (e2 cA (e2 cA (e2 cA (e2 cA (eC (.str "wait ")) (eV 2)) (eC (.str " "))) (eV 3)) (eC (.str " 5 "))) (eV 4)) aNil))) ρ).bind λds=>some (.lst ds))))
  (sSeq (sSet 5 (e2 cA (eV 5) (λρ=>((aCons (e2 cA (e2 cA (eC (.str "ride A ")) (eV 2)) (eC (.str " 01"))) (aCons (eC (.str "line 1 A x")) (aCons (e2 cA (e2 cA (eC (.str "wait A B ")) (eV 4)) (eC (.str " 0"))) (aCons (e2 cA (e2 cA (eC (.str "line ")) (eV 4)) (eC (.str " A 5"))) aNil)))) ρ).bind λds=>some (.lst ds))))
  (sRet (e2 eJ (e2 cA (eV 5) (λρ=>((aCons (e2 cA (e2 cA (e2 cA (e2 cA (e2 cA (e2 cA (eC (.str "back ")) (eV 2)) (eC (.str " "))) (eV 3)) (eC (.str " "))) (eV 4)) (eC (.str " 1"))) (aCons (eC (.str "cut 0")) aNil)) ρ).bind λds=>some (.lst ds))) (e2 fM (eV 0) (eC (.int 24))))))))))))))
theorem uo (T:Txt K mg a):dM P w K mg base gC 2 a.bw a.bx ["_law_cell","_law_names_here"] (kd K a.ct [0,0] 0 gb) :=
 lf (ms:=mO [0,0,0,0,0,0]) T.aO.fn λ_ _ _ _ _ _ hr nd=>(ze (DQ (dX (yj (n:=0) (by decide) xv ji (yr dU))) (Rc (n:=0) rfl (zu (pB nd) (zu (pB nd) wn)))) (ze (kX nd (kP T.aM (qj T) hr (zc (oDiv xv dU) zg))) (ze (kX nd (e9 (zp (k:=0) (za (XE.ow (zf (n:=0))) (za (e9 (dP (dX (dP (dX (dP (dX (dP (zf (n:=0)) xv)) (zf (n:=0)))) xv)) (zf (n:=0)))) (za (e9 (dP (dX (dP (dX (dP (zf (n:=0)) xv)) (zf (n:=0)))) xv)) (za (e9 (dP (dX (dP (dX (dP (dX (dP (zf (n:=0)) xv)) (zf (n:=0)))) xv)) (zf (n:=0)))) zh))))))) (ze (kX nd (e9 (dP xv (dX (zp (k:=0) (za (e9 (dP (dX (dP (dX (dP (dX (dP (zf (n:=0)) xv)) (zf (n:=0)))) xv)) (zf (n:=0)))) (za (e9 (dP (dX (dP (dX (dP (dX (dP (zf (n:=0)) xv)) (zf (n:=0)))) xv)) (zf (n:=0)))) (za (e9 (dP (dX (dP (dX (dP (dX (dP (zf (n:=0)) xv)) (zf (n:=0)))) xv)) (zf (n:=0)))) zh)))))))) (ze (kX nd (e9 (dP xv (dX (zp (k:=0) (za (e9 (dP (dX (dP (dX (dP (dX (dP (zf (n:=0)) xv)) (zf (n:=0)))) xv)) (zf (n:=0)))) (za (e9 (dP (dX (dP (dX (dP (dX (dP (dX (dP (zf (n:=0)) xv)) (zf (n:=0)))) xv)) (zf (n:=0)))) xv)) (za (XE.ow (zf (n:=0))) zh)))))))) (ze (kX nd (e9 (dP xv (dX (zp (k:=0) (za (XE.ow (zf (n:=0))) (za (XE.ow (zf (n:=0))) zh))))))) (ze (kX nd (e9 (dP xv (dX (zp (k:=0) (za (e9 (dP (zf (n:=0)) xv)) (za (e9 (dP (dX (dP (dX (dP (zf (n:=0)) xv)) (zf (n:=0)))) xv)) (za (e9 (dP (dX (dP (dX (dP (dX (dP (zf (n:=0)) xv)) (zf (n:=0)))) xv)) (zf (n:=0)))) zh)))))))) (ze (kX nd (e9 (dP xv (dX (zp (k:=0) (za (e9 (dP (dX (dP (dX (dP (zf (n:=0)) xv)) (zf (n:=0)))) xv)) (za (e9 (dP (zf (n:=0)) xv)) (za (e9 (dP (dX (dP (dX (dP (dX (dP (dX (dP (zf (n:=0)) xv)) (zf (n:=0)))) xv)) (zf (n:=0)))) xv)) zh)))))))) (ze (kX nd (e9 (dP xv (dX (zp (k:=0) (za (e9 (dP (dX (dP (zf (n:=0)) xv)) (zf (n:=0)))) (za (XE.ow (zf (n:=0))) (za (e9 (dP (dX (dP (zf (n:=0)) xv)) (zf (n:=0)))) (za (e9 (dP (dX (dP (zf (n:=0)) xv)) (zf (n:=0)))) zh))))))))) (zm (nG (jK (dX (dP xv (dX (zp (k:=0) (za (e9 (dP (dX (dP (dX (dP (dX (dP (dX (dP (dX (dP (zf (n:=0)) xv)) (zf (n:=0)))) xv)) (zf (n:=0)))) xv)) (zf (n:=0)))) (za (XE.ow (zf (n:=0))) zh)))))) (oMod xv dU)))))))))))))
noncomputable def gh:List D->Option D:=mOf ["_law_cell","_law_names_here","_law_one","_law_name","_law_other","_law_some"]
  (sSeq (sSet 2 (e2 eJ (eV 1) (eC (.int 0))))
  (sSeq (sSet 3 (cl ij (aCons (eV 0) (aCons (eV 1) aNil))))
  (sSeq (sSet 4 (cl ij (aCons (e2 fZ (eV 0) (eC (.int 7))) (aCons (eV 1) aNil))))
  (sSeq (sSet 5 (λρ=>((aCons (e2 cA (e2 cA (e2 cA (e2 cA (eC (.str "ride ")) (eV 3)) (eC (.str " "))) (eV 2)) (eC (.str " 5"))) (aCons (e2 cA (e2 cA (e2 cA (e2 cA (eC (.str "ride ")) (eV 2)) (eC (.str " "))) (eV 3)) (eC (.str " 5"))) (aCons (e2 cA (e2 cA (e2 cA (e2 cA (eC (.str "wait ")) (eV 3)) (eC (.str " "))) (eV 4)) (eC (.str " 5 0"))) aNil))) ρ).bind λds=>some (.lst ds)))
  (sSeq (sSet 5 (e2 cA (eV 5) (λρ=>((aCons (e2 cA (e2 cA (e2 cA (e2 cA (eC (.str "back ")) (eV 2)) (eC (.str " "))) (eV 3)) (eC (.str " 5 1"))) (aCons (e2 cA (e2 cA (e2 cA (e2 cA (e2 cA (e2 cA (eC (.str "line 2 ")) (eV 2)) (eC (.str " 5 "))) (eV 3)) (eC (.str " 3 "))) (eV 4)) (eC (.str " 1"))) aNil)) ρ).bind λds=>some (.lst ds))))
  (sRet (λρ=>((aCons (e2 eJ (eV 5) (e2 fM (e2 fZ (eV 0) (eC (.int 49))) (eC (.int 5)))) (aCons (eV 3) aNil)) ρ).bind λds=>some (.tup ds))))))))
theorem uq (T:Txt K mg a):dM P w K mg base gC 2 a.bz a.bA ["_law_cell","_law_names_here"] (kd K a.ct [0,0] 0 gh) :=
 lf (ms:=mO [0,0,0,0,0,0]) T.aP.fn λ_ _ _ _ _ _ hr nd=>(ze (oO nd (jK xv dU)) (ze (kX nd (kP T.aN (um T) hr (zc xv (zc xv zg)))) (ze (kX nd (kP T.aN (um T) hr (zc (oDiv xv dU) (zc xv zg)))) (ze (kX nd (e9 (zp (k:=0) (za (e9 (dP (dX (dP (dX (dP (dX (dP (zf (n:=0)) xv)) (zf (n:=0)))) xv)) (zf (n:=0)))) (za (e9 (dP (dX (dP (dX (dP (dX (dP (zf (n:=0)) xv)) (zf (n:=0)))) xv)) (zf (n:=0)))) (za (e9 (dP (dX (dP (dX (dP (dX (dP (zf (n:=0)) xv)) (zf (n:=0)))) xv)) (zf (n:=0)))) zh)))))) (ze (kX nd (e9 (dP xv (dX (zp (k:=0) (za (e9 (dP (dX (dP (dX (dP (dX (dP (zf (n:=0)) xv)) (zf (n:=0)))) xv)) (zf (n:=0)))) (za (e9 (dP (dX (dP (dX (dP (dX (dP (dX (dP (dX (dP (zf (n:=0)) xv)) (zf (n:=0)))) xv)) (zf (n:=0)))) xv)) (zf (n:=0)))) zh))))))) (zm (yh (e9 (zt (za (XE.ow (jK xv (oMod (oDiv xv dU) dU))) (za (XE.ow xv) zh)))))))))))
noncomputable def gF:List D->Option D:=mOf ["_law_cell","_law_rows_here","_law_names_here","_law_one","_law_two","_law_head","_law_number","_law_back","_law_some"]
  (sSeq (sAsg (gL (gsCons (gV 3) (gsCons (gV 4) gsNil))) (λρ=>((eV 2) ρ).bind λd=>(pNo ρ).bind λl=>((pInt (eC (.int 2))) ρ).bind λh=>eU d l h))
  (sSeq (sSet 5 (e2 eJ (eV 1) (eC (.int 0))))
  (sSeq (sSet 6 (e2 uM (eN gx (aCons (eV 1) aNil)) (eC (.int 1))))
  (sSeq (sSet 7 (λρ=>((aCons (e2 cA (e2 cA (e2 cA (e2 cA (eC (.str "back ")) (eV 4)) (eC (.str " "))) (eV 3)) (eC (.str " 5 1"))) aNil) ρ).bind λds=>some (.lst ds)))
  (sSeq (sSet 8 (λρ=>((aCons (λρ=>((aCons (e2 cA (e2 cA (eV 1) (λρ=>((aCons (e2 cA (e2 cA (e2 cA (e2 cA (eC (.str "wait ")) (eV 3)) (eC (.str " "))) (eV 4)) (eC (.str " 1000000001 0"))) aNil) ρ).bind λds=>some (.lst ds))) (eV 7)) (aCons (λρ=>((aCons (eC (.str "net")) (aCons (eV 6) aNil)) ρ).bind λds=>some (.tup ds)) aNil)) ρ).bind λds=>some (.tup ds)) aNil) ρ).bind λds=>some (.lst ds)))
  (sSeq (sApp 8 (λρ=>((aCons (e2 cA (eV 1) (λρ=>((aCons (e2 cA (e2 cA (e2 cA (e2 cA (eC (.str "wait ")) (eV 3)) (eC (.str " "))) (eV 4)) (eC (.str " 5 5"))) aNil) ρ).bind λds=>some (.lst ds))) (aCons (λρ=>((aCons (eC (.str "net")) (aCons (eV 6) aNil)) ρ).bind λds=>some (.tup ds)) aNil)) ρ).bind λds=>some (.tup ds)))
  (sSeq (sApp 8 (λρ=>((aCons (e2 cA (e2 cA (eV 1) (λρ=>((aCons (e2 cA (e2 cA (e2 cA (e2 cA (eC (.str "ride ")) (eV 3)) (eC (.str " "))) (eV 4)) (eC (.str " 999999999999999"))) aNil) ρ).bind λds=>some (.lst ds))) (eV 7)) (aCons (λρ=>((aCons (eC (.str "net")) (aCons (eV 6) aNil)) ρ).bind λds=>some (.tup ds)) aNil)) ρ).bind λds=>some (.tup ds)))
  (sSeq (sApp 8 (λρ=>((aCons (e2 cA (e2 cA (eV 1) (λρ=>((aCons (e2 cA (e2 cA (e2 cA (e2 cA (eC (.str "back ")) (eV 3)) (eC (.str " "))) (eV 4)) (eC (.str " 5 0"))) aNil) ρ).bind λds=>some (.lst ds))) (eV 7)) (aCons (λρ=>((aCons (eC (.str "net")) (aCons (eV 6) aNil)) ρ).bind λds=>some (.tup ds)) aNil)) ρ).bind λds=>some (.tup ds)))
  (sSeq (sApp 8 (λρ=>((aCons (e2 cA (eV 1) (λρ=>((aCons (e2 cA (e2 cA (eC (.str "line 0 ")) (eV 3)) (eC (.str " 5"))) aNil) ρ).bind λds=>some (.lst ds))) (aCons (λρ=>((aCons (eC (.str "net")) (aCons (eV 6) aNil)) ρ).bind λds=>some (.tup ds)) aNil)) ρ).bind λds=>some (.tup ds)))
  (sSeq (sApp 8 (λρ=>((aCons (e2 cA (e2 cA (λρ=>((aCons (e2 cA (e2 cA (eV 5) (eC (.str " "))) (eV 4)) aNil) ρ).bind λds=>some (.lst ds)) (λρ=>((eV 1) ρ).bind λd=>((pInt (eC (.int 1))) ρ).bind λl=>(pNo ρ).bind λh=>eU d l h)) (λρ=>((aCons (e2 cA (e2 cA (eC (.str "line 9 ")) (eV 3)) (eC (.str " 5"))) aNil) ρ).bind λds=>some (.lst ds))) (aCons (λρ=>((aCons (eC (.str "net")) (aCons (eC .non) aNil)) ρ).bind λds=>some (.tup ds)) aNil)) ρ).bind λds=>some (.tup ds)))
  (sSeq (sApp 8 (λρ=>((aCons (e2 cA (λρ=>((aCons (e2 cA (eV 5) (eC (.str " B"))) aNil) ρ).bind λds=>some (.lst ds)) (λρ=>((eV 1) ρ).bind λd=>((pInt (eC (.int 1))) ρ).bind λl=>(pNo ρ).bind λh=>eU d l h)) (aCons (λρ=>((aCons (eC (.str "net")) (aCons (eC .non) aNil)) ρ).bind λds=>some (.tup ds)) aNil)) ρ).bind λds=>some (.tup ds)))
  (sSeq (sApp 8 (λρ=>((aCons (e2 cA (λρ=>((aCons (e2 cA (eV 5) (eC (.str " "))) aNil) ρ).bind λds=>some (.lst ds)) (λρ=>((eV 1) ρ).bind λd=>((pInt (eC (.int 1))) ρ).bind λl=>(pNo ρ).bind λh=>eU d l h)) (aCons (λρ=>((aCons (eC (.str "net")) (aCons (eC .non) aNil)) ρ).bind λds=>some (.tup ds)) aNil)) ρ).bind λds=>some (.tup ds)))
  (sSeq (sApp 8 (λρ=>((aCons (e2 cA (eV 1) (e2 uJ (eV 7) (eC (.int 121)))) (aCons (λρ=>((aCons (eC (.str "net")) (aCons (eC .non) aNil)) ρ).bind λds=>some (.tup ds)) aNil)) ρ).bind λds=>some (.tup ds)))
  (sSeq (sApp 8 (λρ=>((aCons (e2 cA (eV 1) (λρ=>((aCons (e2 cA (e2 cA (e2 cA (e2 cA (eC (.str "ride ")) (eV 3)) (eC (.str " "))) (eV 4)) (eC (.str " 0"))) (aCons (e2 cA (e2 cA (e2 cA (e2 cA (eC (.str "wait ")) (eV 4)) (eC (.str " "))) (eV 3)) (eC (.str " 5 0"))) aNil)) ρ).bind λds=>some (.lst ds))) (aCons (λρ=>((aCons (eC (.str "stuck")) (aCons (eC .non) aNil)) ρ).bind λds=>some (.tup ds)) aNil)) ρ).bind λds=>some (.tup ds)))
  (sSeq (sApp 8 (λρ=>((aCons (e2 cA (eV 1) (λρ=>((aCons (e2 cA (e2 cA (e2 cA (e2 cA (eC (.str "ride ")) (eV 4)) (eC (.str " "))) (eV 4)) (eC (.str " 0"))) aNil) ρ).bind λds=>some (.lst ds))) (aCons (λρ=>((aCons (eC (.str "stuck")) (aCons (eC .non) aNil)) ρ).bind λds=>some (.tup ds)) aNil)) ρ).bind λds=>some (.tup ds)))
  (sRet (e2 eJ (eV 8) (e2 fM (eV 0) (eC (.int 11))))))))))))))))))))
theorem vd (T:Txt K mg a):dM P w K mg base gC 1 a.bB a.bC ["_law_cell","_law_rows_here","_law_names_here"] (kd K a.ct [0,0,0] 0 gF) :=
 lf (ms:=mO [0,0,0,0,0,0,0,1,1]) T.aQ.fn λ_ _ _ _ _ _ hr nd=>(ze (DQ (dX (yj (n:=0) (by decide) xv ji (yr dU))) (Rc (n:=0) rfl (zu (pB nd) (zu (pB nd) wn)))) (ze (oO nd (jK xv dU)) (ze (oO nd (Dr (rF T.bH (zc xv zg)) dU)) (ze (kX nd (zp (k:=0) (za (e9 (dP (dX (dP (dX (dP (dX (dP (zf (n:=0)) xv)) (zf (n:=0)))) xv)) (zf (n:=0)))) zh))) (ze (kX nd (zp (k:=0) (za (e9 (zt (za (e9 (Jh IG (IH (n:=0) (m:=1) (by decide) (by decide)) (dX (dP xv (dX (zp (k:=0) (za (e9 (dP (dX (dP (dX (dP (dX (dP (zf (n:=0)) xv)) (zf (n:=0)))) xv)) (zf (n:=0)))) zh))))) xv)) (za (e9 (zt (za (XE.ow (zf (n:=0))) (za (XE.ow xv) zh)))) zh)))) zh))) (ze (ya 8 rfl (e9 (zt (za (e9 (dP xv (dX (zp (k:=0) (za (e9 (dP (dX (dP (dX (dP (dX (dP (zf (n:=0)) xv)) (zf (n:=0)))) xv)) (zf (n:=0)))) zh))))) (za (e9 (zt (za (XE.ow (zf (n:=0))) (za (XE.ow xv) zh)))) zh))))) (ze (ya 8 rfl (e9 (zt (za (e9 (Jh IG (IH (n:=0) (m:=1) (by decide) (by decide)) (dX (dP xv (dX (zp (k:=0) (za (e9 (dP (dX (dP (dX (dP (dX (dP (zf (n:=0)) xv)) (zf (n:=0)))) xv)) (zf (n:=0)))) zh))))) xv)) (za (e9 (zt (za (XE.ow (zf (n:=0))) (za (XE.ow xv) zh)))) zh))))) (ze (ya 8 rfl (e9 (zt (za (e9 (Jh IG (IH (n:=0) (m:=1) (by decide) (by decide)) (dX (dP xv (dX (zp (k:=0) (za (e9 (dP (dX (dP (dX (dP (dX (dP (zf (n:=0)) xv)) (zf (n:=0)))) xv)) (zf (n:=0)))) zh))))) xv)) (za (e9 (zt (za (XE.ow (zf (n:=0))) (za (XE.ow xv) zh)))) zh))))) (ze (ya 8 rfl (e9 (zt (za (e9 (dP xv (dX (zp (k:=0) (za (e9 (dP (dX (dP (zf (n:=0)) xv)) (zf (n:=0)))) zh))))) (za (e9 (zt (za (XE.ow (zf (n:=0))) (za (XE.ow xv) zh)))) zh))))) (ze (ya 8 rfl (e9 (zt (za (e9 (dP (dX (dP (dX (zp (k:=0) (za (e9 (dP (dX (dP xv (zf (n:=0)))) xv)) zh))) (dX (yj (n:=0) (by decide) xv (yr dU) ji)))) (dX (zp (k:=0) (za (e9 (dP (dX (dP (zf (n:=0)) xv)) (zf (n:=0)))) zh))))) (za (e9 (zt (za (XE.ow (zf (n:=0))) (za (XE.ow yS) zh)))) zh))))) (ze (ya 8 rfl (e9 (zt (za (e9 (dP (dX (zp (k:=0) (za (e9 (dP xv (zf (n:=0)))) zh))) (dX (yj (n:=0) (by decide) xv (yr dU) ji)))) (za (e9 (zt (za (XE.ow (zf (n:=0))) (za (XE.ow yS) zh)))) zh))))) (ze (ya 8 rfl (e9 (zt (za (e9 (dP (dX (zp (k:=0) (za (e9 (dP xv (zf (n:=0)))) zh))) (dX (yj (n:=0) (by decide) xv (yr dU) ji)))) (za (e9 (zt (za (XE.ow (zf (n:=0))) (za (XE.ow yS) zh)))) zh))))) (ze (ya 8 rfl (e9 (zt (za (e9 (dP xv (dX (ZZ (i:=7) rfl dU)))) (za (e9 (zt (za (XE.ow (zf (n:=0))) (za (XE.ow yS) zh)))) zh))))) (ze (ya 8 rfl (e9 (zt (za (e9 (dP xv (dX (zp (k:=0) (za (e9 (dP (dX (dP (dX (dP (dX (dP (zf (n:=0)) xv)) (zf (n:=0)))) xv)) (zf (n:=0)))) (za (e9 (dP (dX (dP (dX (dP (dX (dP (zf (n:=0)) xv)) (zf (n:=0)))) xv)) (zf (n:=0)))) zh)))))) (za (e9 (zt (za (XE.ow (zf (n:=0))) (za (XE.ow yS) zh)))) zh))))) (ze (ya 8 rfl (e9 (zt (za (e9 (dP xv (dX (zp (k:=0) (za (e9 (dP (dX (dP (dX (dP (dX (dP (zf (n:=0)) xv)) (zf (n:=0)))) xv)) (zf (n:=0)))) zh))))) (za (e9 (zt (za (XE.ow (zf (n:=0))) (za (XE.ow yS) zh)))) zh))))) (zm (nG (HG xv (oMod xv dU)))))))))))))))))))
noncomputable def dR:List D->Option D:=mOf ["_law_script","_law_rows_here","_law_names_here","_law_cell","_law_other","_law_at","_law_bad","_law_row_here","_law_name","_law_behind","_law_first","_law_wrong","_law_due"]
  (sSeq (sSet 3 (cl gc (aCons (cl eY (aCons (eV 0) (aCons (eC (.int 10)) aNil))) (aCons (eC (.int 1)) aNil))))
  (sSeq (sSet 4 (cl gc (aCons (cl eY (aCons (eV 0) (aCons (eC (.int 11)) aNil))) (aCons (eC (.int 1)) aNil))))
  (sSeq (sSet 5 (e2 cA (eC (.int 1)) (e2 fM (e2 fZ (eV 3) (eC (.int 8))) (eN gx (aCons (eV 1) aNil)))))
  (sSeq (sSet 6 (cl gb (aCons (eV 4) (aCons (eV 2) aNil))))
  (sSeq (sAsg (gT (gsCons (gV 7) (gsCons (gV 8) gsNil))) (cl gh (aCons (eV 4) (aCons (eV 2) aNil))))
  (sSeq (sSet 9 (λρ=>((eV 1) ρ).bind λd=>((pInt (eV 5)) ρ).bind λl=>(pNo ρ).bind λh=>eU d l h))
  (sSeq (sIf (tb (e2 Ap (e2 fM (e2 fZ (eV 3) (eC (.int 1024))) (eC (.int 3))) (eC (.int 0)))) (sSet 9 (e2 cA (eV 9) (λρ=>((aCons (e2 eJ (λρ=>((aCons (cl gb (aCons (e2 fZ (eV 3) (eC (.int 7))) (aCons (eV 2) aNil))) (aCons (e2 eJ (cl gh (aCons (e2 fZ (eV 3) (eC (.int 7))) (aCons (eV 2) aNil))) (eC (.int 0))) aNil)) ρ).bind λds=>some (.lst ds)) (e2 fM (e2 fZ (eV 3) (eC (.int 3072))) (eC (.int 2)))) aNil) ρ).bind λds=>some (.lst ds)))) sSkip)
  (sSeq (sIf (tb (e2 yM (e2 fM (eV 3) (eC (.int 8))) (eC (.int 3)))) (sRet (λρ=>((aCons (e2 cA (e2 cA (λρ=>((eV 1) ρ).bind λd=>(pNo ρ).bind λl=>((pInt (eV 5)) ρ).bind λh=>eU d l h) (λρ=>((aCons (eV 6) aNil) ρ).bind λds=>some (.lst ds))) (eV 9)) (aCons (λρ=>((aCons (eC (.str "row")) (aCons (eV 5) aNil)) ρ).bind λds=>some (.tup ds)) aNil)) ρ).bind λds=>some (.tup ds))) sSkip)
  (sSeq (sIf (tb (e2 yM (e2 fM (eV 3) (eC (.int 8))) (eC (.int 5)))) (sRet (λρ=>((aCons (e2 cA (e2 cA (λρ=>((eV 1) ρ).bind λd=>(pNo ρ).bind λl=>((pInt (eV 5)) ρ).bind λh=>eU d l h) (λρ=>((aCons (eV 7) aNil) ρ).bind λds=>some (.lst ds))) (eV 9)) (aCons (λρ=>((aCons (eC (.str "name")) (aCons (eV 8) aNil)) ρ).bind λds=>some (.tup ds)) aNil)) ρ).bind λds=>some (.tup ds))) sSkip)
  (sSeq (sIf (tb (e2 (iz false) (e2 fM (eV 3) (eC (.int 8))) (eC (.int 5)))) (sSeq (sSet 10 (e2 eJ (λρ=>((aCons (e2 cA (eC (.str "going ")) (e2 eJ (eV 2) (eC (.int 0)))) (aCons (eC (.str "")) (aCons (e2 cA (eC (.str " ")) (e2 eJ (eV 1) (eC (.int 0)))) (aCons (e2 cA (eC (.str "Goings ")) (e2 eJ (eV 2) (eC (.int 0)))) (aCons (eC (.str "show")) aNil))))) ρ).bind λds=>some (.lst ds)) (e2 fM (eV 4) (eC (.int 5)))))
  (sRet (λρ=>((aCons (e2 cA (λρ=>((aCons (eV 10) aNil) ρ).bind λds=>some (.lst ds)) (eV 9)) (aCons (λρ=>((aCons (eC (.str "row")) (aCons (eC (.int 0)) aNil)) ρ).bind λds=>some (.tup ds)) aNil)) ρ).bind λds=>some (.tup ds)))) sSkip)
  (sSeq (sIf (tb (e2 (iz false) (e2 fM (eV 3) (eC (.int 8))) (eC (.int 6)))) (sSeq (sAsg (gT (gsCons (gV 11) (gsCons (gV 12) gsNil))) (cl gF (aCons (eV 4) (aCons (eV 1) (aCons (eV 2) aNil)))))
  (sRet (λρ=>((aCons (eV 11) (aCons (eV 12) aNil)) ρ).bind λds=>some (.tup ds)))) sSkip)
  (sSeq (sAsg (gT (gsCons (gV 11) (gsCons (gV 12) gsNil))) (cl gF (aCons (eV 4) (aCons (eV 1) (aCons (eV 2) aNil)))))
  (sRet (λρ=>((aCons (e2 cA (eV 11) (λρ=>((aCons (e2 cA (e2 cA (eC (.str "ride ")) (e2 eJ (eV 2) (eC (.int 0)))) (eC (.str " A 5"))) aNil) ρ).bind λds=>some (.lst ds))) (aCons (λρ=>((aCons (eC (.str "name")) (aCons (eC (.str "A")) aNil)) ρ).bind λds=>some (.tup ds)) aNil)) ρ).bind λds=>some (.tup ds)))))))))))))))
theorem Vo (T:Txt K mg a):dM P w K mg base gC 3 a.bD a.bE ["_law_script","_law_rows_here","_law_names_here"] (kd K a.ct [0,0,0] 0 dR) :=
 lf (ms:=mO [0,0,0,0,0,0,0,0,0,0,0,0,0]) T.aR.fn λ_ _ _ _ _ _ hr nd=>(ze (kX nd (kP T.aF (xh T) hr (zc (xc T.aE (xa T) hr (zc xv (zc dU zg))) (zc dU zg)))) (ze (kX nd (kP T.aF (xh T) hr (zc (xc T.aE (xa T) hr (zc xv (zc dU zg))) (zc dU zg)))) (ze (kX nd (e9 (dP dU (oMod (oDiv xv dU) (rF T.bH (zc xv zg)))))) (ze (kX nd (kP T.aO (uo T) hr (zc xv (zc xv zg)))) (ze (DQ (xc T.aP (uq T) hr (zc xv (zc xv zg))) (DP (n:=0) rfl (zu (pB nd) (zu (pB nd) wn)))) (ze (kX nd (e9 (yj (n:=0) (by decide) xv (yr xv) ji))) (ze (qV (Ex (oMod (oDiv xv dU) dU) dU) (kX nd (e9 (dP xv (dX (zp (k:=0) (za (XE.ow (jK (dX (zp (k:=0) (za (kP T.aO (uo T) hr (zc (oDiv xv dU) (zc xv zg))) (za (XE.ow (jK (xc T.aP (uq T) hr (zc (oDiv xv dU) (zc xv zg))) dU)) zh)))) (oMod (oDiv xv dU) dU))) zh))))))) (ze (qV (CJ (oMod xv dU) dU) (yh (e9 (zt (za (e9 (dP (dX (dP (dX (yj (n:=0) (by decide) xv ji (yr xv))) (dX (zp (k:=0) (za (XE.ow xv) zh))))) xv)) (za (e9 (zt (za (XE.ow (zf (n:=0))) (za (XE.ow xv) zh)))) zh)))))) (ze (qV (CJ (oMod xv dU) dU) (yh (e9 (zt (za (e9 (dP (dX (dP (dX (yj (n:=0) (by decide) xv ji (yr xv))) (dX (zp (k:=0) (za (XE.ow xv) zh))))) xv)) (za (e9 (zt (za (XE.ow (zf (n:=0))) (za (XE.ow xv) zh)))) zh)))))) (ze (EO (tZ hr (oMod xv dU) dU) (ze (oO nd (jK (dX (zp (k:=0) (za (e9 (dP (zf (n:=0)) (jK xv dU))) (za (XE.ow (zf (n:=0))) (za (e9 (dP (zf (n:=0)) (jK xv dU))) (za (e9 (dP (zf (n:=0)) (jK xv dU))) (za (XE.ow (zf (n:=0))) zh))))))) (oMod xv dU))) (zm (yh (e9 (zt (za (e9 (dP (dX (zp (k:=0) (za (XE.ow xv) zh))) xv)) (za (e9 (zt (za (XE.ow (zf (n:=0))) (za (XE.ow dU) zh)))) zh))))))) xi) (ze (EO (tZ hr (oMod xv dU) dU) (ze (DQ (xc T.aQ (vd T) hr (zc xv (zc xv (zc xv zg)))) (DP (n:=0) rfl (zu (pB nd) (zu (pB nd) wn)))) (zm (yh (e9 (zt (za (XE.ow xv) (za (XE.ow xv) zh))))))) xi) (ze (DQ (xc T.aQ (vd T) hr (zc xv (zc xv (zc xv zg)))) (DP (n:=0) rfl (zu (pB nd) (zu (pB nd) wn)))) (zm (yh (e9 (zt (za (e9 (dP xv (dX (zp (k:=0) (za (e9 (dP (dX (dP (zf (n:=0)) (jK xv dU))) (zf (n:=0)))) zh))))) (za (e9 (zt (za (XE.ow (zf (n:=0))) (za (XE.ow (zf (n:=0))) zh)))) zh))))))))))))))))))
noncomputable def tJ:EF:=(iR (λρ=>((aCons (e2 fM (cl gc (aCons (eV 1) (aCons (eC (.int 3)) aNil))) (eC (.int 9))) aNil) ρ).bind si) 1 [0,2] (gV 0) mK (cl gI (aCons (cl eY (aCons (eV 1) (aCons (e2 cA (eC (.int 1)) (eV 0)) aNil))) (aCons (eV 0) (aCons (eV 2) aNil)))))
noncomputable def AL:List D->Option D:=mOf ["_law_script","_law_first","_law_many","_law_names_here","_law_plain","_law_rows_here","_law_good","_law_wrong","_law_due","_law_no_text"]
  (sSeq (sSet 1 (cl eY (aCons (eV 0) (aCons (eC (.int 0)) aNil))))
  (sSeq (sSet 2 (e2 cA (eC (.int 2)) (e2 fM (cl gc (aCons (eV 1) (aCons (eC (.int 2)) aNil))) (eC (.int 5)))))
  (sSeq (sSet 3 (cl iD (aCons (eV 1) (aCons (eV 2) aNil))))
  (sSeq (sSet 4 tJ)
  (sSeq (sSet 5 (cl m5 (aCons (eV 3) (aCons (eV 4) aNil))))
  (sSeq (sSet 6 (e2 lG (eC (.str "\n")) (eV 5)))
  (sSeq (sAsg (gT (gsCons (gV 7) (gsCons (gV 8) gsNil))) (cl dR (aCons (eV 0) (aCons (eV 5) (aCons (eV 3) aNil)))))
  (sSeq (sIf (bOr (tb (e2 (iz true) (cl o9 (aCons (cl tG (aCons (eV 6) aNil)) aNil)) (eV 6))) (tb (e2 (iz true) (cl iE (aCons (e2 lG (eC (.str "\n")) (eV 7)) aNil)) (eV 8)))) (sRet (eC (.bl false))) sSkip)
  (sSeq (sSet 9 (e2 eJ (λρ=>((aCons (eC .non) (aCons (eC (.int 5)) (aCons (eV 5) (aCons (eC (.bl true)) aNil)))) ρ).bind λds=>some (.lst ds)) (e2 fM (eV 1) (eC (.int 4)))))
  (sRet (eB (bAnd (tb (e2 (iz false) (cl iE (aCons (eV 9) aNil)) (λρ=>((aCons (eC (.str "row")) (aCons (eC (.int 0)) aNil)) ρ).bind λds=>some (.tup ds)))) (tb (e2 (iz false) (cl o9 (aCons (cl tG (aCons (eV 6) aNil)) aNil)) (eV 6)))))))))))))))
theorem zut (T:Txt K mg a):dM P w K mg base gC 8 a.bF a.bG ["_law_script"] (kd K a.ct [0] 0 AL) :=
 lf (ms:=mO [0,0,0,0,0,0,0,0,0,0]) T.aS.fn λ_ _ _ _ _ _ hr nd=>(ze (kX nd (kP T.aE (xa T) hr (zc xv (zc dU zg)))) (ze (kX nd (e9 (dP dU (oMod (xc T.aF (xh T) hr (zc xv (zc dU zg))) dU)))) (ze (kX nd (kP T.aG (VH T) hr (zc xv (zc xv zg)))) (ze (DM (k:=0) (N:=["_law_k","_law_script","_law_many"]) (om:=mO [0]) (cap:=[0,2]) (own:=1) nd (XI.cc (vi (n:=0) T.bL (zc (oMod (xc T.aF (xh T) hr (zc xv (zc dU zg))) dU) zg))) (λ_ _ _ _ _ h=>(vG h)) (λ_ _ _ _ _=>x8) (λ_ _ _ _ _=>(kP T.aH (VI T) hr (zc (xc T.aE (xa T) hr (zc xv (zc (dX (dP dU xv)) zg))) (zc xv (zc xv zg)))))) (ze (kX nd (e9 (kP T.aJ (VQ T) hr (zc xv (zc xv zg))))) (ze (oO nd (ut (k:=0) (zf (n:=0)) xv)) (ze (DQ (xc T.aR (Vo T) hr (zc xv (zc xv (zc xv zg)))) (DP (n:=0) rfl (zu (pB nd) (zu (pB nd) wn)))) (ze (qV (XW.t (jg (Li hr (xc T.aC (O2 T) hr (zc (xc T.aD (P4 T) hr (zc xv zg)) zg)) xv) (ud (Li hr (xc T.aL (Oa T) hr (zc (ut (k:=0) (zf (n:=0)) xv) zg)) xv)))) (nG (j5 (n:=0)))) (ze (oO nd (jK (dX (zp (k:=0) (za (XE.ow yS) (za (XE.ow dU) (za (XE.ow xv) (za (XE.ow (j5 (n:=0))) zh)))))) (oMod xv dU))) (zm (nG (ue (vEq hr (xc T.aL (Oa T) hr (zc xv zg)) (dX (zt (za (XE.ow (zf (n:=0))) (za (XE.ow dU) zh))))) (vh (k:=0) (vEq hr (xc T.aC (O2 T) hr (zc (xc T.aD (P4 T) hr (zc xv zg)) zg)) xv))))))))))))))
end
local macro_rules| `(tactic|walk_at "mix")=>`(tactic|simp -implicitDefEqProofs [cl,mOfX,sSeqX,sDropX,sForX,sIfX,sRaise,sTry,thD,hitL,isiX,fldX,xOf,sRetX,sSetX,mOf,startD,sSeq,sIf,sSet,sRet,sRetN,sDrop,sPar,sAsg,sApp,sFor,lsD,zaq,sSkip,eC,e1,e2,eN,aNil,aCons,pNo,pInt,zbt,tb,zel,bNot,bAnd,bOr,eB,eIf,gV,gT,gsCons,gsNil,znl,znm,zan,zrf,zao,zrg,yp,zno,znn,znp,zrh,zuj,D.isN,D.isB,zrj,zuk,vm,z7,zbs,zgx,znj,znk,zgy,zbt,zap,zek,sFz,znw,znx, *])
def pA (n:Nat)(f:Nat->Int):List D:=(dQ n).map λg=>D.int (f g)
theorem Z2 (n:Nat)(f:Nat->Int):(pA n f).length=n:=by simp[pA]
theorem Mx {n:Nat}(f:Nat->Int){g:Nat}(h:g<n):atI (pA n f) (g:Int)=sI (f g):=by refine ye ?_;simp[pA,h]
theorem Zw {n:Nat}(f:Nat->Int){g:Nat}(h:g<n)(v:Int):xJ (pA n f) (g:Int) (.int v)=some (pA n λx=>if x=g then v else f x):=by
 unfold xJ;have hx:ixN (pA n f).length (g:Int)=some g:=by unfold ixN;rw[Z2];rw[if_pos (by omega),if_pos (by omega)];simp
 rw[hx];simp only[cP,Option.some.injEq];apply Ab
 ·simp[pA]
 ·intro i h1 h2;simp[pA,List.getElem_set];by_cases hi:g=i
  ·subst hi;simp
  ·rw[if_neg hi,if_neg (λz=>hi z.symm)]
variable {ρ:L3.Env}
theorem Qq {i:Nat}{fj f:EF}{gi:Int->Int->Int}{n g:Nat}{w:Nat->Int}{y:Int}(h1:(ρ[i]?).join=sL (pA n w))(h2:fj ρ=sI (g:Int))(h3:f ρ=sI y)(hg:g<n) :
  uK i fj gi f ρ=some (.nx (ρ.set i (sL (pA n λx=>if x=g then gi (w g) y else w x)))):=by
 unfold uK;have:eV i ρ=sL (pA n w):=h1;rw[this,h2,h3];simp only[cP,Mx w hg,Zw w hg]
def dN (p:List Nat):List D:=p.map λ(x:Nat)=>D.int (x:Int)
theorem MC {f:EF}{r:L3.Env}{n:Nat}(h:f r=sI (n:Int))(hn:n<=1000000):((aCons f aNil) r).bind si=some ((dQ n).map λ(t:Nat)=>D.int (t:Int)):=by
 have e:(aCons f aNil) r=some [.int (n:Int)]:=by unfold aCons;rw[h];rfl
 rw[e,cP,qq (by omega) (by omega)];unfold kW;simp
variable {α:Type}
theorem IL {fi:L3.Env->Option (List D)}{own:Nat}{cap:List Nat}{g:D->L3.Env->Option L3.Env}{p:BF}{f:EF}{r:L3.Env}(enc:α->D)(q:α->Bool)(h:α->D)(xs:List α)(hi:fi r=some (xs.map enc))(hl:xs.length<=16777216)
  (st:∀x∈xs,∃ρ1,g (enc x) (cE own none++oZ r cap)=some ρ1/\p ρ1=some (q x)/\(q x=true->f ρ1=some (h x))):iR fi own cap g p f r=sL ((xs.filter q).map h):=by
 unfold iR;rw[hi];simp only[cP,ck];rw[if_pos hl,OR enc q h xs st];rfl
theorem xb {fi:L3.Env->Option (List D)}{own:Nat}{cap:List Nat}{g:D->L3.Env->Option L3.Env}{f:EF}{r:L3.Env}(enc:α->D)(h:α->D)(xs:List α)(hi:fi r=some (xs.map enc))(hl:xs.length<=16777216)
  (st:∀x∈xs,∃ρ1,g (enc x) (cE own none++oZ r cap)=some ρ1/\f ρ1=some (h x)):iR fi own cap g mK f r=sL (xs.map h):=by
 have:=IL (p:=mK) enc (λ_=>true) h xs hi hl λx hx=>by obtain⟨ρ1,h1,h2⟩:=st x hx;exact⟨ρ1,h1,rfl,λ_=>h2⟩
 rw[this,List.filter_eq_self.mpr λ_ _=>rfl]
theorem LO {α:Type}(enc:α->D):∀(as:List α) (k:Nat),jF k (as.map enc)=(as.zipIdx k).map λ(p:α×Nat)=>D.tup [.int (p.2:Int),enc p.1]
 |[],_=>rfl
 |a::as,k=>by show _::jF (k+1) (as.map enc)=_::_;rw[LO enc as (k+1)]
inductive Kd where
 |ride|wait|back
deriving DecidableEq
structure jP where
 c:Kd
 s:Nat
 g:Nat
 t:Int
 b:Nat
deriving DecidableEq
variable {P:List Nat}{W:List jP}{a:jP}{here mo:Nat}
namespace Kahn
def cnt (W:List jP)(P:List Nat)(g:Nat):Nat:=W.countP λa=>decide (a.g=g/\a.s∉P)
structure Ok (W:List jP)(mo:Nat)(p:List Nat):Prop where
 nd:p.Nodup
 lt:∀x∈p,x<mo
 ord:∀(i x:Nat),p[i]?=some x->∀a∈W,a.g=x->a.s∈p.take i
theorem Ok.snoc {p:List Nat}{x:Nat}(h:Ok W mo p)(hx:x∉p)(hl:x<mo)(ho:∀a∈W,a.g=x->a.s∈p):Ok W mo (p++[x]) where
 nd:=by rw[c8];exact⟨h.nd,by simp,λa ha b hb e=>by simp at hb;subst hb;subst e;exact hx ha⟩
 lt:=λy hy=>by
  rcases cG.mp hy with hy|hy
  ·exact h.lt y hy
  ·simp at hy;subst hy;exact hl
 ord:=λi y hy a ha e=>by
  by_cases hi:i<p.length
  ·rw[gG hi]at hy;rw[qQ (by omega)];exact h.ord i y hy a ha e
  ·rw[iI (by omega)]at hy;have J5:i-p.length=0:=by
    cases hq:i-p.length with
    |zero=>rfl
    |succ k=>rw[hq]at hy;simp at hy
   rw[J5]at hy;simp at hy;subst hy;have:i=p.length:=by omega
   rw[this,List.take_left']
   ·exact ho a ha e
   ·rfl
def stp (here:Nat)(S:(Nat->Int)×List Nat)(a:jP):(Nat->Int)×List Nat :=
 if a.s=here then
  let f':Nat->Int:=λx=>if x=a.g then S.1 a.g-1 else S.1 x
  (f',if f' a.g=0 then S.2++[a.g]else S.2)
 else S
structure In (W:List jP)(mo:Nat)(P:List Nat)(here:Nat)(pre:List jP)(S:(Nat->Int)×List Nat):Prop where
 ok:Ok W mo S.2
 f:∀g,S.1 g=(cnt W P g:Int)-(pre.countP λa=>decide (a.g=g/\a.s=here):Nat)
 z:∀g,g<mo->(g∈S.2↔S.1 g=0)
 sub:∀x,(x∈P\/x=here)->x∈S.2
theorem zuu {pre post:List jP}(e:W=pre++a::post)(hP:here∉P)(ha:a.s=here):(pre.countP λx=>decide (x.g=a.g/\x.s=here))+1<=cnt W P a.g:=by
 unfold cnt;rw[e,lQ,kI];have h1:(pre.countP λx=>decide (x.g=a.g/\x.s=here))<=pre.countP λx=>decide (x.g=a.g/\x.s∉P):=by apply List.countP_mono_left;intro x _ hx;simp at hx ⊢;exact⟨hx.1,by rw[hx.2];exact hP⟩
 have h2:(decide (a.g=a.g/\a.s∉P))=true:=by simp[ha,hP]
 rw[h2];simp only[if_true];omega
theorem In.step {pre post:List jP}{S:(Nat->Int)×List Nat}(h:In W mo P here pre S)(e:W=pre++a::post)(hP:here∉P)(hl:a.g<mo):In W mo P here (pre++[a]) (stp here S a):=by
 by_cases ha:a.s=here
 ·have Th:=zuu e hP ha;have hf:∀g,(if g=a.g then S.1 a.g-1 else S.1 g)=(cnt W P g:Int)-((pre++[a]).countP λx=>decide (x.g=g/\x.s=here):Nat):=λg=>by
   rw[lQ,uP];by_cases hg:g=a.g
   ·subst hg;rw[if_pos rfl,h.f];have:decide (a.g=a.g/\a.s=here)=true:=by simp[ha]
    rw[this];simp only[if_true];omega
   ·rw[if_neg hg,h.f];have:decide (a.g=g/\a.s=here)=false:=by simp;intro z;exact absurd z.symm hg
    rw[this];simp
  have mE:S.1 a.g≠0:=by rw[h.f];omega
  have yK:a.g∉S.2:=λz=>mE ((h.z a.g hl).mp z);by_cases h0:S.1 a.g-1=0
  ·have es:stp here S a=(λx=>if x=a.g then S.1 a.g-1 else S.1 x,S.2++[a.g]):=by unfold stp;simp[ha,h0]
   rw[es];refine⟨h.ok.snoc yK hl λb hb eb=>?_,hf,λg hg=>?_,λx hx=>cN _ (h.sub x hx)⟩
   ·
    refine h.sub _ (Classical.byContradiction λhc=>?_);have C7:b.s∉P:=λz=>hc (.inl z);have C8:b.s≠here:=λz=>hc (.inr z);have h1:cnt W P a.g=(pre.countP λx=>decide (x.g=a.g/\x.s=here))+1:=by have:=h.f a.g;omega
    have h2:(W.countP λx=>decide (x.g=a.g/\x.s=here))+(W.countP λx=>decide (x.g=a.g/\x.s∉P/\x.s≠here))<=cnt W P a.g:=by
     have:cnt W P a.g=(W.countP λx=>decide (x.g=a.g/\x.s=here))+(W.countP λx=>decide (x.g=a.g/\x.s∉P/\x.s≠here)):=by
      unfold cnt;clear h1 hc C7 C8 eb hb h0 hf Th e h;induction W with
      |nil=>rfl
      |cons x W ih=>simp only[kI];rw[ih];by_cases q1:x.g=a.g<;>by_cases q2:x.s=here<;>by_cases q3:x.s∈P<;>simp_all<;>omega
     omega
    have h3:(pre.countP λx=>decide (x.g=a.g/\x.s=here))+1<=W.countP λx=>decide (x.g=a.g/\x.s=here):=by
     rw[e,lQ,kI];have:decide (a.g=a.g/\a.s=here)=true:=by simp[ha]
     rw[this];simp only[if_true];omega
    have h4:0<W.countP λx=>decide (x.g=a.g/\x.s∉P/\x.s≠here):=by rw[List.countP_pos_iff];exact⟨b,hb,by simp[eb,C7,C8]⟩
    omega
   ·rw[cG,cz];by_cases tW:g=a.g
    ·subst tW;simp[h0]
    ·dsimp only;rw[if_neg tW,h.z g hg];simp[tW]
  ·have es:stp here S a=(λx=>if x=a.g then S.1 a.g-1 else S.1 x,S.2):=by unfold stp;simp[ha,h0]
   rw[es];refine⟨h.ok,hf,λg hg=>?_,h.sub⟩;by_cases tW:g=a.g
   ·subst tW;dsimp only;rw[if_pos rfl];exact⟨λz=>absurd z yK,λz=>absurd z h0⟩
   ·dsimp only;rw[if_neg tW];exact h.z g hg
 ·have:stp here S a=S:=by unfold stp;rw[if_neg ha]
  rw[this];refine⟨h.ok,λg=>?_,h.z,h.sub⟩;rw[lQ,uP];have:decide (a.g=g/\a.s=here)=false:=by simp[ha]
  rw[this,h.f];simp
theorem In.fold {W:List jP}{mo:Nat}{P:List Nat}{here:Nat}(hP:here∉P)(hl:∀a∈W,a.g<mo):∀(post pre:List jP) (S:(Nat->Int)×List Nat),W=pre++post->In W mo P here pre S->In W mo P here W (post.foldl (stp here) S)
 |[],pre,S,e,h=>by rw[e] ;simpa using(by rw[cS]at e;subst e;exact h)
 |a::post,pre,S,e,h=>by have:=In.fold hP hl post (pre++[a]) (stp here S a) (by rw[e];simp) (h.step e hP (hl a (by rw[e];simp)));exact this
theorem Yh {g:Nat}(hP:here∉P):(cnt W P g:Int)-(W.countP λa=>decide (a.g=g/\a.s=here):Nat)=cnt W (P++[here]) g:=by
 have:cnt W P g=(W.countP λa=>decide (a.g=g/\a.s=here))+cnt W (P++[here]) g:=by
  unfold cnt;induction W with
  |nil=>rfl
  |cons x W ih=>simp only[kI];rw[ih];by_cases q1:x.g=g<;>by_cases q2:x.s=here<;>by_cases q3:x.s∈P<;>simp_all<;>omega
 omega
structure Wh (W:List jP)(mo:Nat)(f:Nat->Int)(p:List Nat)(d:Nat):Prop where
 ok:Ok W mo p
 dl:d<=p.length
 fe:∀g,f g=cnt W (p.take d) g
 z:∀g,g<mo->(g∈p↔f g=0)
theorem Wh.step {f:Nat->Int}{p:List Nat}{d:Nat}(h:Wh W mo f p d)(hl:∀a∈W,a.g<mo)(hh:p[d]?=some here) :
  Wh W mo (W.foldl (stp here) (f,p)).1 (W.foldl (stp here) (f,p)).2 (d+1)/\∃q,(W.foldl (stp here) (f,p)).2=p++q:=by
 have hd:d<p.length:=(cM.mp hh).1;have hP:here∉p.take d:=λz=>by
  obtain⟨i,hi,e⟩:=iL.mp z;have J5:i<d:=by rw[ef]at hi;omega
  rw[zJ]at e;have e2:p[d]=here:=by have:=cM.mp hh;exact this.2
  have:=(kJ (xs:=p) (h₀:=by omega) (h₁:=hd) h.ok.nd).mp (e.trans e2.symm);omega
 have JY:∀(l:List jP) (S:(Nat->Int)×List Nat),∃q,(l.foldl (stp here) S).2=S.2++q:=by
  intro l;induction l with
  |nil=>exactλS=>⟨[],by simp⟩
  |cons a l ih=>
   intro S;obtain⟨q,hq⟩:=ih (stp here S a);have:∃r,(stp here S a).2=S.2++r:=by
    by_cases ha:a.s=here
    ·by_cases h0:S.1 a.g-1=0
     ·exact⟨[a.g],by unfold stp;simp[ha,h0]⟩
     ·exact⟨[],by unfold stp;simp[ha,h0]⟩
    ·exact⟨[],by unfold stp;simp[ha]⟩
   obtain⟨r,hr⟩:=this;exact⟨r++q,by rw[nD,hq,hr,eh]⟩
 obtain⟨q,hq⟩:=JY W (f,p);have I:=In.fold hP hl W [] (f,p) rfl ⟨h.ok,λg=>by show f g=_;rw[h.fe];simp,h.z,λx hx=>by
  rcases hx with hx|rfl
  ·exact kU hx
  ·exact fK.mpr ⟨d,hh⟩⟩
 have FF:(W.foldl (stp here) (f,p)).2.take (d+1)=p.take d++[here]:=by rw[hq];show(p++q).take (d+1)=_;rw[qQ (by omega),Bu,hh];rfl
 refine⟨⟨I.ok,?_,λg=>?_,I.z⟩,q,hq⟩
 ·rw[hq];show d+1<=(p++q).length;rw[cp];omega
 ·rw[I.f,FF];exact Yh hP
theorem cnt_zero {g:Nat}:cnt W P g=0↔∀a∈W,a.g=g->a.s∈P:=by
 unfold cnt;rw[List.countP_eq_zero];constructor
 ·intro h a ha e;have:=h a ha;simp at this;exact Classical.byContradiction λz=>z (this e)
 ·intro h a ha;simp;exact h a ha
theorem Wh.all {f:Nat->Int}{p:List Nat}(h:Wh W mo f p p.length)(rank:Nat->Nat)(hr:∀a∈W,rank a.s<rank a.g)(hs:∀a∈W,a.s<mo):∀g,g<mo->g∈p:=by
 have:∀n g,rank g<n->g<mo->g∈p:=by
  intro n;induction n with
  |zero=>intro g h;omega
  |succ n ih=>intro g hg hl;rw[h.z g hl,h.fe,qA];have:cnt W p g=0:=cnt_zero.mpr λa ha e=>ih a.s (by have:=hr a ha;rw[e]at this;omega) (hs a ha);rw[this];rfl
 exactλg hl=>this (rank g+1) g (by omega) hl
theorem len_of {p:List Nat}(nd:p.Nodup)(lt:∀x∈p,x<mo)(all:∀g,g<mo->g∈p):p.length=mo:=by
 have h1:p.Perm (dQ mo):=by rw[rS nd kK];intro a;rw[eu];exact⟨lt a,all a⟩
 simpa using h1.length_eq
theorem len_le {p:List Nat}(nd:p.Nodup)(lt:∀x∈p,x<mo):p.length<=mo:=by
 have h1:(p++(dQ mo).filter λx=>decide (x∉p)).Perm (dQ mo):=by
  rw[rS (by rw[c8];refine⟨nd,kK.filter _,λa ha b hb e=>?_⟩;subst e;simp at hb;exact hb.2 ha) kK];intro a;rw[cG,d8,eu];constructor
  ·rintro(h|h)
   ·exact lt a h
   ·exact h.1
  ·intro h;by_cases ha:a∈p
   ·exact .inl ha
   ·exact .inr ⟨h,by simpa using ha⟩
 have:=h1.length_eq;rw[cp,fD]at this;omega
end Kahn
def Kd.n:Kd->Nat
 |.ride=>1|.wait=>2|.back=>3
def di (a:jP):D:=.obj a.c.n ["start","goal","time","behind"] [.int a.s,.int a.g,.int a.t,.int a.b]
theorem fs (a:jP):gm [0,1,2,3] "start" (di a)=sI a.s:=by obtain⟨c,_,_,_,_⟩:=a;cases c<;>rfl
theorem fg (a:jP):gm [0,1,2,3] "goal" (di a)=sI a.g:=by obtain⟨c,_,_,_,_⟩:=a;cases c<;>rfl
theorem ft (a:jP):gm [0,1,2,3] "time" (di a)=sI a.t:=by obtain⟨c,_,_,_,_⟩:=a;cases c<;>rfl
theorem fb (a:jP):gm [0,1,2,3] "behind" (di a)=sI a.b:=by obtain⟨c,_,_,_,_⟩:=a;cases c<;>rfl
structure Right (mo:Nat)(a:jP):Prop where
 s:a.s<mo
 g:a.g<mo
 t0:0<=a.t
 t1:a.t<=1000000000
 b:a.b<=4
 r:a.c=.ride->a.b=0
 k:a.c=.back->1<=a.b
theorem v8 {n l m:Int}(h1:l<=n)(h2:n<=m):dI [.int n,.int l,.int m]=some (.bl true):=by unfold dI;have q1 (i:Int):mw "int" (.int i)=some (.bl true):=rfl;have q2 (i:Int):mw "bool" (.int i)=some (.bl false):=rfl;walk_at "mix"
theorem isA (all sub:List Nat)(a:jP):rq all sub (di a)=if all.contains a.c.n=true then some (.bl (sub.contains a.c.n))else none:=rfl
theorem Zx (h:Right mo a):iC [di a,.int (mo:Int)]=some (.bl true):=by
 have w1:dI [.int (a.s:Int),.int 0,.int ((mo:Int)-1)]=some (.bl true):=v8 (by omega) (by have:=h.s;omega);have w2:dI [.int (a.g:Int),.int 0,.int ((mo:Int)-1)]=some (.bl true):=v8 (by omega) (by have:=h.g;omega);have w3:dI [.int a.t,.int 0,.int 1000000000]=some (.bl true):=v8 h.t0 h.t1;have f1:=fs a;have f2:=fg a;have f3:=ft a;have f4:=fb a;have hi:=λall sub=>isA all sub a;have hb:=h.b;have hr:=h.r;have hk:=h.k;clear h;unfold iC;cases hc:a.c with
 |ride=>have w4:dI [.int (a.b:Int),.int 0,.int 0]=some (.bl true):=v8 (by omega) (by have:=hr hc;omega);rw[hc]at hi;clear hr hk hb;have hn:Kd.ride.n=1:=rfl;walk_at "mix"
 |wait=>have w4:dI [.int (a.b:Int),.int 0,.int 4]=some (.bl true):=v8 (by omega) (by omega);rw[hc]at hi;clear hr hk hb;have hn:Kd.wait.n=2:=rfl;walk_at "mix"
 |back=>have w4:dI [.int (a.b:Int),.int 1,.int 4]=some (.bl true):=v8 (by have:=hk hc;omega) (by omega);rw[hc]at hi;clear hr hk hb;have hn:Kd.back.n=3:=rfl;walk_at "mix"
def W0 (as:List jP):List jP:=as.filter λa=>decide (a.b=0)
theorem Vy (as:List jP)(l:as.length<=16777216)(r:L3.Env)(h:r[1]?.join=sL (as.map di)) :
  l9 r=sL ((W0 as).map di):=by
 have e:lsD (eV 1) r=some (as.map di):=by unfold lsD;have:eV 1 r=sL (as.map di):=h;rw[this];rfl
 refine IL di (λa=>decide (a.b=0)) di as e l λa _=>⟨_,rfl,?_,λ_=>rfl⟩;have:=fb a;walk_at "mix"
def Fc (s:(Nat->Int)×Option D)(a:jP):(Nat->Int)×Option D:=(λx=>if x=a.g then s.1 a.g+1 else s.1 x,some (di a))
theorem O4:∀(W:List jP) (s:(Nat->Int)×Option D) (g:Nat),(W.foldl Fc s).1 g=s.1 g+(W.countP λa=>decide (a.g=g):Nat)
 |[],s,g=>by simp
 |a::W,s,g=>by
  rw[nD,O4 W,kI];by_cases hg:g=a.g
  ·subst hg;simp[Fc];omega
  ·have:decide (a.g=g)=false:=by simp;exactλz=>hg z.symm
   simp[Fc,hg,this]
theorem Yi (p:List Nat)(x:Nat):dN p++[D.int (x:Int)]=dN (p++[x]):=by simp[dN]
variable {as:List jP}
theorem Zy {f:Nat->Int}{p:List Nat}{d:Nat}{x4:Option D}(hm:mo<=1000)(hW:∀a∈W0 as,a.s<mo/\a.g<mo)(h:Kahn.Wh (W0 as) mo f p d)(hh:p[d]?=some here) :
  ∃x,nw (gV 4) gH ((W0 as).map di) [sI (mo:Int),sL (as.map di),sL ((W0 as).map di),sL (pA mo f),x4,sL (dN p),sI (d:Int),sI (here:Int)] =
   some (.nx [sI (mo:Int),sL (as.map di),sL ((W0 as).map di),sL (pA mo ((W0 as).foldl (Kahn.stp here) (f,p)).1),x,sL (dN ((W0 as).foldl (Kahn.stp here) (f,p)).2),sI (d:Int),sI (here:Int)]):=by
 have hd:d<p.length:=(cM.mp hh).1;have hP:here∉p.take d:=λz=>by
  obtain⟨i,hi,e⟩:=iL.mp z;have J5:i<d:=by rw[ef]at hi;omega
  rw[zJ]at e;have e2:p[d]=here:=(cM.mp hh).2;have:=(kJ (xs:=p) (h₀:=by omega) (h₁:=hd) h.ok.nd).mp (e.trans e2.symm);omega
 obtain⟨ρ',h1,x,pre,e1,e2⟩:=Ph (g:=gV 4) (b:=gH) (ds:=(W0 as).map di) (ρ:=[sI (mo:Int),sL (as.map di),sL ((W0 as).map di),sL (pA mo f),x4,sL (dN p),sI (d:Int),sI (here:Int)])
  (λds ρ=>∃x pre,ds=pre.map di/\(∃post,W0 as=pre++post)/\Kahn.In (W0 as) mo (p.take d) here pre (pre.foldl (Kahn.stp here) (f,p))/\ρ=[sI (mo:Int),sL (as.map di),sL ((W0 as).map di),sL (pA mo (pre.foldl (Kahn.stp here) (f,p)).1),x,sL (dN (pre.foldl (Kahn.stp here) (f,p)).2),sI (d:Int),sI (here:Int)])
  ⟨x4,[],rfl,⟨_,rfl⟩,⟨h.ok,λg=>by show f g=_;rw[h.fe];simp,h.z,λx hx=>by
   rcases hx with hx|rfl
   ·exact kU hx
   ·exact fK.mpr ⟨d,hh⟩⟩,rfl⟩ (by
  rintro ds dd post ρ e ⟨x,pre,rfl,⟨AO,e'⟩,I,rfl⟩;rw[e',dO]at e;have e3:=List.append_cancel_left e;cases AO with
  |nil=>cases e3
  |cons a AO=>
   rw[cL]at e3;cases e3;have ha:a∈W0 as:=by rw[e'];simp
   have hl:=Kahn.len_le I.ok.nd I.ok.lt;have I2:=I.step e' hP (hW a ha).2;refine⟨_,_,rfl,.inl ?_,some (di a),pre++[a],by simp,⟨AO,by rw[e'];simp⟩,by rw[yY];exact I2,rfl⟩;rw[yY];generalize pre.foldl (Kahn.stp here) (f,p)=S at hl;show gH _=some (.nx [_,_,_,sL (pA mo (Kahn.stp here S a).1),_,sL (dN (Kahn.stp here S a).2),_,_]);have f1:=fs a;have f2:=fg a;have ki:(dN S.2).length<16777216:=by simp[dN];omega
   unfold gH;by_cases hs:a.s=here
   ·have Cr:((a.s:Nat):Int)=(here:Int):=by rw[hs]
    have au:=Qq (i:=3) (fj:=e1 (gm [0,1,2,3] "goal") (eV 4)) (f:=eC (.int 1)) (gi:=λi j=>i-j) (ρ:=[sI (mo:Int),sL (as.map di),sL ((W0 as).map di),sL (pA mo S.1),some (di a),sL (dN S.2),sI (d:Int),sI (here:Int)]) (n:=mo) (g:=a.g) (w:=S.1) (y:=1) rfl (by walk_at "mix") rfl (hW a ha).2;have va:eJ (.lst (pA mo λx=>if x=a.g then S.1 a.g-1 else S.1 x)) (.int (a.g:Int))=sI (S.1 a.g-1):=by have:=Mx (λx=>if x=a.g then S.1 a.g-1 else S.1 x) (hW a ha).2;rw[if_pos rfl]at this;exact this
    by_cases h0:S.1 a.g-1=0
    ·have es:Kahn.stp here S a=(λx=>if x=a.g then S.1 a.g-1 else S.1 x,S.2++[a.g]):=by unfold Kahn.stp;simp[hs,h0]
     rw[es,←Yi];rw[h0]at va;clear I I2 e' es;walk_at "mix"
    ·have es:Kahn.stp here S a=(λx=>if x=a.g then S.1 a.g-1 else S.1 x,S.2):=by unfold Kahn.stp;simp[hs,h0]
     rw[es];clear I I2 e' es;walk_at "mix"
   ·have es:Kahn.stp here S a=S:=by unfold Kahn.stp;rw[if_neg hs]
    rw[es];have Cr:¬((a.s:Nat):Int)=(here:Int):=by omega
    clear I I2 e' es;walk_at "mix")
 obtain⟨⟨post,e2⟩,I,rfl⟩:=e2;have:pre=W0 as:=by have:=congrArg jL e1;rw[ck,ck]at this;rw[e2,cp]at this;have hp:post=[]:=List.eq_nil_of_length_eq_zero (by omega);rw[e2,hp,cS]
 rw[this]at h1;exact⟨x,h1⟩
theorem Pk (as:List jP)(l:as.length<=1000)(hm:mo<=1000)(hs:∀a∈as,a.s<mo/\a.g<mo) :
  ∃(f:Nat->Int) (p:List Nat),fW [.int (mo:Int),.lst (as.map di)]=sL (dN p)/\Kahn.Wh (W0 as) mo f p p.length:=by
 have hW:∀a∈W0 as,a.s<mo/\a.g<mo:=λa ha=>hs a (d8.mp ha).1;obtain⟨c1,_⟩:=OP (g:=gV 4) (b:=jX) di (λs:(Nat->Int)×Option D=>[sI (mo:Int),sL (as.map di),sL ((W0 as).map di),sL (pA mo s.1),s.2,none,none,none])
  Fc (λ_=>True) (W0 as) (λ_=>0,none) trivial (λs a ha _=>by
   refine⟨_,rfl,.inl ?_,trivial⟩;unfold jX;have f2:=fg a;rw[Qq (n:=mo) (g:=a.g) (w:=s.1) (y:=1) rfl (by walk_at "mix") rfl (hW a ha).2]
   rfl)
 have c2:=O4 (W0 as) (λ_=>0,none);generalize SW:(W0 as).foldl Fc (λ_=>0,none)=S0 at c1 c2;obtain⟨f0,y4⟩:=S0;dsimp only at c1 c2;have Tw:∀r:L3.Env,r[0]?.join=sI (mo:Int)->r[3]?.join=sL (pA mo f0)->l7 r=sL (dN ((dQ mo).filter λg=>decide (f0 g=0))):=by
  intro r h0 h3;refine IL (λ(t:Nat)=>D.int (t:Int)) (λg=>decide (f0 g=0)) (λ(t:Nat)=>D.int (t:Int)) (dQ mo) (MC h0 (by omega)) (by rw[fD];omega) ?_
  ·intro g hg;refine⟨_,rfl,?_,λ_=>rfl⟩;have hg:g<mo:=eu.mp hg;have hv:eJ (.lst (pA mo f0)) (.int (g:Int))=sI (f0 g):=Mx f0 hg;have hc:oZ r [3]=[sL (pA mo f0)]:=by unfold oZ;simp[h3]
   rw[hc];walk_at "mix"
 generalize hq:((dQ mo).filter λg=>decide (f0 g=0))=p0 at Tw;have w0:Kahn.Wh (W0 as) mo f0 p0 0:=by
  have hf:∀g,f0 g=Kahn.cnt (W0 as) [] g:=λg=>by rw[c2 g];unfold Kahn.cnt;simp
  refine⟨⟨by rw[←hq];exact kK.filter _,λx hx=>by rw[←hq,d8,eu]at hx;exact hx.1,λi x hx a ha e=>?_⟩,by omega,hf,λg hg=>by rw[←hq,d8,eu];simp[hg]⟩;have Cv:x∈p0:=fK.mpr ⟨i,hx⟩;rw[←hq,d8]at Cv;have h0:f0 x=0:=by simpa using Cv.2
  rw[hf]at h0;have:=Kahn.cnt_zero.mp (by exact_mod_cast h0) a ha e;cases this
 obtain⟨ρ',h1,⟨f,p,d,x4,x7,rfl,wh⟩,h3⟩:=Om (c:=tb (e2 yM (eV 6) (eN gx (aCons (eV 5) aNil)))) (b:=jW)
  (λρ=>∃f p d x4 x7,ρ=[sI (mo:Int),sL (as.map di),sL ((W0 as).map di),sL (pA mo f),x4,sL (dN p),sI ((d:Nat):Int),x7]/\Kahn.Wh (W0 as) mo f p d)
  (λρ:L3.Env=>match ρ[6]? with|some (some (D.int i))=>(1001-i).toNat|_=>0) (by
   rintro ρ ⟨f,p,d,x4,x7,rfl,wh⟩;have hl:(dN p).length=p.length:=by simp[dN]
   refine⟨decide ((d:Int)<(p.length:Int)),by walk_at "mix",λht=>?_⟩;have hd:d<p.length:=by simpa using ht
   have hh:p[d]?=some p[d]:=by simp[hd]
   obtain⟨x,Hn⟩:=Zy (x4:=x4) hm hW wh hh;obtain⟨GI,q,_⟩:=wh.step (λa ha=>(hW a ha).2) hh;have tD:=Kahn.len_le GI.ok.nd GI.ok.lt;have hdl:=GI.dl;refine⟨_,.inl ?_,⟨_,_,d+1,x,sI (p[d]:Int),rfl,GI⟩,?_⟩
   ·have hix:eJ (.lst (dN p)) (.int (d:Int))=sI (p[d]:Int):=ye (by simp[dN,hd]);have hau:i2 (λi j=>D.int (i+j)) (.int (d:Int)) (.int 1)=sI ((d+1:Nat):Int):=by simp[i2]
    unfold jW Dz;clear wh GI tD hdl;walk_at "mix"
   ·show(1001-((d+1:Nat):Int)).toNat<(1001-(d:Int)).toNat
    omega) uD [sI (mo:Int),sL (as.map di),sL ((W0 as).map di),sL (pA mo f0),y4,sL (dN p0),sI ((0:Nat):Int),none] ⟨f0,p0,0,y4,none,rfl,w0⟩ (by
   show(1001-((0:Nat):Int)).toNat<uD;have:(1001:Nat)<uD:=Qa (by decide)
   omega)
 have hd:d=p.length:=by
  have hl:(dN p).length=p.length:=by simp[dN]
  have h4:(tb (e2 yM (eV 6) (eN gx (aCons (eV 5) aNil)))) [sI (mo:Int),sL (as.map di),sL ((W0 as).map di),sL (pA mo f),x4,sL (dN p),sI (d:Int),x7]=some (decide ((d:Int)<(p.length:Int))):=by walk_at "mix"
  rw[h4]at h3;have:=wh.dl;simp at h3;omega
 subst hd;refine⟨f,p,?_,wh⟩;have r1:=Vy as (by omega);have rp:uJ (.lst [.int 0]) (.int (mo:Int))=sL (pA mo λ_=>0):=by unfold uJ;dsimp only;rw[if_pos ⟨by omega,by omega,by simp⟩];congr 2;unfold pA;rw[List.map_const',fD];simp
 rw[show(((0:Nat):Int))=0 from rfl]at h1;unfold fW pQ;clear hs hW c2 SW hq w0 wh h3 l hm;walk_at "mix"
def pN (ns:List D)(as:List jP):D:=.obj 4 ["names","arrows"] [.lst ns,.lst (as.map di)]
structure Ak (mo:Nat)(as:List jP):Prop where
 pos:1<=mo
 le:mo<=40
 len:as.length<=120
 right:∀a∈as,Right mo a
 rank:∃rank:Nat->Nat,∀a∈as,a.b=0->rank a.s<rank a.g
theorem Ak.placed (h:Ak mo as):∃p:List Nat,fW [.int (mo:Int),.lst (as.map di)]=sL (dN p)/\Kahn.Ok (W0 as) mo p/\p.length=mo/\∀g,g<mo->g∈p:=by obtain⟨f,p,h1,h2⟩:=Pk (mo:=mo) as (by have:=h.len;omega) (by have:=h.le;omega) (λa ha=>⟨(h.right a ha).s,(h.right a ha).g⟩);obtain⟨rank,hr⟩:=h.rank;have all:=h2.all rank (λa ha=>by have:=d8.mp ha;exact hr a this.1 (by simpa using this.2)) (λa ha=>(h.right a (d8.mp ha).1).s);exact⟨p,h1,h2.ok,Kahn.len_of h2.ok.nd h2.ok.lt all,all⟩
theorem I0 (ns:List Int)(i:Int)(hi:0<=i):∃c,eY [.lst (ns.map .int),.int i]=sI c:=by
 obtain⟨k,rfl⟩:∃k:Nat,i=k:=⟨i.toNat,by omega⟩;unfold eY;by_cases h:k<ns.length
 ·refine⟨ns[k],?_⟩;have:eJ (.lst (ns.map .int)) (.int (k:Int))=some (.int ns[k]):=ZM D.int (.inl rfl) (by simp[h]);walk_at "mix"
 ·refine⟨0,?_⟩;walk_at "mix"
theorem GP (c:Int){k:Int}(h0:0<=k)(h1:k<=1000000):∃r:Nat,gc [.int c,.int k]=sI (r:Int)/\r<2147483648:=by
 have m0:jJ (.int 31) (.int k)=sI (31*k):=zbs (by decide) (by decide);have s0:yQ (.int c) (.int (64+31*k))=sI (c/2 ^ (64+31*k).toNat):=zgy (by omega);have fin:∀z:Int,∀m:Int,0<m->m<=2147483648->∃r:Nat,(some (D.int (z%m)):Option D)=sI (r:Int)/\r<2147483648:=λz m hm tX=>by have a1:=jG z (by omega:m≠0);have a2:=hZ z hm;exact⟨(z%m).toNat,by rw[oP a1],by omega⟩
 generalize hn:(c+7919*k+1)*48271%2147483647=n1;have b1:0<=n1/\n1<2147483647:=by omega
 have m1:jJ (.int 7919) (.int k)=sI (7919*k):=zbs (by decide) (by decide);have m2:jJ (.int (c+7919*k+1)) (.int 48271)=sI ((c+7919*k+1)*48271):=zgx (by decide) (by decide);have m3:jJ (.int n1) (.int (n1/1009+69621))=sI (n1*(n1/1009+69621)):=zbs (by omega) (by omega);generalize Bk:n1*(n1/1009+69621)%2147483647=n2;have b2:0<=n2/\n2<2147483647:=by omega
 have m4:jJ (.int n2) (.int (n2/1013+16807))=sI (n2*(n2/1013+16807)):=zbs (by omega) (by omega);unfold gc;by_cases hr:(1237940039285380274899124224:Int)<=c
 ·by_cases hs:c/2 ^ (64+31*k).toNat > 0
  ·obtain⟨r,e1,e2⟩:=fin (c/2 ^ (64+31*k).toNat) 2147483648 (by decide) (by decide);refine⟨r,?_,e2⟩;rw[←e1];generalize c/2 ^ (64+31*k).toNat=q at s0 hs;clear e1 e2 fin hn Bk b1 b2 h0 h1;walk_at "mix"
  ·obtain⟨r,e1,e2⟩:=fin (n2*(n2/1013+16807)) 2147483647 (by decide) (by decide);refine⟨r,?_,e2⟩;rw[←e1];generalize c/2 ^ (64+31*k).toNat=q at s0 hs;clear e1 e2 fin b1 b2 h0 h1;walk_at "mix"
 ·obtain⟨r,e1,e2⟩:=fin (n2*(n2/1013+16807)) 2147483647 (by decide) (by decide);refine⟨r,?_,e2⟩;rw[←e1];clear e1 e2 fin b1 b2 h0 h1 s0;walk_at "mix"
theorem Gd (a b c d:Int)(k:Int):∃x,atI [D.int a,D.int b,D.int c,D.int d] (k%4)=sI x/\(x=a\/x=b\/x=c\/x=d):=by
 have:k%4=0\/k%4=1\/k%4=2\/k%4=3:=by omega
 rcases this with h|h|h|h<;>rw[h]
 ·exact⟨a,rfl,.inl rfl⟩
 ·exact⟨b,rfl,.inr (.inl rfl)⟩
 ·exact⟨c,rfl,.inr (.inr (.inl rfl))⟩
 ·exact⟨d,rfl,.inr (.inr (.inr rfl))⟩
theorem OV {α:Type}(f:α->Bool):∀xs:List α,nI (xs.map λx=>D.bl (f x))=some (xs.map f)
 |[]=>rfl
 |x::xs=>by show(nI (xs.map λx=>D.bl (f x))).bind _=_;rw[OV f xs];rfl
theorem all_map (f:α->Bool)(xs:List α):oH [.lst (xs.map λx=>D.bl (f x))]=some (.bl (xs.all f)):=by show(nI _).bind _=_;rw[OV];show some (D.bl ((xs.map f).all id))=_;rw[t6];rfl
def cr (ws:List Str):D:=.lst (ws.map D.str)
theorem OW:∀ys:List Str,p7 (ys.map .str)=some ys
 |[]=>rfl
 |y::ys=>by show(p7 (ys.map .str)).bind _=_;rw[OW ys];rfl
theorem GU {b:Nat}:∀{ys:List Str},(∀y∈ys,y.length<=b)->(ys.map (·.length)).sum<=ys.length*b
 |[],_=>by simp
 |y::ys,h=>by have h1:=h y b9;have h2:=GU (b:=b) (ys:=ys) λz hz=>h z (cj _ hz);rw[cL,B7,cm,uR];omega
theorem qx (sp:Str):∀ys:List Str,(Str.join sp ys).length<=(ys.map (·.length)).sum+ys.length*sp.length
 |[]=>by unfold Str.join;exact eI _
 |[y]=>by unfold Str.join;simp
 |y::z::ys=>by have ih:=qx sp (z::ys);unfold Str.join;rw[yi,yi];simp only[cL,B7,cm]at ih ⊢;rw[uR];omega
theorem IM {sp:Str}(hs:cU.strOk sp=true):∀{ys:List Str},(∀y∈ys,cU.strOk y=true)->cU.strOk (Str.join sp ys)=true
 |[],_=>by unfold Str.join;decide +kernel
 |[y],h=>by unfold Str.join;exact h y b9
 |y::z::ys,h=>by have ih:=IM hs (ys:=z::ys) λx hx=>h x (cj _ hx);unfold Str.join;exact Ra (Ra (h y b9) hs) ih
theorem Ez {sp:Str}{ys:List Str}{b:Nat}(h:∀y∈ys,y.length<=b)(hb:ys.length*b+ys.length*sp.length<=16777216):lG (.str sp) (cr ys)=some (.str (Str.join sp ys)):=by show(p7 (ys.map .str)).bind _=_;rw[OW];show(if _ then _ else _)=_;rw[if_pos (by have:=GU h;omega)]
def eD (c:Nat):Str:=⟨#[c]⟩
theorem G4:(" ":Str)=eD 32:=by decide +kernel
theorem Jg:("\n":Str)=eD 10:=by decide +kernel
def og (c:Nat)(w:Str):Prop:=c∉w.cps.toList
theorem Rg {c:Nat}:∀{a b X Y:List Nat},c∉a->c∉b->a++c::X=b++c::Y->a=b/\X=Y
 |[],[],X,Y,_,_,h=>by simpa using h
 |[],y::b,X,Y,_,hb,h=>by
  have:c=y:=by simpa using(List.cons.inj h).1
  exact absurd (by rw[this];exact b9) hb
 |x::a,[],X,Y,ha,_,h=>by
  have:x=c:=by simpa using(List.cons.inj h).1
  exact absurd (by rw[this];exact b9) ha
 |x::a,y::b,X,Y,ha,hb,h=>by obtain⟨e,h2⟩:=List.cons.inj h;subst e;obtain⟨e1,e2⟩:=Rg (λz=>ha (cj _ z)) (λz=>hb (cj _ z)) h2;exact⟨by rw[e1],e2⟩
theorem yw {x y:Str}(h:x.cps.toList=y.cps.toList):x=y:=by obtain⟨a⟩:=x;obtain⟨b⟩:=y;exact congrArg Str.mk (mS.mp h)
theorem yk (x y:Str):(x++y).cps.toList=x.cps.toList++y.cps.toList:=by show(x.cps++y.cps).toList=_;simp
theorem join_list (c:Nat)(a b:Str)(r:List Str):(Str.join (eD c) (a::b::r)).cps.toList=a.cps.toList++c::(Str.join (eD c) (b::r)).cps.toList:=by rw[show Str.join (eD c) (a::b::r)=a++eD c++Str.join (eD c) (b::r)from rfl,yk,yk];simp[eD]
theorem Pl {c:Nat}:∀{ws us:List Str},ws≠[]->us≠[]->(∀w∈ws,og c w)->(∀w∈us,og c w)->Str.join (eD c) ws=Str.join (eD c) us->ws=us
 |[],_,h,_,_,_,_=>absurd rfl h
 |_::_,[],_,h,_,_,_=>absurd rfl h
 |[a],[b],_,_,_,_,h=>by have h:a=b:=h;rw[h]
 |[a],b::b'::r,_,_,ha,_,h=>by have e:=congrArg (λx:Str=>x.cps.toList) h;rw[join_list]at e;have e:a.cps.toList=_:=e;exact absurd (by rw[e];simp) (ha a b9)
 |a::a'::r,[b],_,_,_,hb,h=>by have e:=congrArg (λx:Str=>x.cps.toList) h;rw[join_list]at e;have e:_=b.cps.toList:=e;exact absurd (by rw[←e];simp) (hb b b9)
 |a::a'::r,b::b'::r',_,_,ha,hb,h=>by have e:=congrArg (λx:Str=>x.cps.toList) h;rw[join_list,join_list]at e;obtain⟨e1,e2⟩:=Rg (ha a b9) (hb b b9) e;have:=Pl (ws:=a'::r) (us:=b'::r') (by simp) (by simp) (λw hw=>ha w (cj _ hw)) (λw hw=>hb w (cj _ hw)) (yw e2);rw[yw e1,this]
theorem Yx (x y:Str):Txt.split x y≠[]:=by
 unfold Txt.split;split
 ·simp
 ·split
  ·simp
  ·intro h;have:=congrArg jL h;rw[PyProof.Rows.len_partsBetween]at this;simp at this
variable {ws:List Str}
theorem WF {c:Nat}(h:ws≠[])(hf:∀w∈ws,og c w):Txt.split (Str.join (eD c) ws) (eD c)=ws :=
 Pl (Yx _ _) h (StrLaws.split_free _ c) hf (StrLaws.join_split _ _)
theorem Qr {c:Nat}{b:Nat}(h:ws≠[])(hf:∀w∈ws,og c w)(hb:∀w∈ws,w.length<=b)(hz:ws.length*b+ws.length<=16777216):oN (.str (Str.join (eD c) ws)) (.str (eD c))=some (cr ws):=by
 show(if _ then _ else _)=_;rw[WF h hf,if_pos]
 ·rfl
 ·refine⟨rfl,?_,by omega⟩;have h1:=qx (eD c) ws;have h2:=GU hb;have:(eD c).length=1:=rfl;rw[this,Nat.mul_one]at h1;omega
theorem Pm {c d:Nat}(hd:d≠c):∀{ws:List Str},(∀w∈ws,og c w)->og c (Str.join (eD d) ws)
 |[],_=>by unfold og;show c∉([]:List Nat);simp
 |[a],h=>h a b9
 |a::b::r,h=>by
  have ih:=Pm hd (ws:=b::r) λw hw=>h w (cj _ hw);unfold og at *;rw[join_list];intro z;rcases cG.mp z with z|z
  ·exact h a b9 z
  ·rcases cn.mp z with z|z
   ·exact hd z.symm
   ·exact ih z
theorem Jk (a c:Nat):Bl (.str (eD a)) (.str (eD c))=some (.bl (decide (a<=c))):=by
 show some (D.bl (!(decide ([c] < [a]))))=_;have:decide (([c]:List Nat) < [a])=decide (c<a):=by
  by_cases h:c<a
  ·rw[decide_eq_true h];exact decide_eq_true (show([c]:List Nat) < [a]from List.Lex.rel h)
  ·rw[decide_eq_false h,decide_eq_false];intro z;cases z with
   |rel q=>exact h q
   |cons q=>cases q
 rw[this];by_cases h:c<a
 ·rw[decide_eq_true h,decide_eq_false (by omega)];rfl
 ·rw[decide_eq_false h,decide_eq_true (by omega)];rfl
theorem Pn (c:Nat):kO [.str (eD c)]=some (.bl (decide (97<=c/\c<=122))):=by
 have h1:=Jk 97 c;have h2:=Jk c 122;have e1:("a":Str)=eD 97:=by decide +kernel
 have e2:("z":Str)=eD 122:=by decide +kernel
 unfold kO;rw[e1,e2];by_cases k1:97<=c
 ·by_cases k2:c<=122
  ·rw[decide_eq_true ⟨k1,k2⟩];rw[decide_eq_true k1]at h1;rw[decide_eq_true k2]at h2;clear e1 e2 k1 k2;walk_at "mix"
  ·rw[decide_eq_false λz=>k2 z.2];rw[decide_eq_true k1]at h1;rw[decide_eq_false k2]at h2;clear e1 e2 k1 k2;walk_at "mix"
 ·rw[decide_eq_false λz=>k1 z.1];rw[decide_eq_false k1]at h1;clear e1 e2 k1 h2;walk_at "mix"
theorem Po (c:Nat):kN [.str (eD c)]=some (.bl (decide (48<=c/\c<=57))):=by
 have h1:=Jk 48 c;have h2:=Jk c 57;have e1:("0":Str)=eD 48:=by decide +kernel
 have e2:("9":Str)=eD 57:=by decide +kernel
 unfold kN;rw[e1,e2];by_cases k1:48<=c
 ·by_cases k2:c<=57
  ·rw[decide_eq_true ⟨k1,k2⟩];rw[decide_eq_true k1]at h1;rw[decide_eq_true k2]at h2;clear e1 e2 k1 k2;walk_at "mix"
  ·rw[decide_eq_false λz=>k2 z.2];rw[decide_eq_true k1]at h1;rw[decide_eq_false k2]at h2;clear e1 e2 k1 k2;walk_at "mix"
 ·rw[decide_eq_false λz=>k1 z.1];rw[decide_eq_false k1]at h1;clear e1 e2 k1 h2;walk_at "mix"
def tY (c:Nat):Bool:=decide (97<=c/\c<=122)
def BE (c:Nat):Bool:=decide (48<=c/\c<=57)
theorem zz (w:Str):w.cps.toList.length=w.length:=iY
theorem Pp {x:Str}(h:x.length<=16777216):gx [.str x]=sI (x.length:Int):=by show(if x.length<=16777216 then some (D.int x.length)else none)=_;rw[if_pos h]
theorem tF {w:Str}{c:Nat}{r:List Nat}(h:w.cps.toList=c::r)(hl:w.length<=100):eJ (.str w) (.int 0)=some (.str (eD c)):=by show(if w.length<=16777216 then(atI w.cps.toList 0).bind λc=>some (D.str ⟨#[c]⟩)else none)=_;rw[if_pos (by omega),h,show atI (c::r) 0=some c from ye (xs:=c::r) (j:=0) rfl];rfl
def sM (w:Str):Bool:=match w.cps.toList with
 |[]=>false
 |c::r=>decide (r.length<8)&&tY c&&r.all λc=>tY c || BE c
theorem Lw {w:Str}(h:sM w=true):kE [.str w]=some (.bl true):=by
 unfold sM at h;cases hw:w.cps.toList with
 |nil=>rw[hw]at h;cases h
 |cons c r=>
  rw[hw]at h;dsimp only at h;rw[cx,cx]at h;obtain⟨⟨h1,h2⟩,h3⟩:=h;have h1:r.length<8:=of_decide_eq_true h1;have hl:=zz w;rw[hw,cm]at hl;have l1:=Pp (x:=w) (by omega);have x0:=tF hw (by omega);have t0:=Pn c;rw[show decide (97<=c/\c<=122)=true from h2]at t0;have i1:mw "str" (.str w)=some (.bl true):=rfl;have a1:eN oH (aCons l6 aNil) [some (.str w)]=some (.bl true):=by
   have:l6 [some (.str w)]=sL ((c::r).map λ_=>D.bl true):=by
    refine xb (λc=>D.str (eD c)) (λ_=>D.bl true) (c::r) ?_ (by simp;omega) λx hx=>⟨_,rfl,?_⟩
    ·show some (rD w)=_;unfold rD;rw[hw];rfl
    ·have k1:=Pn x;have k2:=Po x;by_cases q:97<=x/\x<=122
     ·rw[decide_eq_true q]at k1;clear k2 q;walk_at "mix"
     ·rw[decide_eq_false q]at k1;have:48<=x/\x<=57:=by
       rcases cn.mp hx with rfl|hx
       ·exact absurd (of_decide_eq_true h2) q
       ·have:=dB.mp h3 x hx;rw[jD]at this;rcases this with z|z
        ·exact absurd (of_decide_eq_true z) q
        ·exact of_decide_eq_true z
      rw[decide_eq_true this]at k2;clear q this;walk_at "mix"
   unfold eN aCons;rw[this];show oH [.lst ((c::r).map λ_=>D.bl true)]=_;rw[all_map];simp
  have c1:¬(w.length:Int)<1:=by omega
  have c2:¬(w.length:Int) > 8:=by omega
  generalize (w.length:Int)=wl at *;unfold kE;generalize eN oH (aCons l6 aNil)=AA at *;clear h1 h2 h3 hl hw;walk_at "mix"
theorem qy (n:Nat):(jI (n:Int)).cps.toList=(Nat.toDigits 10 n).map Char.toNat:=by unfold jI;rw[Str.ofString_eq_toList];have:(toString (n:Int):String)=Nat.repr n:=rfl;rw[this];unfold Nat.repr;rw[String.toList_ofList]
theorem LZ {n:Nat}{x:Nat}(h:x∈(jI (n:Int)).cps.toList):48<=x/\x<=57:=by rw[qy]at h;obtain⟨c,hc,rfl⟩:=cZ.mp h;have:=Nat.isDigit_of_mem_toDigits (b:=10) (by decide) (by decide) hc;unfold Char.isDigit at this;simp at this;exact⟨this.1,this.2⟩
theorem Qs {c n:Nat}(h:c<48):og c (jI (n:Int)):=λz=>by have:=LZ z;omega
theorem Yy:∀(n:Nat),1<=n->∃c r,Nat.toDigits 10 n=c::r/\c≠'0':=by
 intro n;induction n using Nat.strongRecOn with
 |_ n ih=>
  intro h;by_cases D9:n<10
  ·rw[Nat.toDigits_of_lt_base D9];have:∀m,m<10->1<=m->m.digitChar≠'0':=by decide
   exact⟨_,_,rfl,this n D9 h⟩
  ·rw[Nat.toDigits_of_base_le (by decide) (by omega)];obtain⟨c,r,e,hc⟩:=ih (n/10) (by omega) (by omega);rw[e];exact⟨c,_,rfl,hc⟩
theorem jr {n:Nat}(h:n<10000000000):(jI (n:Int)).length<=10:=by rw[←zz,qy,ck];exact(Nat.length_toDigits_le_iff (by decide) (by decide)).mpr (by omega)
theorem Yz:jI ((0:Nat):Int) = "0":=by decide +kernel
theorem YA {n:Nat}(h:n<10000000000):gX [.str (jI (n:Int))]=some (.bl true):=by
 have hl:=jr h;have l1:=Pp (x:=jI (n:Int)) (by omega);have FD:1<=(jI (n:Int)).length:=by rw[←zz,qy,ck];exact Nat.length_toDigits_pos
 have a1:eN oH (aCons i7 aNil) [some (.str (jI (n:Int)))]=some (.bl true):=by
  have:i7 [some (.str (jI (n:Int)))]=sL ((jI (n:Int)).cps.toList.map λ_=>D.bl true):=by refine xb (λc=>D.str (eD c)) (λ_=>D.bl true) _ rfl (by rw[zz];omega) λx hx=>⟨_,rfl,?_⟩;have k2:=Po x;rw[decide_eq_true (LZ hx)]at k2;clear hx l1;walk_at "mix"
  unfold eN aCons;rw[this];show oH [.lst ((jI (n:Int)).cps.toList.map λ_=>D.bl true)]=_;rw[all_map];simp
 have c1:¬((jI (n:Int)).length:Int)<1:=by omega
 have c2:¬((jI (n:Int)).length:Int) > 15:=by omega
 by_cases h0:n=0
 ·subst h0;rw[Yz]at *;have e1:iz false (.str "0") (.str "0")=some (.bl true):=(vn (uf _) (uf _)).trans (by simp);generalize (("0":Str).length:Int)=wl at *;unfold gX;generalize eN oH (aCons i7 aNil)=AA at *;clear hl FD h;walk_at "mix"
 ·obtain⟨c,r,e,hc⟩:=Yy n (by omega);have hw:(jI (n:Int)).cps.toList=c.toNat::r.map Char.toNat:=by rw[qy,e];rfl
  have x0:=tF hw (by omega);have ne:¬eD c.toNat = "0":=λz=>by
   have z:eD c.toNat=eD 48:=z.trans (by decide +kernel);have z:c.toNat=48:=by simpa[eD]using z
   exact hc (Char.ext (UInt32.toNat_inj.mp z))
  have e2:iz true (.str (eD c.toNat)) (.str "0")=some (.bl true):=by
   have hk:cU.strOk (eD c.toNat)=true:=by have:=LZ (n:=n) (x:=c.toNat) (by rw[hw];exact b9);unfold cU.strOk eD;simp;omega
   rw[vn hk (uf _),decide_eq_false ne];rfl
  obtain⟨bb,e1⟩:∃bb,iz false (.str (jI (n:Int))) (.str "0")=some (.bl bb):=⟨_,vn (MB _) (uf _)⟩;generalize ((jI (n:Int)).length:Int)=wl at *;generalize jI (n:Int)=w at *;unfold gX;generalize eN oH (aCons i7 aNil)=AA at *;clear hl FD h h0 e hc hw ne;cases bb
  ·walk_at "mix"
  ·walk_at "mix"
theorem zv3 {n:Nat}(h:n<10000000000):rZ [.str (jI (n:Int))]=sI (n:Int):=by show(if(jI (n:Int)).length<=640 then(PySem.intText? (jI (n:Int))).bind λi=>some (D.int i)else none)=_;have:=jr h;rw[if_pos (by omega),show PySem.intText? (jI (n:Int))=some (n:Int)from PySem.W.KIN.num_reads (by omega) (by omega)];rfl
theorem OI (hl:ws.length<=1000)(h:∀w∈ws,gX [.str w]=some (.bl true)):i6 [cr ws]=some (.bl true):=by
 have a1:eN oH (aCons i8 aNil) [some (cr ws)]=some (.bl true):=by
  have:i8 [some (cr ws)]=sL (ws.map λ_=>D.bl true):=by refine xb D.str (λ_=>D.bl true) ws rfl (by omega) λw hw=>⟨_,rfl,?_⟩;have:=h w hw;clear h;walk_at "mix"
  unfold eN aCons;rw[this];show oH [.lst (ws.map λ_=>D.bl true)]=_;rw[all_map];simp
 generalize cr ws=L at *;unfold i6;generalize eN oH (aCons i8 aNil)=AA at *;clear h hl;walk_at "mix"
def mR:Kd->Str
 |.ride=>"ride" |.wait=>"wait" |.back=>"back"
theorem MD (k:Kd):cU.strOk (mR k)=true:=by cases k<;>exact uf _
theorem zuv (neg:Bool)(k j:Kd):iz neg (.str (mR k)) (.str (mR j))=some (.bl (if neg then !decide (k=j)else decide (k=j))):=by
 rw[vn (MD k) (MD j)];have:decide (mR k=mR j)=decide (k=j):=by cases k<;>cases j<;>decide
 rw[this]
structure lR (na:List Str):Prop where
 nd:na.Nodup
 ok:∀x∈na,sM x=true
 le:na.length<=40
theorem yx {w:Str}(h:sM w=true):1<=w.length/\w.length<=8:=by
 unfold sM at h;rw[←zz];cases hw:w.cps.toList with
 |nil=>rw[hw]at h;cases h
 |cons c r=>rw[hw]at h;dsimp only at h;rw[cx,cx]at h;have:=of_decide_eq_true h.1.1;rw[cm];omega
theorem Rh {w:Str}(h:sM w=true){x:Nat}(hx:x∈w.cps.toList):48<=x/\x<=122:=by
 unfold sM at h;cases hw:w.cps.toList with
 |nil=>rw[hw]at hx;cases hx
 |cons c r=>
  rw[hw]at h hx;dsimp only at h;rw[cx,cx]at h;rcases cn.mp hx with rfl|hx
  ·have:=of_decide_eq_true (p:=97<=x/\x<=122) h.1.2;omega
  ·have:=dB.mp h.2 x hx;rw[jD]at this;rcases this with z|z
   ·have:=of_decide_eq_true (p:=97<=x/\x<=122) z;omega
   ·have:=of_decide_eq_true (p:=48<=x/\x<=57) z;omega
theorem GQ {w:Str}(h:sM w=true){c:Nat}(hc:c<48):og c w:=λz=>by have:=Rh h z;omega
theorem ME {w:Str}(h:sM w=true):cU.strOk w=true:=by unfold cU.strOk;rw[←yT,dB];intro x hx;have:=Rh h hx;rw[decide_eq_true_iff];omega
def cY (na:List Str)(i:Nat):Str:=na.getD i ""
variable {na:List Str}
theorem ww {i:Nat}(h:i<na.length):cY na i∈na:=by unfold cY;rw[gA,cX h];exact iS h
theorem Jl {i:Nat}(h:i<na.length):eJ (cr na) (.int (i:Int))=some (.str (cY na i)):=ye (by unfold cY;rw[dG,cX h,gA,cX h];rfl)
theorem IN (ws:List Str):(ws.map D.str).all D.sc=true:=by rw[t6];exact dB.mpr λx _=>rfl
theorem zvl (nd:na.Nodup){i:Nat}(h:i<na.length):oK (cr na) (.str (cY na i))=sI (i:Int):=by
 have hf:(na.map D.str).findIdx? (λy=>D6 y (.str (cY na i)))=some i:=by
  rw[yX];have e:cY na i=na[i]:=by unfold cY;rw[gA,cX h];rfl
  rw[e,jT];refine⟨h,?_,λj hj=>?_⟩
  ·show(na[i]==na[i])=true;exact beq_self_eq_true _
  ·have J8:j<na.length:=by omega
   have:na[j]≠na[i]:=λz=>by have:=(kJ (xs:=na) (h₀:=J8) (h₁:=h) nd).mp z;omega
   show¬(na[j]==na[i])=true;rw[beq_iff_eq];exact this
 show(if _ then _ else _)=_;rw[if_pos ⟨rfl,IN na⟩,hf];rfl
theorem Qt {x:Str}(h:x∈na):inD true (.str x) (cr na)=some (.bl false):=by
 have hi:xE (.str x) (na.map D.str)=true:=by unfold xE;rw[t7,Aa];exact⟨x,h,beq_self_eq_true x⟩
 show(if _ then _ else _)=_;rw[if_pos ⟨rfl,IN na⟩,hi];rfl
structure Wr (n:Nat)(a:jP):Prop where
 s:a.s<n
 g:a.g<n
 t0:0<=a.t
 t1:a.t<=1000000000
 b:a.b<=4
 r:a.c=.ride->a.b=0
def lM (na:List Str)(a:jP):List Str:=[mR a.c,cY na a.s,cY na a.g,jI a.t]++(if a.c=.ride then[]else[jI (a.b:Int)])
theorem Zz (k:Kd){c:Nat}(hc:c<48):og c (mR k):=λz=>by
 have:∀x∈(mR k).cps.toList,48<=x:=by cases k<;>decide +kernel
 have:=this c z;omega
theorem Qu (k:Kd):(mR k).length=4:=by cases k<;>decide +kernel
theorem xx (hn:lR na)(h:Wr na.length a){w:Str}(hw:w∈lM na a):(∀c,c<48->og c w)/\w.length<=12/\cU.strOk w=true:=by
 obtain⟨t,ht⟩:∃t:Nat,a.t=(t:Int):=⟨a.t.toNat,by have:=h.t0;omega⟩;have t1:=h.t1;have hb:=h.b;have n1:=hn.ok _ (ww h.s);have n2:=hn.ok _ (ww h.g);have n1l:=yx n1;have n2l:=yx n2;unfold lM at hw;rw[ht]at hw t1;have e4:=jr (n:=t) (by omega);have e5:=jr (n:=a.b) (by omega);rcases cG.mp hw with hw|hw
 ·simp only[cn,df,or_false]at hw;rcases hw with rfl|rfl|rfl|rfl
  ·exact⟨λc hc=>Zz _ hc,by rw[Qu];omega,MD _⟩
  ·exact⟨λc hc=>GQ n1 hc,by omega,ME n1⟩
  ·exact⟨λc hc=>GQ n2 hc,by omega,ME n2⟩
  ·exact⟨λc hc=>Qs hc,by omega,MB _⟩
 ·by_cases hc:a.c=.ride
  ·rw[if_pos hc]at hw;cases hw
  ·rw[if_neg hc,cz]at hw;subst hw;exact⟨λc hc=>Qs hc,by omega,MB _⟩
def Cj (vE:Str->Bool):List Str->List Str->Bool
 |_,[]=>true
 |seen,x::xs=>vE x&&(!seen.contains x)&&Cj vE (seen++[x]) xs
theorem L4 (vE:Str->Bool):∀(xs seen:List Str),seen.Nodup->(Cj vE seen xs=true↔(∀x∈xs,vE x=true)/\(seen++xs).Nodup)
 |[],seen,h=>by simp[Cj,h]
 |x::xs,seen,h=>by
  unfold Cj;rw[cx,cx];by_cases hx:x∈seen
  ·have c:(!seen.contains x)=false:=by simp[hx]
   rw[c];constructor
   ·rintro⟨⟨_,z⟩,_⟩;cases z
   ·rintro⟨_,nd⟩;exact absurd rfl (((c8.mp nd).2.2 x hx x b9))
  ·have c:(!seen.contains x)=true:=by simp[hx]
   have nd:(seen++[x]).Nodup:=c8.mpr ⟨h,by simp,λa ha b hb e=>by rw[cz]at hb;subst hb;subst e;exact hx ha⟩;rw[L4 vE xs (seen++[x]) nd,c,eh,List.singleton_append];constructor
   ·rintro⟨⟨h1,_⟩,h2,h3⟩;exact⟨λy hy=>by
     rcases cn.mp hy with rfl|hy
     ·exact h1
     ·exact h2 y hy,h3⟩
   ·rintro⟨h1,h2⟩;exact⟨⟨h1 x b9,rfl⟩,λy hy=>h1 y (cj _ hy),h2⟩
def lN (seen:List Str):D:=.dK (seen.map Sum.inr) (seen.map λ_=>D.bl true)
theorem Pq (x:Str):∀seen:List Str,(mM (seen.map (Sum.inr:Str->iW)) (seen.map λ_=>D.bl true) (.inr x)).isSome=seen.contains x
 |[]=>rfl
 |y::seen=>by
  have ih:=Pq x seen;unfold mM at *;rw[cL,cL,hV,fk];by_cases h:y=x
  ·subst h;simp
  ·have h1:¬(Sum.inr y:iW)=.inr x:=λz=>h (by cases z;rfl);rw[decide_eq_false h1];dsimp only;rw[ih];have h2:¬x=y:=λz=>h z.symm;simp[h2]
theorem Og (vE:Str->Bool)(d:D):∀(xs seen:List Str) (y2:Option D),(∀x∈xs,kE [.str x]=some (.bl (vE x)))->seen.length+xs.length<=100 ->
  (Cj vE seen xs=true/\∃t1 t2,nw (gV 2) ez (xs.map .str) [some d,some (lN seen),y2]=some (.nx [some d,t1,t2]))\/(Cj vE seen xs=false/\nw (gV 2) ez (xs.map .str) [some d,some (lN seen),y2]=some (.rt (.bl false)))
 |[],seen,y2,_,_=>.inl ⟨rfl,_,_,rfl⟩
 |x::xs,seen,y2,hn,hl=>by
  have h1:=hn x b9;have hg:(lW (lN seen) (.str x)).bind (λr=>some (D.bl r.isSome))=some (.bl (seen.contains x)):=by show some (D.bl (mM (seen.map (Sum.inr:Str->iW)) (seen.map λ_=>D.bl true) (.inr x)).isSome)=_;rw[Pq]
  have Im:nw (gV 2) ez ((x::xs).map .str) [some d,some (lN seen),y2]=(ez [some d,some (lN seen),some (.str x)]).bind λo=>match o with
    |.nx ρ'=>nw (gV 2) ez (xs.map .str) ρ'
    |.ct ρ'=>nw (gV 2) ez (xs.map .str) ρ'
    |.bk ρ'=>some (.nx ρ')
    |.rt d=>some (.rt d):=rfl
  rw[Im];unfold Cj;cases hi:vE x with
  |false=>
   right;refine⟨rfl,?_⟩
   rw[hi]at h1;have:ez [some d,some (lN seen),some (.str x)]=some (.rt (.bl false)):=by unfold ez;clear hg Im hn hl hi;walk_at "mix"
   rw[this];rfl
  |true=>
   rw[hi]at h1;cases hc:seen.contains x with
   |true=>
    right;refine⟨rfl,?_⟩
    rw[hc]at hg;have:ez [some d,some (lN seen),some (.str x)]=some (.rt (.bl false)):=by generalize lN seen=sd at *;unfold ez;clear Im hn hl hi hc;walk_at "mix"
    rw[this];rfl
   |false=>
    rw[hc]at hg;have put:oz 1 (eV 2) (eC (.bl true)) [some d,some (lN seen),some (.str x)]=some (.nx [some d,some (lN (seen++[x])),some (.str x)]):=by
     have Tu:(Sum.inr x:iW)∉seen.map (Sum.inr:Str->iW):=λz=>by obtain⟨y,hy,e⟩:=cZ.mp z;cases e;rw[gB.mpr hy]at hc;cases hc
     have e:iF (seen.map (Sum.inr:Str->iW)) (seen.map λ_=>D.bl true) (.inr x) (.bl true)=((seen++[x]).map Sum.inr,(seen++[x]).map λ_=>D.bl true):=by unfold iF;rw[if_neg (by simpa using Tu),dO,dO];rfl
     show(if(seen.map (Sum.inr:Str->iW)).length<16777216 then some (Out.nx [some d,some (.dK (iF (seen.map (Sum.inr:Str->iW)) (seen.map λ_=>D.bl true) (.inr x) (.bl true)).1 (iF (seen.map (Sum.inr:Str->iW)) (seen.map λ_=>D.bl true) (.inr x) (.bl true)).2),some (.str x)])else none)=_;rw[if_pos (by rw[ck];omega),e];rfl
    have:ez [some d,some (lN seen),some (.str x)]=some (.nx [some d,some (lN (seen++[x])),some (.str x)]):=by generalize lN (seen++[x])=sd2,lN seen=sd at *;unfold ez;generalize oz 1 (eV 2) (eC (.bl true))=PD at *;clear Im hn hl hi hc;walk_at "mix"
    rw[this];exact Og vE d xs (seen++[x]) _ (λy hy=>hn y (cj _ hy)) (by rw[cp];simp at hl ⊢;omega)
theorem Oh (vE:Str->Bool)(xs:List Str)(hn:∀x∈xs,kE [.str x]=some (.bl (vE x)))(hl:xs.length<=100):dZ [.lst (xs.map .str)]=some (.bl (decide (1<=xs.length/\xs.length<=40)&&Cj vE [] xs)):=by
 have i1:mw "list" (.lst (xs.map D.str))=some (.bl true):=rfl;have l1:gx [.lst (xs.map D.str)]=sI (xs.length:Int):=(yp _).trans (by rw[ck]);by_cases h:1<=xs.length/\xs.length<=40
 ·have a1:¬(xs.length:Int)<1:=by omega
  have a2:¬(xs.length:Int) > 40:=by omega
  rw[decide_eq_true h,B6];have e0:lN []=.dK [] []:=rfl;rcases Og vE (.lst (xs.map .str)) xs [] none hn (by simpa using hl)with⟨h1,t1,t2,h2⟩|⟨h1,h2⟩
  ·rw[h1];rw[e0]at h2;generalize xs.map D.str=v at *;unfold dZ;simp -implicitDefEqProofs [mOf,startD,sSeq,sIf,sSet,sRet,sFor,lsD,zaq,sSkip,eV,eC,e1,e2,eN,aNil,aCons,tb,zel,bNot,bOr,l1,i1,zan,zao,a1,a2,h2]
  ·rw[h1];rw[e0]at h2;generalize xs.map D.str=v at *;unfold dZ;simp -implicitDefEqProofs [mOf,startD,sSeq,sIf,sSet,sRet,sFor,lsD,zaq,sSkip,eV,eC,e1,e2,eN,aNil,aCons,tb,zel,bNot,bOr,l1,i1,zan,zao,a1,a2,h2]
 ·rw[decide_eq_false h,Br];generalize xs.map D.str=v at *;have a1:(xs.length:Int)<1\/(¬(xs.length:Int)<1/\(xs.length:Int) > 40):=by omega
  unfold dZ;rcases a1 with a1|⟨a1,a2⟩
  ·simp -implicitDefEqProofs [mOf,startD,sSeq,sIf,sSet,sRet,sFor,lsD,zaq,sSkip,eV,eC,e1,e2,eN,aNil,aCons,tb,zel,bNot,bOr,l1,i1,zan,zao,a1]
  ·simp -implicitDefEqProofs [mOf,startD,sSeq,sIf,sSet,sRet,sFor,lsD,zaq,sSkip,eV,eC,e1,e2,eN,aNil,aCons,tb,zel,bNot,bOr,l1,i1,zan,zao,a1,a2]
variable {ds:List D}
theorem Bq {c0:Nat}{m:Str}{f:List D->Option D}(h:(["start","goal","time","behind"]:List Str).contains m=false):ik c0 m f (di a) ds=if a.c.n=c0 then f (di a::ds)else none:=by
 show(if a.c.n=c0/\(["start","goal","time","behind"]:List Str).contains m=false then f (di a::ds)else none)=_;rw[h];by_cases e:a.c.n=c0
 ·rw[if_pos ⟨e,rfl⟩,if_pos e]
 ·rw[if_neg λz=>e z.1,if_neg e]
theorem zuw (a:jP):(ik 1 "word" lY (di a) []).or ((ik 2 "word" lZ (di a) []).or (ik 3 "word" lX (di a) []))=some (.str (mR a.c)):=by have w1:lY [di a]=some (.str "ride"):=rfl;have w2:lZ [di a]=some (.str "wait"):=rfl;have w3:lX [di a]=some (.str "back"):=rfl;rw[Bq (by decide +kernel),Bq (by decide +kernel),Bq (by decide +kernel),w1,w2,w3];cases a.c<;>rfl
theorem KQ (m:Str)(f:List D->Option D)(a:jP)(ds:List D)(h:(["start","goal","time","behind"]:List Str).contains m=false):(ik 0 m f (di a) ds).or ((ik 1 m f (di a) ds).or ((ik 2 m f (di a) ds).or (ik 3 m f (di a) ds)))=f (di a::ds):=by rw[Bq h,Bq h,Bq h,Bq h];cases a.c<;>simp[Kd.n]
theorem wF (c:Nat):(eD c).length=1:=rfl
def ma (na:List Str)(a:jP):Str:=Str.join (eD 32) [mR a.c,cY na a.s,cY na a.g,jI a.t]
theorem Ja {t:Int}(h0:0<=t)(h1:t<=1000000000):wK [.int t]=some (.str (jI t)):=by
 show(if t.natAbs.log2<1920 then _ else _)=_;rw[if_pos];have:=A8 t.natAbs;by_cases hz:t.natAbs=0
 ·rw[hz];decide
 ·rw[qX hz];refine pf (m:=2 ^ 30) (by omega) ?_;exact Nat.pow_lt_pow_right (by decide) (by decide)
theorem Qv (hn:lR na)(h:Wr na.length a):dq [di a,cr na]=some (.str (ma na a)):=by
 have f1:=fs a;have f2:=fg a;have f3:=ft a;have w:=zuw a;have i1:=Jl h.s;have i2:=Jl h.g;have st:=Ja h.t0 h.t1;have jn:lG (.str " ") (.lst [.str (mR a.c),.str (cY na a.s),.str (cY na a.g),.str (jI a.t)])=some (.str (ma na a)):=by rw[G4];refine Ez (b:=12) (ys:=[mR a.c,cY na a.s,cY na a.g,jI a.t]) (λy hy=>?_) (by rw[wF];simp);exact(xx hn h (cN _ hy)).2.1
 generalize ma na a=T,mR a.c=w0,cr na=N,di a=ea at *;unfold dq;clear hn h;walk_at "mix"
theorem Xt (hn:lR na)(h:Wr na.length a):dm [di a,cr na]=some (.str (Str.join (eD 32) [mR a.c,cY na a.s,cY na a.g,jI a.t,jI (a.b:Int)])):=by
 have r1:=KQ "row_to_time" dq a [cr na] (by decide +kernel);rw[Qv hn h]at r1;have f4:=fb a;have st:=Ja (t:=(a.b:Int)) (by omega) (by have:=h.b;omega);have lt:(ma na a).length<=60:=by have h1:=qx (eD 32) [mR a.c,cY na a.s,cY na a.g,jI a.t];have h2:=GU (b:=12) (ys:=[mR a.c,cY na a.s,cY na a.g,jI a.t]) λy hy=>(xx hn h (cN _ hy)).2.1;have:(eD 32).length=1:=rfl;unfold ma;simp only[cm,fY]at h1 h2;omega
 have lb:(jI (a.b:Int)).length<=60:=by have:=jr (n:=a.b) (by have:=h.b;omega);omega
 have jn:lG (.str " ") (.lst [.str (ma na a),.str (jI (a.b:Int))])=some (.str (Str.join (eD 32) [ma na a,jI (a.b:Int)])):=by
  rw[G4];refine Ez (b:=60) (ys:=[ma na a,jI (a.b:Int)]) (λy hy=>?_) (by rw[wF];simp);simp only[cn,df,or_false]at hy;rcases hy with rfl|rfl
  ·exact lt
  ·exact lb
 have e:Str.join (eD 32) [ma na a,jI (a.b:Int)]=Str.join (eD 32) [mR a.c,cY na a.s,cY na a.g,jI a.t,jI (a.b:Int)]:=by apply yw;unfold ma;simp only[join_list];rw[eh];simp[join_list,Str.join,eh]
 rw[e]at jn;generalize Str.join (eD 32) [mR a.c,cY na a.s,cY na a.g,jI a.t,jI (a.b:Int)]=R,ma na a=T at *;generalize jI (a.b:Int)=ib,cr na=N,di a=ea at *;unfold dm;clear hn h lt lb e;walk_at "mix"
def il (na:List Str)(a:jP):Str:=Str.join (eD 32) (lM na a)
theorem zv4 (hn:lR na)(h:Wr na.length a):(ik 1 "row" lI (di a) [cr na]).or ((ik 2 "row" lJ (di a) [cr na]).or (ik 3 "row" lH (di a) [cr na]))=some (.str (il na a)):=by
 rw[Bq (by decide +kernel),Bq (by decide +kernel),Bq (by decide +kernel)];have o1:=KQ "row_to_time" dq a [cr na] (by decide +kernel);have o2:=KQ "row_to_behind" dm a [cr na] (by decide +kernel);rw[Qv hn h]at o1;rw[Xt hn h]at o2;have a1:lI [di a,cr na]=some (.str (ma na a)):=by generalize ma na a=T,cr na=N,di a=ea at *;unfold lI;clear o2 hn h;walk_at "mix"
 have a2:lJ [di a,cr na]=some (.str (Str.join (eD 32) [mR a.c,cY na a.s,cY na a.g,jI a.t,jI (a.b:Int)])):=by generalize Str.join (eD 32) [mR a.c,cY na a.s,cY na a.g,jI a.t,jI (a.b:Int)]=T,cr na=N,di a=ea at *;unfold lJ;clear o1 a1 hn h;walk_at "mix"
 have a3:lH [di a,cr na]=some (.str (Str.join (eD 32) [mR a.c,cY na a.s,cY na a.g,jI a.t,jI (a.b:Int)])):=by generalize Str.join (eD 32) [mR a.c,cY na a.s,cY na a.g,jI a.t,jI (a.b:Int)]=T,cr na=N,di a=ea at *;unfold lH;clear o1 a1 a2 hn h;walk_at "mix"
 rw[a1,a2,a3];obtain⟨c,s,g,t,b⟩:=a;cases c
 ·show some (D.str (ma na _))=_;rfl
 ·rfl
 ·rfl
def jZ (na:List Str):Str:=Str.join (eD 32) ("goings"::na)
def B5 (na:List Str)(rows:List Str):Str:=Str.join (eD 10) (jZ na::rows)
theorem zux {c:Nat}(hc:c<48):og c ("goings":Str):=λz=>by
 have:∀x∈("goings":Str).cps.toList,48<=x:=by decide +kernel
 have:=this c z;omega
theorem MF (hn:lR na){w:Str}(hw:w∈(("goings":Str)::na)):(∀c,c<48->og c w)/\w.length<=12/\cU.strOk w=true:=by
 rcases cn.mp hw with rfl|hw
 ·exact⟨λc hc=>zux hc,by decide,uf _⟩
 ·have:=yx (hn.ok w hw);exact⟨λc hc=>GQ (hn.ok w hw) hc,by omega,ME (hn.ok w hw)⟩
theorem LF {b:Nat}(h:∀w∈ws,w.length<=b)(c:Nat):(Str.join (eD c) ws).length<=ws.length*b+ws.length:=by have h1:=qx (eD c) ws;have h2:=GU h;have:(eD c).length=1:=rfl;rw[this,Nat.mul_one]at h1;omega
theorem IP (hn:lR na):(jZ na).length<=600:=by have:=LF (λw hw=>(MF hn hw).2.1) (ws:="goings"::na) 32;have:=hn.le;unfold jZ;simp only[cm]at *;omega
theorem Ri (hn:lR na):lG (.str " ") (cr ("goings"::na))=some (.str (jZ na)):=by rw[G4];exact Ez (b:=12) (λy hy=>(MF hn hy).2.1) (by have:=hn.le;rw[wF,cm];omega)
theorem Ps (hn:lR na)(h:Wr na.length a):(il na a).length<=600:=by
 have:=LF (λw hw=>(xx hn h hw).2.1) 32;unfold il;have hl:(lM na a).length<=5:=by unfold lM;rw[cp];split<;>simp
 omega
theorem ZA (hn:lR na)(hw:∀a∈as,Wr na.length a)(hl:as.length<=200):o9 [pN (na.map .str) as]=some (.str (B5 na (as.map (il na)))):=by
 have q1:pP [some (pN (na.map .str) as)]=some (cr (as.map (il na))):=by unfold cr;rw[fE];refine xb di _ as rfl (by omega) λa ha=>⟨[some (di a),some (pN (na.map .str) as)],rfl,?_⟩;have r:=zv4 hn (hw a ha);have f1:gm [4] "names" (pN (na.map .str) as)=some (cr na):=rfl;show _=some (D.str (il na a));generalize il na a=T,pN (na.map .str) as=nd,cr na=N,di a=ea at *;clear hn hw hl;walk_at "mix"
 have f1:gm [4] "names" (pN (na.map .str) as)=some (cr na):=rfl;have a1:cA (.lst [.str "goings"]) (cr na)=some (cr ("goings"::na)):=yo (by have:=hn.le;simp;omega);have h1:=Ri hn;have a2:cA (.lst [.str (jZ na)]) (cr (as.map (il na)))=some (cr (jZ na::as.map (il na))):=yo (by simp;omega);have jn:lG (.str "\n") (cr (jZ na::as.map (il na)))=some (.str (B5 na (as.map (il na)))):=by
  rw[Jg];refine Ez (b:=600) (λy hy=>?_) (by rw[wF,cm,ck];omega);rcases cn.mp hy with rfl|hy
  ·exact IP hn
  ·obtain⟨a,ha,rfl⟩:=cZ.mp hy;exact Ps hn (hw a ha)
 generalize B5 na (as.map (il na))=T,cr (jZ na::as.map (il na))=L1,cr (as.map (il na))=L2,cr ("goings"::na)=L3,cr na=N at *;generalize jZ na=HD,pN (na.map .str) as=nd at *;unfold o9;generalize pP=Q at *;clear hn hw hl;walk_at "mix"
theorem Pt (hn:lR na)(h1:na≠[]):dZ [cr na]=some (.bl true):=by have tD:=hn.le;have hp:1<=na.length:=oB.mpr h1;show dZ [.lst (na.map .str)]=_;rw[Oh (λ_=>true) na (λx hx=>Lw (hn.ok x hx)) (by omega),decide_eq_true ⟨hp,tD⟩,B6,(L4 _ _ [] dk).mpr ⟨λ_ _=>rfl,by rw[qW];exact hn.nd⟩]
def vW (z:Int):Nat:=97+(z%26).toNat
def rW (z:Int):Nat:=if(z%36).toNat<26 then 97+(z%36).toNat else 22+(z%36).toNat
def nB (c:Int)(a k j:Nat):Int:=c/(64+37*(j:Int))+(if j=a then(k:Int)else 0)
def D5 (c:Int)(a k j:Nat):Nat:=if j=0 then vW (nB c a k j)else rW (nB c a k j)
def BR (c:Int)(a k n:Nat):List Nat:=(dQ n).map (D5 c a k)
def rQ (c:Int)(a k n:Nat):Str:=⟨(BR c a k n).toArray⟩
theorem wx (c:Int)(a k n:Nat):(rQ c a k n).cps.toList=BR c a k n:=rfl
def HE (x:Option D)(c:Nat):Bool:=match x with
 |some (.str a)=>decide (a=eD c)
 |_=>false
theorem Rj {x:Option D}{c:Nat}(h:HE x c=true):x=some (.str (eD c)):=by
 unfold HE at h;split at h
 ·rw[of_decide_eq_true h]
 ·cases h
theorem zuy:∀l,l<26->HE (eJ (.str "abcdefghijklmnopqrstuvwxyz") (.int ((l:Nat):Int))) (97+l)=true:=by decide +kernel
theorem zuz:∀l,l<36->HE (eJ (.str ("abcdefghijklmnopqrstuvwxyz" ++ "0123456789")) (.int ((l:Nat):Int))) (if l<26 then 97+l else 22+l)=true:=by decide +kernel
theorem KB (z:Int):eJ (.str "abcdefghijklmnopqrstuvwxyz") (.int (z%26))=some (.str (eD (vW z))):=by have:=Rj (zuy (z%26).toNat (by omega));rwa[oP (by omega)]at this
theorem KD (z:Int):eJ (.str ("abcdefghijklmnopqrstuvwxyz" ++ "0123456789")) (.int (z%36))=some (.str (eD (rW z))):=by have:=Rj (zuz (z%36).toNat (by omega));rwa[oP (by omega)]at this
theorem YB (c:Int)(a k n:Nat):rQ c a k (n+1)=rQ c a k n++eD (D5 c a k n):=by apply yw;rw[yk,wx,wx];unfold BR;rw[AZ,dO];rfl
theorem ZC (c:Int)(a k j:Nat)(hj:j<8)(y1 y4 y6 zY:Option D):∃(DN:Option D),
  kF [sI c,y1,some (.str "abcdefghijklmnopqrstuvwxyz"),some (.str ("abcdefghijklmnopqrstuvwxyz" ++ "0123456789")),y4,sI (a:Int),y6,sI (k:Int),some (.str (rQ c a k j)),sI (j:Int),zY] =
   some (.nx [sI c,y1,some (.str "abcdefghijklmnopqrstuvwxyz"),some (.str ("abcdefghijklmnopqrstuvwxyz" ++ "0123456789")),y4,sI (a:Int),y6,sI (k:Int),some (.str (rQ c a k (j+1))),sI (j:Int),DN]):=by
 have i1:tE [.bl true]=sI 1:=rfl;have i0:tE [.bl false]=sI 0:=rfl;have m1:jJ (.int 37) (.int (j:Int))=sI (37*(j:Int)):=zbs (by decide) (by decide);have f1:fZ (.int c) (.int (64+37*(j:Int)))=sI (c/(64+37*(j:Int))):=vm (by omega) (by omega);have ev:(e2 cA (e2 fZ (eV 0) (e2 cA (eC (.int 64)) (e2 jJ (eC (.int 37)) (eV 9)))) (e2 jJ (eV 7) (eN tE (aCons (e2 (iz false) (eV 9) (eV 5)) aNil)))) [sI c,y1,some (.str "abcdefghijklmnopqrstuvwxyz"),some (.str ("abcdefghijklmnopqrstuvwxyz" ++ "0123456789")),y4,sI (a:Int),y6,sI (k:Int),some (.str (rQ c a k j)),sI (j:Int),zY]=sI (nB c a k j):=by
  unfold nB;generalize ("abcdefghijklmnopqrstuvwxyz" ++ "0123456789":Str)=B,("abcdefghijklmnopqrstuvwxyz":Str)=A,rQ c a k j=w at *;by_cases hb:j=a
  ·have m2:jJ (.int (k:Int)) (.int 1)=sI (k:Int):=(zgx (by decide) (by decide)).trans (by rw[Int.mul_one]);rw[if_pos hb];subst hb;generalize c/(64+37*(j:Int))=C at *;clear hj i0;walk_at "mix"
  ·have m2:jJ (.int (k:Int)) (.int 0)=sI 0:=(zgx (by decide) (by decide)).trans (by rw[Int.mul_zero]);rw[if_neg hb];have hb:¬(j:Int)=(a:Int):=by omega
   generalize c/(64+37*(j:Int))=C at *;clear hj i1;walk_at "mix"
 clear f1 m1 i0 i1;have x1:=KB (nB c a k j);have x2:=KD (nB c a k j);have es:=YB c a k j;have lw:(rQ c a k j).length=j:=by rw[←zz,wx];unfold BR;simp
 refine⟨some (.int (nB c a k j)),?_⟩;have g1:fM (.int (nB c a k j)) (.int 26)=sI (nB c a k j%26):=z7 (by decide);have g2:fM (.int (nB c a k j)) (.int 36)=sI (nB c a k j%36):=z7 (by decide);have ad:cA (.str (rQ c a k j)) (.str (eD (rW (nB c a k j))))=some (.str (rQ c a k j++eD (rW (nB c a k j)))):=zx (by rw[wF];omega);unfold kF;generalize (e2 cA (e2 fZ (eV 0) (e2 cA (eC (.int 64)) (e2 jJ (eC (.int 37)) (eV 9)))) (e2 jJ (eV 7) (eN tE (aCons (e2 (iz false) (eV 9) (eV 5)) aNil))))=EV at *;by_cases h0:j=0
 ·have e0:rQ c a k (j+1)=eD (vW (nB c a k j)):=by rw[es];unfold D5;rw[if_pos h0,h0];apply yw;rw[yk];rfl
  rw[e0];clear es lw e0 hj g2 x2;generalize ("abcdefghijklmnopqrstuvwxyz" ++ "0123456789":Str)=B,("abcdefghijklmnopqrstuvwxyz":Str)=A,nB c a k j=S,rQ c a k j=w at *;subst h0;have z0:((0:Nat):Int)=0:=rfl;rw[z0]at ev ⊢;walk_at "mix"
 ·have e0:D5 c a k j=rW (nB c a k j):=by unfold D5;rw[if_neg h0]
  rw[es,e0];clear es lw e0 hj g1 x1;have h0:¬(j:Int)=0:=by omega
  generalize ("abcdefghijklmnopqrstuvwxyz" ++ "0123456789":Str)=B,("abcdefghijklmnopqrstuvwxyz":Str)=A,nB c a k j=S at *;generalize rQ c a k j++eD (rW S)=w2 at *;generalize rQ c a k j=w at *;walk_at "mix"
def lU (c:Int)(a sz mo:Nat):List Str:=(dQ mo).map λk=>rQ c a k sz
theorem Qw (c:Int){a sz:Nat}(hm:mo<=8)(hs:sz<=8):∃y7 y8 y9 zY:Option D,nw (gV 7) ig (kW 0 mo) [sI c,sI (mo:Int),some (.str "abcdefghijklmnopqrstuvwxyz"),some (.str ("abcdefghijklmnopqrstuvwxyz" ++ "0123456789")),sI (sz:Int),sI (a:Int),some (.lst []),none,none,none,none]=some (.nx [sI c,sI (mo:Int),some (.str "abcdefghijklmnopqrstuvwxyz"),some (.str ("abcdefghijklmnopqrstuvwxyz" ++ "0123456789")),sI (sz:Int),sI (a:Int),some (cr (lU c a sz mo)),y7,y8,y9,zY]):=by
 have r2:=qq (j:=(sz:Int)) (by omega) (by omega);rw[kj]at r2;obtain⟨ρ',h1,y7,y8,y9,zY,rfl⟩:=Ol (g:=gV 7) (b:=ig) (lo:=0) (n:=mo) (ρ:=[sI c,sI (mo:Int),some (.str "abcdefghijklmnopqrstuvwxyz"),some (.str ("abcdefghijklmnopqrstuvwxyz" ++ "0123456789")),sI (sz:Int),sI (a:Int),some (.lst []),none,none,none,none])
  (λn ρ=>∃(y7 y8 y9 zY:Option D),ρ=[sI c,sI (mo:Int),some (.str "abcdefghijklmnopqrstuvwxyz"),some (.str ("abcdefghijklmnopqrstuvwxyz" ++ "0123456789")),sI (sz:Int),sI (a:Int),some (cr (lU c a sz n)),y7,y8,y9,zY]) ⟨_,_,_,_,rfl⟩ (by
   rintro k ρ hk ⟨y7,y8,y9,zY,rfl⟩;obtain⟨ρ2,h2,z9,DN,rfl⟩:=Ol (g:=gV 9) (b:=kF) (lo:=0) (n:=sz) (ρ:=[sI c,sI (mo:Int),some (.str "abcdefghijklmnopqrstuvwxyz"),some (.str ("abcdefghijklmnopqrstuvwxyz" ++ "0123456789")),sI (sz:Int),sI (a:Int),some (cr (lU c a sz k)),sI (k:Int),some (.str ""),y9,zY])
    (λn ρ=>∃(z9 DN:Option D),ρ=[sI c,sI (mo:Int),some (.str "abcdefghijklmnopqrstuvwxyz"),some (.str ("abcdefghijklmnopqrstuvwxyz" ++ "0123456789")),sI (sz:Int),sI (a:Int),some (cr (lU c a sz k)),sI (k:Int),some (.str (rQ c a k n)),z9,DN]) ⟨_,_,rfl⟩ (by rintro j ρ hj ⟨z9,DN,rfl⟩;obtain⟨z,e⟩:=ZC c a k j (by omega) (sI (mo:Int)) (sI (sz:Int)) (some (cr (lU c a sz k))) DN;refine⟨_,_,rfl,.inl ?_,sI (j:Int),z,rfl⟩;rw[Int.zero_add];exact e)
   refine⟨_,_,rfl,.inl ?_,sI (k:Int),some (.str (rQ c a k sz)),z9,DN,rfl⟩;rw[Int.zero_add];have ep:cr (lU c a sz (k+1))=.lst ((lU c a sz k).map D.str++[.str (rQ c a k sz)]):=by unfold cr lU;rw[AZ,dO,dO];rfl
   have es:cr (lU c a sz k)=.lst ((lU c a sz k).map D.str):=rfl;have gW:((lU c a sz k).map D.str).length<16777216:=by unfold lU;rw[ck,ck,fD];omega
   rw[ep];rw[es]at h2 ⊢;generalize (lU c a sz k).map D.str=L1,("abcdefghijklmnopqrstuvwxyz" ++ "0123456789":Str)=B,("abcdefghijklmnopqrstuvwxyz":Str)=A,rQ c a k sz=w,(sz:Int)=SZ,kW 0 sz=U at *;clear ep es hm hk hs;unfold ig;walk_at "mix")
 exact⟨y7,y8,y9,zY,h1⟩
theorem ZD (z:Int):tY (vW z)=true:=by unfold tY vW;exact decide_eq_true (by omega)
theorem ZE (z:Int):(tY (rW z) || BE (rW z))=true:=by
 unfold rW tY BE;split
 ·rw[decide_eq_true (by omega)];rfl
 ·rw[jD];exact .inr (decide_eq_true (by omega))
theorem zu0 (c:Int)(a k n:Nat)(h1:1<=n)(h2:n<=8):sM (rQ c a k n)=true:=by obtain⟨m,rfl⟩:∃m,n=m+1:=⟨n-1,by omega⟩;unfold sM;rw[wx];unfold BR;rw[t8,cL];show(_&&tY (vW _)&&_)=true;rw[ZD,sR,cx];refine⟨decide_eq_true (by simp;omega),dB.mpr λx hx=>?_⟩;obtain⟨j,hj,rfl⟩:=cZ.mp hx;obtain⟨i,_,rfl⟩:=cZ.mp hj;exact ZE _
theorem ZF {c:Int}{a n k k':Nat}(ha:a<n)(hk:k<8)(hk':k'<8)(h:rQ c a k n=rQ c a k' n):k=k':=by
 have h:BR c a k n=BR c a k' n:=by rw[←wx,h,wx]
 unfold BR at h;have h:=congrArg (λl=>l[a]?) h;simp only[dG,wR ha,qC,Option.some.injEq]at h;unfold D5 vW rW nB at h;rw[if_pos rfl,if_pos rfl]at h;generalize c/(64+37*(a:Int))=C at h;split at h
 ·omega
 ·split at h<;>split at h<;>omega
theorem Qx (c:Int){a sz:Nat}(ha:a<sz)(hs:sz<=8)(hm:mo<=8):lR (lU c a sz mo):=by
 refine⟨?_,λx hx=>?_,by unfold lU;rw[ck,fD];omega⟩
 ·refine List.pairwise_map.mpr (sT.imp_of_mem (λhi hj ne e=>ne ?_) (kK (n:=mo)));rw[eu]at hi hj;exact ZF ha (by omega) (by omega) e
 ·obtain⟨k,_,rfl⟩:=cZ.mp hx;exact zu0 c a k sz (by omega) hs
def mZ (a:jP):D:=.tup [.str (mR a.c),.int (a.s:Int),.int (a.g:Int),.int a.t,.int (a.b:Int)]
theorem Ge (ds:List D)(n:Nat)(h:ds.length=n)(hn:0<n)(P:D->Prop)(hp:∀d∈ds,P d)(k:Int):∃d,atI ds (k%(n:Int))=some d/\P d:=by
 have a1:=jG k (show(n:Int)≠0 by omega);have a2:=hZ k (show(0:Int)<(n:Int)by omega);obtain⟨l,e⟩:∃l:Nat,k%(n:Int)=(l:Int):=⟨(k%(n:Int)).toNat,by omega⟩;rw[e];have Cq:l<ds.length:=by omega
 exact⟨ds[l],ye (cX Cq),hp _ (iS Cq)⟩
theorem ZG (c:Int){k:Nat}(hk:k<=1000)(hm:1<=mo)(h8:mo<=8):∃a:jP,gI [.int c,.int (k:Int),.int (mo:Int)]=some (mZ a)/\Right mo a/\(a.b=0->a.s<a.g):=by
 obtain⟨z,m1,_⟩:=GP c (k:=(k:Int)) (by omega) (by omega);have u1:fM (.int (z:Int)) (.int (mo:Int))=sI ((z%mo:Nat):Int):=by rw[z7 (by omega)];simp
 have u2:fM (.int ((z:Int)/8)) (.int (mo:Int))=sI ((z/8%mo:Nat):Int):=by rw[z7 (by omega)];simp
 have g1:z%mo<mo:=Nat.mod_lt _ (by omega);have g2:z/8%mo<mo:=Nat.mod_lt _ (by omega);generalize z%mo=x,z/8%mo=y at *;obtain⟨_,bx,b,rfl,b4⟩:=Ge [.int 0,.int 0,.int 1,.int 1,.int 2,.int 3,.int 4] 7 rfl (by decide) (λd=>∃b:Nat,d=.int (b:Int)/\b<=4) (by
  intro d hd;simp only[cn,df,or_false]at hd;rcases hd with rfl|rfl|rfl|rfl|rfl|rfl|rfl
  all_goals first|exact⟨0,rfl,by decide⟩|exact⟨1,rfl,by decide⟩|exact⟨2,rfl,by decide⟩|exact⟨3,rfl,by decide⟩|exact⟨4,rfl,by decide⟩) ((z:Int)/64)
 have bx:eJ (.lst [.int 0,.int 0,.int 1,.int 1,.int 2,.int 3,.int 4]) (.int ((z:Int)/64%7))=sI (b:Int):=bx;obtain⟨t,tx,ht⟩:=Gd ((z:Int)/512%10) ((z:Int)/512%1000000001) 1000000000 0 ((z:Int)/448);have tx:eJ (.lst [.int ((z:Int)/512%10),.int ((z:Int)/512%1000000001),.int 1000000000,.int 0]) (.int ((z:Int)/448%4))=sI t:=tx;have t0:0<=t:=by rcases ht with rfl|rfl|rfl|rfl<;>omega
 have t1:t<=1000000000:=by rcases ht with rfl|rfl|rfl|rfl<;>omega
 clear ht;have i1:tE [.bl true]=sI 1:=rfl;have i0:tE [.bl false]=sI 0:=rfl;have pw:(10:Int) ^ (9:Int).toNat=1000000000:=by decide
 have w0:eJ (.lst [.str "wait",.str "ride",.str "wait",.str "back"]) (.int 0)=some (.str (mR .wait)):=rfl;have w1:eJ (.lst [.str "wait",.str "ride",.str "wait",.str "back"]) (.int 1)=some (.str (mR .ride)):=rfl;have w2:eJ (.lst [.str "wait",.str "ride",.str "wait",.str "back"]) (.int 2)=some (.str (mR .wait)):=rfl;have w3:eJ (.lst [.str "wait",.str "ride",.str "wait",.str "back"]) (.int 3)=some (.str (mR .back)):=rfl;have NJ:jJ (.int 2) (.int 1)=sI 2:=rfl;have HU:jJ (.int 2) (.int 0)=sI 0:=rfl;have z0:((0:Nat):Int)=0:=rfl;have big:∀b':Nat,1<=b'->b'<=4->((x:Int)=(y:Int)->sK [.int 1,.int (b:Int)]=sI (b':Int))->(¬(x:Int)=(y:Int)->b'=b)->∃a:jP,gI [.int c,.int (k:Int),.int (mo:Int)]=some (mZ a)/\Right mo a/\(a.b=0->a.s<a.g):=λb' hb Nc he mE=>by
  have JN:¬(b':Int)=0:=by omega
  have hbg:0<b':=hb;have hbz:¬b'=0:=by omega
  have pr:(z:Int)/1792%2=0\/(z:Int)/1792%2=1:=by omega
  rcases pr with pr|pr
  ·refine⟨⟨.wait,x,y,t,b'⟩,?_,⟨g1,g2,t0,t1,Nc,nofun,nofun⟩,λh=>absurd h (by show¬b'=0;omega)⟩;unfold gI mZ;show _=some (D.tup [.str (mR .wait),.int (x:Int),.int (y:Int),.int t,.int (b':Int)]);by_cases Cw:(x:Int)=(y:Int)
   ·have he:=he Cw;clear mE w0 w1 w3 HU i0 t0 t1 g1 g2 hm h8 hk b4;generalize mR .wait=W at *;walk_at "mix"
   ·have mE:=mE Cw;subst mE;clear he w0 w1 w3 HU i0 t0 t1 g1 g2 hm h8 hk b4;generalize mR .wait=W at *;walk_at "mix"
  ·refine⟨⟨.back,x,y,t,b'⟩,?_,⟨g1,g2,t0,t1,Nc,nofun,λ_=>hb⟩,λh=>absurd h (by show¬b'=0;omega)⟩;unfold gI mZ;show _=some (D.tup [.str (mR .back),.int (x:Int),.int (y:Int),.int t,.int (b':Int)]);by_cases Cw:(x:Int)=(y:Int)
   ·have he:=he Cw;clear mE w0 w1 w2 HU i0 t0 t1 g1 g2 hm h8 hk b4;generalize mR .back=W at *;walk_at "mix"
   ·have mE:=mE Cw;subst mE;clear he w0 w1 w2 HU i0 t0 t1 g1 g2 hm h8 hk b4;generalize mR .back=W at *;walk_at "mix"
 by_cases Cw:(x:Int)=(y:Int)
 ·by_cases hb:b=0
  ·refine big 1 (by decide) (by decide) (λ_=>?_) λh=>absurd Cw h;rw[hb];rfl
  ·refine big b (by omega) b4 (λ_=>?_) λ_=>rfl;rw[zap];split
   ·rfl
   ·congr 2;omega
 ·by_cases hb:b=0
  ·clear big;subst hb;rw[z0]at bx;have n1:xG [.int (x:Int),.int (y:Int)]=sI ((min x y:Nat):Int):=(zek _ _).trans (by congr 2;split<;>omega);have n2:sK [.int (x:Int),.int (y:Int)]=sI ((max x y:Nat):Int):=(zap _ _).trans (by congr 2;split<;>omega);have pz:min x y<max x y:=by omega
   have q1:min x y<mo:=by omega
   have q2:max x y<mo:=by omega
   generalize min x y=p,max x y=q at *;have pr:(z:Int)/1792%2=0\/(z:Int)/1792%2=1:=by omega
   rcases pr with pr|pr
   ·refine⟨⟨.wait,p,q,t,0⟩,?_,⟨q1,q2,t0,t1,eI _,nofun,nofun⟩,λ_=>pz⟩;unfold gI mZ;show _=some (D.tup [.str (mR .wait),.int (p:Int),.int (q:Int),.int t,.int 0]);clear w2 w1 w3 NJ i1 t0 t1 g1 g2 hm h8 hk b4;generalize mR .wait=W at *;walk_at "mix"
   ·refine⟨⟨.ride,p,q,t,0⟩,?_,⟨q1,q2,t0,t1,eI _,λ_=>rfl,nofun⟩,λ_=>pz⟩;unfold gI mZ;show _=some (D.tup [.str (mR .ride),.int (p:Int),.int (q:Int),.int t,.int 0]);clear w2 w0 w3 NJ i1 t0 t1 g1 g2 hm h8 hk b4;generalize mR .ride=W at *;walk_at "mix"
  ·exact big b (by omega) b4 (λh=>absurd h Cw) λ_=>rfl
theorem Wr.of {n:Nat}(h:Right n a):Wr n a:=⟨h.s,h.g,h.t0,h.t1,h.b,h.r⟩
theorem LP (c:Nat)(a b:Str)(r:List Str):Str.join (eD c) (a::b::r)=(a++eD c)++Str.join (eD c) (b::r):=by apply yw;rw[join_list,yk,yk,eh];rfl
theorem wf (c:Nat):∀(ws:List Str) (w:Str),ws≠[]->Str.join (eD c) (ws++[w])=Str.join (eD c) ws++eD c++w
 |[a],w,_=>by show Str.join (eD c) (a::w::[])=_;rw[LP];rfl
 |a::b::r,w,_=>by show Str.join (eD c) (a::b::(r++[w]))=_;rw[LP,LP];rw[show b::(r++[w])=(b::r)++[w]from rfl,wf c (b::r) w (by simp)];apply yw;simp only[yk,eh]
theorem zu1 (hn:lR na)(h:Wr na.length a):nW [cr na,mZ a]=some (.str (il na a)):=by
 have i1:=Jl h.s;have i2:=Jl h.g;have st:=Ja h.t0 h.t1;have sb:=Ja (t:=(a.b:Int)) (by omega) (by have:=h.b;omega);have l1:=(xx (w:=cY na a.s) hn h (by unfold lM;simp)).2.1;have l2:=(xx (w:=cY na a.g) hn h (by unfold lM;simp)).2.1;have l3:=(xx (w:=jI a.t) hn h (by unfold lM;simp)).2.1;have l4:(jI (a.b:Int)).length<=12:=by have:=jr (n:=a.b) (by have:=h.b;omega);omega
 have l0:=Qu a.c;have er:il na a=if a.c=.ride then mR a.c++eD 32++cY na a.s++eD 32++cY na a.g++eD 32++jI a.t else mR a.c++eD 32++cY na a.s++eD 32++cY na a.g++eD 32++jI a.t++eD 32++jI (a.b:Int):=by
  have e4:∀w x y z:Str,Str.join (eD 32) [w,x,y,z]=w++eD 32++x++eD 32++y++eD 32++z:=λw x y z=>by rw[show[w,x,y,z]=[w]++[x]++[y]++[z]from rfl,wf _ _ _ (by simp),wf _ _ _ (by simp),wf _ _ _ (by simp)];rfl
  unfold il lM;split
  ·rw[cS];exact e4 _ _ _ _
  ·rw[wf _ _ _ (by simp),e4]
 rw[er];have ne:=zuv true a.c .ride;unfold mZ;generalize hw:mR a.c=w0 at *;generalize cY na a.s=ns,cY na a.g=ng,jI a.t=it,jI (a.b:Int)=ib at *;have a1:cA (.str w0) (.str (eD 32))=some (.str (w0++eD 32)):=zx (by rw[wF];omega);have a2:cA (.str (w0++eD 32)) (.str ns)=some (.str (w0++eD 32++ns)):=zx (by simp only[yi,wF];omega);have a3:cA (.str (w0++eD 32++ns)) (.str (eD 32))=some (.str (w0++eD 32++ns++eD 32)):=zx (by simp only[yi,wF];omega);have a4:cA (.str (w0++eD 32++ns++eD 32)) (.str ng)=some (.str (w0++eD 32++ns++eD 32++ng)):=zx (by simp only[yi,wF];omega);have a5:cA (.str (w0++eD 32++ns++eD 32++ng)) (.str (eD 32))=some (.str (w0++eD 32++ns++eD 32++ng++eD 32)):=zx (by simp only[yi,wF];omega);have a6:cA (.str (w0++eD 32++ns++eD 32++ng++eD 32)) (.str it)=some (.str (w0++eD 32++ns++eD 32++ng++eD 32++it)):=zx (by simp only[yi,wF];omega);have a7:cA (.str (w0++eD 32++ns++eD 32++ng++eD 32++it)) (.str (eD 32))=some (.str (w0++eD 32++ns++eD 32++ng++eD 32++it++eD 32)):=zx (by simp only[yi,wF];omega);have a8:cA (.str (w0++eD 32++ns++eD 32++ng++eD 32++it++eD 32)) (.str ib)=some (.str (w0++eD 32++ns++eD 32++ng++eD 32++it++eD 32++ib)):=zx (by simp only[yi,wF];omega);rw[←G4]at *;clear l0 l1 l2 l3 l4 er;generalize w0 ++ " "++ns ++ " "++ng ++ " "++it ++ " "++ib=b8 at *;generalize w0 ++ " "++ns ++ " "++ng ++ " "++it ++ " "=b7 at *;generalize w0 ++ " "++ns ++ " "++ng ++ " "++it=b6 at *;generalize w0 ++ " "++ns ++ " "++ng ++ " "=b5 at *;generalize w0 ++ " "++ns ++ " "++ng=b4 at *;generalize w0 ++ " "++ns ++ " "=b3 at *;generalize w0 ++ " "++ns=b2 at *;generalize w0 ++ " "=b1 at *;have ne:iz true (.str w0) (.str "ride")=some (.bl (!decide (a.c=.ride))):=ne;generalize cr na=N at *;unfold nW;by_cases hr:a.c=.ride
 ·rw[decide_eq_true hr]at ne;rw[if_pos hr];clear hr hw h hn sb;walk_at "mix"
 ·rw[decide_eq_false hr]at ne;rw[if_neg hr];clear hr hw h hn;walk_at "mix"
theorem zsa (hn:lR na)(hw:∀a∈as,Wr na.length a)(hl:as.length<=200):m5 [cr na,.lst (as.map mZ)]=some (cr (jZ na::as.map (il na))):=by
 have q1:m6 [some (cr na),sL (as.map mZ)]=some (cr (as.map (il na))):=by unfold cr;rw[fE];refine xb mZ _ as rfl (by omega) λa ha=>⟨[some (mZ a),some (cr na)],rfl,?_⟩;have r:=zu1 hn (hw a ha);show _=some (D.str (il na a));generalize il na a=T,cr na=N,mZ a=ea at *;clear hn hw hl;walk_at "mix"
 have a1:cA (.lst [.str "goings"]) (cr na)=some (cr (("goings":Str)::na)):=yo (by have:=hn.le;simp;omega);have h1:=Ri hn;have a2:cA (.lst [.str (jZ na)]) (cr (as.map (il na)))=some (cr (jZ na::as.map (il na))):=yo (by simp;omega);generalize cr (jZ na::as.map (il na))=L1,cr (as.map (il na))=L2,cr (("goings":Str)::na)=L3,cr na=N at *;generalize jZ na=HD,as.map mZ=EA at *;unfold m5;generalize m6=Q at *;clear hn hw hl;walk_at "mix"
theorem zsb (c:Int)(hm:mo<=8):∃ns:List Str,iD [.int c,.int (mo:Int)]=some (cr ns)/\ns.length=mo/\lR ns:=by
 obtain⟨sz,hsz,sE,Ct⟩:∃s:Nat,1+c%8=(s:Int)/\1<=s/\s<=8:=⟨(1+c%8).toNat,by omega,by omega,by omega⟩;obtain⟨a,ha,has⟩:∃a:Nat,c/8%(sz:Int)=(a:Int)/\a<sz:=by have a1:=jG (c/8) (show(sz:Int)≠0 by omega);have a2:=hZ (c/8) (show(0:Int)<(sz:Int)by omega);exact⟨(c/8%(sz:Int)).toNat,by omega,by omega⟩
 have ad:cA (.str "abcdefghijklmnopqrstuvwxyz") (.str "0123456789")=some (.str ("abcdefghijklmnopqrstuvwxyz" ++ "0123456789")):=zx (by decide +kernel);have md:fM (.int (c/8)) (.int (sz:Int))=sI (a:Int):=by rw[z7 (by omega),ha]
 have r1:=qq (j:=(mo:Int)) (by omega) (by omega);rw[kj]at r1;obtain⟨y7,y8,y9,zY,h1⟩:=Qw c (a:=a) hm Ct;refine⟨lU c a sz mo,?_,by unfold lU;rw[ck,fD],Qx c has Ct hm⟩;unfold iD;generalize cr (lU c a sz mo)=L1,("abcdefghijklmnopqrstuvwxyz" ++ "0123456789":Str)=B,("abcdefghijklmnopqrstuvwxyz":Str)=A at *;clear sE Ct has hm ha;generalize (sz:Int)=SZ,kW 0 mo=U,ig=B2 at *;walk_at "mix"
theorem zu2 (hn:lR na)(hw:∀a∈as,Wr na.length a):cU.strOk (B5 na (as.map (il na)))=true:=by
 have o1:cU.strOk (eD 32)=true:=by decide +kernel
 have o2:cU.strOk (eD 10)=true:=by decide +kernel
 refine IM o2 λy hy=>?_;rcases cn.mp hy with rfl|hy
 ·exact IM o1 λw hw=>(MF hn hw).2.2
 ·obtain⟨a,ha,rfl⟩:=cZ.mp hy;exact IM o1 λw Ku=>(xx hn (hw a ha) Ku).2.2
theorem zsc {ys:List Str}(hn:lR na)(hl:ys.length<=300)(h:∀y∈ys,y.length<=600):lG (.str "\n") (cr (jZ na::ys))=some (.str (B5 na ys)):=by
 rw[Jg];refine Ez (b:=600) (λy hy=>?_) (by rw[wF,cm];omega);rcases cn.mp hy with rfl|hy
 ·exact IP hn
 ·exact h y hy
def zV (l:List Nat):Str:=⟨l.toArray⟩
theorem LQ (l:List Nat):(zV l).cps.toList=l:=rfl
inductive Ck where
 |c (n:Nat)|n (s:Str)
def mW:List Ck->List Nat
 |[]=>[]
 |.c x::r=>x::mW r
 |.n s::r=>s.cps.toList++mW r
def Bg:List Ck->Str
 |[.n s]=>s
 |l=>zV (mW l)
def qM:List (List Ck)->List (List Ck)->List (List Ck)
 |[],ws=>ws
 |[a],[]=>[a]
 |[a],w::ws=>(a++w)::ws
 |a::b::r,ws=>a::qM (b::r) ws
def wH:List Nat->List (List Ck)
 |[]=>[[]]
 |x::r=>if x=32 then[]::wH r else qM [[.c x]] (wH r)
def jn:List (List Ck)->List Nat
 |[]=>[]
 |[a]=>mW a
 |a::b::r=>mW a++32::jn (b::r)
abbrev Pc:=Str ⊕ Nat
def jH (E:List Str)(i:Nat):Str:=E.getD i ⟨#[]⟩
def Gb (E:List Str):Pc->List Nat
 |.inl s=>s.cps.toList
 |.inr i=>(jH E i).cps.toList
def Gc (E:List Str):Pc->List (List Ck)
 |.inl s=>wH s.cps.toList
 |.inr i=>[[.n (jH E i)]]
def C0 (E:List Str)(ps:List Pc):List Nat:=ps.flatMap (Gb E)
def pS (E:List Str):List Pc->List (List Ck)
 |[]=>[[]]
 |p::ps=>qM (Gc E p) (pS E ps)
def pM (E:List Str)(ps:List Pc):Str:=zV (C0 E ps)
def zW (E:List Str)(ps:List Pc):List Str:=(pS E ps).map Bg
theorem jt:∀a b:List Ck,mW (a++b)=mW a++mW b
 |[],b=>rfl
 |.c x::r,b=>congrArg (x::·) (jt r b)
 |.n s::r,b=>by show s.cps.toList++mW (r++b)=(s.cps.toList++mW r)++mW b;rw[jt r b,eh]
theorem qz (l:List Ck):(Bg l).cps.toList=mW l:=by
 unfold Bg;split
 ·show _=_++[];simp
 ·rfl
theorem L5:∀{us ws:List (List Ck)},ws≠[]->qM us ws≠[]
 |[],_,h=>h
 |[a],[],_=>by simp[qM]
 |[a],w::ws,_=>by simp[qM]
 |a::b::r,ws,_=>by simp[qM]
theorem Mh:∀{us ws:List (List Ck)},us≠[]->ws≠[]->jn (qM us ws)=jn us++jn ws
 |[],_,h,_=>absurd rfl h
 |[a],[],_,h=>absurd rfl h
 |[a],[w],_,_=>jt a w
 |[a],w::v::ws,_,_=>by show mW (a++w)++32::jn (v::ws)=mW a++(mW w++32::jn (v::ws));rw[jt,eh]
 |a::b::r,ws,_,h=>by
  have ih:=Mh (us:=b::r) (ws:=ws) (by simp) h;show jn (a::qM (b::r) ws)=(mW a++32::jn (b::r))++jn ws;cases hg:qM (b::r) ws with
  |nil=>exact absurd hg (L5 h)
  |cons x xs=>rw[hg]at ih;show mW a++32::jn (x::xs)=_;rw[ih];simp
theorem Jb:∀l:List Nat,wH l≠[]
 |[]=>by simp[wH]
 |x::r=>by
  unfold wH;split
  ·simp
  ·exact L5 (Jb r)
theorem MG:∀l:List Nat,jn (wH l)=l
 |[]=>rfl
 |x::r=>by
  unfold wH;split
  ·next h=>
   cases hs:wH r with
   |nil=>exact absurd hs (Jb r)
   |cons w ws=>show[]++32::jn (w::ws)=_;rw[←hs,MG r,h];rfl
  ·rw[Mh (by simp) (Jb r),MG r];rfl
theorem u9:∀{us ws:List (List Ck)} {w:List Ck},w∈qM us ws->∃a b,(a=[]\/a∈us)/\(b=[]\/b∈ws)/\w=a++b
 |[],ws,w,h=>⟨[],w,.inl rfl,.inr h,rfl⟩
 |[a],[],w,h=>⟨w,[],.inr h,.inl rfl,by simp⟩
 |[a],v::ws,w,h=>by
  rcases cn.mp h with h|h
  ·exact⟨a,v,.inr b9,.inr b9,h⟩
  ·exact⟨[],w,.inl rfl,.inr (cj _ h),rfl⟩
 |a::b::r,ws,w,h=>by
  rcases cn.mp h with h|h
  ·exact⟨a,[],.inr b9,.inl rfl,by simp[h]⟩
  ·obtain⟨x,y,h1,h2,h3⟩:=u9 h;exact⟨x,y,h1.imp id (cj _),h2,h3⟩
theorem Mi:∀{l:List Nat} {w:List Ck},w∈wH l->32∉mW w/\∀c∈mW w,c∈l
 |[],w,h=>by
  have:w=[]:=by simpa[wH]using h
  rw[this];simp[mW]
 |x::r,w,h=>by
  unfold wH at h;split at h
  ·next hx=>
   rcases cn.mp h with h|h
   ·rw[h];simp[mW]
   ·obtain⟨h1,h2⟩:=Mi h;exact⟨h1,λc hc=>cj _ (h2 c hc)⟩
  ·next hx=>
   obtain⟨a,b,h1,h2,rfl⟩:=u9 h;rw[jt];have ha:32∉mW a/\∀c∈mW a,c∈x::r:=by
    rcases h1 with rfl|h1
    ·simp[mW]
    ·rw[cz.mp h1];simp[mW,Ne.symm hx]
   have hb:32∉mW b/\∀c∈mW b,c∈x::r:=by
    rcases h2 with rfl|h2
    ·simp[mW]
    ·obtain⟨q1,q2⟩:=Mi h2;exact⟨q1,λc hc=>cj _ (q2 c hc)⟩
   refine⟨λz=>?_,λc hc=>?_⟩
   ·rcases cG.mp z with z|z
    ·exact ha.1 z
    ·exact hb.1 z
   ·rcases cG.mp hc with z|z
    ·exact ha.2 c z
    ·exact hb.2 c z
def Ga:Pc->Bool
 |.inl s=>!s.cps.toList.contains 10
 |.inr _=>true
def yA (E:List Str):Prop:=∀w∈E,og 32 w/\og 10 w
variable {E:List Str}
theorem yA.at (h:yA E)(i:Nat):og 32 (jH E i)/\og 10 (jH E i):=by
 unfold jH;rw[gA];cases e:E[i]? with
 |none=>exact⟨by simp[og],by simp[og]⟩
 |some w=>exact h w (fK.mpr ⟨i,e⟩)
variable {ps:List Pc}{AS:List (List Pc)}
section
theorem Mj:∀ps:List Pc,pS E ps≠[]
 |[]=>by simp[pS]
 |p::ps=>L5 (Mj ps)
theorem Qy:∀ps:List Pc,jn (pS E ps)=C0 E ps
 |[]=>rfl
 |p::ps=>by
  show jn (qM (Gc E p) (pS E ps))=Gb E p++C0 E ps;have:Gc E p≠[]/\jn (Gc E p)=Gb E p:=by
   cases p with
   |inl s=>exact⟨Jb _,MG _⟩
   |inr i=>exact⟨by simp[Gc],by show(jH E i).cps.toList++[]=_;simp[Gb]⟩
  rw[Mh this.1 (Mj ps),this.2,Qy ps]
theorem Pu (hE:yA E):∀{ps:List Pc},ps.all Ga=true->∀w∈pS E ps,32∉mW w/\10∉mW w
 |[],_,w,h=>by
  have:w=[]:=by simpa[pS]using h
  rw[this];simp[mW]
 |p::ps,hp,w,h=>by
  rw[gp,cx]at hp;obtain⟨a,b,h1,h2,rfl⟩:=u9 h;rw[jt];have ha:32∉mW a/\10∉mW a:=by
   rcases h1 with rfl|h1
   ·simp[mW]
   ·cases p with
    |inl s=>
     obtain⟨q1,q2⟩:=Mi h1;have D9:10∉s.cps.toList:=by simpa[Ga]using hp.1
     exact⟨q1,λz=>D9 (q2 _ z)⟩
    |inr i=>rw[cz.mp h1];show 32∉(jH E i).cps.toList++[]/\10∉(jH E i).cps.toList++[];rw[cS];exact hE.at i
  have hb:32∉mW b/\10∉mW b:=by
   rcases h2 with rfl|h2
   ·simp[mW]
   ·exact Pu hE hp.2 b h2
  refine⟨λz=>?_,λz=>?_⟩<;>rcases cG.mp z with z|z
  ·exact ha.1 z
  ·exact hb.1 z
  ·exact ha.2 z
  ·exact hb.2 z
theorem Qz:∀ls:List (List Ck),Str.join (eD 32) (ls.map Bg)=zV (jn ls)
 |[]=>rfl
 |[a]=>yw (qz a)
 |a::b::r=>by apply yw;show(Str.join (eD 32) (Bg a::Bg b::r.map Bg)).cps.toList=_;rw[join_list,show Bg b::r.map Bg=(b::r).map Bg from rfl,Qz (b::r),qz];rfl
theorem LR (ps:List Pc):pM E ps=Str.join (eD 32) (zW E ps):=by unfold pM zW;rw[Qz,Qy]
theorem QA (hE:yA E)(h:ps.all Ga=true){w:Str}(hw:w∈zW E ps):og 32 w/\og 10 w:=by obtain⟨l,hl,rfl⟩:=cZ.mp hw;unfold og;rw[qz];exact Pu hE h l hl
theorem zu3 (ps:List Pc):zW E ps≠[]:=by intro z;exact Mj ps (List.map_eq_nil_iff.mp z)
theorem wy (ps qs:List Pc):pM E (ps++qs)=pM E ps++pM E qs:=by apply yw;rw[yk];show(ps++qs).flatMap (Gb E)=_;rw[iZ];rfl
def SV (E:List Str)(f:EF)(ρ:L3.Env)(ps:List Pc)(n:Nat):Prop:=f ρ=some (.str (pM E ps))/\(pM E ps).length<=n
theorem EB (s:Str):pM E [.inl s]=s:=by apply yw;show s.cps.toList++[]=_;simp
theorem j4 (i:Nat):pM E [.inr i]=jH E i:=by apply yw;show(jH E i).cps.toList++[]=_;simp
variable {f g:EF}{qs:List Pc}{n m i:Nat}{s:Str}
theorem zpo (h:s.length<=40):SV E (eC (.str s)) ρ [.inl s] 40:=⟨by rw[EB];rfl,by rw[EB];exact h⟩
theorem ze2 (j:Nat)(h:f ρ=some (.str (jH E j)))(hl:(jH E j).length<=40):SV E f ρ [.inr j] 40:=⟨by rw[j4];exact h,by rw[j4];exact hl⟩
theorem zpp (hf:SV E f ρ ps n)(hg:SV E g ρ qs m)(h:n+m<=10000):SV E (e2 cA f g) ρ (ps++qs) (n+m):=by
 have hl:(pM E (ps++qs)).length<=n+m:=by rw[wy,yi];have:=hf.2;have:=hg.2;omega
 refine⟨?_,hl⟩;unfold e2;rw[hf.1,hg.1,cP,cP,wy];exact zx (by have:=hf.2;have:=hg.2;omega)
def tx (E:List Str)(ps:List Pc):D:=.str (pM E ps)
def Bw (E:List Str)(fs:L3.Env->Option (List D))(ρ:L3.Env)(AS:List (List Pc)):Prop:=fs ρ=some (AS.map (tx E))
theorem zls:Bw E aNil ρ []:=rfl
theorem zhn {fs:L3.Env->Option (List D)}(h:SV E f ρ ps n)(t:Bw E fs ρ AS):Bw E (aCons f fs) ρ (ps::AS):=by unfold Bw aCons at *;rw[h.1,t];rfl
theorem EC {fs:L3.Env->Option (List D)}(t:Bw E fs ρ AS):(λρ=>(fs ρ).bind λds=>some (D.lst ds)) ρ=sL (AS.map (tx E)):=by show(fs ρ).bind _=_;rw[t];rfl
theorem Rk {fs:L3.Env->Option (List D)}{A B:List (List Pc)}(h:f ρ=sL (A.map (tx E)))(t:Bw E fs ρ B)(hl:A.length+B.length<=1000):e2 cA f (λρ=>(fs ρ).bind λds=>some (D.lst ds)) ρ=sL ((A++B).map (tx E)):=by unfold e2;rw[h,EC t,cP,cP,dO];exact yo (by simp only[ck];omega)
end
theorem GV {i:Nat}{f:EF}{u:SF}{d:D}(h:f ρ=some d):sSeq (sSet i f) u ρ=u (ρ.set i (some d)):=by unfold sSeq sSet;rw[h];rfl
theorem xy {xs:List D}{n:Nat}(hn:xs.length=n)(h0:0<n)(c:Int):∃x∈xs,eJ (.lst xs) (.int (c%(n:Int)))=some x:=by
 have h1:=jG c (show(n:Int)≠0 by omega);have h2:=hZ c (show(0:Int)<(n:Int)by omega);obtain⟨j,hj⟩:∃j:Nat,c%(n:Int)=(j:Int):=⟨(c%(n:Int)).toNat,by omega⟩;have hl:j<xs.length:=by omega
 rw[hj];exact⟨xs[j],iS hl,ye (cX hl)⟩
section
variable {fs:L3.Env->Option (List D)}{f:EF}{u:SF}{i:Nat}{A:List (List Pc)}{k:Out->Option D}{r:Option D}
theorem MH (t:Bw E fs ρ AS)(h:(u (ρ.set i (sL (AS.map (tx E))))).bind k=r):(sSeq (sSet i λρ=>(fs ρ).bind λds=>(sL ds)) u ρ).bind k=r:=by rw[GV (EC t)];exact h
theorem DT (e:f ρ=sL (A.map (tx E)))(t:Bw E fs ρ AS)(hl:A.length+AS.length<=1000)(h:(u (ρ.set i (sL ((A++AS).map (tx E))))).bind k=r):(sSeq (sSet i (e2 cA f λρ=>(fs ρ).bind λds=>(sL ds))) u ρ).bind k=r:=by rw[GV (Rk e t hl)];exact h
theorem ED {d:D}(e:f ρ=some d)(h:(u (ρ.set i (some d))).bind k=r):(sSeq (sSet i f) u ρ).bind k=r:=by rw[GV e];exact h
end
local macro_rules| `(tactic|walk_at "svs")=>`(tactic|repeat' first|exact zls|apply zhn|apply zpp|exact zpo (by decide +kernel)|exact ze2 0 rfl (by assumption)|exact ze2 1 rfl (by assumption)|exact ze2 2 rfl (by assumption)|exact ze2 3 rfl (by assumption)|decide)
def nM:List Str:=["-1","+1","01","","1a","a","1.0","1000000000000000","00","1_0","1,0","0x1","None","1/1","-0"]
theorem zsd (c:Int):∃b∈nM,hX [.int c]=some (.str b):=by
 obtain⟨x,hx,h⟩:=xy (xs:=nM.map D.str) (n:=15) rfl (by decide) c;obtain⟨b,hb,rfl⟩:=cZ.mp hx;refine⟨b,hb,?_⟩;have md:fM (.int c) (.int 15)=sI (c%15):=z7 (by decide);have h:eJ (.lst (nM.map D.str)) (.int (c%15))=some (.str b):=h;have l1:∀ρ:L3.Env,(λρ=>((aCons (eC (.str "-1")) (aCons (eC (.str "+1")) (aCons (eC (.str "01")) (aCons (eC (.str "")) (aCons (eC (.str "1a")) (aCons (eC (.str "a")) (aCons (eC (.str "1.0")) (aCons (e2 cA (eC (.str "1")) (e2 Dp (eC (.str "0")) (eC (.int 15)))) (aCons (eC (.str "00")) (aCons (eC (.str "1_0")) (aCons (eC (.str "1,0")) (aCons (eC (.str "0x1")) (aCons (eC (.str "None")) (aCons (eC (.str "1/1")) (aCons (eC (.str "-0")) aNil))))))))))))))) ρ).bind λds=>some (D.lst ds)) ρ=sL (nM.map D.str):=λρ=>by kernel_rfl
 unfold hX mOf;show(sSeq (sSet 1 _) _ [sI c,none]).bind _=_;rw[GV (l1 _)];generalize nM.map D.str=L at *;clear l1 hx hb;walk_at "mix"
theorem OJ:nM.all (λb=>decide (b.length<=40)&&!b.cps.toList.contains 32&&!b.cps.toList.contains 10)=true:=by decide +kernel
def oI:List (List Pc):=[[.inl ""],[.inl " ride ",.inr 0,.inl " ",.inr 1,.inl " 5"],[.inl "ride ",.inr 0,.inl " ",.inr 1],[.inl "ride ",.inr 0,.inl " ",.inr 1,.inl " 5 0"],
 [.inl "wait ",.inr 0,.inl " ",.inr 1,.inl " 5"],[.inl "back ",.inr 0,.inl " ",.inr 1,.inl " 5"],[.inl "Ride ",.inr 0,.inl " ",.inr 1,.inl " 5"],
 [.inl "wait ",.inr 0,.inl " ",.inr 1,.inl " 5 0 "],[.inl "ride ",.inr 0,.inl " ",.inr 1,.inl " ",.inr 2],[.inl "rides"],[.inl "line"],[.inl "line 1"],
 [.inl "line 1 ",.inr 0],[.inl "line 1 ",.inr 0,.inl " 5 ",.inr 1],[.inl "line ",.inr 2,.inl " ",.inr 0,.inl " 5"],[.inl "line 1 ",.inr 0,.inl " ",.inr 2],[.inl "goings ",.inr 0],
 [.inl "wait ",.inr 0,.inl " ",.inr 1,.inl " 5 ",.inr 2],[.inl "ride A ",.inr 0,.inl " 01"],[.inl "line 1 A x"],[.inl "wait A B ",.inr 2,.inl " 0"],[.inl "line ",.inr 2,.inl " A 5"],
 [.inl "back ",.inr 0,.inl " ",.inr 1,.inl " ",.inr 2,.inl " 1"],[.inl "cut 0"]]
def isF:Option D->Bool
 |some (.bl false)=>true
 |_=>false
theorem zse {o:Option D}(h:isF o=true):o=some (.bl false):=by
 unfold isF at h;split at h
 ·rfl
 ·cases h
theorem YC (one two:Str):nM.all (λb=>oI.all λps=>isF (dE [cr (zW [one,two,b] ps)]))=true:=by kernel_rfl
variable {mv:List Str}
theorem YD (c:Int){one two:Str}(h1:one.length<=40)(h2:two.length<=40):∃b∈nM,∃ps∈oI,gb [.int c,cr (one::two::mv)]=some (.str (pM [one,two,b] ps)):=by
 obtain⟨b,hb,nb⟩:=zsd (c/20);have Bh:=dB.mp OJ b hb;rw[cx,cx]at Bh;have S7:b.length<=40:=of_decide_eq_true Bh.1.1;obtain⟨x,hx,hp⟩:=xy (xs:=oI.map (tx [one,two,b])) (n:=24) rfl (by decide) c;obtain⟨ps,yL,rfl⟩:=cZ.mp hx;refine⟨b,hb,ps,yL,?_⟩;have fd:fZ (.int c) (.int 20)=sI (c/20):=vm (by decide) (by decide);have md:fM (.int c) (.int 24)=sI (c%24):=z7 (by decide);have l0:(jH [one,two,b] 0).length<=40:=h1;have l1:(jH [one,two,b] 1).length<=40:=h2;have l2:(jH [one,two,b] 2).length<=40:=S7;have sl:eU (cr (one::two::mv)) none (some 2)=some (.lst [.str one,.str two]):=by show some (D.lst (cutD _ none (some ((2:Nat):Int))))=_;rw[LB];rfl
 unfold gb mOf;generalize cr (one::two::mv)=N at *;have st:∀u:SF,sSeq (sAsg (gL (gsCons (gV 2) (gsCons (gV 3) gsNil))) (λρ=>((eV 1) ρ).bind λd=>(pNo ρ).bind λl=>((pInt (eC (.int 2))) ρ).bind λh=>eU d l h)) u [sI c,some N,none,none,none,none]=u [sI c,some N,some (.str one),some (.str two),none,none]:=λu=>by unfold sSeq sAsg;show((((eU N none (some 2))).bind _).bind _:Option Out)=_;rw[sl];rfl
 show(sSeq _ _ [sI c,some N,none,none,none,none]).bind _=_;rw[st];have n4:(cl hX (aCons (e2 fZ (eV 0) (eC (.int 20))) aNil)) [sI c,some N,some (.str one),some (.str two),none,none]=some (.str b):=by show((((fZ (.int c) (.int 20)).bind _).bind _):Option D)=_;rw[fd];exact nb
 refine ED n4 ?_;refine MH (E:=[one,two,b]) (by walk_at "svs") ?_;refine DT (A:=oI.take 4) (E:=[one,two,b]) rfl (by walk_at "svs") (by decide) ?_;refine DT (A:=oI.take 7) (E:=[one,two,b]) rfl (by walk_at "svs") (by decide) ?_;refine DT (A:=oI.take 10) (E:=[one,two,b]) rfl (by walk_at "svs") (by decide) ?_;refine DT (A:=oI.take 12) (E:=[one,two,b]) rfl (by walk_at "svs") (by decide) ?_;refine DT (A:=oI.take 15) (E:=[one,two,b]) rfl (by walk_at "svs") (by decide) ?_;refine DT (A:=oI.take 18) (E:=[one,two,b]) rfl (by walk_at "svs") (by decide) ?_;have fin:=Rk (E:=[one,two,b]) (f:=eV 5) (ρ:=[sI c,some N,some (.str one),some (.str two),some (.str b),sL ((oI.take 22).map (tx [one,two,b]))]) (A:=oI.take 22) (fs:=aCons (e2 cA (e2 cA (e2 cA (e2 cA (e2 cA (e2 cA (eC (.str "back ")) (eV 2)) (eC (.str " "))) (eV 3)) (eC (.str " "))) (eV 4)) (eC (.str " 1"))) (aCons (eC (.str "cut 0")) aNil)) rfl (by walk_at "svs") (by decide);show((((e2 cA (eV 5) _ [sI c,some N,some (.str one),some (.str two),some (.str b),sL ((oI.take 22).map (tx [one,two,b]))]).bind λx=>(fM (.int c) (.int 24)).bind λy=>eJ x y).bind _).bind _:Option D)=_;rw[fin,md];show((eJ (.lst (oI.map (tx [one,two,b]))) (.int (c%24))).bind _).bind _=_;rw[show eJ (.lst (oI.map (tx [one,two,b]))) (.int (c%24))=some (tx [one,two,b] ps)from hp];rfl
theorem YE (c:Int)(hm:mo<=8):∃(ns:List Str) (sz:Nat),iD [.int c,.int (mo:Int)]=some (cr ns)/\ns.length=mo/\lR ns/\1<=sz/\sz<=8/\∀w∈ns,w.length=sz:=by
 obtain⟨ns,h1,h2,h3⟩:=zsb c hm;obtain⟨sz,hsz,sE,Ct⟩:∃s:Nat,1+c%8=(s:Int)/\1<=s/\s<=8:=⟨(1+c%8).toNat,by omega,by omega,by omega⟩;obtain⟨a,ha,has⟩:∃a:Nat,c/8%(sz:Int)=(a:Int)/\a<sz:=by have a1:=jG (c/8) (show(sz:Int)≠0 by omega);have a2:=hZ (c/8) (show(0:Int)<(sz:Int)by omega);exact⟨(c/8%(sz:Int)).toNat,by omega,by omega⟩
 have ad:cA (.str "abcdefghijklmnopqrstuvwxyz") (.str "0123456789")=some (.str ("abcdefghijklmnopqrstuvwxyz" ++ "0123456789")):=zx (by decide +kernel);have md:fM (.int (c/8)) (.int (sz:Int))=sI (a:Int):=by rw[z7 (by omega),ha]
 have r1:=qq (j:=(mo:Int)) (by omega) (by omega);rw[kj]at r1;obtain⟨y7,y8,y9,zY,l1⟩:=Qw c (a:=a) hm Ct;have e:iD [.int c,.int (mo:Int)]=some (cr (lU c a sz mo)):=by unfold iD;generalize cr (lU c a sz mo)=L1,("abcdefghijklmnopqrstuvwxyz" ++ "0123456789":Str)=B,("abcdefghijklmnopqrstuvwxyz":Str)=A at *;clear sE Ct has hm ha h1 h2 h3;generalize (sz:Int)=SZ,kW 0 mo=U,ig=B2 at *;walk_at "mix"
 refine⟨lU c a sz mo,sz,e,by unfold lU;rw[ck,fD],Qx c has Ct hm,sE,Ct,λw hw=>?_⟩;obtain⟨k,_,rfl⟩:=cZ.mp hw;rw[←zz,wx];unfold BR;simp
structure CS (na:List Str)(x:Str):Prop where
 ni:x∉na
 f32:og 32 x
 f10:og 10 x
 len:x.length<=40
 ok:cU.strOk x=true
theorem MN {x:Str}(h:∀c∈x.cps.toList,c<1114112):cU.strOk x=true:=by unfold cU.strOk;rw[wN];intro c hc;exact decide_eq_true (h c (nQ.mpr hc))
theorem zu4:∀c,c<128->(tY c || BE c)=true->PySem.Unicode.upperOf c=[if tY c then c-32 else c]:=by decide +kernel
theorem Oi {x:Str}(h:sM x=true):(Txt.upper x).cps.toList=x.cps.toList.map λc=>if tY c then c-32 else c:=by
 have hc:∀c∈x.cps.toList,(tY c || BE c)=true/\c<128:=λc hc=>by
  have q:(tY c || BE c)=true:=by
   unfold sM at h;cases hw:x.cps.toList with
   |nil=>rw[hw]at hc;cases hc
   |cons y r=>
    rw[hw]at h hc;dsimp only at h;rw[cx,cx]at h;rcases cn.mp hc with rfl|hc
    ·rw[h.1.2];rfl
    ·exact dB.mp h.2 c hc
  refine⟨q,?_⟩;rw[jD]at q;unfold tY BE at q;rcases q with q|q<;>have:=of_decide_eq_true q<;>omega
 show((x.cps.mapIdx λi c=>(PySem.Unicode.upperOf c).toArray).flatten).toList=_;obtain⟨a⟩:=x;obtain⟨l⟩:=a;dsimp only at hc ⊢;have e:((⟨l⟩:Array Nat).mapIdx λi c=>(PySem.Unicode.upperOf c).toArray)=⟨l.map λc=>#[if tY c then c-32 else c]⟩:=by
  apply mS.mp;rw[Array.toList_mapIdx];show l.mapIdx (λi c=>(PySem.Unicode.upperOf c).toArray)=_;apply my;intro i;rw[List.getElem?_mapIdx,dG];cases hi:l[i]? with
  |none=>rfl
  |some c=>obtain⟨q1,q2⟩:=hc c (fK.mpr ⟨i,hi⟩);show some (PySem.Unicode.upperOf c).toArray=some #[if tY c=true then c-32 else c];rw[zu4 c q2 q1]
 rw[e];clear e hc h;induction l with
 |nil=>rfl
 |cons c l ih=>rw[cL,cL,←ih];simp
theorem Pv {x:Str}(h:sM x=true):∃c r,x.cps.toList=c::r/\tY c=true:=by
 unfold sM at h;cases hw:x.cps.toList with
 |nil=>rw[hw]at h;cases h
 |cons y r=>rw[hw]at h;dsimp only at h;rw[cx,cx]at h;exact⟨y,r,rfl,h.1.2⟩
theorem Pw {x:Str}(h:sM x=true){c:Nat}(hc:c∈x.cps.toList):48<=c/\c<=122:=by
 unfold sM at h;cases hw:x.cps.toList with
 |nil=>rw[hw]at hc;cases hc
 |cons y r=>
  rw[hw]at h hc;dsimp only at h;rw[cx,cx]at h;have q:(tY c || BE c)=true:=by
   rcases cn.mp hc with rfl|hc
   ·rw[h.1.2];rfl
   ·exact dB.mp h.2 c hc
  rw[jD]at q;unfold tY BE at q;rcases q with q|q<;>have:=of_decide_eq_true q<;>omega
def pd (one:Str):List Str:=["","A",Txt.upper one,one++one ++ "q",zV (one.cps.toList.dropLast) ++ "-","9","Going"]
theorem Jc (hn:lR na){x:Str}(h:sM x=false)(h2:(!x.cps.toList.contains 32&&!x.cps.toList.contains 10&&decide (x.length<=40)&&cU.strOk x)=true):CS na x:=by
 rw[cx,cx,cx]at h2;refine⟨λz=>?_,?_,?_,of_decide_eq_true h2.1.2,h2.2⟩
 ·rw[hn.ok x z]at h;cases h
 ·have:=h2.1.1.1;simpa[og]using this
 ·have:=h2.1.1.2;simpa[og]using this
theorem YF {one:Str}{sz:Nat}(hn:lR na)(h1:one∈na)(hs:1<=sz)(hz:∀w∈na,w.length=sz):∀x∈pd one,CS na x:=by
 have ho:=hn.ok one h1;have l8:=yx ho;have sg:=λc hc=>Pw ho (c:=c) hc;obtain⟨c0,r0,e0,Ed⟩:=Pv ho;have S8:97<=c0/\c0<=122:=of_decide_eq_true Ed;intro x hx;unfold pd at hx;simp only[cn,df,or_false]at hx;rcases hx with rfl|rfl|rfl|rfl|rfl|rfl|rfl
 ·exact Jc hn (by decide +kernel) (by decide +kernel)
 ·exact Jc hn (by decide +kernel) (by decide +kernel)
 ·have ul:=Oi ho;have mem:∀c∈(Txt.upper one).cps.toList,48<=c/\c<=122:=λc hc=>by
   rw[ul]at hc;obtain⟨y,hy,rfl⟩:=cZ.mp hc;have:=sg y hy;split
   ·next h=>have:97<=y/\y<=122:=of_decide_eq_true h;omega
   ·exact this
  refine⟨λz=>?_,λz=>?_,λz=>?_,?_,MN λc hc=>?_⟩
  ·obtain⟨c1,r1,e1,C7⟩:=Pv (hn.ok _ z);rw[ul,e0,cL,if_pos Ed]at e1;obtain⟨e2,_⟩:=List.cons.inj e1;have S9:97<=c1/\c1<=122:=of_decide_eq_true C7;omega
  ·have:=mem _ z;omega
  ·have:=mem _ z;omega
  ·rw[←zz,ul,ck,zz];omega
  ·have:=mem _ hc;omega
 ·have mem:∀c∈(one++one ++ "q":Str).cps.toList,48<=c/\c<=122:=λc hc=>by
   rw[yk,yk]at hc;rcases cG.mp hc with hc|hc
   ·rcases cG.mp hc with hc|hc
    ·exact sg c hc
    ·exact sg c hc
   ·have:∀x∈("q":Str).cps.toList,48<=x/\x<=122:=by decide +kernel
    exact this c hc
  have ql:("q":Str).length=1:=by decide +kernel
  refine⟨λz=>?_,λz=>?_,λz=>?_,?_,MN λc hc=>?_⟩
  ·have:=hz _ z;rw[yi,yi,hz one h1]at this;omega
  ·have:=mem _ z;omega
  ·have:=mem _ z;omega
  ·rw[yi,yi];omega
  ·have:=mem _ hc;omega
 ·have dl:("-":Str).cps.toList=[45]:=by decide +kernel
  have mem:∀c∈(zV (one.cps.toList.dropLast) ++ "-":Str).cps.toList,45<=c/\c<=122:=λc hc=>by
   rw[yk,dl]at hc;rcases cG.mp hc with hc|hc
   ·have:=sg c (List.dropLast_subset _ hc);omega
   ·rw[cz.mp hc];omega
  refine⟨λz=>?_,λz=>?_,λz=>?_,?_,MN λc hc=>?_⟩
  ·have:=Pw (hn.ok _ z) (c:=45) (by rw[yk,dl];simp);omega
  ·have:=mem _ z;omega
  ·have:=mem _ z;omega
  ·rw[yi,←zz,LQ,vK,zz];have:("-":Str).length=1:=by decide +kernel
   omega
  ·have:=mem _ hc;omega
 ·exact Jc hn (by decide +kernel) (by decide +kernel)
 ·exact Jc hn (by decide +kernel) (by decide +kernel)
theorem Px (c:Int){one:Str}(h:sM one=true):∃x∈pd one,ij [.int c,cr (one::mv)]=some (.str x):=by
 have l8:=yx h;obtain⟨x,hx,hp⟩:=xy (xs:=(pd one).map D.str) (n:=7) rfl (by decide) c;obtain⟨y,hy,rfl⟩:=cZ.mp hx;refine⟨y,hy,?_⟩;have hp:eJ (.lst ((pd one).map D.str)) (.int (c%7))=some (.str y):=hp;have md:fM (.int c) (.int 7)=sI (c%7):=z7 (by decide);have x0:eJ (cr (one::mv)) (.int 0)=some (.str one):=ye (xs:=(one::mv).map D.str) (j:=0) rfl;have ul:GG (.str one)=some (.str (Txt.upper one)):=by
  have:(Txt.upper one).length=one.length:=by rw[←zz,Oi h,ck,zz]
  unfold GG;dsimp only;rw[if_pos];show decide ((Txt.upper one).length > sizeLine)=false;rw[this];exact decide_eq_false (by rw[dD];omega)
 have ql:("q":Str).length=1:=by decide +kernel
 have o7:("-":Str).length=1:=by decide +kernel
 have a1:cA (.str one) (.str one)=some (.str (one++one)):=zx (by omega);have a2:cA (.str (one++one)) (.str "q")=some (.str (one++one ++ "q")):=zx (by rw[yi];omega);have sl:wG (.str one) none (some (-1))=some (.str (zV (one.cps.toList.dropLast))):=by show(if one.length<=16777216 then some (D.str (Txt.slice one none (some (-1))))else none)=_;rw[if_pos (by omega)];congr 2;apply yw;show(StrLaws.sliceText one none (some (-1))).cps.toList=_;rw[StrLaws.sliceText_neg_hi one none (by decide) (by omega),StrLaws.sliceText_to ⟨by omega,by rw[zz];omega⟩];show((one.cps.toList.drop 0).take _)=_;rw[Bt,List.dropLast_eq_take,LQ,zz];congr 1;omega
 have a3:cA (.str (zV (one.cps.toList.dropLast))) (.str "-")=some (.str (zV (one.cps.toList.dropLast) ++ "-")):=zx (by rw[←zz,LQ,vK,zz];omega);have e:(pd one).map D.str=[.str "",.str "A",.str (Txt.upper one),.str (one++one ++ "q"),.str (zV (one.cps.toList.dropLast) ++ "-"),.str "9",.str "Going"]:=rfl;rw[e]at hp;generalize zV (one.cps.toList.dropLast) ++ "-"=W4 at *;generalize zV (one.cps.toList.dropLast)=W3,one++one ++ "q"=W2 at *;generalize one++one=W1,Txt.upper one=W0,cr (one::mv)=N at *;unfold ij;clear hx hy e l8 h ql o7;walk_at "mix"
theorem LS {α:Type}{g:D->L3.Env->Option L3.Env}{b:oj}(enc:α->D)(I:L3.Env->Prop):∀(xs:List α) (ρ:L3.Env),I ρ->(∀y∈xs,∀ρ,I ρ->∃ρ1 ρ2,g (enc y) ρ=some ρ1/\b ρ1=some (.ok (.nx ρ2))/\I ρ2)->∃ρ',oJ g b (xs.map enc) ρ=some (.ok (.nx ρ'))/\I ρ'
 |[],ρ,h,_=>⟨ρ,rfl,h⟩
 |y::xs,ρ,h,st=>by obtain⟨ρ1,ρ2,h1,h2,h3⟩:=st y b9 ρ h;obtain⟨ρ',h4,h5⟩:=LS enc I xs ρ2 h3 λz hz=>st z (cj _ hz);refine⟨ρ',?_,h5⟩;show(g (enc y) ρ).bind _=_;rw[h1,cP,h2];exact h4
theorem LU {α:Type}{g:D->L3.Env->Option L3.Env}{b:oj}(enc:α->D)(I:L3.Env->Prop)(d:D)(x:α)(post:List α)(hx:∀ρ,I ρ->∃ρ1 ρ2,g (enc x) ρ=some ρ1/\b ρ1=some (.xc ρ2 d)):∀(pre:List α) (ρ:L3.Env),I ρ->(∀y∈pre,∀ρ,I ρ->∃ρ1 ρ2,g (enc y) ρ=some ρ1/\b ρ1=some (.ok (.nx ρ2))/\I ρ2)->∃ρ',oJ g b ((pre++x::post).map enc) ρ=some (.xc ρ' d)
 |[],ρ,h,_=>by obtain⟨ρ1,ρ2,h1,h2⟩:=hx ρ h;refine⟨ρ2,?_⟩;show(g (enc x) ρ).bind _=_;rw[h1,cP,h2];rfl
 |y::pre,ρ,h,st=>by obtain⟨ρ1,ρ2,h1,h2,h3⟩:=st y b9 ρ h;obtain⟨ρ',h4⟩:=LU enc I d x post hx pre ρ2 h3 λz hz=>st z (cj _ hz);refine⟨ρ',?_⟩;show(g (enc y) ρ).bind _=_;rw[h1,cP,h2];exact h4
theorem LG (lo:Int)(m:Nat):kW lo (m+1)=.int lo::kW (lo+1) m:=by
 unfold kW;rw[t8,cL,fE];congr 1
 ·simp
 ·apply List.map_congr_left;intro a _;show D.int (lo+((a+1:Nat):Int))=D.int (lo+1+(a:Int));congr 1;omega
theorem QC {g:D->L3.Env->Option L3.Env}{b:oj}(I:Nat->L3.Env->Prop){lo:Int}{ρ:L3.Env}(h0:I 0 ρ):∀(n m:Nat),(∀j,j<n->∀ρ,I j ρ->∃ρ1 ρ2,g (.int (lo+(j:Int))) ρ=some ρ1/\b ρ1=some (.ok (.nx ρ2))/\I (j+1) ρ2)->∃ρ',I n ρ'/\oJ g b (kW lo (n+m)) ρ=oJ g b (kW (lo+(n:Int)) m) ρ'
 |0,m,_=>⟨ρ,h0,by rw[pY];simp⟩
 |n+1,m,st=>by obtain⟨ρ',h1,h2⟩:=QC I h0 n (m+1) λj hj=>st j (by omega);obtain⟨ρ1,ρ2,h3,h4,h5⟩:=st n (by omega) ρ' h1;refine⟨ρ2,h5,?_⟩;rw[show n+1+m=n+(m+1)by omega,h2,LG];show(g (.int (lo+(n:Int))) ρ').bind _=_;rw[h3,cP,h4,show lo+((n+1:Nat):Int)=lo+(n:Int)+1 by omega];rfl
structure mJ (ws:List Str):Prop where
 ne:ws≠[]
 f32:∀w∈ws,og 32 w
 f10:∀w∈ws,og 10 w
 wl:∀w∈ws,w.length<=100
 len:ws.length<=100
def pK (rows:List (List Str)):Str:=Str.join (eD 10) (rows.map (Str.join (eD 32)))
theorem mJ.jl (h:mJ ws):(Str.join (eD 32) ws).length<=10100:=by have:=LF h.wl 32;have:=h.len;have:ws.length*100<=100*100:=Nat.mul_le_mul_right _ this;omega
theorem Py {rows:List (List Str)}(hr:∀r∈rows,mJ r)(h1:rows≠[])(hl:rows.length<=400):nX [some (.str (pK rows)),none,none,none,none]=sL (rows.map cr):=by
 refine xb (λr=>D.str (Str.join (eD 32) r)) cr rows ?_ (by omega) λr FE=>⟨[some (.str (Str.join (eD 32) r))],rfl,?_⟩
 ·have sp:oN (.str (pK rows)) (.str "\n")=some (cr (rows.map (Str.join (eD 32)))):=by
   rw[Jg];refine Qr (b:=10100) (by simpa using h1) (λw hw=>?_) (λw hw=>?_) (by rw[ck];omega)
   ·obtain⟨r,FE,rfl⟩:=cZ.mp hw;exact Pm (by decide) (hr r FE).f10
   ·obtain⟨r,FE,rfl⟩:=cZ.mp hw;exact(hr r FE).jl
  show(oN (.str (pK rows)) (.str "\n")).bind Fa=_;rw[sp];show some ((rows.map (Str.join (eD 32))).map D.str)=_;rw[fE];rfl
 ·show oN (.str (Str.join (eD 32) r)) (.str " ")=some (cr r);have h:=hr r FE;rw[G4];exact Qr (b:=100) h.ne h.f32 h.wl (by have:=h.len;omega)
structure Good (nm ws:List Str)(as:List D):Prop where
 form:dE [cr ws]=some (.bl true)
 told:∃told,fR [cr ws]=some (cr told)/\∀x∈told,x∈nm
 arr:fH [cr ws,cr nm]=sL as
structure D2 (nm ws:List Str)(x:Str):Prop where
 form:dE [cr ws]=some (.bl true)
 told:∃pre post,fR [cr ws]=some (cr (pre++x::post))/\∀y∈pre,y∈nm
 ni:x∉nm
 ok:cU.strOk x=true
 len:x.length<=100
theorem WG {x:Str}{nm:List Str}(h:x∉nm):inD true (.str x) (cr nm)=some (.bl true):=by
 have hi:xE (.str x) (nm.map D.str)=false:=by
  unfold xE;rw[t7,yW];intro y hy e;have:y=x:=by first|exact eq_of_beq e|exact(eq_of_beq e).symm
  exact h (this▸hy)
 show(if _ then _ else _)=_;rw[if_pos ⟨rfl,IN nm⟩,hi];rfl
theorem Xu {told nm:List Str}(h:∀x∈told,x∈nm):fV [cr told,cr nm]=some (.ok .non):=by obtain⟨ρ',lp,_⟩:=LS (g:=gV 2) (b:=eA) D.str (λρ=>∃x2:Option D,ρ=[some (cr told),some (cr nm),x2]) told [some (cr told),some (cr nm),none] ⟨_,rfl⟩ (by rintro x hx ρ ⟨x2,rfl⟩;refine⟨[some (cr told),some (cr nm),some (.str x)],[some (cr told),some (cr nm),some (.str x)],rfl,?_,_,rfl⟩;have n1:=Qt (h x hx);generalize cr told=T,cr nm=N at *;unfold eA;clear h hx;walk_at "mix");have ls:lsD (eV 0) [some (cr told),some (cr nm),none]=some (told.map D.str):=rfl;generalize cr told=T,cr nm=N at *;unfold fV mOfX startD;show((sForX (lsD (eV 0)) (gV 2) eA) [some T,some N,none]).bind _=_;unfold sForX;rw[ls,cP,lp];rfl
theorem WH {nm pre post:List Str}{x:Str}(h:∀y∈pre,y∈nm)(hx:x∉nm)(ok:cU.strOk x=true)(hl:x.length<=100):fV [cr (pre++x::post),cr nm]=some (.xc (.exc 13 ["name"] [.str x])):=by have fm:yJ (.str x)=some (.str x):=if_pos ⟨ok,hl⟩;obtain⟨ρ',lp⟩:=LU (g:=gV 2) (b:=eA) D.str (λρ=>∃x2:Option D,ρ=[some (cr (pre++x::post)),some (cr nm),x2]) (.exc 13 ["name"] [.str x]) x post (by rintro ρ ⟨x2,rfl⟩;refine⟨[some (cr (pre++x::post)),some (cr nm),some (.str x)],[some (cr (pre++x::post)),some (cr nm),some (.str x)],rfl,?_⟩;have n1:=WG hx;generalize cr (pre++x::post)=T,cr nm=N at *;unfold eA;clear h hx;walk_at "mix") pre [some (cr (pre++x::post)),some (cr nm),none] ⟨_,rfl⟩ (by rintro y hy ρ ⟨x2,rfl⟩;refine⟨[some (cr (pre++x::post)),some (cr nm),some (.str y)],[some (cr (pre++x::post)),some (cr nm),some (.str y)],rfl,?_,_,rfl⟩;have n1:=Qt (h y hy);generalize cr (pre++x::post)=T,cr nm=N at *;unfold eA;clear h hx hy;walk_at "mix");have ls:lsD (eV 0) [some (cr (pre++x::post)),some (cr nm),none]=some ((pre++x::post).map D.str):=rfl;generalize cr (pre++x::post)=T,cr nm=N at *;unfold fV mOfX startD;show((sForX (lsD (eV 0)) (gV 2) eA) [some T,some N,none]).bind _=_;unfold sForX;rw[ls,cP,lp];rfl
theorem IQ {g:Nat}(h:g<=1000):oo (.int (g:Int))=sI (g:Int):=by show(if _ then _ else _)=_;rw[if_pos];have:=A8 ((g:Int).natAbs);omega
variable {tl:List (List Str)}
section
variable {nm:List Str}{gs:List (List Str×List D)}
def eW (nm:List Str)(gs:List (List Str×List D))(tl:List (List Str)):List (List Str):=(("goings":Str)::nm)::(gs.map (·.1)++tl)
theorem QD {g:D->L3.Env->Option L3.Env}{b:oj}{d e:D}{ρ1 ρ2:L3.Env}(h1:g d ρ=some ρ1)(h2:b ρ1=some (.xc ρ2 e)):oJ g b (d::ds) ρ=some (.xc ρ2 e):=by show(g d ρ).bind _=_;rw[h1,cP,h2];rfl
theorem zsg {j:Nat}(hj:j<gs.length):eJ (.lst ((eW nm gs tl).map cr)) (.int (1+(j:Int)))=some (cr gs[j].1):=by rw[show(1:Int)+(j:Int)=((j+1:Nat):Int)by omega];refine ye ?_;unfold eW;rw[cL,tR,dG,gG (by rw[ck];exact hj),dG,cX hj];rfl
theorem QE {w:List Str}:eJ (.lst ((eW nm gs (w::tl)).map cr)) (.int (1+(gs.length:Int)))=some (cr w):=by rw[show(1:Int)+(gs.length:Int)=((gs.length+1:Nat):Int)by omega];refine ye ?_;unfold eW;rw[cL,tR,dG,iI (by rw[ck];exact cI _),ck,Nat.sub_self];rfl
theorem Ml (TX:D)(hg:∀g∈gs,Good nm g.1 g.2)(hs:(gs.flatMap (·.2)).length<=5000) :
  ∃x4:Option D,oJ (gV 4) fS (kW 1 (gs.length+tl.length)) [some TX,sL ((eW nm gs tl).map cr),some (cr nm),some (.lst []),none]=oJ (gV 4) fS (kW (1+(gs.length:Int)) tl.length) [some TX,sL ((eW nm gs tl).map cr),some (cr nm),sL (gs.flatMap (·.2)),x4]:=by
 obtain⟨ρ',⟨x4,rfl⟩,lp⟩:=QC (g:=gV 4) (b:=fS) (lo:=1) (ρ:=[some TX,sL ((eW nm gs tl).map cr),some (cr nm),some (.lst []),none]) (λj ρ=>∃x4:Option D,ρ=[some TX,sL ((eW nm gs tl).map cr),some (cr nm),sL ((gs.take j).flatMap (·.2)),x4]) ⟨none,rfl⟩ gs.length tl.length (by
  rintro j hj ρ ⟨x4,rfl⟩;have h:=hg _ (iS hj);have xj:=zsg (nm:=nm) (gs:=gs) (tl:=tl) hj;have fm:=h.form;obtain⟨told,t1,t2⟩:=h.told;have rf:=Xu t2;have ar:=h.arr;have tk:(gs.take (j+1)).flatMap (·.2)=(gs.take j).flatMap (·.2)++gs[j].2:=by rw[Bu,cX hj,iZ];simp
  have hz:((gs.take j).flatMap (·.2)).length+gs[j].2.length<=16777216:=by
   rw[←cp,←tk];have:((gs.take (j+1)).flatMap (·.2)).length<=(gs.flatMap (·.2)).length:=by
    conv=>rhs;rw[←List.take_append_drop (j+1) gs,iZ,cp]
    omega
   omega
  refine⟨[some TX,sL ((eW nm gs tl).map cr),some (cr nm),sL ((gs.take j).flatMap (·.2)),sI (1+(j:Int))],[some TX,sL ((eW nm gs tl).map cr),some (cr nm),sL ((gs.take (j+1)).flatMap (·.2)),sI (1+(j:Int))],rfl,?_,_,rfl⟩;rw[tk];generalize (gs.take j).flatMap (·.2)=A0,gs[j].2=A1,cr gs[j].1=W,cr told=TT,(eW nm gs tl).map cr=RR,cr nm=N,(1:Int)+(j:Int)=jj at *;unfold fS AT;clear h t2 tk hg hs;walk_at "mix")
 rw[qA]at lp;exact⟨x4,lp⟩
theorem zu5 {TX:D}{bad:List Str}(hg:∀g∈gs,Good nm g.1 g.2)(hs:(gs.flatMap (·.2)).length<=5000)(hl:gs.length<=900)(hb:dE [cr bad]=some (.bl false)) :
  ∃ρ',oJ (gV 4) fS (kW 1 (gs.length+(bad::tl).length)) [some TX,sL ((eW nm gs (bad::tl)).map cr),some (cr nm),some (.lst []),none]=some (.xc ρ' (.exc 12 ["at"] [.int (1+(gs.length:Int))])):=by
 obtain⟨x4,lp⟩:=Ml (tl:=bad::tl) TX hg hs;rw[lp,cm,LG];have xj:=QE (nm:=nm) (gs:=gs) (tl:=tl) (w:=bad);have fm:oo (.int (1+(gs.length:Int)))=sI (1+(gs.length:Int)):=by have:=IQ (g:=gs.length+1) (by omega);rw[show((gs.length+1:Nat):Int)=1+(gs.length:Int)by omega]at this;exact this
 refine⟨[some TX,sL ((eW nm gs (bad::tl)).map cr),some (cr nm),sL (gs.flatMap (·.2)),sI (1+(gs.length:Int))],?_⟩;have e:fS [some TX,sL ((eW nm gs (bad::tl)).map cr),some (cr nm),sL (gs.flatMap (·.2)),sI (1+(gs.length:Int))]=some (.xc [some TX,sL ((eW nm gs (bad::tl)).map cr),some (cr nm),sL (gs.flatMap (·.2)),sI (1+(gs.length:Int))] (.exc 12 ["at"] [.int (1+(gs.length:Int))])):=by generalize gs.flatMap (·.2)=A0,cr bad=W,(eW nm gs (bad::tl)).map cr=RR,cr nm=N,(1:Int)+(gs.length:Int)=jj at *;unfold fS AT;clear lp hg hs;walk_at "mix"
 exact QD rfl e
theorem zu6 {TX:D}{u:List Str}{x:Str}(hg:∀g∈gs,Good nm g.1 g.2)(hs:(gs.flatMap (·.2)).length<=5000)(hu:D2 nm u x) :
  ∃ρ',oJ (gV 4) fS (kW 1 (gs.length+(u::tl).length)) [some TX,sL ((eW nm gs (u::tl)).map cr),some (cr nm),some (.lst []),none]=some (.xc ρ' (.exc 13 ["name"] [.str x])):=by
 obtain⟨x4,lp⟩:=Ml (tl:=u::tl) TX hg hs;rw[lp,cm,LG];have xj:=QE (nm:=nm) (gs:=gs) (tl:=tl) (w:=u);obtain⟨pre,post,t1,t2⟩:=hu.told;have rf:=WH (post:=post) t2 hu.ni hu.ok hu.len;have fm:=hu.form;refine⟨[some TX,sL ((eW nm gs (u::tl)).map cr),some (cr nm),sL (gs.flatMap (·.2)),sI (1+(gs.length:Int))],?_⟩;have e:fS [some TX,sL ((eW nm gs (u::tl)).map cr),some (cr nm),sL (gs.flatMap (·.2)),sI (1+(gs.length:Int))]=some (.xc [some TX,sL ((eW nm gs (u::tl)).map cr),some (cr nm),sL (gs.flatMap (·.2)),sI (1+(gs.length:Int))] (.exc 13 ["name"] [.str x])):=by generalize gs.flatMap (·.2)=A0,cr u=W,cr (pre++x::post)=TT,(eW nm gs (u::tl)).map cr=RR,cr nm=N,(1:Int)+(gs.length:Int)=jj at *;unfold fS AT;clear lp hg hs hu t2;walk_at "mix"
 exact QD rfl e
end
theorem Xv {d:D}(h:mw "str" d=some (.bl false)):f6 [d]=some (.xc (.exc 12 ["at"] [.int 0])):=by have fm:oo (.int 0)=sI 0:=IQ (g:=0) (by omega);unfold f6;walk_at "mix"
theorem V5 {w:Str}(hr:∀r∈(w::ws)::tl,mJ r)(hl:tl.length<400)(ok:cU.strOk w=true)(h:w≠"goings"):f6 [.str (pK ((w::ws)::tl))]=some (.xc (.exc 12 ["at"] [.int 0])):=by have fm:oo (.int 0)=sI 0:=IQ (g:=0) (by omega);have i1:mw "str" (.str (pK ((w::ws)::tl)))=some (.bl true):=rfl;have q1:=Py hr (by simp) (by rw[cm];omega);have x0:eJ (.lst (((w::ws)::tl).map cr)) (.int 0)=some (cr (w::ws)):=ye (xs:=((w::ws)::tl).map cr) (j:=0) rfl;have UW:eJ (cr (w::ws)) (.int 0)=some (.str w):=ye (xs:=(w::ws).map D.str) (j:=0) rfl;have eg:iz true (.str w) (.str "goings")=some (.bl true):=(vn ok (uf _)).trans (by simp[h]);generalize cr (w::ws)=GN,((w::ws)::tl).map cr=RR,pK ((w::ws)::tl)=TX at *;unfold f6;generalize nX=Q1,fS=B1 at *;clear hr hl ok h;walk_at "mix"
theorem MO {nm:List Str}{o:uF}{r:mI}(hr:∀r∈(("goings":Str)::nm)::tl,mJ r)(hl:tl.length<400)(lp:oJ (gV 4) fS (kW 1 tl.length) [some (.str (pK ((("goings":Str)::nm)::tl))),sL (((("goings":Str)::nm)::tl).map cr),some (cr nm),some (.lst []),none]=some o)
  (he:(∃ρ e,o=.xc ρ e/\r=.xc e)\/∃as x4,o=.ok (.nx [some (.str (pK ((("goings":Str)::nm)::tl))),sL (((("goings":Str)::nm)::tl).map cr),some (cr nm),sL as,x4])/\dF 4 [cr nm,.lst as]=some r):f6 [.str (pK ((("goings":Str)::nm)::tl))]=some r:=by
 have i1:mw "str" (.str (pK ((("goings":Str)::nm)::tl)))=some (.bl true):=rfl;have q1:=Py hr (by simp) (by rw[cm];omega);have x0:eJ (.lst (((("goings":Str)::nm)::tl).map cr)) (.int 0)=some (cr ("goings"::nm)):=ye (xs:=((("goings":Str)::nm)::tl).map cr) (j:=0) rfl;have UW:eJ (cr ("goings"::nm)) (.int 0)=some (.str "goings"):=ye (xs:=(("goings":Str)::nm).map D.str) (j:=0) rfl;have eg:iz true (.str "goings") (.str "goings")=some (.bl false):=(vn (uf _) (uf _)).trans (by simp);have s1:eU (cr ("goings"::nm)) (some 1) none=some (cr nm):=by show some (D.lst (cutD _ (some ((1:Nat):Int)) none))=_;rw[wa];rfl
 have l1:gx [.lst (((("goings":Str)::nm)::tl).map cr)]=sI ((tl.length+1:Nat):Int):=(yp _).trans (by rw[ck,cm]);have r2:yO [.int 1,.int ((tl.length+1:Nat):Int)]=some (kW 1 tl.length):=by rw[Yp (by omega) (by omega) (by omega) (by omega)];congr 2;omega
 generalize (((("goings":Str)::nm)::tl).map cr)=RR,cr ("goings"::nm)=GN,cr nm=N,pK ((("goings":Str)::nm)::tl)=TX,((tl.length+1:Nat):Int)=rl,kW 1 tl.length=up at *;unfold f6 DA;generalize nX=Q1,fS=B1 at *;clear hr hl;rcases he with⟨ρ,e,rfl,rfl⟩|⟨as,x4,rfl,nt⟩
 ·walk_at "mix"
 ·cases r<;>(walk_at "mix")<;>rfl
variable {N:D}
section
variable {s g w z:Str}{t b:Int}{i j:Int}
structure Nu (w:Str)(t:Int):Prop where
 num:gX [.str w]=some (.bl true)
 int:rZ [.str w]=sI t
structure Gr (ws told:List Str)(N:D)(as:Option (List D)):Prop where
 form:dE [cr ws]=some (.bl true)
 told:fR [cr ws]=some (cr told)
 arr:∀MX,as=some MX->fH [cr ws,N]=sL MX
theorem zu7 (s g t:Int):kH 1 [.int s,.int g,.int t]=some (.obj 1 ["start","goal","time","behind"] [.int s,.int g,.int t,.int 0]):=rfl
theorem zu8 (s g t b:Int):mr 2 [.int s,.int g,.int t,.int b]=some (.obj 2 ["start","goal","time","behind"] [.int s,.int g,.int t,.int b]):=rfl
theorem Rl (s g t b:Int):kG 3 [.int s,.int g,.int t,.int b]=some (.obj 3 ["start","goal","time","behind"] [.int s,.int g,.int t,.int b]):=rfl
theorem Ao (x y z:D)(mv:List D):eU (.lst (x::y::z::mv)) (some 1) (some 3)=some (.lst [y,z]):=by show some (D.lst (cutD _ (some ((1:Nat):Int)) (some ((3:Nat):Int))))=_;rw[Yq];rfl
theorem Mm (ht:Nu w t):Gr ["ride",s,g,w] [s,g] N none:=by
 have k1:=ht.num;have q1:iz false (.str "ride") (.str "ride")=some (.bl true):=by kernel_rfl
 have q4:iz false (.str "ride") (.str "line")=some (.bl false):=by kernel_rfl
 have ln:gx [cr ["ride",s,g,w]]=sI 4:=rfl;have x0:eJ (cr ["ride",s,g,w]) (.int 0)=some (.str "ride"):=rfl;have x3:eJ (cr ["ride",s,g,w]) (.int 3)=some (.str (w)):=rfl;have sl:eU (cr ["ride",s,g,w]) (some 1) (some 3)=some (cr [s,g]):=Ao _ _ _ _;refine⟨?_,?_,λ_ e=>nomatch e⟩
 ·generalize cr ["ride",s,g,w]=L at *;unfold dE;clear sl ht;walk_at "mix"
 ·generalize cr ["ride",s,g,w]=L at *;generalize cr [s,g]=L2 at *;unfold fR;clear k1 x3 ht;walk_at "mix"
theorem Ir (ht:Nu w t)(d1:oK N (.str s)=sI i)(d2:oK N (.str g)=sI j):Gr ["ride",s,g,w] [s,g] N (some [.obj 1 ["start","goal","time","behind"] [.int i,.int j,.int t,.int 0]]):=by
 refine⟨(Mm (N:=N) ht).form,(Mm (N:=N) ht).told,λ_ e=>?_⟩;cases e;have v1:=ht.int;have q1:iz false (.str "ride") (.str "ride")=some (.bl true):=by kernel_rfl
 have q4:iz false (.str "ride") (.str "line")=some (.bl false):=by kernel_rfl
 have x0:eJ (cr ["ride",s,g,w]) (.int 0)=some (.str "ride"):=rfl;have x1:eJ (cr ["ride",s,g,w]) (.int 1)=some (.str s):=rfl;have x2:eJ (cr ["ride",s,g,w]) (.int 2)=some (.str g):=rfl;have x3:eJ (cr ["ride",s,g,w]) (.int 3)=some (.str (w)):=rfl;have r1:=zu7 i j t;have ar:fQ [cr ["ride",s,g,w],N]=some (.obj 1 ["start","goal","time","behind"] [.int i,.int j,.int t,.int 0]):=by generalize cr ["ride",s,g,w]=L at *;unfold fQ;clear q4 ht;walk_at "mix"
 generalize D.obj 1 ["start","goal","time","behind"] [.int i,.int j,.int t,.int 0]=ea,cr ["ride",s,g,w]=L at *;unfold fH;clear d1 d2 q1 v1 x1 x2 x3 r1 ht;walk_at "mix"
theorem Qi (ht:Nu w t)(hb:Nu z b):Gr ["wait",s,g,w,z] [s,g] N none:=by
 have nn:=OI (ws:=[w,z]) (by simp) λx hw=>by
  simp only[cn,df,or_false]at hw;rcases hw with rfl|rfl
  ·exact ht.num
  ·exact hb.num
 have q1:iz false (.str "wait") (.str "ride")=some (.bl false):=by kernel_rfl
 have q2:iz false (.str "wait") (.str "wait")=some (.bl true):=by kernel_rfl
 have q4:iz false (.str "wait") (.str "line")=some (.bl false):=by kernel_rfl
 have ln:gx [cr ["wait",s,g,w,z]]=sI 5:=rfl;have x0:eJ (cr ["wait",s,g,w,z]) (.int 0)=some (.str "wait"):=rfl;have sl:eU (cr ["wait",s,g,w,z]) (some 1) (some 3)=some (cr [s,g]):=Ao _ _ _ _;have s3:eU (cr ["wait",s,g,w,z]) (some 3) none=some (cr [w,z]):=by show some (D.lst (cutD _ (some ((3:Nat):Int)) none))=_;rw[wa];rfl
 refine⟨?_,?_,λ_ e=>nomatch e⟩
 ·generalize cr ["wait",s,g,w,z]=L at *;generalize cr [w,z]=L3 at *;unfold dE;clear sl ht hb q4;walk_at "mix"
 ·generalize cr ["wait",s,g,w,z]=L at *;generalize cr [s,g]=L2 at *;unfold fR;clear nn s3 ht hb q1 q2;walk_at "mix"
theorem Iu (ht:Nu w t)(hb:Nu z b)(d1:oK N (.str s)=sI i)(d2:oK N (.str g)=sI j):Gr ["wait",s,g,w,z] [s,g] N (some [.obj 2 ["start","goal","time","behind"] [.int i,.int j,.int t,.int b]]):=by
 refine⟨(Qi (N:=N) ht hb).form,(Qi (N:=N) ht hb).told,λ_ e=>?_⟩;cases e;have v1:=ht.int;have v2:=hb.int;have q1:iz false (.str "wait") (.str "ride")=some (.bl false):=by kernel_rfl
 have q2:iz false (.str "wait") (.str "wait")=some (.bl true):=by kernel_rfl
 have q4:iz false (.str "wait") (.str "line")=some (.bl false):=by kernel_rfl
 have x0:eJ (cr ["wait",s,g,w,z]) (.int 0)=some (.str "wait"):=rfl;have x1:eJ (cr ["wait",s,g,w,z]) (.int 1)=some (.str s):=rfl;have x2:eJ (cr ["wait",s,g,w,z]) (.int 2)=some (.str g):=rfl;have x3:eJ (cr ["wait",s,g,w,z]) (.int 3)=some (.str (w)):=rfl;have x4:eJ (cr ["wait",s,g,w,z]) (.int 4)=some (.str (z)):=rfl;have r1:=zu8 i j t b;have ar:fQ [cr ["wait",s,g,w,z],N]=some (.obj 2 ["start","goal","time","behind"] [.int i,.int j,.int t,.int b]):=by generalize cr ["wait",s,g,w,z]=L at *;unfold fQ;clear q4 ht hb;walk_at "mix"
 generalize D.obj 2 ["start","goal","time","behind"] [.int i,.int j,.int t,.int b]=ea,cr ["wait",s,g,w,z]=L at *;unfold fH;clear d1 d2 q1 q2 v1 v2 x1 x2 x3 x4 r1 ht hb;walk_at "mix"
theorem Qj (ht:Nu w t)(hb:Nu z b):Gr ["back",s,g,w,z] [s,g] N none:=by
 have nn:=OI (ws:=[w,z]) (by simp) λx hw=>by
  simp only[cn,df,or_false]at hw;rcases hw with rfl|rfl
  ·exact ht.num
  ·exact hb.num
 have q1:iz false (.str "back") (.str "ride")=some (.bl false):=by kernel_rfl
 have q2:iz false (.str "back") (.str "wait")=some (.bl false):=by kernel_rfl
 have q3:iz false (.str "back") (.str "back")=some (.bl true):=by kernel_rfl
 have q4:iz false (.str "back") (.str "line")=some (.bl false):=by kernel_rfl
 have ln:gx [cr ["back",s,g,w,z]]=sI 5:=rfl;have x0:eJ (cr ["back",s,g,w,z]) (.int 0)=some (.str "back"):=rfl;have sl:eU (cr ["back",s,g,w,z]) (some 1) (some 3)=some (cr [s,g]):=Ao _ _ _ _;have s3:eU (cr ["back",s,g,w,z]) (some 3) none=some (cr [w,z]):=by show some (D.lst (cutD _ (some ((3:Nat):Int)) none))=_;rw[wa];rfl
 refine⟨?_,?_,λ_ e=>nomatch e⟩
 ·generalize cr ["back",s,g,w,z]=L at *;generalize cr [w,z]=L3 at *;unfold dE;clear sl ht hb q4;walk_at "mix"
 ·generalize cr ["back",s,g,w,z]=L at *;generalize cr [s,g]=L2 at *;unfold fR;clear nn s3 ht hb q1 q2 q3;walk_at "mix"
theorem v9 (ht:Nu w t)(hb:Nu z b)(d1:oK N (.str s)=sI i)(d2:oK N (.str g)=sI j):Gr ["back",s,g,w,z] [s,g] N (some [.obj 3 ["start","goal","time","behind"] [.int i,.int j,.int t,.int b]]):=by
 refine⟨(Qj (N:=N) ht hb).form,(Qj (N:=N) ht hb).told,λ_ e=>?_⟩;cases e;have v1:=ht.int;have v2:=hb.int;have q1:iz false (.str "back") (.str "ride")=some (.bl false):=by kernel_rfl
 have q2:iz false (.str "back") (.str "wait")=some (.bl false):=by kernel_rfl
 have q4:iz false (.str "back") (.str "line")=some (.bl false):=by kernel_rfl
 have x0:eJ (cr ["back",s,g,w,z]) (.int 0)=some (.str "back"):=rfl;have x1:eJ (cr ["back",s,g,w,z]) (.int 1)=some (.str s):=rfl;have x2:eJ (cr ["back",s,g,w,z]) (.int 2)=some (.str g):=rfl;have x3:eJ (cr ["back",s,g,w,z]) (.int 3)=some (.str (w)):=rfl;have x4:eJ (cr ["back",s,g,w,z]) (.int 4)=some (.str (z)):=rfl;have r1:=Rl i j t b;have ar:fQ [cr ["back",s,g,w,z],N]=some (.obj 3 ["start","goal","time","behind"] [.int i,.int j,.int t,.int b]):=by generalize cr ["back",s,g,w,z]=L at *;unfold fQ;clear q4 ht hb;walk_at "mix"
 generalize D.obj 3 ["start","goal","time","behind"] [.int i,.int j,.int t,.int b]=ea,cr ["back",s,g,w,z]=L at *;unfold fH;clear d1 d2 q1 q2 v1 v2 x1 x2 x3 x4 r1 ht hb;walk_at "mix"
end
theorem Qk {s w z:Str}{t b:Int}{i:Int}(hw:Nu w b)(hz:Nu z t)(fm:dE [cr ["line",w,s,z]]=some (.bl true))(d1:oK N (.str s)=some (.int i)):Gr ["line",w,s,z] [s] N (some [.obj 3 ["start","goal","time","behind"] [.int i,.int i,.int t,.int b]]):=by
 refine⟨fm,by kernel_rfl,λ_ e=>?_⟩;cases e;have g3:jC [some (cr ["line",w,s,z]),some N,none,none,none]=some (.lst [.int i]):=by refine xb (λx:Str=>D.str x) (λ_=>D.int i) [s] rfl (by simp) λx hx=>⟨[some (.str x),some N],rfl,?_⟩;cases cz.mp hx;clear fm hx hw hz;walk_at "mix"
 have g2:jB [some (cr ["line",w,s,z]),some N,some (.lst [.int i]),none,none]=some (.lst [.int t]):=by refine xb (λx:Str=>D.str x) (λ_=>D.int t) [z] rfl (by simp) λx hx=>⟨[some (.str x)],rfl,?_⟩;cases cz.mp hx;have v:=hz.int;clear fm hx hw hz;walk_at "mix"
 have g1:jA [some (cr ["line",w,s,z]),some N,some (.lst [.int i]),some (.lst [.int t]),none]=some (.lst []):=by refine xb (α:=Unit) (λ_=>D.non) (λ_=>D.non) [] rfl (by simp) λx hx=>by cases hx
 have v1:=hw.int;have q4:iz false (.str "line") (.str "line")=some (.bl true):=by kernel_rfl
 have x0:eJ (cr ["line",w,s,z]) (.int 0)=some (.str "line"):=rfl;have x1:eJ (cr ["line",w,s,z]) (.int 1)=some (.str w):=rfl;have y0:eJ (.lst [.int i]) (.int 0)=some (.int i):=rfl;have y1:eJ (.lst [.int i]) (.int (-1))=some (.int i):=rfl;have y2:eJ (.lst [.int t]) (.int (-1))=some (.int t):=rfl;have r1:=Rl i i t b;have ad:cA (.lst []) (.lst [.obj 3 ["start","goal","time","behind"] [.int i,.int i,.int t,.int b]])=some (.lst [.obj 3 ["start","goal","time","behind"] [.int i,.int i,.int t,.int b]]):=rfl;have ar:iN [cr ["line",w,s,z],N]=some (.lst [.obj 3 ["start","goal","time","behind"] [.int i,.int i,.int t,.int b]]):=by generalize cr ["line",w,s,z]=L,D.obj 3 ["start","goal","time","behind"] [.int i,.int i,.int t,.int b]=ea,D.lst [.int i]=li,D.lst [.int t]=lt at *;unfold iN;generalize jA=Q1,jB=Q2,jC=Q3 at *;clear fm hw hz q4 x0;walk_at "mix"
 show _=some (D.lst _);generalize D.lst [.obj 3 ["start","goal","time","behind"] [.int i,.int i,.int t,.int b]]=ea,cr ["line",w,s,z]=L at *;unfold fH;clear g1 g2 g3 d1 v1 x1 y0 y1 y2 r1 ad fm hw hz;walk_at "mix"
theorem Gr.good {nm told:List Str}{as:List D}(h:Gr ws told (cr nm) (some as))(ht:∀x∈told,x∈nm):Good nm ws as:=⟨h.form,⟨told,h.told,ht⟩,h.arr _ rfl⟩
theorem Gr.unk {nm pre post:List Str}{x:Str}(h:Gr ws (pre++x::post) N none)(hp:∀y∈pre,y∈nm)(hx:x∉nm)(ok:cU.strOk x=true)(hl:x.length<=100):D2 nm ws x:=⟨h.form,⟨pre,post,h.told,hp⟩,hx,ok,hl⟩
variable {ex:List Str}
theorem zw (nd:na.Nodup){i:Nat}(h:i<na.length):oK (cr (na++ex)) (.str (cY na i))=sI (i:Int):=by
 have hf:(na.map D.str).findIdx? (λy=>D6 y (.str (cY na i)))=some i:=by
  rw[yX];have e:cY na i=na[i]:=by unfold cY;rw[gA,cX h];rfl
  rw[e,jT];refine⟨h,?_,λj hj=>?_⟩
  ·show(na[i]==na[i])=true;exact beq_self_eq_true _
  ·have J8:j<na.length:=by omega
   have:na[j]≠na[i]:=λz=>by have:=(kJ (xs:=na) (h₀:=J8) (h₁:=h) nd).mp z;omega
   show¬(na[j]==na[i])=true;rw[beq_iff_eq];exact this
 show(if _ then _ else _)=_;rw[if_pos ⟨rfl,IN _⟩,dO,List.findIdx?_append,hf];rfl
theorem Rm {n:Nat}(h:n<10000000000):Nu (jI (n:Int)) (n:Int):=⟨YA h,zv3 h⟩
theorem YG (hn:lR na)(h:Wr na.length a):Good (na++ex) (lM na a) [di a]:=by
 obtain⟨t,ht⟩:∃t:Nat,a.t=(t:Int):=⟨a.t.toNat,by have:=h.t0;omega⟩;have t1:=h.t1;have hb:=h.b;have d1:=zw (ex:=ex) hn.nd h.s;have d2:=zw (ex:=ex) hn.nd h.g;have m1:=cN ex (ww h.s);have m2:=cN ex (ww h.g);have hm:∀x∈[cY na a.s,cY na a.g],x∈na++ex:=λx hx=>by
  simp only[cn,df,or_false]at hx;rcases hx with rfl|rfl
  ·exact m1
  ·exact m2
 obtain⟨c,s,g,tt,b⟩:=a;dsimp only at *;subst ht;have n1:=Rm (n:=t) (by omega);have n2:=Rm (n:=b) (by omega);cases c with
 |ride=>have JN:=h.r rfl;dsimp only at JN;subst JN;exact(Ir n1 d1 d2).good hm
 |wait=>exact(Iu n1 n2 d1 d2).good hm
 |back=>exact(v9 n1 n2 d1 d2).good hm
structure Wa where
 k:Nat
 s:Int
 g:Int
 t:Int
 b:Int
def jY (w:Wa):D:=.obj w.k ["start","goal","time","behind"] [.int w.s,.int w.g,.int w.t,.int w.b]
def Cd (w:Wa):Prop:=w.k=1\/w.k=2\/w.k=3
def lL (mo:Nat)(w:Wa):Bool:=decide (0<=w.s/\w.s<=(mo:Int)-1)&&decide (0<=w.g/\w.g<=(mo:Int)-1)&&(decide (0<=w.t/\w.t<=1000000000)&&decide ((if w.k=3 then 1 else 0)<=w.b/\w.b<=(if w.k=1 then 0 else 4)))
theorem wg (a l h:Int):dI [.int a,.int l,.int h]=some (.bl (decide (l<=a/\a<=h))):=by
 have i1:mw "int" (.int a)=some (.bl true):=rfl;have i2:mw "bool" (.int a)=some (.bl false):=rfl;by_cases h1:l<=a
 ·by_cases h2:a<=h
  ·rw[decide_eq_true ⟨h1,h2⟩];unfold dI;walk_at "mix"
  ·rw[decide_eq_false λz=>h2 z.2];unfold dI;walk_at "mix"
 ·rw[decide_eq_false λz=>h1 z.1];unfold dI;walk_at "mix"
theorem Pz (mo:Nat)(w:Wa)(hk:Cd w):iC [jY w,.int (mo:Int)]=some (.bl (lL mo w)):=by
 obtain⟨k,s,g,t,b⟩:=w;have w1:=wg s 0 ((mo:Int)-1);have w2:=wg g 0 ((mo:Int)-1);have w3:=wg t 0 1000000000;unfold lL;rcases hk with hk|hk|hk<;>dsimp only at hk<;>subst hk<;>dsimp only
 ·have w4:=wg b 0 0;have f1:gm [0,1,2,3] "start" (jY ⟨1,s,g,t,b⟩)=sI s:=rfl;have f2:gm [0,1,2,3] "goal" (jY ⟨1,s,g,t,b⟩)=sI g:=rfl;have f3:gm [0,1,2,3] "time" (jY ⟨1,s,g,t,b⟩)=sI t:=rfl;have f4:gm [0,1,2,3] "behind" (jY ⟨1,s,g,t,b⟩)=sI b:=rfl;have c1:rq [0,1,2,3,4] [3] (jY ⟨1,s,g,t,b⟩)=some (.bl false):=rfl;have c2:rq [0,1,2,3,4] [1] (jY ⟨1,s,g,t,b⟩)=some (.bl true):=rfl;rw[if_neg (by decide),if_pos rfl];generalize decide (0<=s/\s<=(mo:Int)-1)=b1,decide (0<=g/\g<=(mo:Int)-1)=b2,decide (0<=t/\t<=1000000000)=b3,decide (0<=b/\b<=0)=b4,jY ⟨1,s,g,t,b⟩=e at *;unfold iC;cases b1<;>cases b2<;>cases b3<;>cases b4<;>walk_at "mix"
 ·have w4:=wg b 0 4;have f1:gm [0,1,2,3] "start" (jY ⟨2,s,g,t,b⟩)=sI s:=rfl;have f2:gm [0,1,2,3] "goal" (jY ⟨2,s,g,t,b⟩)=sI g:=rfl;have f3:gm [0,1,2,3] "time" (jY ⟨2,s,g,t,b⟩)=sI t:=rfl;have f4:gm [0,1,2,3] "behind" (jY ⟨2,s,g,t,b⟩)=sI b:=rfl;have c1:rq [0,1,2,3,4] [3] (jY ⟨2,s,g,t,b⟩)=some (.bl false):=rfl;have c2:rq [0,1,2,3,4] [1] (jY ⟨2,s,g,t,b⟩)=some (.bl false):=rfl;rw[if_neg (by decide),if_neg (by decide)];generalize decide (0<=s/\s<=(mo:Int)-1)=b1,decide (0<=g/\g<=(mo:Int)-1)=b2,decide (0<=t/\t<=1000000000)=b3,decide (0<=b/\b<=4)=b4,jY ⟨2,s,g,t,b⟩=e at *;unfold iC;cases b1<;>cases b2<;>cases b3<;>cases b4<;>walk_at "mix"
 ·have w4:=wg b 1 4;have f1:gm [0,1,2,3] "start" (jY ⟨3,s,g,t,b⟩)=sI s:=rfl;have f2:gm [0,1,2,3] "goal" (jY ⟨3,s,g,t,b⟩)=sI g:=rfl;have f3:gm [0,1,2,3] "time" (jY ⟨3,s,g,t,b⟩)=sI t:=rfl;have f4:gm [0,1,2,3] "behind" (jY ⟨3,s,g,t,b⟩)=sI b:=rfl;have c1:rq [0,1,2,3,4] [3] (jY ⟨3,s,g,t,b⟩)=some (.bl true):=rfl;have c2:rq [0,1,2,3,4] [1] (jY ⟨3,s,g,t,b⟩)=some (.bl false):=rfl;rw[if_pos rfl,if_neg (by decide)];generalize decide (0<=s/\s<=(mo:Int)-1)=b1,decide (0<=g/\g<=(mo:Int)-1)=b2,decide (0<=t/\t<=1000000000)=b3,decide (1<=b/\b<=4)=b4,jY ⟨3,s,g,t,b⟩=e at *;unfold iC;cases b1<;>cases b2<;>cases b3<;>cases b4<;>walk_at "mix"
theorem LV {k:Nat}{s g t b:Int}(h1:0<=s/\s<=(mo:Int)-1)(h2:0<=g/\g<=(mo:Int)-1)(h3:0<=t/\t<=1000000000)(h4:(if k=3 then 1 else 0)<=b/\b<=(if k=1 then 0 else 4)):lL mo ⟨k,s,g,t,b⟩=true:=by unfold lL;rw[decide_eq_true h1,decide_eq_true h2,decide_eq_true h3,decide_eq_true h4];rfl
theorem ja {k:Nat}{s g t b:Int}(h:¬(0<=s/\s<=(mo:Int)-1)\/¬(0<=g/\g<=(mo:Int)-1)\/¬(0<=t/\t<=1000000000)\/¬((if k=3 then 1 else 0)<=b/\b<=(if k=1 then 0 else 4))):lL mo ⟨k,s,g,t,b⟩=false:=by
 unfold lL;rcases h with h|h|h|h
 ·rw[decide_eq_false h];simp
 ·rw[decide_eq_false h];simp
 ·rw[decide_eq_false h];simp
 ·rw[decide_eq_false h];simp
variable {ns:List D}
theorem YH {ws:List D}(h:dZ [.lst ns]=some (.bl false)):dF 4 [.lst ns,.lst ws]=some (.xc (.exc 6 ["at"] [.non])):=by have fm:oo .non=some .non:=rfl;unfold dF wA;walk_at "mix"
theorem zsi {ws:List D}(h:dZ [.lst ns]=some (.bl true))(hl:ws.length > 120):dF 4 [.lst ns,.lst ws]=some (.xc (.exc 6 ["at"] [.non])):=by
 have fm:oo .non=some .non:=rfl;have l1:=yp ws;have h1:(ws.length:Int) > 120:=by omega
 generalize (ws.length:Int)=z at *;unfold dF wA;clear hl;walk_at "mix"
variable {post:List Wa}
theorem YI {pre:List Wa}{x:Wa}(h:dZ [.lst ns]=some (.bl true))(hn:ns.length=mo)(hl:(pre++x::post).length<=120)(hk:∀w∈pre++x::post,Cd w)(hp:∀w∈pre,lL mo w=true)(hx:lL mo x=false) :
  dF 4 [.lst ns,.lst ((pre++x::post).map jY)]=some (.xc (.exc 6 ["at"] [.int (pre.length:Int)])):=by
 have en:jF 0 ((pre++x::post).map jY)=(pre.zipIdx 0++(x,pre.length)::post.zipIdx (pre.length+1)).map λ(p:Wa×Nat)=>D.tup [.int (p.2:Int),jY p.1]:=by rw[LO jY,List.zipIdx_append,qB];simp
 have l1:gx [.lst ns]=sI (mo:Int):=(yp _).trans (by rw[hn]);have l2:gx [.lst ((pre++x::post).map jY)]=sI ((pre++x::post).length:Int):=(yp _).trans (by rw[ck]);have h2:¬((pre++x::post).length:Int) > 120:=by omega
 have gW:pre.length<=1000:=by rw[cp]at hl;omega
 obtain⟨ρ',lp⟩:=LU (g:=gT (gsCons (gV 3) (gsCons (gV 4) gsNil))) (b:=fG) (λ(p:Wa×Nat)=>D.tup [.int (p.2:Int),jY p.1]) (λρ=>∃y3 y4,ρ=[some (.obj 4 [] []),sL ns,sL ((pre++x::post).map jY),y3,y4,none]) (.exc 6 ["at"] [.int (pre.length:Int)]) (x,pre.length) (post.zipIdx (pre.length+1)) (by
   rintro ρ ⟨y3,y4,rfl⟩;refine⟨[some (.obj 4 [] []),sL ns,sL ((pre++x::post).map jY),sI (pre.length:Int),some (jY x),none],[some (.obj 4 [] []),sL ns,sL ((pre++x::post).map jY),sI (pre.length:Int),some (jY x),none],rfl,?_⟩;have r:=Pz mo x (hk x (by simp));rw[hx]at r;have fm:=IQ (g:=pre.length) gW;generalize jY x=ex,(pre++x::post).map jY=wl,(pre.length:Int)=pn at *;unfold fG;clear en hk hp hx hl hn h2 l2 gW;walk_at "mix") (pre.zipIdx 0) [some (.obj 4 [] []),sL ns,sL ((pre++x::post).map jY),none,none,none] ⟨_,_,rfl⟩ (by
   rintro⟨w,i⟩ hw ρ ⟨y3,y4,rfl⟩;refine⟨[some (.obj 4 [] []),sL ns,sL ((pre++x::post).map jY),sI (i:Int),some (jY w),none],[some (.obj 4 [] []),sL ns,sL ((pre++x::post).map jY),sI (i:Int),some (jY w),none],rfl,?_,_,_,rfl⟩;have hw:w∈pre:=by obtain⟨_,_,e⟩:=AY hw;rw[e];exact iS _
   have r:=Pz mo w (hk w (cN _ hw));rw[hp w hw]at r;generalize jY w=ew,(pre++x::post).map jY=wl at *;unfold fG;clear en hk hp hx hl hn h2 l2 gW hw;walk_at "mix")
 generalize (pre.zipIdx 0++(x,pre.length)::post.zipIdx (pre.length+1)).map (λ(p:Wa×Nat)=>D.tup [.int (p.2:Int),jY p.1])=el,((pre++x::post).length:Int)=z,(pre++x::post).map jY=wl,(pre.length:Int)=pn at *;unfold dF wA;clear hk hp hx hl hn gW;walk_at "mix"
variable {κ:Type}
theorem OK {κ:Type}(h:κ×D->D):∀(ks:List κ) (ds:List D),ks.zip ((ks.zip ds).map h)=(ks.zip ds).map λp=>(p.1,h p)
 |[],_=>rfl
 |_::_,[]=>rfl
 |k::ks,d::ds=>by show(k,h (k,d))::ks.zip ((ks.zip ds).map h)=(k,h (k,d))::(ks.zip ds).map _;rw[OK h ks ds]
theorem YJ [DecidableEq κ]{ks:List κ}(hl:ks.length=ds.length)(k k':κ)(d:D):mM (iF ks ds k d).1 (iF ks ds k d).2 k'=if k'=k then some d else mM ks ds k':=by
 unfold iF;by_cases hc:ks.contains k=true
 ·rw[if_pos hc];unfold mM;dsimp only;rw[OK,List.find?_map];by_cases hk:k'=k
  ·subst hk;rw[if_pos rfl];have hm:k'∈ks:=by simpa using hc
   have:∃p∈ks.zip ds,p.1=k':=by obtain⟨i,hi,e⟩:=iL.mp hm;refine⟨(ks[i],ds[i]),?_,e⟩;rw[iL];exact⟨i,by rw[kZ];omega,by simp⟩
   obtain⟨p,hp,he⟩:=this;cases hf:(ks.zip ds).find? ((λp:κ×D=>decide (p.1=k')) ∘ λp:κ×D=>(p.1,if p.1=k' then d else p.2))with
   |none=>rw[xN]at hf;have:=hf p hp;simp[he]at this
   |some q=>have hq:=AW hf;simp at hq;simp[hq]
  ·rw[if_neg hk];have:((λp:κ×D=>decide (p.1=k')) ∘ λp:κ×D=>(p.1,if p.1=k then d else p.2))=λp:κ×D=>decide (p.1=k'):=rfl;rw[this];cases hf:(ks.zip ds).find? λp=>decide (p.1=k')with
   |none=>rfl
   |some q=>have hq:=AW hf;simp at hq;have mE:¬q.1=k:=λz=>hk (hq▸z);simp[mE]
 ·rw[if_neg hc];unfold mM;dsimp only;have hz:(ks++[k]).zip (ds++[d])=ks.zip ds++[(k,d)]:=by rw[A7 hl];rfl
  rw[hz,List.find?_append];by_cases hk:k'=k
  ·subst hk;rw[if_pos rfl];have hn:(ks.zip ds).find? (λp=>decide (p.1=k'))=none:=by
    rw[xN];intro p hp;have hm:=(jE (a:=p.1) (b:=p.2) hp).1;have tX:¬k'∈ks:=by simpa using hc
    simp;intro z;exact tX (z▸hm)
   rw[hn];simp
  ·rw[if_neg hk];have:¬k=k':=λz=>hk z.symm;cases hf:(ks.zip ds).find? (λp=>decide (p.1=k'))<;>simp[this]
theorem Ql [DecidableEq κ]{ks:List κ}(hl:ks.length=ds.length)(k:κ)(d:D):(iF ks ds k d).1.length=(iF ks ds k d).2.length/\(iF ks ds k d).1.length<=ks.length+1:=by
 unfold iF;by_cases hc:ks.contains k=true
 ·rw[if_pos hc];simp;omega
 ·rw[if_neg hc];simp[hl]
def aN (as:List jP)(n:Nat):jP:=(as[n]?).getD ⟨.wait,0,0,0,0⟩
theorem Jm {n:Nat}(h:n<as.length):as[n]?=some (aN as n):=by unfold aN;rw[cX h];rfl
structure iQ (d:D)(ch:Nat->Option Nat)(m:Nat):Prop where
 is:∃ks ds,d=.dK ks ds/\ks.length=ds.length/\ks.length<=m/\∀x:Nat,mM ks ds (.inl (x:Int))=(ch x).map λ(n:Nat)=>D.int (n:Int)
theorem iQ.get {d:D}{ch:Nat->Option Nat}{m:Nat}(h:iQ d ch m){x n:Nat}(e:ch x=some n):(lW d (.int (x:Int))).join=sI (n:Int):=by obtain⟨ks,ds,rfl,_,_,h3⟩:=h.is;show mM ks ds (.inl (x:Int))=_;rw[h3,e];rfl
theorem iQ.put {d:D}{ch:Nat->Option Nat}{m:Nat}(h:iQ d ch m)(hm:m<16777216)(x n:Nat):∃d',(∀(ρ:L3.Env) (i:Nat) (fj f:EF),f ρ=sI (n:Int)->eV i ρ=some d->fj ρ=sI (x:Int)->oz i fj f ρ=some (.nx (ρ.set i (some d'))))/\iQ d' (λy=>if y=x then some n else ch y) (m+1):=by
 obtain⟨ks,ds,rfl,h1,h2,h3⟩:=h.is;refine⟨.dK (iF ks ds (.inl (x:Int)) (.int (n:Int))).1 (iF ks ds (.inl (x:Int)) (.int (n:Int))).2,λρ i fj f e1 e2 e3=>?_,⟨_,_,rfl,(Ql h1 _ _).1,by have:=(Ql h1 (.inl (x:Int)) (.int (n:Int))).2;omega,λy=>?_⟩⟩
 ·unfold oz;rw[e1];show(eV i ρ).bind _=_;rw[e2];show(fj ρ).bind _=_;rw[e3];show(if ks.length<16777216 then some (Out.nx (ρ.set i (some (.dK (iF ks ds (.inl (x:Int)) (.int (n:Int))).1 (iF ks ds (.inl (x:Int)) (.int (n:Int))).2))))else none)=_;rw[if_pos (by omega)]
 ·rw[YJ h1];by_cases e:y=x
  ·subst e;rw[if_pos rfl,if_pos rfl];rfl
  ·rw[if_neg (λz=>e (by have:=Sum.inl.inj z;omega)),if_neg e];exact h3 y
theorem iQ.has {d:D}{ch:Nat->Option Nat}{m:Nat}(h:iQ d ch m)(x:Nat):lW d (.int (x:Int))=some ((ch x).map λ(n:Nat)=>D.int (n:Int)):=by obtain⟨ks,ds,rfl,_,_,h3⟩:=h.is;show some (mM ks ds (.inl (x:Int)))=_;rw[h3]
def yF (S G:Nat->Nat):Nat->List Nat->Nat->Prop
 |a,[],b=>a=b
 |a,n::l,b=>S n=a/\yF S G (G n) l b
variable {G S:Nat->Nat}
theorem yF.app {S G:Nat->Nat}{b c:Nat}{m:List Nat}(h2:yF S G b m c):∀{a:Nat} {l:List Nat},yF S G a l b->yF S G a (l++m) c
 |a,[],h=>by have h:a=b:=h;rw[h];exact h2
 |a,n::l,h=>⟨h.1,yF.app h2 h.2⟩
theorem yF.one (S G:Nat->Nat)(n:Nat):yF S G (S n) [n] (G n):=⟨rfl,rfl⟩
def aS (as:List jP)(n:Nat):Nat:=(aN as n).s
def aG (as:List jP)(n:Nat):Nat:=(aN as n).g
structure RG (mo:Nat)(a:jP):Prop where
 s:a.s<mo
 g:a.g<mo
 t0:0<=a.t
 t1:a.t<=1000000000
 b:a.b<=4
theorem GW {n:Nat}(hn:n<as.length):aN as n∈as:=fK.mpr ⟨n,Jm hn⟩
def wX (S G:Nat->Nat):Nat->List Nat->Nat->Prop
 |a,[],b=>a=b
 |a,n::l,b=>G n=a/\wX S G (S n) l b
theorem wX.snoc {S G:Nat->Nat}{n:Nat}:∀{w:List Nat} {a b:Nat},wX S G a w b->G n=b->wX S G a (w++[n]) (S n)
 |[],a,b,h,e=>by have h:a=b:=h;exact⟨by rw[e,h],rfl⟩
 |m::w,a,b,h,e=>⟨h.1,wX.snoc h.2 e⟩
theorem wX.wlk {S G:Nat->Nat}:∀{w:List Nat} {a b:Nat},wX S G a w b->yF S G b w.reverse a
 |[],a,b,h=>by have h:a=b:=h;exact h.symm
 |n::w,a,b,h=>by rw[pC];exact yF.app (h.1▸yF.one S G n) (wX.wlk h.2)
theorem wX.drop {S G:Nat->Nat}:∀{w:List Nat} {a b:Nat} {j n:Nat},wX S G a w b->w[j]?=some n->wX S G (G n) (w.drop j) b
 |[],a,b,j,n,h,e=>by simp at e
 |m::w,a,b,0,n,h,e=>by
  have e:m=n:=by simpa using e
  subst e;exact⟨rfl,h.2⟩
 |m::w,a,b,j+1,n,h,e=>by rw[List.drop_succ_cons];exact wX.drop h.2 (by simpa using e)
structure Wk (ch:Nat->Option Nat)(S G:Nat->Nat)(lr:Nat->Nat)(v here:Nat)(ws:List Nat):Prop where
 ch:∀n∈ws,ch (G n)=some n/\0<lr (G n)
 way:wX S G v ws here
 nd:(ws.map G).Nodup
 lr:lr v<=lr here+ws.length
theorem OL {c:BF}{b:SF}(I:L3.Env->Prop)(μ:L3.Env->Nat)(R:D->Prop)(st:∀ρ,I ρ->∃t,c ρ=some t/\(t=true->(∃ρ',b ρ=some (.nx ρ')/\I ρ'/\μ ρ' < μ ρ)\/∃d,b ρ=some (.rt d)/\R d)) :
  ∀(n:Nat) (ρ:L3.Env),I ρ->μ ρ<n->(∃ρ',nP c b n ρ=some (.nx ρ')/\I ρ'/\c ρ'=some false)\/∃d,nP c b n ρ=some (.rt d)/\R d
 |0,_,_,h=>absurd h (by omega)
 |n+1,ρ,hI,h=>by
  obtain⟨t,h1,h2⟩:=st ρ hI;cases t with
  |false=>exact .inl ⟨ρ,by show(c ρ).bind _=_;rw[h1];rfl,hI,h1⟩
  |true=>
   rcases h2 rfl with⟨ρ',h3,h4,h5⟩|⟨d,h3,h4⟩
   ·rcases OL I μ R st n ρ' h4 (by omega)with⟨ρ2,h6,h7,h8⟩|⟨d,h6,h7⟩
    ·refine .inl ⟨ρ2,?_,h7,h8⟩;show(c ρ).bind _=_;rw[h1];show(b ρ).bind _=_;rw[h3];exact h6
    ·refine .inr ⟨d,?_,h7⟩;show(c ρ).bind _=_;rw[h1];show(b ρ).bind _=_;rw[h3];exact h6
   ·refine .inr ⟨d,?_,h4⟩;show(c ρ).bind _=_;rw[h1];show(b ρ).bind _=_;rw[h3];rfl
theorem iQ.congr {d:D}{ch Ju:Nat->Option Nat}{m:Nat}(h:iQ d ch m)(e:∀x,ch x=Ju x):iQ d Ju m:=by have:ch=Ju:=funext e;rw[←this];exact h
theorem iQ.mono {d:D}{ch:Nat->Option Nat}{m m':Nat}(h:iQ d ch m)(e:m<=m'):iQ d ch m':=by obtain⟨ks,ds,q1,q2,q3,q4⟩:=h.is;exact⟨ks,ds,q1,q2,by omega,q4⟩
theorem iQ.nil:iQ (.dK [] []) (λ_=>none) 0:=⟨[],[],rfl,rfl,by simp,λ_=>rfl⟩
def AJ (us:List Nat)(y:Nat):Option Nat:=if y∈us then some (us.idxOf y)else none
theorem zsj (us:List Nat){x:Nat}(h:x∉us)(y:Nat):(if y=x then some us.length else AJ us y)=AJ (us++[x]) y:=by
 unfold AJ;by_cases e:y=x
 ·subst e;rw[if_pos rfl,if_pos (by simp),zK,if_neg h];simp
 ·rw[if_neg e];by_cases hy:y∈us
  ·rw[if_pos hy,if_pos (by simp[hy]),zK,if_pos hy]
  ·rw[if_neg hy,if_neg (by simp[hy,e])]
def T6 (ρ:L3.Env):Nat:=match ρ[5]?.join with
 |some (D.lst ds)=>1000-ds.length
 |_=>0
def cR:BF:=tb (λρ=>((eV 3) ρ).bind λx=>((eV 4) ρ).bind λy=>(lW y x).bind λr=>some (.bl (!r.isSome)))
theorem zv5 {m v:Nat}{d:D}{ch:Nat->Option Nat}{lr:Nat->Nat}(hD:iQ d ch m)(o3:∀x,0<lr x->∃n,ch x=some n/\n<as.length/\aG as n=x/\lr x<=lr (aS as n)+1)(Ec:∀a∈as,RG mo a)(hv:v<mo)(Nm:mo<=lr v)(hm:mo<=900) :
  ∃(R:List Nat) (x:Nat),iO [.lst (as.map di),d,.int (v:Int)]=sL (dN R)/\R≠[]/\yF (aS as) (aG as) x R x/\(R.map (aG as)).Nodup/\∀n∈R,ch (aG as n)=some n/\0<lr (aG as n):=by
 have Hc:∀(here:Nat) (us:List Nat) (d2:D) (k:Nat) (y0 y1 y2 y5:Option D),iQ d2 (AJ us) k->cR [y0,y1,y2,sI (here:Int),some d2,y5]=some (!decide (here∈us)):=by
  intro here us d2 k y0 y1 y2 y5 h;have g1:=h.has here;have M0:((AJ us here).map λ(n:Nat)=>D.int (n:Int)).isSome=decide (here∈us):=by
   unfold AJ;by_cases hh:here∈us
   ·rw[if_pos hh,decide_eq_true hh];rfl
   ·rw[if_neg hh,decide_eq_false hh];rfl
  rw[←M0];generalize (AJ us here).map (λ(n:Nat)=>D.int (n:Int))=o at *;unfold cR;clear h M0 o3 Ec hD;walk_at "mix"
 have lp:=OL (c:=cR) (b:=i9)
  (λρ=>∃(ws:List Nat) (here:Nat) (d2:D),ρ=[sL (as.map di),some d,sI (v:Int),sI (here:Int),some d2,sL (dN ws)]/\Wk ch (aS as) (aG as) lr v here ws/\here<mo/\(∀n∈ws,n<as.length)/\iQ d2 (AJ (ws.map (aG as))) ws.length) T6
  (λ_=>False) (by
   rintro ρ ⟨ws,here,d2,rfl,hw,hh,hn,h2⟩;have FH:ws.length<=mo:=by rw[←ck (f:=aG as)];refine Kahn.len_le hw.nd λx hx=>?_;obtain⟨n,h1,rfl⟩:=cZ.mp hx;exact(Ec _ (GW (hn n h1))).g
   refine⟨_,Hc here _ d2 _ _ _ _ _ h2,λht=>.inl ?_⟩;have yK:here∉ws.map (aG as):=by simpa using ht
   have Ep:(ws.map (aG as)++[here]).Nodup:=c8.mpr ⟨hw.nd,by simp,λa ha b hb e=>yK (by rw[←cz.mp hb,←e];exact ha)⟩;have rO:=Kahn.len_le (mo:=mo) Ep λx hx=>by
    rcases cG.mp hx with hx|hx
    ·obtain⟨n,h1,rfl⟩:=cZ.mp hx;exact(Ec _ (GW (hn n h1))).g
    ·rw[cz.mp hx];exact hh
   rw[cp,ck,eG]at rO;have hl:=hw.lr;obtain⟨n,c1,c2,c3,c4⟩:=o3 here (by omega);obtain⟨d3,put,Fo⟩:=h2.put (by omega) here ws.length;have put:=put [sL (as.map di),some d,sI (v:Int),sI (here:Int),some d2,sL (dN ws)] 4 (eV 3) (eN gx (aCons (eV 5) aNil)) (by show gx [.lst (dN ws)]=_;rw[yp];unfold dN;rw[ck]) rfl rfl;have g1:=hD.get c1;have f1:=fs (aN as n);have i1:eJ (.lst (as.map di)) (.int (n:Int))=some (di (aN as n)):=ye (by rw[dG,Jm c2];rfl);refine⟨[sL (as.map di),some d,sI (v:Int),sI ((aN as n).s:Int),some d3,sL (dN (ws++[n]))],?_,⟨ws++[n],(aN as n).s,d3,rfl,⟨λk hk=>?_,hw.way.snoc c3,?_,?_⟩,(Ec _ (GW c2)).s,λk hk=>?_,?_⟩,?_⟩
   ·have e3:dN (ws++[n])=dN ws++[.int (n:Int)]:=by unfold dN;rw[dO];rfl
    have hz:(dN ws).length<16777216:=by unfold dN;rw[ck];omega
    rw[e3];generalize as.map di=al,dN ws=wl,di (aN as n)=ea at *;unfold i9;generalize oz 4 (eV 3) (eN gx (aCons (eV 5) aNil))=PP at *;clear e3 Fo c1 c2 c3 c4 hl rO Ep yK ht FH h2 hn hh hw Hc hD o3 Ec hv Nm hm;walk_at "mix"
   ·rcases cG.mp hk with hk|hk
    ·exact hw.ch k hk
    ·rw[cz.mp hk,c3];exact⟨c1,by omega⟩
   ·rw[dO,xQ,c3];exact Ep
   ·rw[cp,eG];have:(aN as n).s=aS as n:=rfl;rw[this];omega
   ·rcases cG.mp hk with hk|hk
    ·exact hn k hk
    ·rw[cz.mp hk];exact c2
   ·rw[cp,eG,dO,xQ,c3];refine Fo.congr λy=>?_;have:=zsj (ws.map (aG as)) yK y;rw[ck]at this;exact this
   ·show 1000-(dN (ws++[n])).length<1000-(dN ws).length;unfold dN;rw[ck,ck,cp,eG]
    omega) uD [sL (as.map di),some d,sI (v:Int),sI (v:Int),some (.dK [] []),sL (dN [])]
  ⟨[],v,.dK [] [],rfl,⟨λn hn=>(by cases hn),rfl,by simp,by simp⟩,hv,λn hn=>(by cases hn),iQ.nil.congr λ_=>by simp[AJ]⟩ (Qa (by show 1000-(dN []).length<1048576;omega))
 have n0:dN []=[]:=rfl;rw[n0]at lp;rcases lp with⟨ρ',l1,⟨ws,here,d2,rfl,hw,hh,hn,h2⟩,hc⟩|⟨_,_,f⟩
 ·rw[Hc here _ d2 _ _ _ _ _ h2]at hc;have Hn:here∈ws.map (aG as):=by simpa using hc
  have hj:AJ (ws.map (aG as)) here=some ((ws.map (aG as)).idxOf here):=by unfold AJ;rw[if_pos Hn]
  have Ay:=List.idxOf_lt_length_iff.mpr Hn;have Fx:(ws.map (aG as))[(ws.map (aG as)).idxOf here]?=some here:=by rw[cX Ay,List.getElem_idxOf]
  generalize (ws.map (aG as)).idxOf here=j at *;rw[ck]at Ay;rw[dG,cX Ay]at Fx;replace Fx:aG as ws[j]=here:=by simpa using Fx
  have wlk:wX (aS as) (aG as) here (ws.drop j) here:=by have:=hw.way.drop (j:=j) (n:=ws[j]) (cX Ay);rw[Fx]at this;exact this
  refine⟨(ws.drop j).reverse,here,?_,?_,wlk.wlk,?_,λn Bj=>?_⟩
  ·have gv:=h2.get hj;have ct:cutD (dN ws) (some (j:Int)) none=dN (ws.drop j):=by rw[wa];unfold dN;rw[oQ]
   have lv:AK (.lst (dN (ws.drop j)))=sL (dN (ws.drop j).reverse):=by show some (D.lst (dN (ws.drop j)).reverse)=_;unfold dN;rw[←Ac]
   unfold cR at l1;generalize dN (ws.drop j).reverse=wr at *;generalize dN (ws.drop j)=wd,as.map di=al,dN ws=wl at *;unfold iO pQ;generalize (tb (λρ=>((eV 3) ρ).bind λx=>((eV 4) ρ).bind λy=>(lW y x).bind λr=>some (.bl (!r.isSome))))=cc at *;clear wlk Fx Ay hj Hn hc h2 hn hh hw Hc hD o3 Ec hv Nm hm;walk_at "mix"
  ·intro e;have:=congrArg jL e;rw[ll,dW]at this;simp at this;omega
  ·rw[Ac,oQ];exact List.pairwise_reverse.mpr ((sT.sublist (List.drop_sublist _ _) hw.nd).imp λh e=>h e.symm)
  ·exact hw.ch n (n6 (List.mem_reverse.mp Bj))
 ·exact f.elim
theorem PB (neg:Bool)(n:Nat)(out:List Nat):inD neg (.int (n:Int)) (.lst (dN out))=some (.bl (if neg then !decide (n∈out)else decide (n∈out))):=by
 have hs:(dN out).all D.sc=true:=by unfold dN;rw[t6];exact dB.mpr λx _=>rfl
 have hi:xE (.int (n:Int)) (dN out)=decide (n∈out):=by
  unfold xE dN;rw[t7];clear hs;induction out with
  |nil=>rfl
  |cons x out ih=>
   rw[ip,ih];show(((x:Int)==(n:Int)) || decide (n∈out))=_;by_cases h:x=n
   ·subst h;simp
   ·have h':¬(x:Int)=(n:Int):=by omega
    have h2:¬n=x:=λz=>h z.symm;simp[h',h2]
 show(if _ then _ else _)=_;rw[if_pos ⟨rfl,hs⟩,hi]
structure MT (as:List jP)(p:List Nat)(n:Nat)(ch:Nat->Option Nat):Prop where
 ok:∀x m,ch x=some m->m<n/\(aN as m).b=0/\(aN as m).s∉p/\(aN as m).g=x
 has:∀j,j<n->(aN as j).b=0->(aN as j).s∉p->(ch (aN as j).g).isSome=true
theorem YK {p:List Nat}(hl:as.length<=1000):∃(d:D) (ch:Nat->Option Nat) (x4 x5:Option D),iQ d ch 1000/\MT as p as.length ch /\
  nw (gT (gsCons (gV 4) (gsCons (gV 5) gsNil))) gr (jF 0 (as.map di)) [sI (mo:Int),sL (as.map di),sL (dN p),some (.dK [] []),none,none,none] =
   some (.nx [sI (mo:Int),sL (as.map di),sL (dN p),some d,x4,x5,none]):=by
 obtain⟨ρ',h1,d,ch,x4,x5,rfl,h2,h3⟩:=Ph (g:=gT (gsCons (gV 4) (gsCons (gV 5) gsNil))) (b:=gr) (ds:=jF 0 (as.map di)) (ρ:=[sI (mo:Int),sL (as.map di),sL (dN p),some (.dK [] []),none,none,none])
  (λds ρ=>∃(d:D) (ch:Nat->Option Nat) (x4 x5:Option D),ρ=[sI (mo:Int),sL (as.map di),sL (dN p),some d,x4,x5,none]/\iQ d ch ds.length/\MT as p ds.length ch)
  ⟨_,λ_=>none,none,none,rfl,iQ.nil,⟨λx m e=>by simp at e,λj hj=>by simp at hj⟩⟩ (by
   rintro pre dd post ρ e ⟨d,ch,x4,x5,rfl,hd,hc⟩;have ki:=congrArg jL e;rw[vk,ck,cp,cm]at ki;obtain⟨x,hx,rfl⟩:=LA (zui e);rw[dG]at hx;obtain⟨a,ha,rfl⟩:=eP.mp hx;have gW:pre.length<as.length:=by omega
   have hA:aN as pre.length=a:=by have:=Jm gW;rw[ha]at this;exact(Option.some.inj this).symm
   have f1:=fs a;have f2:=fg a;have f3:=fb a;have n1:=PB true a.s p;rw[if_pos rfl]at n1;rw[pY];by_cases hb:a.b=0/\a.s∉p
   ·obtain⟨d3,put,Fo⟩:=hd.put (by omega) a.g pre.length;have put:=put [sI (mo:Int),sL (as.map di),sL (dN p),some d,sI (pre.length:Int),some (di a),none] 3 (e1 (gm [0,1,2,3] "goal") (eV 5)) (eV 4) rfl rfl (by show gm [0,1,2,3] "goal" (di a)=_;exact f2);refine⟨_,[sI (mo:Int),sL (as.map di),sL (dN p),some d3,sI (pre.length:Int),some (di a),none],rfl,.inl ?_,d3,_,_,_,rfl,by rw[cp];exact Fo,⟨λx m em=>?_,λj hj j1 j2=>?_⟩⟩
    ·have Fk:(a.b:Int)=0:=by rw[hb.1];rfl
     rw[decide_eq_false hb.2]at n1;generalize dN p=np,as.map di=al,di a=ea,(pre.length:Int)=pl at *;unfold gr;generalize oz 3 (e1 (gm [0,1,2,3] "goal") (eV 5)) (eV 4)=PP at *;clear hd hc Fo ki hl gW e hx hA ha;walk_at "mix"
    ·rw[cp,eG];by_cases Kv:x=a.g
     ·rw[if_pos Kv]at em;cases em;rw[hA];exact⟨by omega,hb.1,hb.2,Kv.symm⟩
     ·rw[if_neg Kv]at em;have:=hc.ok x m em;exact⟨by omega,this.2⟩
    ·rw[cp,eG]at hj;by_cases J9:j=pre.length
     ·subst J9;rw[hA,if_pos rfl];rfl
     ·by_cases hg:(aN as j).g=a.g
      ·rw[if_pos hg];rfl
      ·rw[if_neg hg];exact hc.has j (by omega) j1 j2
   ·refine⟨_,[sI (mo:Int),sL (as.map di),sL (dN p),some d,sI (pre.length:Int),some (di a),none],rfl,.inl ?_,d,ch,_,_,rfl,by rw[cp];exact hd.mono (by simp),⟨λx m em=>?_,λj hj j1 j2=>?_⟩⟩
    ·by_cases Fk:a.b=0
     ·have hs:a.s∈p:=Classical.byContradiction λz=>hb ⟨Fk,z⟩;rw[decide_eq_true hs]at n1;have Fk:(a.b:Int)=0:=by rw[Fk];rfl
      generalize dN p=np,as.map di=al,di a=ea,(pre.length:Int)=pl at *;unfold gr;clear hd hc ki hl gW e hx hA ha hb hs;walk_at "mix"
     ·have Fk:¬(a.b:Int)=0:=by omega
      generalize dN p=np,as.map di=al,di a=ea,(pre.length:Int)=pl at *;unfold gr;clear hd hc ki hl gW e hx hA ha hb n1;walk_at "mix"
    ·have:=hc.ok x m em;exact⟨by rw[cp];omega,this.2⟩
    ·rw[cp,eG]at hj;by_cases J9:j=pre.length
     ·subst J9;rw[hA]at j1 j2;exact absurd ⟨j1,j2⟩ hb
     ·exact hc.has j (by omega) j1 j2)
 refine⟨d,ch,x4,x5,?_,?_,h1⟩
 ·rw[vk,ck]at h2;exact h2.mono hl
 ·rw[vk,ck]at h3;exact h3
structure G7 (as:List jP)(R:List Nat)(x:Nat):Prop where
 ne:R≠[]
 w:yF (aS as) (aG as) x R x
 nd:(R.map (aG as)).Nodup
 ok:∀n∈R,n<as.length/\(aN as n).b=0
theorem zsk {p:List Nat}{f:Nat->Int}(hl:as.length<=120)(hm:mo<=40)(hr:∀a∈as,Right mo a)(h:Kahn.Wh (W0 as) mo f p p.length)(hp:p.length<mo) :
  ∃(R:List Nat) (x:Nat),lc [.int (mo:Int),.lst (as.map di),.lst (dN p)]=sL (dN R)/\G7 as R x:=by
 obtain⟨d,ch,x4,x5,hd,hc,lp⟩:=YK (as:=as) (p:=p) (mo:=mo) (by omega);obtain⟨v,hv,Ny⟩:∃v,v<mo/\v∉p:=Classical.byContradiction λz=>by have all:∀g,g<mo->g∈p:=λg hg=>Classical.byContradiction λq=>z ⟨g,hg,q⟩;have:=Kahn.len_of h.ok.nd h.ok.lt all;omega
 have hU:∃u us,(dQ mo).filter (λg=>decide (g∉p))=u::us/\u<mo/\u∉p:=by
  cases hq:(dQ mo).filter (λg=>decide (g∉p))with
  |nil=>have:v∈(dQ mo).filter (λg=>decide (g∉p)):=d8.mpr ⟨eu.mpr hv,by simpa using Ny⟩;rw[hq]at this;cases this
  |cons u us=>
   have:u∈(dQ mo).filter (λg=>decide (g∉p)):=by rw[hq];exact b9
   have:=d8.mp this;exact⟨u,us,rfl,eu.mp this.1,by simpa using this.2⟩
 obtain⟨u,us,Hv,hu,Nw⟩:=hU;have into:∀x,x<mo->x∉p->∃n,ch x=some n:=λx hx TN=>by
  have h0:¬f x=0:=λz=>TN ((h.z x hx).mpr z);rw[h.fe,qA]at h0;have h1:¬∀a∈W0 as,a.g=x->a.s∈p:=λz=>h0 (by rw[Kahn.cnt_zero.mpr z];rfl);obtain⟨a,ha,S5,has⟩:∃a,a∈W0 as/\a.g=x/\a.s∉p:=Classical.byContradiction λz=>h1 λa ha hg=>Classical.byContradiction λq=>z ⟨a,ha,hg,q⟩;obtain⟨JK,BI⟩:=d8.mp ha;obtain⟨j,hj⟩:=fK.mp JK;have Ay:j<as.length:=(cM.mp hj).1;have hA:aN as j=a:=by have:=Jm Ay;rw[hj]at this;exact(Option.some.inj this).symm
  have:=hc.has j Ay (by rw[hA];simpa using BI) (by rw[hA];exact has);rw[hA,S5]at this;exact mm.mp this
 obtain⟨R,x,r1,r2,r3,r4,r5⟩:=zv5 (as:=as) (mo:=mo) (v:=u) (lr:=λx=>if x<mo/\x∉p then mo else 0) hd (λx hx=>by
  by_cases hq:x<mo/\x∉p
  ·obtain⟨n,hn⟩:=into x hq.1 hq.2;obtain⟨k1,k2,k3,k4⟩:=hc.ok x n hn;refine⟨n,hn,k1,k4,?_⟩;have hs:(aN as n).s<mo:=(hr _ (GW k1)).s;rw[if_pos hq,if_pos ⟨hs,k3⟩];omega
  ·rw[if_neg hq]at hx;omega) (λa ha=>⟨(hr a ha).s,(hr a ha).g,(hr a ha).t0,(hr a ha).t1,(hr a ha).b⟩) hu (by rw[if_pos ⟨hu,Nw⟩];exact cI _) (by omega)
 refine⟨R,x,?_,r2,r3,r4,λn hn=>?_⟩
 ·have q1:∀x3 x4 x5,lK [sI (mo:Int),sL (as.map di),sL (dN p),x3,x4,x5,none]=sL (dN (u::us)):=λx3 x4 x5=>by
   rw[←Hv];refine IL (λ(t:Nat)=>D.int (t:Int)) (λg=>decide (g∉p)) (λ(t:Nat)=>D.int (t:Int)) (dQ mo) (MC rfl (by omega)) (by rw[fD];omega) λg _=>⟨[sI (g:Int),sL (dN p)],rfl,?_,λ_=>rfl⟩;have n1:=PB true g p;rw[if_pos rfl]at n1;have e:(!decide (g∈p))=decide (g∉p):=by by_cases z:g∈p<;>simp[z]
   rw[e]at n1;generalize dN p=np at *;clear e lp r1;walk_at "mix"
  have i0:eJ (.lst (dN (u::us))) (.int 0)=sI (u:Int):=(ye (xs:=dN (u::us)) (j:=0) rfl:atI (dN (u::us)) ((0:Nat):Int)=_);generalize dN (u::us)=nu,dN R=nR,dN p=np,as.map di=al at *;generalize Nh:jF 0 al=el at *;unfold lc;generalize lK=QQ,gr=BB at *;clear into Hv hu Nw hv Ny hd hc hp h hr hm hl r2 r3 r4 r5;walk_at "mix"
 ·have:=hc.ok _ _ (r5 n hn).1;exact⟨this.1,this.2.1⟩
theorem Qm:∀(R:List Nat),(∀n∈R,n<16384)->rA (dN R)=some (R.map λ(n:Nat)=>(n:Int))
 |[],_=>rfl
 |n::R,h=>by have h1:=h n b9;show(if 0<=(n:Int)/\(n:Int)<16384 then(rA (dN R)).bind λns=>some ((n:Int)::ns)else none)=_;rw[if_pos ⟨by omega,by omega⟩,Qm R λm hm=>h m (cj _ hm)];rfl
theorem G7.len {R:List Nat}{x:Nat}(h:G7 as R x)(hr:∀a∈as,Right mo a):R.length<=mo:=by rw[←ck (f:=aG as)];refine Kahn.len_le h.nd λy hy=>?_;obtain⟨n,h1,rfl⟩:=cZ.mp hy;exact(hr _ (GW (h.ok n h1).1)).g
theorem Rn (Fz:1<=mo)(hm:mo<=40)(hl:as.length<=120)(hr:∀a∈as,Right mo a)(hn:ns.length=mo)(BK:dZ [.lst ns]=some (.bl true)) :
  (∃(f:Nat->Int) (p:List Nat),dF 4 [.lst ns,.lst (as.map di)]=some (.ok (pN ns as))/\fW [.int (mo:Int),.lst (as.map di)]=sL (dN p)/\Kahn.Wh (W0 as) mo f p p.length/\p.length=mo) \/
  ∃(R:List Nat) (x:Nat),dF 4 [.lst ns,.lst (as.map di)]=some (.xc (.exc 7 ["ring"] [.lst (dN R)]))/\G7 as R x/\∃p,fW [.int (mo:Int),.lst (as.map di)]=sL (dN p)/\p.length<mo:=by
 obtain⟨f,p,hp,wh⟩:=Pk (mo:=mo) as (by omega) (by omega) λa ha=>⟨(hr a ha).s,(hr a ha).g⟩;have gW:=Kahn.len_le wh.ok.nd wh.ok.lt;have l1:gx [.lst ns]=sI (mo:Int):=(yp _).trans (by rw[hn]);have l2:gx [.lst (as.map di)]=sI (as.length:Int):=(yp _).trans (by rw[ck]);have l3:gx [.lst (dN p)]=sI (p.length:Int):=(yp _).trans (by unfold dN;rw[ck]);have Tj:¬(as.length:Int) > 120:=by omega
 have en:jF 0 (as.map di)=(as.zipIdx 0).map λ(q:jP×Nat)=>D.tup [.int (q.2:Int),di q.1]:=LO di as 0;obtain⟨ρ',lp,y3,y4,rfl⟩:=LS (g:=gT (gsCons (gV 3) (gsCons (gV 4) gsNil))) (b:=fG) (λ(q:jP×Nat)=>D.tup [.int (q.2:Int),di q.1]) (λρ=>∃y3 y4,ρ=[some (.obj 4 [] []),sL ns,sL (as.map di),y3,y4,none]) (as.zipIdx 0) [some (.obj 4 [] []),sL ns,sL (as.map di),none,none,none] ⟨_,_,rfl⟩ (by
  rintro⟨w,i⟩ hw ρ ⟨y3,y4,rfl⟩;refine⟨[some (.obj 4 [] []),sL ns,sL (as.map di),sI (i:Int),some (di w),none],[some (.obj 4 [] []),sL ns,sL (as.map di),sI (i:Int),some (di w),none],rfl,?_,_,_,rfl⟩;have hw:w∈as:=by obtain⟨_,_,e⟩:=AY hw;rw[e];exact iS _
  have r:=Zx (hr w hw);generalize di w=ew,as.map di=wl at *;unfold fG;clear en hr hm Fz hl hn gW wh hp l2 l3 Tj BK;walk_at "mix")
 rw[←en]at lp;by_cases pz:p.length<mo
 ·right;obtain⟨R,x,st,rg⟩:=zsk hl hm hr wh pz
  refine⟨R,x,?_,rg,p,hp,pz⟩;have Ke:(p.length:Int)<(mo:Int):=by omega
  have fm:C3 (.lst (dN R))=sL (dN R):=by show(rA (dN R)).bind _=_;rw[Qm R λn hn=>by have:=(rg.ok n hn).1;omega];show(if(R.map λ(n:Nat)=>(n:Int)).length<=100 then _ else _)=_;rw[if_pos (by rw[ck];have:=rg.len hr;omega)]
  clear en;generalize as.map di=al at *;generalize Nh:jF 0 al=el at *;generalize dN R=nR,dN p=np,(p.length:Int)=pl,(as.length:Int)=aL at *;unfold dF wA;generalize fG=BB at *;clear rg pz wh gW hn hr hl hm Fz;walk_at "mix"
 ·left;have Ke:¬(p.length:Int)<(mo:Int):=by omega
  refine⟨f,p,?_,hp,wh,by omega⟩;have s1:nO [4] "names" (eN rz (aCons (eV 1) aNil)) [some (D.obj 4 [] []),sL ns,sL (as.map di),y3,y4,sL (dN p)]=some (.nx [some (D.obj 4 ["names"] [.lst ns]),sL ns,sL (as.map di),y3,y4,sL (dN p)]):=rfl;have s2:nO [4] "arrows" (eN rz (aCons (eV 2) aNil)) [some (D.obj 4 ["names"] [.lst ns]),sL ns,sL (as.map di),y3,y4,sL (dN p)]=some (.nx [some (pN ns as),sL ns,sL (as.map di),y3,y4,sL (dN p)]):=rfl;clear en;generalize as.map di=al at *;generalize Nh:jF 0 al=el at *;generalize dN p=np,(p.length:Int)=pl,(as.length:Int)=aL,pN ns as=nd at *;unfold dF wA;generalize fG=BB,nO [4] "names" (eN rz (aCons (eV 1) aNil))=S1,nO [4] "arrows" (eN rz (aCons (eV 2) aNil))=S2 at *;clear pz wh gW hn hr hl hm Fz;walk_at "mix"
theorem YL {p:List Nat}(nd:p.Nodup)(lt:∀x∈p,x<mo)(hl:p.length=mo){g:Nat}(hg:g<mo):g∈p:=Classical.byContradiction λz=>by
 have:=Kahn.len_le (mo:=mo) (p:=g::p) (dC.mpr ⟨z,nd⟩) (λx hx=>by
  rcases cn.mp hx with rfl|hx
  ·exact hg
  ·exact lt x hx)
 rw[cm]at this;omega
theorem YM {p:List Nat}(ok:Kahn.Ok W mo p)(hl:p.length=mo){b:jP}(ha:a∈W)(hb:b∈W)(e1:a.s=b.g)(e2:a.g=b.s)(hg:a.g<mo):False:=by
 obtain⟨i,hi⟩:=nZ (YL ok.nd ok.lt hl hg);have h1:=ok.ord i _ hi a ha rfl;obtain⟨j,hj⟩:=nZ h1;have Tn:j<i:=by have:=(cM.mp hj).1;rw[ef]at this;omega
 rw[mF Tn]at hj;have h2:=ok.ord j _ hj b hb e1.symm;obtain⟨k,hk⟩:=nZ h2;have To:k<j:=by have:=(cM.mp hk).1;rw[ef]at this;omega
 rw[mF To,←e2]at hk;have:k=i:=(List.getElem?_inj (by have:=(cM.mp hk).1;exact this) ok.nd).mp (hk.trans hi.symm);omega
theorem Xq (Fz:1<=mo)(hm:mo<=40)(hl:as.length<=120)(hr:∀a∈as,Right mo a)(hn:ns.length=mo)(BK:dZ [.lst ns]=some (.bl true)){b:jP}(ha:a∈as)(hb:b∈as)(a0:a.b=0)(b0:b.b=0)(e1:a.s=b.g)(e2:a.g=b.s) :
  ∃R,dF 4 [.lst ns,.lst (as.map di)]=some (.xc (.exc 7 ["ring"] [.lst R])):=by
 rcases Rn Fz hm hl hr hn BK with⟨f,p,_,_,wh,hp⟩|⟨R,x,h,_⟩
 ·exact(YM wh.ok hp (d8.mpr ⟨ha,decide_eq_true a0⟩) (d8.mpr ⟨hb,decide_eq_true b0⟩) e1 e2 (hr a ha).g).elim
 ·exact⟨_,h⟩
def Io (a:jP):Wa:=⟨a.c.n,a.s,a.g,a.t,a.b⟩
theorem zv6 (a:jP):Cd (Io a):=by
 unfold Cd Io;cases a.c
 ·exact .inl rfl
 ·exact .inr (.inl rfl)
 ·exact .inr (.inr rfl)
theorem zv7 (h:Right mo a):lL mo (Io a)=true:=by
 have h1:=h.s;have h2:=h.g;have h3:=h.t0;have h4:=h.t1;have h5:=h.b;have h6:=h.r;have h7:=h.k;obtain⟨c,s,g,t,b⟩:=a;cases c
 ·have:b=0:=h6 rfl;subst this;refine LV ?_ ?_ ?_ ?_<;>simp[Kd.n]at * <;> omega
 ·refine LV ?_ ?_ ?_ ?_<;>simp[Kd.n]at * <;> omega
 ·refine LV ?_ ?_ ?_ ?_<;>simp[Kd.n]at * <;> omega
theorem Xr (hl:as.length<=100)(hr:∀a∈as,Right mo a)(hn:ns.length=mo)(BK:dZ [.lst ns]=some (.bl true)){x:Wa}(hp:post.length<=10)(kx:Cd x)(kp:∀w∈post,Cd w)(hx:lL mo x=false) :
  dF 4 [.lst ns,.lst (as.map di++jY x::post.map jY)]=some (.xc (.exc 6 ["at"] [.int (as.length:Int)])):=by
 have:=YI (ns:=ns) (mo:=mo) (pre:=as.map Io) (post:=post) (x:=x) BK hn (by simp only[cp,ck,cm];omega) (λw hw=>by
  rcases cG.mp hw with hw|hw
  ·obtain⟨a,_,rfl⟩:=cZ.mp hw;exact zv6 a
  ·rcases cn.mp hw with rfl|hw
   ·exact kx
   ·exact kp w hw) (λw hw=>by
  obtain⟨a,ha,rfl⟩:=cZ.mp hw;exact zv7 (hr a ha)) hx
 rw[ck,dO,fE,cL]at this;exact this
variable {A:D}
section
variable {fs:L3.Env->Option (List D)}{f F G:EF}{u:SF}{i n:Nat}{RH xs:List D}{B:List (List Pc)}{k:Out->Option D}{r:Option D}{W d:D}
theorem zu9 (j:Nat)(h:f ρ=some (.str (jH E j)))(hl:(jH E j).length<=700):SV E f ρ [.inr j] 700:=⟨by rw[j4];exact h,by rw[j4];exact hl⟩
theorem vt (h:f ρ=sL RH)(t:Bw E fs ρ B)(hl:RH.length+B.length<=1000):e2 cA f (λρ=>(fs ρ).bind λds=>some (D.lst ds)) ρ=sL (RH++B.map (tx E)):=by unfold e2;rw[h,EC t,cP,cP];exact yo (by simp only[ck];omega)
theorem uw (h:F ρ=sL RH)(t:G ρ=sL xs)(hl:RH.length+xs.length<=1000):e2 cA F G ρ=sL (RH++xs):=by unfold e2;rw[h,t,cP,cP];exact yo (by omega)
theorem Ro (h1:F ρ=some A)(h2:G ρ=some W):(λρ=>((aCons F (aCons G aNil)) ρ).bind λds=>some (D.tup ds)) ρ=some (.tup [A,W]):=by show((aCons F (aCons G aNil)) ρ).bind _=_;unfold aCons aNil;rw[h1,h2];rfl
theorem zva (h:F ρ=some A):(λρ=>((aCons F aNil) ρ).bind λds=>some (D.lst ds)) ρ=some (.lst [A]):=by show((aCons F aNil) ρ).bind _=_;unfold aCons aNil;rw[h];rfl
theorem YN (h1:F ρ=some A)(h2:G ρ=some W)(h:(u (ρ.set i (some (.lst [.tup [A,W]])))).bind k=r):(sSeq (sSet i (λρ=>((aCons (λρ=>((aCons F (aCons G aNil)) ρ).bind λds=>some (.tup ds)) aNil) ρ).bind λds=>(sL ds))) u ρ).bind k=r:=by rw[GV (zva (Ro h1 h2))];exact h
theorem zvb (h1:F ρ=some A)(h3:eV i ρ=sL xs)(hl:xs.length<=1000):sSeq (sApp i F) u ρ=u (ρ.set i (sL (xs++[A]))):=by
 have e:sApp i F ρ=some (.nx (ρ.set i (sL (xs++[A])))):=by unfold sApp;rw[h3,h1];exact if_pos (by omega)
 unfold sSeq;rw[e];rfl
theorem x9 (h1:F ρ=some A)(h2:G ρ=some W)(h3:eV i ρ=sL xs)(hl:xs.length<=1000)(h:(u (ρ.set i (sL (xs++[.tup [A,W]])))).bind k=r):(sSeq (sApp i (λρ=>((aCons F (aCons G aNil)) ρ).bind λds=>some (.tup ds))) u ρ).bind k=r:=by rw[zvb (Ro h1 h2) h3 hl];exact h
end
local macro_rules| `(tactic|walk_at "svb")=>`(tactic|repeat' first|exact zls|apply zhn|apply zpp|exact zpo (by decide +kernel)|exact ze2 0 rfl (by assumption)|exact ze2 1 rfl (by assumption)|exact ze2 2 rfl (by assumption)|exact ze2 3 rfl (by assumption)|exact zu9 2 rfl (by assumption)|decide)
def qU (a:Str)(i j:Nat)(b:Str):List Pc:=[.inl a,.inr i,.inl " ",.inr j,.inl b]
def nK (k:Str)(d:D):D:=.tup [.str k,d]
def pT (E:List Str)(RH RT:List D)(num:D):List D :=
  [.tup [.lst (RH++[tx E (qU "wait " 0 1 " 1000000001 0")]++[tx E (qU "back " 1 0 " 5 1")]),nK "net" num],
   .tup [.lst (RH++[tx E (qU "wait " 0 1 " 5 5")]),nK "net" num],
   .tup [.lst (RH++[tx E (qU "ride " 0 1 " 999999999999999")]++[tx E (qU "back " 1 0 " 5 1")]),nK "net" num],
   .tup [.lst (RH++[tx E (qU "back " 0 1 " 5 0")]++[tx E (qU "back " 1 0 " 5 1")]),nK "net" num],
   .tup [.lst (RH++[tx E [.inl "line 0 ",.inr 0,.inl " 5"]]),nK "net" num],
   .tup [.lst ([tx E [.inr 2,.inl " ",.inr 1]]++RT++[tx E [.inl "line 9 ",.inr 0,.inl " 5"]]),nK "net" .non],
   .tup [.lst ([tx E [.inr 2,.inl " B"]]++RT),nK "net" .non],
   .tup [.lst ([tx E [.inr 2,.inl " "]]++RT),nK "net" .non],
   .tup [.lst (RH++cE 121 (tx E (qU "back " 1 0 " 5 1"))),nK "net" .non],
   .tup [.lst (RH++[tx E (qU "ride " 0 1 " 0"),tx E (qU "wait " 1 0 " 5 0")]),nK "stuck" .non],
   .tup [.lst (RH++[tx E (qU "ride " 1 1 " 0")]),nK "stuck" .non]]
theorem WI (c:Int){one two:Str}{hd:Str}{RT:List D}(h1:one.length<=40)(h2:two.length<=40)(h3:hd.length<=700)(hl:RT.length<=100):∃x∈pT [one,two,hd] (.str hd::RT) RT (.int (RT.length:Int)),gF [.int c,.lst (.str hd::RT),cr (one::two::mv)]=some x:=by
 obtain⟨x,hx,hp⟩:=xy (xs:=pT [one,two,hd] (.str hd::RT) RT (.int (RT.length:Int))) (n:=11) rfl (by decide) c;refine⟨x,hx,?_⟩;have md:fM (.int c) (.int 11)=sI (c%11):=z7 (by decide);have l0:(jH [one,two,hd] 0).length<=40:=h1;have l1:(jH [one,two,hd] 1).length<=40:=h2;have l2:(jH [one,two,hd] 2).length<=700:=h3;have sl:eU (cr (one::two::mv)) none (some 2)=some (.lst [.str one,.str two]):=by show some (D.lst (cutD _ none (some ((2:Nat):Int))))=_;rw[LB];rfl
 have s1:eU (.lst (.str hd::RT)) (some 1) none=sL RT:=by show some (D.lst (cutD _ (some ((1:Nat):Int)) none))=_;rw[wa];rfl
 have nn:(e2 uM (eN gx (aCons (eV 1) aNil)) (eC (.int 1))) [sI c,sL (.str hd::RT),some (cr (one::two::mv)),some (.str one),some (.str two),some (.str hd),none,none,none]=sI (RT.length:Int):=by have e:=yp (.str hd::RT);show((gx [.lst (.str hd::RT)]).bind λx=>uM x (.int 1))=_;rw[e,cm];show some (D.int (((RT.length+1:Nat):Int)-1))=_;congr 2;omega
 unfold gF mOf;generalize cr (one::two::mv)=N at *;have st:∀u:SF,sSeq (sAsg (gL (gsCons (gV 3) (gsCons (gV 4) gsNil))) (λρ=>((eV 2) ρ).bind λd=>(pNo ρ).bind λl=>((pInt (eC (.int 2))) ρ).bind λh=>eU d l h)) u [sI c,sL (.str hd::RT),some N,none,none,none,none,none,none]=u [sI c,sL (.str hd::RT),some N,some (.str one),some (.str two),none,none,none,none]:=λu=>by unfold sSeq sAsg;show((((eU N none (some 2))).bind _).bind _:Option Out)=_;rw[sl];rfl
 show(sSeq _ _ [sI c,sL (.str hd::RT),some N,none,none,none,none,none,none]).bind _=_;rw[st];have x0:eJ (.lst (.str hd::RT)) (.int 0)=some (.str hd):=ye (xs:=D.str hd::RT) (j:=0) rfl;refine ED (d:=.str hd) x0 ?_;simp only[vB,wZ,xA,xB];refine ED nn ?_;simp only[vB,wZ,xA,xB];refine MH (E:=[one,two,hd]) (by walk_at "svb") ?_;simp only[vB,wZ,xA,xB];refine YN (uw (vt (E:=[one,two,hd]) (RH:=.str hd::RT) rfl (by walk_at "svb") (by simp;omega)) rfl (by simp;omega)) rfl ?_;simp only[vB,wZ,xA,xB];refine x9 (vt (E:=[one,two,hd]) (RH:=.str hd::RT) rfl (by walk_at "svb") (by simp;omega)) rfl rfl (by simp) ?_;simp only[vB,wZ,xA,xB];refine x9 (uw (vt (E:=[one,two,hd]) (RH:=.str hd::RT) rfl (by walk_at "svb") (by simp;omega)) rfl (by simp;omega)) rfl rfl (by simp) ?_;simp only[vB,wZ,xA,xB];refine x9 (uw (vt (E:=[one,two,hd]) (RH:=.str hd::RT) rfl (by walk_at "svb") (by simp;omega)) rfl (by simp;omega)) rfl rfl (by simp) ?_;simp only[vB,wZ,xA,xB];refine x9 (vt (E:=[one,two,hd]) (RH:=.str hd::RT) rfl (by walk_at "svb") (by simp;omega)) rfl rfl (by simp) ?_;simp only[vB,wZ,xA,xB];refine x9 (vt (E:=[one,two,hd]) (uw (EC (E:=[one,two,hd]) (by walk_at "svb")) s1 (by simp;omega)) (by walk_at "svb") (by simp;omega)) rfl rfl (by simp) ?_;simp only[vB,wZ,xA,xB];refine x9 (uw (EC (E:=[one,two,hd]) (by walk_at "svb")) s1 (by simp;omega)) rfl rfl (by simp) ?_;simp only[vB,wZ,xA,xB];refine x9 (uw (EC (E:=[one,two,hd]) (by walk_at "svb")) s1 (by simp;omega)) rfl rfl (by simp) ?_;simp only[vB,wZ,xA,xB];refine x9 (uw (F:=eV 1) (RH:=.str hd::RT) (xs:=cE 121 (tx [one,two,hd] (qU "back " 1 0 " 5 1"))) rfl rfl (by simp;omega)) rfl rfl (by simp) ?_;simp only[vB,wZ,xA,xB];refine x9 (vt (E:=[one,two,hd]) (RH:=.str hd::RT) rfl (by walk_at "svb") (by simp;omega)) rfl rfl (by simp) ?_;simp only[vB,wZ,xA,xB];refine x9 (vt (E:=[one,two,hd]) (RH:=.str hd::RT) rfl (by walk_at "svb") (by simp;omega)) rfl rfl (by simp) ?_;simp only[vB,wZ,xA,xB];have fin:eJ (.lst (pT [one,two,hd] (.str hd::RT) RT (.int (RT.length:Int)))) (.int (c%11))=some x:=hp;unfold sRet;show((((fM (.int c) (.int 11)).bind λy=>eJ (.lst (pT [one,two,hd] (.str hd::RT) RT (.int (RT.length:Int)))) y).bind _).bind _:Option D)=_;rw[md,cP,fin];rfl
theorem rE (h:zW E ps=ws):tx E ps=D.str (Str.join (eD 32) ws):=by unfold tx;rw[LR,h]
theorem Fb {i:Nat}{s:Str}:pM E [.inr i,.inl s]=jH E i++s:=by rw[show([.inr i,.inl s]:List Pc)=[.inr i]++[.inl s]from rfl,wy,j4,EB]
theorem zvc:(" ":Str)=eD 32:=by decide +kernel
structure D3 (w:Str):Prop where
 f32:og 32 w
 f10:og 10 w
 wl:w.length<=100
def qP (s:Str):Bool:=!s.cps.toList.contains 32&&!s.cps.toList.contains 10&&decide (s.length<=100)
theorem ym {s:Str}(h:qP s=true):D3 s:=by
 unfold qP at h;rw[cx,cx]at h;refine⟨λz=>?_,λz=>?_,of_decide_eq_true h.2⟩
 ·have:=h.1.1;rw[gB.mpr z]at this;cases this
 ·have:=h.1.2;rw[gB.mpr z]at this;cases this
theorem xz (hn:lR na){w:Str}(h:w∈na):D3 w:=by have:=yx (hn.ok w h);exact⟨GQ (hn.ok w h) (by decide),GQ (hn.ok w h) (by decide),by omega⟩
theorem ur (h1:ws≠[])(h2:ws.length<=100)(h:∀w∈ws,D3 w):mJ ws:=⟨h1,λw hw=>(h w hw).f32,λw hw=>(h w hw).f10,λw hw=>(h w hw).wl,h2⟩
structure jQ (na:List Str)(as:List jP):Prop where
 nm:lR na
 n2:2<=na.length
 n8:na.length<=8
 al:as.length<=8
 wr:∀a∈as,Wr na.length a
 rt:∀a∈as,Right na.length a
def qN (na:List Str)(as:List jP):List (List Str×List D):=as.map λa=>(lM na a,[di a])
theorem GS (na:List Str)(as:List jP):(qN na as).flatMap (·.2)=as.map di:=by
 unfold qN;rw[List.flatMap_map];induction as with
 |nil=>rfl
 |cons a as ih=>rw[mz,ih];rfl
theorem jQ.good (h:jQ na as)(ex:List Str):∀g∈qN na as,Good (na++ex) g.1 g.2:=λg hg=>by obtain⟨a,ha,rfl⟩:=cZ.mp hg;exact YG h.nm (h.wr a ha)
theorem jQ.wsh (h:jQ na as):∀g∈qN na as,mJ g.1:=λg hg=>by
 obtain⟨a,ha,rfl⟩:=cZ.mp hg;have m:=λw hw=>xx (w:=w) h.nm (h.wr a ha) hw;refine ur (λz=>?_) ?_ λw hw=>⟨(m w hw).1 32 (by decide),(m w hw).1 10 (by decide),by have:=(m w hw).2.1;omega⟩
 ·cases z
 ·show(lM na a).length<=100;unfold lM;rw[cp];split<;>simp
inductive Sd:D->D->Prop
 |net {d:D} (h:d=.non\/∃n:Int,d=.int n):Sd (.exc 6 ["at"] [d]) (nK "net" d)
 |stuck (R:List D):Sd (.exc 7 ["ring"] [.lst R]) (nK "stuck" .non)
 |row (n:Int):Sd (.exc 12 ["at"] [.int n]) (nK "row" (.int n))
 |name (x:Str) (ok:cU.strOk x=true):Sd (.exc 13 ["name"] [.str x]) (nK "name" (.str x))
structure Wc (na:List Str)(as:List jP)(ex:List Str)(extra:List (List Str×List D))(rN:D):Prop where
 good:∀g∈extra,Good (na++ex) g.1 g.2
 wsh:∀g∈extra,mJ g.1
 exk:∀w∈ex,D3 w
 exl:ex.length<=1
 len:extra.length<=121
 one:(extra.flatMap (·.2)).length<=300
 noA:("A":Str)∉na++ex
 net:∃e,dF 4 [cr (na++ex),.lst (as.map di++extra.flatMap (·.2))]=some (.xc e)/\Sd e rN
section
variable {nm:List Str}{gs:List (List Str×List D)}
theorem ua:(gs.map (·.1)++tl).length=gs.length+tl.length:=by rw[cp,ck]
theorem Qn {r:mI}(hw:∀r∈eW nm gs [],mJ r)(hl:gs.length<400)(hg:∀g∈gs,Good nm g.1 g.2)(hs:(gs.flatMap (·.2)).length<=5000)(hn:dF 4 [cr nm,.lst (gs.flatMap (·.2))]=some r):f6 [.str (pK (eW nm gs []))]=some r:=by obtain⟨x4,lp⟩:=Ml (tl:=[]) (.str (pK (eW nm gs []))) hg hs;refine MO (tl:=gs.map (·.1)++[]) hw (by rw[ua];simpa using hl) (by rw[ua];exact lp) (.inr ⟨_,x4,rfl,hn⟩)
theorem zsl {bad:List Str}(hw:∀r∈eW nm gs (bad::tl),mJ r)(hl:gs.length+tl.length<390)(hg:∀g∈gs,Good nm g.1 g.2)(hs:(gs.flatMap (·.2)).length<=5000)(hb:dE [cr bad]=some (.bl false)):f6 [.str (pK (eW nm gs (bad::tl)))]=some (.xc (.exc 12 ["at"] [.int (1+(gs.length:Int))])):=by obtain⟨ρ',lp⟩:=zu5 (TX:=.str (pK (eW nm gs (bad::tl)))) (tl:=tl) hg hs (by omega) hb;exact MO (tl:=gs.map (·.1)++bad::tl) hw (by rw[ua,cm];omega) (by rw[ua];exact lp) (.inl ⟨_,_,rfl,rfl⟩)
theorem Qo {u:List Str}{x:Str}(hw:∀r∈eW nm gs (u::tl),mJ r)(hl:gs.length+tl.length<390)(hg:∀g∈gs,Good nm g.1 g.2)(hs:(gs.flatMap (·.2)).length<=5000)(hu:D2 nm u x):f6 [.str (pK (eW nm gs (u::tl)))]=some (.xc (.exc 13 ["name"] [.str x])):=by obtain⟨ρ',lp⟩:=zu6 (TX:=.str (pK (eW nm gs (u::tl)))) (tl:=tl) hg hs hu;exact MO (tl:=gs.map (·.1)++u::tl) hw (by rw[ua,cm];omega) (by rw[ua];exact lp) (.inl ⟨_,_,rfl,rfl⟩)
end
variable {rN:D}{extra:List (List Str×List D)}
theorem EE (h:jQ na as)(hx:∀w∈ex,D3 w)(hl:ex.length<=1)(he:∀g∈extra,mJ g.1)(ht:∀r∈tl,mJ r):∀r∈eW (na++ex) (qN na as++extra) tl,mJ r:=λr hr=>by
 rcases cn.mp hr with rfl|hr
 ·have:=h.n8;refine ur (by simp) (by simp only[cm,cp];omega) λw hw=>?_;rcases cn.mp hw with rfl|hw
  ·exact ym (by decide +kernel)
  ·rcases cG.mp hw with hw|hw
   ·exact xz h.nm hw
   ·exact hx w hw
 ·rcases cG.mp hr with hr|hr
  ·obtain⟨g,hg,rfl⟩:=cZ.mp hr;rcases cG.mp hg with hg|hg
   ·exact h.wsh g hg
   ·exact he g hg
  ·exact ht r hr
theorem Wc.all (h:jQ na as)(w:Wc na as ex extra rN):∀g∈qN na as++extra,Good (na++ex) g.1 g.2:=λg hg=>by
 rcases cG.mp hg with hg|hg
 ·exact h.good ex g hg
 ·exact w.good g hg
theorem ju:(qN na as).length=as.length:=by unfold qN;rw[ck]
theorem Wc.sz (h:jQ na as)(w:Wc na as ex extra rN):((qN na as++extra).flatMap (·.2)).length<=5000:=by rw[iZ,GS,cp,ck];have:=w.one;have:=h.al;omega
theorem Wc.read (h:jQ na as)(w:Wc na as ex extra rN):∃e,f6 [.str (pK (eW (na++ex) (qN na as++extra) []))]=some (.xc e)/\Sd e rN:=by
 obtain⟨e,h1,h2⟩:=w.net;refine⟨e,Qn (EE h w.exk w.exl w.wsh λr hr=>by cases hr) ?_ (w.all h) (w.sz h) ?_,h2⟩
 ·rw[cp,ju];have:=w.len;have:=h.al;omega
 ·rw[iZ,GS];exact h1
theorem Wc.readA (h:jQ na as)(w:Wc na as ex extra rN):f6 [.str (pK (eW (na++ex) (qN na as++extra) [["ride",cY na 0,"A","5"]]))]=some (.xc (.exc 13 ["name"] [.str "A"])):=by
 have n2:=h.n2;have m0:cY na 0∈na:=ww (by omega);have nu:Nu "5" 5:=⟨by kernel_rfl,by kernel_rfl⟩;refine Qo (EE h w.exk w.exl w.wsh λr hr=>?_) ?_ (w.all h) (w.sz h) ((Mm (N:=.non) (s:=cY na 0) (g:="A") nu).unk (pre:=[cY na 0]) (post:=[]) (λy hy=>?_) w.noA (by kernel_rfl) (by decide +kernel))
 ·cases cz.mp hr;refine ur (by simp) (by simp) λx hx=>?_;simp only[cn,df,or_false]at hx;rcases hx with rfl|rfl|rfl|rfl
  ·exact ym (by decide +kernel)
  ·exact xz h.nm m0
  ·exact ym (by decide +kernel)
  ·exact ym (by decide +kernel)
 ·rw[cp,ju];have:=w.len;have:=h.al;simp;omega
 ·cases cz.mp hy;exact cN _ m0
theorem Bm:Nu "5" 5:=⟨by kernel_rfl,by kernel_rfl⟩
theorem Et:Nu "0" 0:=⟨by kernel_rfl,by kernel_rfl⟩
theorem HY:Nu "1" 1:=⟨by kernel_rfl,by kernel_rfl⟩
theorem T9:Nu "9" 9:=⟨by kernel_rfl,by kernel_rfl⟩
theorem Ua:Nu "1000000001" 1000000001:=⟨by kernel_rfl,by kernel_rfl⟩
theorem Ub:Nu "999999999999999" 999999999999999:=⟨by kernel_rfl,by kernel_rfl⟩
theorem GX (h:jQ na as):("A":Str)∉na:=λz=>by
 have:=h.nm.ok _ z
 revert this
 decide +kernel
theorem Qp (h:jQ na as)(h1:ws≠[])(h2:ws.length<=100)(hw:∀w∈ws,qP w=true\/w∈na):mJ ws:=ur h1 h2 λw Ku=>by
 rcases hw w Ku with h3|h3
 ·exact ym h3
 ·exact xz h.nm h3
theorem qL {P:α->Prop}{a:α}(h:P a):∀g∈[a],P g:=λg hg=>by cases cz.mp hg;exact h
theorem D7 {P:α->Prop}{a b:α}(h:P a)(h':P b):∀g∈[a,b],P g:=λg hg=>by
 rcases cn.mp hg with rfl|hg
 ·exact h
 ·exact qL h' g hg
theorem jQ.m0 (h:jQ na as):cY na 0∈na:=ww (by have:=h.n2;omega)
theorem jQ.m1 (h:jQ na as):cY na 1∈na:=ww (by have:=h.n2;omega)
theorem jQ.nok (h:jQ na as):dZ [cr na]=some (.bl true):=Pt h.nm (λz=>by have:=h.n2;rw[z]at this;simp at this)
theorem AV (h:jQ na as){a b c d:Str}(ha:qP a=true\/a∈na:=by first|exact .inl (by decide +kernel)|exact .inr (by assumption))(hb:qP b=true\/b∈na:=by first|exact .inl (by decide +kernel)|exact .inr (by assumption))(hc:qP c=true\/c∈na:=by first|exact .inl (by decide +kernel)|exact .inr (by assumption))(hd:qP d=true\/d∈na:=by first|exact .inl (by decide +kernel)|exact .inr (by assumption)):mJ [a,b,c,d]:=Qp h (by simp) (by simp) λw hw=>by
 simp only[cn,df,or_false]at hw;rcases hw with rfl|rfl|rfl|rfl
 ·exact ha
 ·exact hb
 ·exact hc
 ·exact hd
theorem uN (h:jQ na as){a b c d e:Str}(ha:qP a=true\/a∈na:=by first|exact .inl (by decide +kernel)|exact .inr (by assumption))(hb:qP b=true\/b∈na:=by first|exact .inl (by decide +kernel)|exact .inr (by assumption))(hc:qP c=true\/c∈na:=by first|exact .inl (by decide +kernel)|exact .inr (by assumption))(hd:qP d=true\/d∈na:=by first|exact .inl (by decide +kernel)|exact .inr (by assumption))(he:qP e=true\/e∈na:=by first|exact .inl (by decide +kernel)|exact .inr (by assumption)):mJ [a,b,c,d,e]:=Qp h (by simp) (by simp) λw hw=>by
 simp only[cn,df,or_false]at hw;rcases hw with rfl|rfl|rfl|rfl|rfl
 ·exact ha
 ·exact hb
 ·exact hc
 ·exact hd
 ·exact he
theorem vv {x y:Str}(h1:x∈na)(h2:y∈na):∀z∈[x,y],z∈na++ex:=D7 (cN _ h1) (cN _ h2)
theorem GY (h:jQ na as){x:Wa}(hp:post.length<=10)(kx:Cd x)(kp:∀w∈post,Cd w)(hx:lL na.length x=false)(he:extra.flatMap (·.2)=post.map jY)(Tc:extra.length<=10)
  (g:Good (na++[]) ws [jY x]) (gw:mJ ws) (gs:∀g∈extra,Good (na++[]) g.1 g.2) (SD:∀g∈extra,mJ g.1):Wc na as [] ((ws,[jY x])::extra) (nK "net" (.int (as.length:Int))) where
 good:=λr hr=>by
  rcases cn.mp hr with rfl|hr
  ·exact g
  ·exact gs r hr
 wsh:=λr hr=>by
  rcases cn.mp hr with rfl|hr
  ·exact gw
  ·exact SD r hr
 exk:=λw hw=>by cases hw
 exl:=by simp
 len:=by rw[cm];omega
 one:=by rw[mz,he,cp,ck];simp;omega
 noA:=by rw[cS];exact GX h
 net:=by have:=h.al;have hn:=Xr (as:=as) (ns:=na.map .str) (mo:=na.length) (by omega) h.rt (by rw[ck]) h.nok hp kx kp hx;refine⟨_,?_,.net (.inr ⟨_,rfl⟩)⟩;rw[cS,mz,he];exact hn
theorem UK (h:jQ na as):Wc na as [] [(["wait",cY na 0,cY na 1,"1000000001","0"],[jY ⟨2,0,1,1000000001,0⟩]),(["back",cY na 1,cY na 0,"5","1"],[jY ⟨3,1,0,5,1⟩])] (nK "net" (.int (as.length:Int))):=by have m0:=h.m0;have m1:=h.m1;have n2:=h.n2;refine GY h (post:=[⟨3,1,0,5,1⟩]) (by simp) (.inr (.inl rfl)) (qL (.inr (.inr rfl))) ?_ rfl (by simp) ((Iu Ua Et (zw h.nm.nd (by omega)) (zw h.nm.nd (by omega))).good (vv m0 m1)) (uN h) (qL ((v9 Bm HY (zw h.nm.nd (by omega)) (zw h.nm.nd (by omega))).good (vv m1 m0))) (qL (uN h));exact ja (.inr (.inr (.inl (by omega))))
theorem UL (h:jQ na as):Wc na as [] [(["wait",cY na 0,cY na 1,"5","5"],[jY ⟨2,0,1,5,5⟩])] (nK "net" (.int (as.length:Int))):=by have m0:=h.m0;have m1:=h.m1;have n2:=h.n2;refine GY h (post:=[]) (by simp) (.inr (.inl rfl)) (λw hw=>by cases hw) ?_ rfl (by simp) ((Iu Bm Bm (zw h.nm.nd (by omega)) (zw h.nm.nd (by omega))).good (vv m0 m1)) (uN h) (λg hg=>by cases hg) (λg hg=>by cases hg);exact ja (.inr (.inr (.inr (by simp))))
theorem UM (h:jQ na as):Wc na as [] [(["ride",cY na 0,cY na 1,"999999999999999"],[jY ⟨1,0,1,999999999999999,0⟩]),(["back",cY na 1,cY na 0,"5","1"],[jY ⟨3,1,0,5,1⟩])] (nK "net" (.int (as.length:Int))):=by have m0:=h.m0;have m1:=h.m1;have n2:=h.n2;refine GY h (post:=[⟨3,1,0,5,1⟩]) (by simp) (.inl rfl) (qL (.inr (.inr rfl))) ?_ rfl (by simp) ((Ir Ub (zw h.nm.nd (by omega)) (zw h.nm.nd (by omega))).good (vv m0 m1)) (AV h) (qL ((v9 Bm HY (zw h.nm.nd (by omega)) (zw h.nm.nd (by omega))).good (vv m1 m0))) (qL (uN h));exact ja (.inr (.inr (.inl (by omega))))
theorem UO (h:jQ na as):Wc na as [] [(["back",cY na 0,cY na 1,"5","0"],[jY ⟨3,0,1,5,0⟩]),(["back",cY na 1,cY na 0,"5","1"],[jY ⟨3,1,0,5,1⟩])] (nK "net" (.int (as.length:Int))):=by have m0:=h.m0;have m1:=h.m1;have n2:=h.n2;refine GY h (post:=[⟨3,1,0,5,1⟩]) (by simp) (.inr (.inr rfl)) (qL (.inr (.inr rfl))) ?_ rfl (by simp) ((v9 Bm Et (zw h.nm.nd (by omega)) (zw h.nm.nd (by omega))).good (vv m0 m1)) (uN h) (qL ((v9 Bm HY (zw h.nm.nd (by omega)) (zw h.nm.nd (by omega))).good (vv m1 m0))) (qL (uN h));exact ja (.inr (.inr (.inr (by simp))))
theorem UP (h:jQ na as):Wc na as [] [(["line","0",cY na 0,"5"],[jY ⟨3,0,0,5,0⟩])] (nK "net" (.int (as.length:Int))):=by have m0:=h.m0;have n2:=h.n2;refine GY h (post:=[]) (by simp) (.inr (.inr rfl)) (λw hw=>by cases hw) ?_ rfl (by simp) ((Qk Et Bm (by kernel_rfl) (zw h.nm.nd (by omega))).good (qL (cN _ m0))) (AV h) (λg hg=>by cases hg) (λg hg=>by cases hg);exact ja (.inr (.inr (.inr (by simp))))
theorem MP (h:jQ na as){w:Str}(hw:D3 w)(hA:w≠"A")(hn:dZ [cr (na++[w])]=some (.bl false))(hl:extra.length<=10)(h1:(extra.flatMap (·.2)).length<=10)(g:∀g∈extra,Good (na++[w]) g.1 g.2)(gw:∀g∈extra,mJ g.1):Wc na as [w] extra (nK "net" .non) where
 good:=g
 wsh:=gw
 exk:=qL hw
 exl:=by simp
 len:=by omega
 one:=by omega
 noA:=λz=>by
  rcases cG.mp z with z|z
  ·exact GX h z
  ·exact hA (cz.mp z).symm
 net:=⟨_,YH hn,.net (.inl rfl)⟩
theorem LW (h:jQ na as){w:Str}(HF:Bool)(hw:kE [.str w]=some (.bl HF))(hb:HF=false\/w∈na):dZ [cr (na++[w])]=some (.bl false):=by
 have n8:=h.n8;show dZ [.lst ((na++[w]).map .str)]=_;rw[Oh (λx=>if x=w then HF else true) (na++[w]) (λx hx=>?_) (by simp;omega)]
 ·congr 2;rw[Bool.and_eq_false_iff];right;refine yU.mpr λz=>?_;obtain⟨h1,h2⟩:=(L4 _ _ [] dk).mp z;rcases hb with hb|hb
  ·have:=h1 w (by simp);rw[if_pos rfl,hb]at this;cases this
  ·rw[qW,c8]at h2;exact h2.2.2 w hb w (by simp) rfl
 ·show _=some (D.bl (if x=w then HF else true));split
  ·next e=>rw[e];exact hw
  ·next e=>
   rcases cG.mp hx with hx|hx
   ·exact Lw (h.nm.ok x hx)
   ·exact(e (cz.mp hx)).elim
theorem UQ (h:jQ na as):Wc na as [cY na 1] [(["line","9",cY na 0,"5"],[jY ⟨3,0,0,5,9⟩])] (nK "net" .non):=by have m0:=h.m0;have n2:=h.n2;refine MP h (xz h.nm h.m1) (λz=>GX h (z▸h.m1)) (LW h true (Lw (h.nm.ok _ h.m1)) (.inr h.m1)) (by simp) (by simp) (qL ((Qk T9 Bm (by kernel_rfl) (zw h.nm.nd (by omega))).good (qL (cN _ m0)))) (qL (AV h))
theorem US (h:jQ na as):Wc na as ["B"] [] (nK "net" .non):=MP h (ym (by decide +kernel)) (by decide +kernel) (LW h false (by kernel_rfl) (.inl rfl)) (by simp) (by simp) (λg hg=>by cases hg) (λg hg=>by cases hg)
theorem UT (h:jQ na as):Wc na as [""] [] (nK "net" .non):=MP h (ym (by decide +kernel)) (by decide +kernel) (LW h false (by kernel_rfl) (.inl rfl)) (by simp) (by simp) (λg hg=>by cases hg) (λg hg=>by cases hg)
theorem LX {r:List Str}{d:D}:∀n:Nat,(cE n (r,[d])).flatMap (·.2)=cE n d
 |0=>rfl
 |n+1=>by rw[eE,mz,LX n];rfl
theorem UU (h:jQ na as):Wc na as [] (cE 121 (["back",cY na 1,cY na 0,"5","1"],[jY ⟨3,1,0,5,1⟩])) (nK "net" .non) where
 good:=λg hg=>by have n2:=h.n2;rw[(xS.mp hg).2];exact(v9 Bm HY (zw h.nm.nd (by omega)) (zw h.nm.nd (by omega))).good (vv h.m1 h.m0)
 wsh:=λg hg=>by have m0:=h.m0;have m1:=h.m1;rw[(xS.mp hg).2];exact uN h
 exk:=λw hw=>by cases hw
 exl:=by simp
 len:=by rw[eF];omega
 one:=by rw[LX,eF];omega
 noA:=by rw[cS];exact GX h
 net:=by refine⟨_,?_,.net (.inl rfl)⟩;rw[cS,LX];exact zsi h.nok (by rw[cp,eF];omega)
theorem RE (h:jQ na as){bs:List jP}(he:extra.flatMap (·.2)=bs.map di)(hb:bs.length<=10)(Tc:extra.length<=10)(hr:∀a∈bs,Right na.length a){b:jP}(ha:a∈bs)(JM:b∈bs)(a0:a.b=0)(b0:b.b=0)(e1:a.s=b.g)(e2:a.g=b.s)(g:∀g∈extra,Good (na++[]) g.1 g.2)(gw:∀g∈extra,mJ g.1):Wc na as [] extra (nK "stuck" .non) where
 good:=g
 wsh:=gw
 exk:=λw hw=>by cases hw
 exl:=by simp
 len:=by omega
 one:=by rw[he,ck];omega
 noA:=by rw[cS];exact GX h
 net:=by
  have:=h.al;have n2:=h.n2;have n8:=h.n8;obtain⟨R,hR⟩:=Xq (as:=as++bs) (ns:=na.map .str) (mo:=na.length) (by omega) (by omega) (by rw[cp];omega) (λx hx=>by
   rcases cG.mp hx with hx|hx
   ·exact h.rt x hx
   ·exact hr x hx) (by rw[ck]) h.nok (cK _ ha) (cK _ JM) a0 b0 e1 e2
  refine⟨_,?_,.stuck R⟩;rw[cS,he,←dO];exact hR
theorem UV (h:jQ na as):Wc na as [] [(["ride",cY na 0,cY na 1,"0"],[di ⟨.ride,0,1,0,0⟩]),(["wait",cY na 1,cY na 0,"5","0"],[di ⟨.wait,1,0,5,0⟩])] (nK "stuck" .non):=by have m0:=h.m0;have m1:=h.m1;have n2:=h.n2;refine RE h (bs:=[⟨.ride,0,1,0,0⟩,⟨.wait,1,0,5,0⟩]) rfl (by simp) (by simp) (D7 ⟨by dsimp;omega,by dsimp;omega,by decide,by decide,by decide,λ_=>rfl,λz=>(by cases z)⟩ ⟨by dsimp;omega,by dsimp;omega,by decide,by decide,by decide,λz=>(by cases z),λz=>(by cases z)⟩) (a:=⟨.ride,0,1,0,0⟩) (b:=⟨.wait,1,0,5,0⟩) (by simp) (by simp) rfl rfl rfl rfl (D7 ((Ir Et (zw h.nm.nd (by omega)) (zw h.nm.nd (by omega))).good (vv m0 m1)) ((Iu Bm Et (zw h.nm.nd (by omega)) (zw h.nm.nd (by omega))).good (vv m1 m0))) (D7 (AV h) (uN h))
theorem Ls (h:jQ na as):Wc na as [] [(["ride",cY na 1,cY na 1,"0"],[di ⟨.ride,1,1,0,0⟩])] (nK "stuck" .non):=by have m1:=h.m1;have n2:=h.n2;refine RE h (bs:=[⟨.ride,1,1,0,0⟩]) rfl (by simp) (by simp) (qL ⟨by dsimp;omega,by dsimp;omega,by decide,by decide,by decide,λ_=>rfl,λz=>(by cases z)⟩) (a:=⟨.ride,1,1,0,0⟩) (b:=⟨.ride,1,1,0,0⟩) (by simp) (by simp) rfl rfl rfl rfl (qL ((Ir Et (zw h.nm.nd (by omega)) (zw h.nm.nd (by omega))).good (vv m1 m1))) (qL (AV h))
def nN (na:List Str)(as:List jP):List D:=as.map λa=>D.str (il na a)
def iB (r:List Str):D:=D.str (Str.join (eD 32) r)
theorem yt (ex:List Str)(extra:List (List Str×List D))(tl:List (List Str)):(eW (na++ex) (qN na as++extra) tl).map iB=iB ("goings"::(na++ex))::(nN na as++extra.map (λg=>iB g.1)++tl.map iB):=by unfold eW nN qN;rw[cL,dO,dO,dO,fE,fE,fE];rfl
theorem jb (a b c:Str):a++b++c=a++(b++c):=by apply yw;simp only[yk,eh]
theorem MQ (w:Str):iB ("goings"::(na++[w]))=D.str (jZ na++eD 32++w):=by unfold iB jZ;rw[show("goings":Str)::(na++[w])=(("goings":Str)::na)++[w]from rfl,wf _ _ _ (by simp)]
theorem CN:iB ("goings"::(na++[]))=D.str (jZ na):=by rw[cS];rfl
theorem XM (h:jQ na as){x:D}(hx:x∈pT [cY na 0,cY na 1,jZ na] (.str (jZ na)::nN na as) (nN na as) (.int (as.length:Int))):∃ex extra rN,x=.tup [.lst ((eW (na++ex) (qN na as++extra) []).map iB),rN]/\Wc na as ex extra rN:=by
 have tb:tx [cY na 0,cY na 1,jZ na] (qU "back " 1 0 " 5 1")=iB ["back",cY na 1,cY na 0,"5","1"]:=rE (by kernel_rfl);have t0:tx [cY na 0,cY na 1,jZ na] (qU "wait " 0 1 " 1000000001 0")=iB ["wait",cY na 0,cY na 1,"1000000001","0"]:=rE (by kernel_rfl);have t1:tx [cY na 0,cY na 1,jZ na] (qU "wait " 0 1 " 5 5")=iB ["wait",cY na 0,cY na 1,"5","5"]:=rE (by kernel_rfl);have t2:tx [cY na 0,cY na 1,jZ na] (qU "ride " 0 1 " 999999999999999")=iB ["ride",cY na 0,cY na 1,"999999999999999"]:=rE (by kernel_rfl);have t3:tx [cY na 0,cY na 1,jZ na] (qU "back " 0 1 " 5 0")=iB ["back",cY na 0,cY na 1,"5","0"]:=rE (by kernel_rfl);have t4:tx [cY na 0,cY na 1,jZ na] [.inl "line 0 ",.inr 0,.inl " 5"]=iB ["line","0",cY na 0,"5"]:=rE (by kernel_rfl);have t5:tx [cY na 0,cY na 1,jZ na] [.inl "line 9 ",.inr 0,.inl " 5"]=iB ["line","9",cY na 0,"5"]:=rE (by kernel_rfl);have t9:tx [cY na 0,cY na 1,jZ na] (qU "ride " 0 1 " 0")=iB ["ride",cY na 0,cY na 1,"0"]:=rE (by kernel_rfl);have Uu:tx [cY na 0,cY na 1,jZ na] (qU "wait " 1 0 " 5 0")=iB ["wait",cY na 1,cY na 0,"5","0"]:=rE (by kernel_rfl);have Us:tx [cY na 0,cY na 1,jZ na] (qU "ride " 1 1 " 0")=iB ["ride",cY na 1,cY na 1,"0"]:=rE (by kernel_rfl);have h5:tx [cY na 0,cY na 1,jZ na] [.inr 2,.inl " ",.inr 1]=iB ("goings"::(na++[cY na 1])):=by rw[MQ];unfold tx;rw[show([.inr 2,.inl " ",.inr 1]:List Pc)=[.inr 2]++[.inl " "]++[.inr 1]from rfl,wy,wy,j4,EB,j4,zvc];rfl
 have h6:tx [cY na 0,cY na 1,jZ na] [.inr 2,.inl " B"]=iB ("goings"::(na++[("B":Str)])):=by rw[MQ];unfold tx;rw[Fb,jb,show eD 32++("B":Str) = " B" by decide +kernel];rfl
 have h7:tx [cY na 0,cY na 1,jZ na] [.inr 2,.inl " "]=iB ("goings"::(na++[("":Str)])):=by rw[MQ];unfold tx;rw[Fb,jb,show eD 32++("":Str) = " " by decide +kernel];rfl
 unfold pT at hx;rw[tb,t0,t1,t2,t3,t4,t5,t9,Uu,Us,h5,h6,h7]at hx;simp only[cn,df,or_false]at hx;have e0:=yt (na:=na) (as:=as) [];rcases hx with rfl|rfl|rfl|rfl|rfl|rfl|rfl|rfl|rfl|rfl|rfl
 ·exact⟨[],_,_,by rw[yt,CN];simp,UK h⟩
 ·exact⟨[],_,_,by rw[yt,CN];simp,UL h⟩
 ·exact⟨[],_,_,by rw[yt,CN];simp,UM h⟩
 ·exact⟨[],_,_,by rw[yt,CN];simp,UO h⟩
 ·exact⟨[],_,_,by rw[yt,CN];simp,UP h⟩
 ·exact⟨[cY na 1],_,_,by rw[yt];simp,UQ h⟩
 ·exact⟨["B"],_,_,by rw[yt];simp,US h⟩
 ·exact⟨[""],_,_,by rw[yt];simp,UT h⟩
 ·exact⟨[],_,_,by rw[yt,CN,List.map_replicate];simp,UU h⟩
 ·exact⟨[],_,_,by rw[yt,CN];simp,UV h⟩
 ·exact⟨[],_,_,by rw[yt,CN];simp,Ls h⟩
def C1:List Ck->Nat
 |[]=>0
 |.c _::r=>C1 r+1
 |.n _::r=>C1 r+40
theorem MI {E:List Str}(hE:∀i,(jH E i).length<=40):∀{l:List Ck},(∀s,Ck.n s∈l->∃i,s=jH E i)->(mW l).length<=C1 l
 |[],_=>cI _
 |.c x::r,h=>by have:=MI hE (l:=r) λs hs=>h s (cj _ hs);show(mW r).length+1<=C1 r+1;omega
 |.n s::r,h=>by have:=MI hE (l:=r) λs hs=>h s (cj _ hs);obtain⟨i,hi⟩:=h s b9;have hl:=hE i;rw[←hi,←zz]at hl;show(s.cps.toList++mW r).length<=C1 r+40;rw[cp];omega
theorem MR:∀{l:List Nat} {w:List Ck},w∈wH l->∀s,Ck.n s∉w
 |[],w,h,s,hs=>by
  have:w=[]:=by simpa[wH]using h
  rw[this]at hs;cases hs
 |x::r,w,h,s,hs=>by
  unfold wH at h;split at h
  ·rcases cn.mp h with h|h
   ·rw[h]at hs;cases hs
   ·exact MR h s hs
  ·obtain⟨a,b,h1,h2,rfl⟩:=u9 h;rcases cG.mp hs with hs|hs
   ·rcases h1 with rfl|h1
    ·cases hs
    ·rw[cz.mp h1]at hs;cases cz.mp hs
   ·rcases h2 with rfl|h2
    ·cases hs
    ·exact MR h2 s hs
theorem Rp {E:List Str}:∀{ps:List Pc} {w:List Ck},w∈pS E ps->∀s,Ck.n s∈w->∃i,s=jH E i
 |[],w,h,s,hs=>by rw[cz.mp h]at hs;cases hs
 |p::ps,w,h,s,hs=>by
  obtain⟨a,b,h1,h2,rfl⟩:=u9 h;rcases cG.mp hs with hs|hs
  ·rcases h1 with rfl|h1
   ·cases hs
   ·cases p with
    |inl t=>exact absurd hs (MR h1 s)
    |inr i=>rw[cz.mp h1]at hs;cases cz.mp hs;exact⟨i,rfl⟩
  ·rcases h2 with rfl|h2
   ·cases hs
   ·exact Rp h2 s hs
theorem zsp (hE:yA E)(hl:∀i,(jH E i).length<=40)(h:ps.all Ga=true)(hn:((pS E ps).all λw=>decide (C1 w<=100))=true)(hk:decide ((pS E ps).length<=100)=true):mJ (zW E ps):=by
 refine⟨zu3 ps,λw hw=>(QA hE h hw).1,λw hw=>(QA hE h hw).2,λw hw=>?_,?_⟩
 ·obtain⟨l,h1,rfl⟩:=cZ.mp hw;have h2:=of_decide_eq_true (dB.mp hn l h1);have h3:=MI hl (Rp h1);rw[←zz,qz];omega
 ·have:=of_decide_eq_true hk;unfold zW;rw[ck];exact this
def CL:List (List Pc):=[qU "ride " 0 1 " 5",qU "ride " 1 0 " 5",qU "wait " 0 2 " 5 0",qU "back " 1 0 " 5 1",[.inl "line 2 ",.inr 1,.inl " 5 ",.inr 0,.inl " 3 ",.inr 2,.inl " 1"]]
theorem XN (c:Int){one:Str}(h:sM one=true)(hx:∀x∈pd one,x.length<=40):∃x∈pd one,∃y∈pd one,∃ps∈CL,gh [.int c,cr (one::mv)]=some (.tup [tx [x,one,y] ps,.str x]):=by
 obtain⟨x,FI,nx⟩:=Px c (mv:=mv) h;obtain⟨y,NA,ny⟩:=Px (c/7) (mv:=mv) h;have l8:=yx h;obtain⟨z,hz,hp⟩:=xy (xs:=CL.map (tx [x,one,y])) (n:=5) rfl (by decide) (c/49);obtain⟨ps,yL,rfl⟩:=cZ.mp hz;refine⟨x,FI,y,NA,ps,yL,?_⟩;have f7:fZ (.int c) (.int 7)=sI (c/7):=vm (by decide) (by decide);have Sr:fZ (.int c) (.int 49)=sI (c/49):=vm (by decide) (by decide);have md:fM (.int (c/49)) (.int 5)=sI (c/49%5):=z7 (by decide);have l0:(jH [x,one,y] 0).length<=40:=hx x FI;have l1:(jH [x,one,y] 1).length<=40:=by show one.length<=40;omega
 have l2:(jH [x,one,y] 2).length<=40:=hx y NA;have x0:eJ (cr (one::mv)) (.int 0)=some (.str one):=ye (xs:=(one::mv).map D.str) (j:=0) rfl;unfold gh mOf;generalize cr (one::mv)=N at *;have n4:(cl ij (aCons (e2 fZ (eV 0) (eC (.int 7))) (aCons (eV 1) aNil))) [sI c,some N,some (.str one),some (.str x),none,none]=some (.str y):=by show((((fZ (.int c) (.int 7)).bind _).bind _):Option D)=_;rw[f7];exact ny
 show(sSeq _ _ [sI c,some N,none,none,none,none]).bind _=_;refine ED (d:=.str one) x0 ?_;simp only[Sa];refine ED (d:=.str x) nx ?_;simp only[Sb];refine ED n4 ?_;simp only[Se];refine MH (E:=[x,one,y]) (by walk_at "svs") ?_;simp only[vB];refine DT (A:=CL.take 3) (E:=[x,one,y]) rfl (by walk_at "svs") (by decide) ?_;simp only[vB];unfold sRet;show(((((((fZ (.int c) (.int 49)).bind λa=>fM a (.int 5)).bind λb=>eJ (.lst (CL.map (tx [x,one,y]))) b).bind _).bind _).bind _).bind _:Option D)=_;rw[Sr,cP,md,cP,show eJ (.lst (CL.map (tx [x,one,y]))) (.int (c/49%5))=some (tx [x,one,y] ps)from hp];rfl
theorem QF {a b c:Str}(h1:a.length<=40)(h2:b.length<=40)(h3:c.length<=40):∀i,(jH [a,b,c] i).length<=40
 |0=>h1
 |1=>h2
 |2=>h3
 |_+3=>eI 40
theorem zve {x one y:Str}(hx:CS na x)(h1:one∈na):∀ps∈CL,D2 na (zW [x,one,y] ps) x:=by
 have hl:x.length<=100:=by have:=hx.len;omega
 intro ps yL;unfold CL at yL;simp only[cn,df,or_false]at yL;rcases yL with rfl|rfl|rfl|rfl|rfl
 ·exact⟨by kernel_rfl,⟨[],[one],by kernel_rfl,λy hy=>by cases hy⟩,hx.ni,hx.ok,hl⟩
 ·exact⟨by kernel_rfl,⟨[one],[],by kernel_rfl,qL h1⟩,hx.ni,hx.ok,hl⟩
 ·exact⟨by kernel_rfl,⟨[],[y],by kernel_rfl,λy hy=>by cases hy⟩,hx.ni,hx.ok,hl⟩
 ·exact⟨by kernel_rfl,⟨[one],[],by kernel_rfl,qL h1⟩,hx.ni,hx.ok,hl⟩
 ·exact⟨by kernel_rfl,⟨[one],[y],by kernel_rfl,qL h1⟩,hx.ni,hx.ok,hl⟩
def HZ (E:List Str)(ps:List Pc):Bool:=ps.all Ga&&(((pS E ps).all λw=>decide (C1 w<=100))&&decide ((pS E ps).length<=100))
theorem Rq (hE:yA E)(hl:∀i,(jH E i).length<=40)(h:HZ E ps=true):mJ (zW E ps):=by unfold HZ at h;rw[cx,cx]at h;exact zsp hE hl h.1 h.2.1 h.2.2
theorem zv8 (x one y:Str):(CL.all (HZ [x,one,y]))=true:=by kernel_rfl
theorem zvf (one two b:Str):(oI.all (HZ [one,two,b]))=true:=by kernel_rfl
theorem QG {t e:D}(h:f6 [t]=some (.xc e))(hs:Sd e rN):iE [t]=some rN:=by
 cases hs with
 |@net d hd=>
  have p:gJ [.exc 6 ["at"] [d]]=some (.tup [.str "net",.non]):=by kernel_rfl
  have i1:mw "bool" d=some (.bl false):=by rcases hd with rfl|⟨n,rfl⟩<;>rfl
  have f1:fldX [6,12] "at" (.exc 6 ["at"] [d])=some d:=by kernel_rfl
  have x0:eJ (.tup [.str "net",.non]) (.int 0)=some (.str "net"):=rfl;unfold nK;generalize D.tup [.str "net",.non]=T at *;unfold iE;clear hd;walk_at "mix"
 |stuck R=>
  have p:gJ [.exc 7 ["ring"] [.lst R]]=some (.tup [.str "stuck",.non]):=by kernel_rfl
  have i1:mw "bool" .non=some (.bl false):=rfl;have x0:eJ (.tup [.str "stuck",.non]) (.int 0)=some (.str "stuck"):=rfl;unfold nK;obtain⟨T,hT⟩:∃T,D.tup [.str "stuck",.non]=T:=⟨_,rfl⟩;rw[hT]at p x0;clear hT;unfold iE;walk_at "mix"
 |row n=>
  have p:gJ [.exc 12 ["at"] [.int n]]=some (.tup [.str "row",.non]):=by kernel_rfl
  have i1:mw "bool" (.int n)=some (.bl false):=rfl;have f1:fldX [6,12] "at" (.exc 12 ["at"] [.int n])=sI n:=by kernel_rfl
  have x0:eJ (.tup [.str "row",.non]) (.int 0)=some (.str "row"):=rfl;unfold nK;generalize D.tup [.str "row",.non]=T at *;unfold iE;walk_at "mix"
 |name x _=>
  have p:gJ [.exc 13 ["name"] [.str x]]=some (.tup [.str "name",.non]):=by kernel_rfl
  have i1:mw "bool" (.str x)=some (.bl false):=rfl;have f1:fldX [13] "name" (.exc 13 ["name"] [.str x])=some (.str x):=by kernel_rfl
  have x0:eJ (.tup [.str "name",.non]) (.int 0)=some (.str "name"):=rfl;unfold nK;generalize D.tup [.str "name",.non]=T at *;unfold iE;walk_at "mix"
structure Sp (L RH N:D)(c o:Int)(p:Nat)(hd:Str)(one:Str)(TK DR B UR UN B2 tU zR Z A9 W Y F:D):Prop where
 cu:∃u,eY [L,.int 10]=sI u/\gc [.int u,.int 1]=sI c
 ou:∃u,eY [L,.int 11]=sI u/\gc [.int u,.int 1]=sI o
 at_:∃n:Int,gx [RH]=sI n/\fM (.int (c/8)) (.int n)=sI (p:Int)
 bad:gb [.int o,N]=some B
 unn:gh [.int o,N]=some (.tup [UR,UN])
 dr:eU RH (some (1+(p:Int))) none=some DR
 tk:eU RH none (some (1+(p:Int)))=some TK
 b2:gb [.int (c/7),N]=some B2
 u2:gh [.int (c/7),N]=some (.tup [tU,zR])
 z:eJ (.lst [B2,tU]) (.int (c/3072%2))=some Z
 MZ:cA DR (.lst [Z])=some A9
 w:gF [.int o,RH,N]=some (.tup [W,Y])
 n0:eJ N (.int 0)=some (.str one)
 r0:eJ RH (.int 0)=some (.str hd)
 f:∃g1 g2 g3,cA (.str "going ") (.str one)=some g1/\cA (.str " ") (.str hd)=some g2/\cA (.str "Goings ") (.str one)=some g3/\eJ (.lst [g1,.str "",g2,g3,.str "show"]) (.int (o%5))=some F
variable {A':D}
section
variable {L RH:D}{c o:Int}{p:Nat}{hd one:Str}{TK DR B UR UN B2 tU zR Z A9 W Y F:D}
theorem K3 (h:Sp L RH N c o p hd one TK DR B UR UN B2 tU zR Z A9 W Y F)(hc:c%8<3)(h1:cA TK (.lst [B])=some A)(h2:c/1024%3 > 0->cA A A9=some A')(h3:¬c/1024%3 > 0->cA A DR=some A'):dR [L,RH,N]=some (.tup [A',.tup [.str "row",.int (1+(p:Int))]]):=by
 obtain⟨⟨u,k1,k2⟩,⟨v,k3,k4⟩,⟨n,k5,k6⟩,k7,k8,k9,HH,HI,HJ,HK,HL,kw,kn,kr,g1,g2,g3,HN,HP,HQ,HR⟩:=h;have HM:eJ (.tup [tU,zR]) (.int 0)=some tU:=rfl;by_cases hz:c/1024%3 > 0
 ·have FR:=h2 hz;clear h2 h3;unfold dR;walk_at "mix"
 ·have FR:=h3 hz;clear h2 h3;unfold dR;walk_at "mix"
theorem K4 (h:Sp L RH N c o p hd one TK DR B UR UN B2 tU zR Z A9 W Y F)(Ed:¬c%8<3)(hc:c%8<5)(h1:cA TK (.lst [UR])=some A)(h2:c/1024%3 > 0->cA A A9=some A')(h3:¬c/1024%3 > 0->cA A DR=some A'):dR [L,RH,N]=some (.tup [A',.tup [.str "name",UN]]):=by
 obtain⟨⟨u,k1,k2⟩,⟨v,k3,k4⟩,⟨n,k5,k6⟩,k7,k8,k9,HH,HI,HJ,HK,HL,kw,kn,kr,g1,g2,g3,HN,HP,HQ,HR⟩:=h;have HM:eJ (.tup [tU,zR]) (.int 0)=some tU:=rfl;by_cases hz:c/1024%3 > 0
 ·have FR:=h2 hz;clear h2 h3;unfold dR;walk_at "mix"
 ·have FR:=h3 hz;clear h2 h3;unfold dR;walk_at "mix"
theorem K5 (h:Sp L RH N c o p hd one TK DR B UR UN B2 tU zR Z A9 W Y F)(Ed:¬c%8<3)(C7:¬c%8<5)(hc:c%8=5)(h2:c/1024%3 > 0->cA (.lst [F]) A9=some A')(h3:¬c/1024%3 > 0->cA (.lst [F]) DR=some A'):dR [L,RH,N]=some (.tup [A',.tup [.str "row",.int 0]]):=by
 obtain⟨⟨u,k1,k2⟩,⟨v,k3,k4⟩,⟨n,k5,k6⟩,k7,k8,k9,HH,HI,HJ,HK,HL,kw,kn,kr,g1,g2,g3,HN,HP,HQ,HR⟩:=h;have HM:eJ (.tup [tU,zR]) (.int 0)=some tU:=rfl;by_cases hz:c/1024%3 > 0
 ·have FR:=h2 hz;clear h2 h3;unfold dR;walk_at "mix"
 ·have FR:=h3 hz;clear h2 h3;unfold dR;walk_at "mix"
theorem K6 (h:Sp L RH N c o p hd one TK DR B UR UN B2 tU zR Z A9 W Y F)(Ed:¬c%8<3)(C7:¬c%8<5)(C8:¬c%8=5)(hc:c%8=6):dR [L,RH,N]=some (.tup [W,Y]):=by
 obtain⟨⟨u,k1,k2⟩,⟨v,k3,k4⟩,⟨n,k5,k6⟩,k7,k8,k9,HH,HI,HJ,HK,HL,kw,kn,kr,g1,g2,g3,HN,HP,HQ,HR⟩:=h;have HM:eJ (.tup [tU,zR]) (.int 0)=some tU:=rfl;by_cases hz:c/1024%3 > 0
 ·unfold dR;walk_at "mix"
 ·unfold dR;walk_at "mix"
theorem K7 (h:Sp L RH N c o p hd one TK DR B UR UN B2 tU zR Z A9 W Y F)(Ed:¬c%8<3)(C7:¬c%8<5)(C8:¬c%8=5)(hc:¬c%8=6){R1 R2 R3:D}(h1:cA (.str "ride ") (.str one)=some R1)(h2:cA R1 (.str " A 5")=some R2)(h3:cA W (.lst [R2])=some A'):dR [L,RH,N]=some (.tup [A',.tup [.str "name",.str "A"]]):=by
 obtain⟨⟨u,k1,k2⟩,⟨v,k3,k4⟩,⟨n,k5,k6⟩,k7,k8,k9,HH,HI,HJ,HK,HL,kw,kn,kr,g1,g2,g3,HN,HP,HQ,HR⟩:=h;have HM:eJ (.tup [tU,zR]) (.int 0)=some tU:=rfl;by_cases hz:c/1024%3 > 0
 ·unfold dR;walk_at "mix"
 ·unfold dR;walk_at "mix"
end
theorem jQ.take (h:jQ na as)(p:Nat):jQ na (as.take p) where
 nm:=h.nm
 n2:=h.n2
 n8:=h.n8
 al:=by rw[ef];have:=h.al;omega
 wr:=λa ha=>h.wr a (kU ha)
 rt:=λa ha=>h.rt a (kU ha)
def Bn (na:List Str)(as:List jP)(p:Nat)(w:List Str)(tl:List (List Str)):List (List Str):=eW na (qN na (as.take p)) (w::((as.drop p).map (lM na)++tl))
theorem QH (p:Nat)(w:List Str)(tl:List (List Str)):(Bn na as p w tl).map iB=(D.str (jZ na)::(nN na as).take p)++[iB w]++((nN na as).drop p++tl.map iB):=by unfold Bn eW qN nN;simp[iB,jZ,il,Function.comp_def,List.map_take,oQ]
theorem IR (h:jQ na as){p:Nat}{w:List Str}(hw:mJ w)(ht:∀r∈tl,mJ r):∀r∈Bn na as p w tl,mJ r:=by
 have:=EE (ex:=[]) (extra:=[]) (tl:=w::((as.drop p).map (lM na)++tl)) (h.take p) (λw hw=>by cases hw) (by simp) (λg hg=>by cases hg) (λr hr=>by
  rcases cn.mp hr with rfl|hr
  ·exact hw
  ·rcases cG.mp hr with hr|hr
   ·obtain⟨a,ha,rfl⟩:=cZ.mp hr;exact h.wsh (lM na a,[di a]) (cZ.mpr ⟨a,n6 ha,rfl⟩)
   ·exact ht r hr)
 rw[cS,cS]at this;exact this
theorem IS (h:jQ na as)(p:Nat):(∀g∈qN na (as.take p),Good na g.1 g.2)/\((qN na (as.take p)).flatMap (·.2)).length<=5000:=by
 refine⟨λg hg=>?_,?_⟩
 ·have:=(h.take p).good [] g hg;rw[cS]at this;exact this
 ·rw[GS,ck];have:=(h.take p).al;omega
theorem MJ (h:jQ na as){p:Nat}(ht:tl.length<=1):(qN na (as.take p)).length+((as.drop p).map (lM na)++tl).length<390:=by have:=h.al;rw[ju,cp,ck,ef,dW];omega
theorem zvg (h:jQ na as){p:Nat}(hp:p<=as.length){w:List Str}(hw:mJ w)(ht:∀r∈tl,mJ r)(hl:tl.length<=1)(hb:dE [cr w]=some (.bl false)):f6 [.str (pK (Bn na as p w tl))]=some (.xc (.exc 12 ["at"] [.int (1+(p:Int))])):=by have:=zsl (IR h hw ht) (MJ h hl) (IS h p).1 (IS h p).2 hb;rw[ju,ef,lm hp]at this;exact this
theorem zvh (h:jQ na as){p:Nat}{w:List Str}{x:Str}(hw:mJ w)(ht:∀r∈tl,mJ r)(hl:tl.length<=1)(hu:D2 na w x):f6 [.str (pK (Bn na as p w tl))]=some (.xc (.exc 13 ["name"] [.str x])):=Qo (IR h hw ht) (MJ h hl) (IS h p).1 (IS h p).2 hu
theorem LY (h:jQ na as):∃mv,na=cY na 0::cY na 1::mv:=by
 have:=h.n2
 match na,this with
 |a::b::r,_=>exact⟨r,rfl⟩
theorem PJ (h:jQ na as)(c:Int):∃ws,gb [.int c,cr na]=some (iB ws)/\mJ ws/\dE [cr ws]=some (.bl false):=by
 obtain⟨mv,e⟩:=LY h;have l0:=yx (h.nm.ok _ h.m0);have l1:=yx (h.nm.ok _ h.m1);obtain⟨b,hb,ps,yL,hv⟩:=YD c (one:=cY na 0) (two:=cY na 1) (mv:=mv) (by omega) (by omega);rw[←e]at hv;have nf:=dB.mp OJ b hb;rw[cx,cx]at nf;have bo:og 32 b/\og 10 b:=⟨λz=>(by have:=nf.1.2;rw[gB.mpr z]at this;cases this),λz=>(by have:=nf.2;rw[gB.mpr z]at this;cases this)⟩;refine⟨zW [cY na 0,cY na 1,b] ps,?_,?_,?_⟩
 ·rw[hv,LR];rfl
 ·refine Rq (λw hw=>?_) (QF (by omega) (by omega) (of_decide_eq_true nf.1.1)) (dB.mp (zvf _ _ _) ps yL);simp only[cn,df,or_false]at hw;rcases hw with rfl|rfl|rfl
  ·exact⟨(xz h.nm h.m0).f32,(xz h.nm h.m0).f10⟩
  ·exact⟨(xz h.nm h.m1).f32,(xz h.nm h.m1).f10⟩
  ·exact bo
 ·exact zse (dB.mp (dB.mp (YC _ _) b hb) ps yL)
theorem QI (h:jQ na as){sz:Nat}(hs:1<=sz)(hz:∀w∈na,w.length=sz)(c:Int):∃ws x,gh [.int c,cr na]=some (.tup [iB ws,.str x])/\mJ ws/\D2 na ws x:=by
 obtain⟨mv,e⟩:=LY h;have l0:=yx (h.nm.ok _ h.m0);have nn:=YF h.nm h.m0 hs hz;obtain⟨x,hx,y,hy,ps,yL,hv⟩:=XN c (one:=cY na 0) (mv:=cY na 1::mv) (h.nm.ok _ h.m0) (λx hx=>(nn x hx).len);rw[←e]at hv;refine⟨zW [x,cY na 0,y] ps,x,?_,?_,zve (nn x hx) h.m0 ps yL⟩
 ·rw[hv];unfold tx iB;rw[LR]
 ·refine Rq (λw hw=>?_) (QF (nn x hx).len (by omega) (nn y hy).len) (dB.mp (zv8 _ _ _) ps yL);simp only[cn,df,or_false]at hw;rcases hw with rfl|rfl|rfl
  ·exact⟨(nn _ hx).f32,(nn _ hx).f10⟩
  ·exact⟨(xz h.nm h.m0).f32,(xz h.nm h.m0).f10⟩
  ·exact⟨(nn _ hy).f32,(nn _ hy).f10⟩
def Hh (na:List Str):List (List Str):=[["going",cY na 0],[""],""::"goings"::na,["Goings",cY na 0],["show"]]
theorem zvi (h:jQ na as)(o:Int):∃f∈Hh na,∃g1 g2 g3,cA (.str "going ") (.str (cY na 0))=some g1/\cA (.str " ") (.str (jZ na))=some g2/\cA (.str "Goings ") (.str (cY na 0))=some g3/\eJ (.lst [g1,.str "",g2,g3,.str "show"]) (.int (o%5))=some (iB f):=by
 have l0:=yx (h.nm.ok _ h.m0);have l1:=IP h.nm;obtain⟨x,hx,hp⟩:=xy (xs:=(Hh na).map iB) (n:=5) rfl (by decide) o;obtain⟨f,hf,rfl⟩:=cZ.mp hx;have b1:("going ":Str).length=6:=by decide +kernel
 have b2:(" ":Str).length=1:=by decide +kernel
 have b3:("Goings ":Str).length=7:=by decide +kernel
 have a1:cA (.str "going ") (.str (cY na 0))=some (.str ("going "++cY na 0)):=zx (by omega);have a2:cA (.str " ") (.str (jZ na))=some (.str (" "++jZ na)):=zx (by omega);have a3:cA (.str "Goings ") (.str (cY na 0))=some (.str ("Goings "++cY na 0)):=zx (by omega);refine⟨f,hf,_,_,_,a1,a2,a3,?_⟩;have e1:D.str ("going "++cY na 0)=iB ["going",cY na 0]:=by unfold iB;rw[show Str.join (eD 32) ["going",cY na 0] = "going"++eD 32++cY na 0 from rfl,show("going":Str)++eD 32 = "going " by decide +kernel]
 have e2:D.str (" "++jZ na)=iB (""::"goings"::na):=by unfold iB jZ;rw[show Str.join (eD 32) (""::"goings"::na) = ""++eD 32++Str.join (eD 32) ("goings"::na)from rfl,show("":Str)++eD 32 = " " by decide +kernel]
 have e3:D.str ("Goings "++cY na 0)=iB ["Goings",cY na 0]:=by unfold iB;rw[show Str.join (eD 32) ["Goings",cY na 0] = "Goings"++eD 32++cY na 0 from rfl,show("Goings":Str)++eD 32 = "Goings " by decide +kernel]
 rw[e1,e2,e3];exact hp
theorem zv9 (h:jQ na as):∀f∈Hh na,mJ f/\∃w ws,f=w::ws/\cU.strOk w=true/\w≠"goings":=by
 have m0:=h.m0;have n8:=h.n8;intro f hf;unfold Hh at hf;simp only[cn,df,or_false]at hf;rcases hf with rfl|rfl|rfl|rfl|rfl
 ·exact⟨ur (by simp) (by simp) (D7 (ym (by decide +kernel)) (xz h.nm m0)),_,_,rfl,by kernel_rfl,by decide +kernel⟩
 ·exact⟨ur (by simp) (by simp) (qL (ym (by decide +kernel))),_,_,rfl,by kernel_rfl,by decide +kernel⟩
 ·refine⟨ur (by simp) (by simp only[cm];omega) λw hw=>?_,_,_,rfl,by kernel_rfl,by decide +kernel⟩;rcases cn.mp hw with rfl|hw
  ·exact ym (by decide +kernel)
  ·rcases cn.mp hw with rfl|hw
   ·exact ym (by decide +kernel)
   ·exact xz h.nm hw
 ·exact⟨ur (by simp) (by simp) (D7 (ym (by decide +kernel)) (xz h.nm m0)),_,_,rfl,by kernel_rfl,by decide +kernel⟩
 ·exact⟨ur (by simp) (by simp) (qL (ym (by decide +kernel))),_,_,rfl,by kernel_rfl,by decide +kernel⟩
section
variable {p:Nat}{w:List Str}
theorem xp:(nN na as).length=as.length:=by unfold nN;rw[ck]
theorem zwa (h:jQ na as)(hl:tl.length<=1):((as.drop p).map (lM na)++tl).length<=9:=by have:=h.al;rw[cp,ck,dW];omega
theorem Rr (h:jQ na as)(p:Nat)(w:List Str):cA (.lst (.str (jZ na)::(nN na as).take p)) (.lst [iB w])=sL ((.str (jZ na)::(nN na as).take p)++[iB w]):=yo (by
 have:=h.al;rw[cm,ef,xp,cm,fY]
 omega)
theorem Jd (h:jQ na as)(hl:tl.length<=1):cA (.lst ((.str (jZ na)::(nN na as).take p)++[iB w])) (.lst ((nN na as).drop p++tl.map iB))=sL ((Bn na as p w tl).map iB):=by rw[QH];refine yo ?_;have:=h.al;rw[cp,cm,ef,xp,cm,fY,cp,ck,dW,xp];omega
theorem Rt:Bn na as p w tl≠[]:=mX _ _
theorem QJ (h:jQ na as)(hl:tl.length<=1):(Bn na as p w tl).length<=300:=by have e:=congrArg jL (QH (na:=na) (as:=as) p w tl);have:=h.al;rw[ck,cp,cp,cm,ef,xp,cm,fY,cp,ck,dW,xp]at e;omega
theorem Ru (h:jQ na as)(hl:tl.length<=1):cA (.lst [iB w]) (.lst ((nN na as).drop p++tl.map iB))=sL ((w::((as.drop p).map (lM na)++tl)).map iB):=by
 have e:(w::((as.drop p).map (lM na)++tl)).map iB=[iB w]++((nN na as).drop p++tl.map iB):=by unfold nN;simp[iB,il,Function.comp_def,oQ]
 rw[e];refine yo ?_;have:=h.al;rw[cm,fY,cp,ck,dW,xp];omega
theorem Q4 (h:jQ na as)(hw:mJ w)(ht:∀r∈tl,mJ r):∀r∈w::((as.drop p).map (lM na)++tl),mJ r:=λr hr=>by
 rcases cn.mp hr with rfl|hr
 ·exact hw
 ·rcases cG.mp hr with hr|hr
  ·obtain⟨a,ha,rfl⟩:=cZ.mp hr;exact h.wsh (lM na a,[di a]) (cZ.mpr ⟨a,n6 ha,rfl⟩)
  ·exact ht r hr
theorem XQ (h:jQ na as):mJ ["ride",cY na 0,"A","5"]:=ur (by simp) (by simp) λx hx=>by
 simp only[cn,df,or_false]at hx;rcases hx with rfl|rfl|rfl|rfl
 ·exact ym (by decide +kernel)
 ·exact xz h.nm h.m0
 ·exact ym (by decide +kernel)
 ·exact ym (by decide +kernel)
theorem Wc.rl (h:jQ na as)(wc:Wc na as ex extra rN)(hl:tl.length<=1):(eW (na++ex) (qN na as++extra) tl).length<=300:=by have:=h.al;have:=wc.len;unfold eW;rw[cm,cp,ck,cp,ju];omega
theorem Wc.rideA (h:jQ na as)(wc:Wc na as ex extra rN):cA (.str "ride ") (.str (cY na 0))=some (.str ("ride "++cY na 0))/\cA (.str ("ride "++cY na 0)) (.str " A 5")=some (iB ["ride",cY na 0,"A","5"])/\cA (.lst ((eW (na++ex) (qN na as++extra) []).map iB)) (.lst [iB ["ride",cY na 0,"A","5"]])=sL ((eW (na++ex) (qN na as++extra) [["ride",cY na 0,"A","5"]]).map iB):=by
 have l0:=yx (h.nm.ok _ h.m0);have b1:("ride ":Str).length=5:=by decide +kernel
 have b2:(" A 5":Str).length=4:=by decide +kernel
 have e:D.str ("ride "++cY na 0 ++ " A 5")=iB ["ride",cY na 0,"A","5"]:=by have:=rE (E:=[cY na 0]) (ps:=[.inl "ride ",.inr 0,.inl " A 5"]) (ws:=["ride",cY na 0,"A","5"]) (by kernel_rfl);unfold tx at this;rw[show([.inl "ride ",.inr 0,.inl " A 5"]:List Pc)=[.inl "ride "]++[.inr 0]++[.inl " A 5"]from rfl,wy,wy,EB,j4,EB]at this;exact this
 refine⟨zx (by omega),(zx (by rw[yi];omega)).trans (congrArg some e),?_⟩;rw[yt,yt];have l:=wc.rl h (tl:=[]) (eI _);have e2:=congrArg jL (yt (na:=na) (as:=as) ex extra []);rw[ck]at e2;refine(yo ?_).trans (congrArg some (congrArg D.lst ?_))
 ·rw[←e2];simp only[cm,fY];omega
 ·simp
end
theorem YO (h:jQ na as){sz:Nat}(hs:1<=sz)(hz:∀w∈na,w.length=sz)(ns:List Int):∃rows e rN,dR [.lst (ns.map .int),.lst (.str (jZ na)::nN na as),cr na]=some (.tup [.lst (rows.map iB),rN])/\f6 [.str (pK rows)]=some (.xc e)/\Sd e rN/\(∀r∈rows,mJ r)/\rows≠[]/\rows.length<=300:=by
 have al:=h.al;have n8:=h.n8;obtain⟨mv,M1⟩:=LY h;obtain⟨u,hu⟩:=I0 ns 10 (by decide);obtain⟨c,hc,_⟩:=GP u (k:=1) (by decide) (by decide);obtain⟨v,hv⟩:=I0 ns 11 (by decide);obtain⟨o,ho,_⟩:=GP v (k:=1) (by decide) (by decide);generalize (c:Int)=c,(o:Int)=o at *;obtain⟨p,hp,gW⟩:∃p:Nat,(c/8)%((as.length+1:Nat):Int)=(p:Int)/\p<=as.length:=by have h1:=jG (c/8) (show((as.length+1:Nat):Int)≠0 by omega);have h2:=hZ (c/8) (show(0:Int)<((as.length+1:Nat):Int)by omega);exact⟨((c/8)%((as.length+1:Nat):Int)).toNat,by omega,by omega⟩
 obtain⟨wb,vb,sb,fb⟩:=PJ h o;obtain⟨wu,x,vu,su,ku⟩:=QI h hs hz o;obtain⟨N3,UH,yP,_⟩:=PJ h (c/7);obtain⟨N5,x2,UJ,Up,_⟩:=QI h hs hz (c/7);obtain⟨z,Dk,Hz⟩:=xy (xs:=[iB N3,iB N5]) (n:=2) rfl (by decide) (c/3072);obtain⟨wz,rfl,Ur⟩:∃wz,z=iB wz/\mJ wz:=by
  simp only[cn,df,or_false]at Dk;rcases Dk with rfl|rfl
  ·exact⟨_,rfl,yP⟩
  ·exact⟨_,rfl,Up⟩
 have l0:=yx (h.nm.ok _ h.m0);have l1:=yx (h.nm.ok _ h.m1);have lh:=IP h.nm;obtain⟨xw,Nz,vw⟩:=WI o (one:=cY na 0) (two:=cY na 1) (mv:=mv) (hd:=jZ na) (RT:=nN na as) (by omega) (by omega) (by omega) (by rw[xp];omega);rw[←M1]at vw;rw[xp]at Nz;obtain⟨ex,extra,rN,rfl,wc⟩:=XM h Nz;obtain⟨f,hf,fv⟩:=zvi h o;obtain⟨sf,w0,N4,rfl,Uc,T8⟩:=zv9 h f hf;have n0:eJ (cr na) (.int 0)=some (.str (cY na 0)):=by rw[M1];exact ye (xs:=(cY na 0::cY na 1::mv).map D.str) (j:=0) rfl
 have r0:eJ (.lst (.str (jZ na)::nN na as)) (.int 0)=some (.str (jZ na)):=ye (xs:=D.str (jZ na)::nN na as) (j:=0) rfl;have dr:eU (.lst (.str (jZ na)::nN na as)) (some (1+(p:Int))) none=sL ((nN na as).drop p):=by rw[show(1:Int)+(p:Int)=((p+1:Nat):Int)by omega];show some (D.lst (cutD _ (some ((p+1:Nat):Int)) none))=_;rw[wa];rfl
 have tk:eU (.lst (.str (jZ na)::nN na as)) none (some (1+(p:Int)))=sL (.str (jZ na)::(nN na as).take p):=by rw[show(1:Int)+(p:Int)=((p+1:Nat):Int)by omega];show some (D.lst (cutD _ none (some ((p+1:Nat):Int))))=_;rw[LB];rfl
 have dl:((nN na as).drop p).length<=8:=by rw[dW,xp];omega
 have tkl:(D.str (jZ na)::(nN na as).take p).length<=9:=by rw[cm,ef,xp];omega
 have MZ:cA (.lst ((nN na as).drop p)) (.lst [iB wz])=sL ((nN na as).drop p++[iB wz]):=yo (by simp only[cm,fY];omega);have sp:Sp (.lst (ns.map .int)) (.lst (.str (jZ na)::nN na as)) (cr na) c o p (jZ na) (cY na 0) _ _ (iB wb) (iB wu) (.str x) (iB N3) (iB N5) (.str x2) (iB wz) _ _ _ (iB (w0::N4)) :=
  ⟨⟨u,hu,hc⟩,⟨v,hv,ho⟩,⟨_,(yp _).trans (by rw[cm,xp]),by rw[z7 (by omega),hp]⟩,vb,vu,dr,tk,UH,UJ,Hz,MZ,vw,n0,r0,fv⟩
 obtain⟨tl,El,o7,Lp,Lq⟩:∃tl:List (List Str),(∀r∈tl,mJ r)/\tl.length<=1/\(c/1024%3 > 0->(nN na as).drop p++[iB wz]=(nN na as).drop p++tl.map iB)/\(¬c/1024%3 > 0->(nN na as).drop p=(nN na as).drop p++tl.map iB):=by
  by_cases NB:c/1024%3 > 0
  ·exact⟨[wz],qL Ur,cI _,λ_=>rfl,λh=>absurd NB h⟩
  ·exact⟨[],λr hr=>(by cases hr),eI _,λh=>absurd h NB,λ_=>(cS _).symm⟩
 by_cases h3:c%8<3
 ·exact⟨Bn na as p wb tl,_,_,K3 sp h3 (Rr h p wb) (λz=>(congrArg (λx=>cA _ (.lst x)) (Lp z)).trans (Jd h o7)) (λz=>(congrArg (λx=>cA _ (.lst x)) (Lq z)).trans (Jd h o7)),zvg h gW sb El o7 fb,.row _,IR h sb El,Rt,QJ h o7⟩
 by_cases h5:c%8<5
 ·exact⟨Bn na as p wu tl,_,_,K4 sp h3 h5 (Rr h p wu) (λz=>(congrArg (λx=>cA _ (.lst x)) (Lp z)).trans (Jd h o7)) (λz=>(congrArg (λx=>cA _ (.lst x)) (Lq z)).trans (Jd h o7)),zvh h su El o7 ku,.name _ ku.ok,IR h su El,Rt,QJ h o7⟩
 by_cases h6:c%8=5
 ·refine⟨(w0::N4)::((as.drop p).map (lM na)++tl),_,_,K5 sp h3 h5 h6 (λz=>(congrArg (λx=>cA _ (.lst x)) (Lp z)).trans (Ru h o7)) (λz=>(congrArg (λx=>cA _ (.lst x)) (Lq z)).trans (Ru h o7)),V5 (Q4 h sf El) ?_ Uc T8,.row _,Q4 h sf El,mX _ _,?_⟩
  ·have:=MJ h (p:=p) o7;omega
  ·have:=zwa h (p:=p) o7;rw[cm];omega
 by_cases h7:c%8=6
 ·obtain⟨e,r1,r2⟩:=wc.read h;exact⟨_,_,_,K6 sp h3 h5 h6 h7,r1,r2,EE h wc.exk wc.exl wc.wsh λr hr=>(by cases hr),mX _ _,wc.rl h (eI _)⟩
 ·obtain⟨a1,a2,a3⟩:=wc.rideA h;exact⟨_,_,_,K7 (R3:=.non) sp h3 h5 h6 h7 a1 a2 a3,wc.readA h,.name _ (by kernel_rfl),EE h wc.exk wc.exl wc.wsh (qL (XQ h)),mX _ _,wc.rl h (cI _)⟩
theorem XU {rows:List (List Str)}(hr:∀r∈rows,mJ r)(hl:rows.length<=300):lG (.str "\n") (.lst (rows.map iB))=some (.str (pK rows)):=by
 have e:(D.lst (rows.map iB))=cr (rows.map (Str.join (eD 32))):=by unfold cr;rw[fE];rfl
 rw[e,Jg];unfold pK;refine Ez (b:=10100) (λy hy=>?_) (by rw[ck,wF];omega);obtain⟨r,h,rfl⟩:=cZ.mp hy;exact(hr r h).jl
theorem BC (k:Str)(hk:cU.strOk k=true)(d:Option Int)(neg:Bool):iz neg (.tup [.str k,BD d]) (.tup [.str k,BD d])=some (.bl !neg):=by have:=(E2 Es Eo).eq (by decide) (neg:=neg) (⟨k,hk⟩,d) (⟨k,hk⟩,d);exact this.trans (by cases neg<;>simp)
theorem RF {e:D}(hs:Sd e rN)(neg:Bool):iz neg rN rN=some (.bl !neg):=by
 cases hs with
 |@net d hd=>
  rcases hd with rfl|⟨n,rfl⟩
  ·exact BC "net" (by kernel_rfl) none neg
  ·exact BC "net" (by kernel_rfl) (some n) neg
 |stuck R=>exact BC "stuck" (by kernel_rfl) none neg
 |row n=>exact BC "row" (by kernel_rfl) (some n) neg
 |name x ok=>have:=(E2 Es Es).eq (by decide) (neg:=neg) (⟨"name",by kernel_rfl⟩,⟨x,ok⟩) (⟨"name",by kernel_rfl⟩,⟨x,ok⟩);exact this.trans (by cases neg<;>simp)
theorem zsq (h:jQ na as)(hb:∀a∈as,a.b=0->a.s<a.g):tG [.str (B5 na (as.map (il na)))]=some (pN (na.map .str) as):=by
 have n2:=h.n2;have al:=h.al;have h1:na≠[]:=oB.mp (by omega);have e:pK (eW na (qN na as) [])=B5 na (as.map (il na)):=by unfold pK eW qN B5;rw[cS,cL,fE,fE];rfl
 have nt:dF 4 [cr na,.lst ((qN na as).flatMap (·.2))]=some (.ok (pN (na.map .str) as)):=by
  rw[GS];have ok:Ak na.length as:=⟨by omega,h.nm.le,by omega,h.rt,id,hb⟩;rcases Rn (ns:=na.map .str) (by omega) h.nm.le (by omega) h.rt (by rw[ck]) (Pt h.nm h1)with⟨_,_,r,_⟩|⟨_,_,_,_,p,h2,h3⟩
  ·exact r
  ·obtain⟨q,h4,_,h5,_⟩:=ok.placed;rw[h4]at h2;have:=congrArg jL (D.lst.inj (Option.some.inj h2));unfold dN at this;rw[ck,ck]at this;omega
 have w0:=EE (ex:=[]) (extra:=[]) (tl:=[]) h (λw hw=>by cases hw) (by simp) (λg hg=>by cases hg) (λr hr=>by cases hr);rw[cS,cS]at w0;have g0:=h.good [];rw[cS]at g0;have r:=Qn w0 (by rw[ju];omega) g0 (by rw[GS,ck];omega) nt;rw[e]at r;show(f6 _).bind NN=_;rw[r];rfl
theorem YQ (ns:List Int)(_:ns.length<=63):AL [.lst (ns.map .int)]=some (.bl true):=by
 obtain⟨c,c0⟩:=I0 ns 0 (by decide);have hS:∀i:Int,0<=i->∃c,eY [.lst (ns.map .int),.int i]=some (.int c):=λi h=>I0 ns i h;obtain⟨z2,m2,_⟩:=GP c (k:=2) (by decide) (by decide);obtain⟨z3,m3,_⟩:=GP c (k:=3) (by decide) (by decide);have g2:fM (.int (z2:Int)) (.int 5)=some (.int ((z2%5:Nat):Int)):=by rw[z7 (by decide)];exact congrArg (λz=>some (D.int z)) (by omega)
 have FA:2+z2%5<=8:=by omega
 have tX:2<=2+z2%5:=by omega
 obtain⟨na,wz,BK,Kh,hn,sE,_,hsz⟩:=YE c FA;rw[←Kh]at FA tX;have a1:(2:Int)+((z2%5:Nat):Int)=(na.length:Int):=by omega
 rw[←Kh]at BK;have h1:na≠[]:=oB.mp (by omega);generalize z2%5=q2 at *;clear Kh;obtain⟨sz,hz,TU⟩:∃sz:Nat,fM (.int (z3:Int)) (.int 9)=some (.int (sz:Int))/\sz<=8:=⟨z3%9,by rw[z7 (by decide)];exact congrArg (λz=>some (D.int z)) (by omega),by omega⟩;have key:∀k:Nat,∃a:jP,k<sz->(∃cc,eY [.lst (ns.map .int),.int (1+(k:Int))]=some (.int cc)/\gI [.int cc,.int (k:Int),.int (na.length:Int)]=some (mZ a))/\Right na.length a/\(a.b=0->a.s<a.g):=λk=>by
  by_cases hk:k<sz
  ·obtain⟨cc,hc⟩:=hS (1+(k:Int)) (by omega);obtain⟨a,h1,h2,h3⟩:=ZG cc (k:=k) (mo:=na.length) (by omega) (by omega) FA;exact⟨a,λ_=>⟨⟨cc,hc,h1⟩,h2,h3⟩⟩
  ·exact⟨⟨.ride,0,0,0,0⟩,λh=>absurd h hk⟩
 obtain⟨A,hA⟩:=Classical.axiomOfChoice key;have q1:tJ [some (.lst (ns.map .int)),some (.int c),some (.int (na.length:Int)),some (cr na),none,none,none,none,none,none]=some (.lst (((dQ sz).map A).map mZ)):=by
  rw[fE];refine xb (λ(t:Nat)=>D.int (t:Int)) _ (dQ sz) ?_ (by simp;omega) λk hk=>⟨[some (.int (k:Int)),some (.lst (ns.map .int)),some (.int (na.length:Int))],rfl,?_⟩
  ·refine MC ?_ (by omega);generalize (na.length:Int)=nl,cr na=N,D.lst (ns.map .int)=S,(sz:Int)=szi at *;clear hA key hS hn h1 FA tX hsz sE a1 g2 m2 BK;walk_at "mix"
  obtain⟨⟨cc,y1,y2⟩,_⟩:=hA k (eu.mp hk);show _=some (mZ (A k));generalize mZ (A k)=R,(na.length:Int)=nl,D.lst (ns.map .int)=S at *;clear hA key BK hS hn hk;walk_at "mix"
 have Fg:∀a∈(dQ sz).map A,Right na.length a/\(a.b=0->a.s<a.g):=λa ha=>by obtain⟨k,hk,rfl⟩:=cZ.mp ha;exact(hA k (eu.mp hk)).2
 obtain⟨as,has⟩:∃as,as=(dQ sz).map A:=⟨_,rfl⟩;rw[←has]at Fg q1;have ki:as.length=sz:=by rw[has,ck,fD]
 clear has hA key hS;have hw:∀a∈as,Wr na.length a:=λa ha=>Wr.of (Fg a ha).1;have rws:=zsa hn hw (by omega);have jn:=zsc (ys:=as.map (il na)) hn (by rw[ck];omega) λy hy=>by obtain⟨a,h,rfl⟩:=cZ.mp hy;exact Ps hn (hw a h)
 have sh:=ZA hn hw (by omega);have tok:=zu2 hn hw;have e1:=(vn (neg:=true) tok tok).trans (show _=some (.bl false)by simp);have ee:=(vn (neg:=false) tok tok).trans (show _=some (.bl true)by simp);have dr:jQ na as:=⟨hn,by omega,by omega,by omega,hw,λa ha=>(Fg a ha).1⟩;have ra:=zsq dr λa ha=>(Fg a ha).2;obtain⟨rows,e,rN,sp,rd,sd,wsh,_,rl⟩:=YO dr sE hsz ns;have sa:=QG rd sd;have tj:=XU wsh rl;have se:=RF sd true;have er:D.lst (.str (jZ na)::nN na as)=cr (jZ na::as.map (il na)):=by unfold cr nN;rw[cL,fE];rfl
 rw[er]at sp;obtain⟨nt,Kj,px⟩:=xy (xs:=[.non,.int 5,cr (jZ na::as.map (il na)),.bl true]) (n:=4) rfl (by decide) c;have NM:mw "str" nt=some (.bl false):=by simp only[cn,df,or_false]at Kj;rcases Kj with rfl|rfl|rfl|rfl<;>rfl
 have s0:=QG (Xv NM) (.row 0);have s1:iz false (nK "row" (.int 0)) (.tup [.str "row",.int 0])=some (.bl true):=RF (.row 0) false;have md:fM (.int c) (.int 4)=some (.int (c%4)):=z7 (by decide);replace px:eJ (.lst [.non,.int 5,cr (jZ na::as.map (il na)),.bl true]) (.int (c%4))=some nt:=px;clear er wsh rd sd Kj NM dr Fg hw tok ki hz TU sE hsz h1 hn FA tX m3;generalize B5 na (as.map (il na))=T,pN (na.map .str) as=nd,cr (jZ na::as.map (il na))=HD,as.map mZ=ER,cr na=N,pK rows=TR,rows.map iB=RJ,nK "row" (.int 0)=DU,(na.length:Int)=nl,D.lst (ns.map .int)=S,c%4=c4 at *;unfold AL;generalize tJ=Q1 at *;walk_at "mix"
section
variable {P:dH}{w:dw}{base:cB}{a:Adr}
theorem zvk (T:Txt K mg a):dM P w K mg base gC 8 a.bF a.bG ["_law_script"] (sQ K):=zuh (zut T) YQ
end
theorem fin {l:pZ}{w:dw}{fa:ce}{a:Adr}(Td:mg "law"=some (.ref fa))(T:Txt K mg a)(b:∀(s:cq) (v:bV),pE s a.bG ⟨[v],[]⟩ [("_law_script",v)]) :
  ∃fd:cH,(∀(s:cq) (v:bV),pE s fd ⟨[v],[]⟩ [("_law_script",v)])/\∀base:cB,K.In base->base.Ns fq mg->dM l.prog w K mg base gC 8 fa fd ["_law_script"] (sQ K):=by
 cases Td.symm.trans T.aS.mgx;exact⟨_,b,λ_ _ _=>zvk T⟩
theorem walk {l:pZ}{q:dH}{loose:List Str}{XP:(Str->Option bV)->cB->Prop}{YP:dw->cB->Prop}{d:DefRec}{K:Params->bZ}(hn:l.most=some 63)(Fp:d.params.defaults=[])
  (hY:∀(w:dw) (h:cB),YP w h->(K w.params).In h)
  (F:∀(w:dw) (mg:Str->Option bV) (fa:ce) (h:cB),(K w.params).In h->h.Ns fq mg->mg d.name=some (.ref fa) ->
   ∃fd:cH,(∀(s:cq) (u:bV),pE s fd ⟨[u],[]⟩ [("_law_script",u)])/\∀base:cB,(K w.params).In base->base.Ns fq mg->dM l.prog w (K w.params) mg base gC 8 fa fd ["_law_script"] (sQ (K w.params))) :
  Ae q loose XP YP l.row.toRowW d [] (λf vs=>PySem.call f vs) :=
 L2.walk_of (n:=63) (k:=8) (x:="_law_script") (CX:=λ_=>gC) (sp:=λw=>sQ (K w.params)) hn (by decide) Fp ⟨rfl,by decide,by decide,rfl⟩ hY F (λ_ _ a ns hl _ hS=>⟨a,ns,rfl,hS,hl,λ_=>rfl⟩) λ_ _ _ _ _ z=>z
end My
-- KEEP
local macro_rules | `(tactic| walk_at "zA") => `(tactic| (first | exact L3.m_al0 | (refine' L3.m_al1 ?q0 ?q9; (case q0 => (apply L2.XAt.mk <;> k_is)); (case q9 => walk_at "zA"))))
local macro_rules | `(tactic| walk_at "zX1") => `(tactic| (first | exact L3.m_al0 | (refine' L3.m_al1 ?q0 ?q9; (case q0 => (refine' ⟨?q1, ?q2⟩; (case q1 => (apply L2.XIc.mk <;> k_is)); (case q2 => kit_is))); (case q9 => walk_at "zX1"))))
local macro_rules | `(tactic| walk_at "zX2") => `(tactic| (refine' ⟨?q1, ?q2⟩; (case q1 => walk_at "zX1"); (case q2 => kit_is)))
namespace PySem.W.Fast
def tw3040127647889385569:=0
def tw5157175714068672424:=0
def tw11063387419703799255:=0
def tw11735060406323441267:=0
def tw15026089034445189677:=0
def tw15966427576857600149:=0
def tw11831022247488641336:=0
def tw838125798639497324:=0
def tw2036959736077766311:=0
def tw17486741595315704063:=0
def tw11664189806012626284:=0
def tw6291843871588563778:=0
def tw10981861993132425332:=0
def tw13984246755747111641:=0
def tw16840030282283248412:=0
def tw9674685898991494521:=0
def tw3172101206891498531:=0
def tw9014422981893672179:=0
def tw13061532041915529310:=0
def tw16231194733889192296:=0
def tw17792438958167299893:=0
def tw17383995749064913045:=0
def tw10322070429526571843:=0
def tw6598305511971389054:=0
def tw16185474324501018977:=0
def tw10829821338324119968:=0
def tw1760104725541506164:=0
def tw12467565751943918051:=0
def tw10472148186728592357:=0
def tw11523958594876527001:=0
def tw6301996879333125323:=0
def tw12048627829765865903:=0
def tw13516789392893452595:=0
def tw10271932392964570186:=0
def tw8218472643020555260:=0
def tw6117829595261928445:=0
def tw17371319971044781387:=0
def tw17096210977573162602:=0
def tw133208288460932870:=0
def tw14879797389149760101:=0
def tw2948445663211241735:=0
def tw10094308653688264402:=0
def tw17701904350540748609:=0
def tw2085237436004664633:=0
def tw528611391351355270:=0
def tw7371123535342502355:=0
def tw10582629607978992840:=0
def tw14415239813253964322:=0
def tw8118376811570084310:=0
def tw16696071279667979795:=0
def tw7824836483761643982:=0
def tw2097635552333481430:=0
def tw17854115825838079561:=0
def tw13015163581601627793:=0
def tw10755223144350902044:=0
def tw14858383409236982529:=0
def tw17000492139968599070:=0
def tw5496266992361984984:=0
def tw9882254418768166790:=0
def tw18297939364469839626:=0
def tw13349037967826386043:=0
def tw9911636538686543968:=0
def tw17797321525667261772:=0
def tw14609743629877580149:=0
def tw11460941447043933816:=0
def tw8244623495080712417:=0
def tw12311394253297030924:=0
def tw17584808615426450297:=0
def tw2948077239941056303:=0
def tw515035820690103066:=0
def tw2325434492747910661:=0
def tw6503605396111665187:=0
def tw14080683670067402476:=0
def tw15642325289601177134:=0
def tw114291859220370457:=0
def tw7567109754265650486:=0
def tw2553390691954529270:=0
def tw12071391101653114445:=0
def tw17248234999043830554:=0
def tw18156412142217670900:=0
def tw12678195371332205835:=0
def tw6940920811134091020:=0
def tw1401975147932458589:=0
def tw8202250287837893160:=0
def tw7231323694593832971:=0
def tw8033967528668155844:=0
def tw8278840055475955997:=0
def tw14916909257851878070:=0
def tw11857357220868990289:=0
def tw12004543187361080924:=0
def tw11548299739469096467:=0
def tw4076955014842947004:=0
def tw12558000857744439928:=0
def tw13668313332148249194:=0
def tw13790079042672525352:=0
def tw5362247164702837722:=0
def tw11408272172294326700:=0
def tw10601027065400094984:=0
def tw16514635019958887511:=0
def tw6718780012532789920:=0
def tw9300036828328675869:=0
def tw1318600457816610273:=0
def tw7756860632088698632:=0
def tw13573076090182511580:=0
def tw13053874923936940769:=0
def tw5617668800746062288:=0
def tw10682820698942079317:=0
def tw10812762860938150092:=0
def tw110899735401805021:=0
def tw12923808337673056317:=0
def tw15949723426101384666:=0
def tw3422291387146778748:=0
def tw13404716236034721737:=0
def tw9472648846762374476:=0
def tw6574468500047910358:=0
def tw10233708257904559631:=0
def tw4987947035304988119:=0
def tw2103283278347289798:=0
def tw955896018066765357:=0
def tw10050543928832748069:=0
def tw15344846677560466538:=0
def tw13525926652368181577:=0
def tw11235419810929131997:=0
def tw1443548426861683308:=0
def tw14238587890458309721:=0
def tw9470350009302290614:=0
def tw9225968189165895028:=0
def tw12448187762811667786:=0
def tw6912981268758413838:=0
def tw16860349093081224263:=0
def tw7906682420861797444:=0
def tw13469279263187687250:=0
def tw4118490899519342600:=0
def tw6988557534833628656:=0
def tw4431192204606244900:=0
def tw8815228465813848635:=0
def tw7297985252358682714:=0
def tw1547084825571225915:=0
def tw7440439835718116804:=0
def tw17586768087411207173:=0
def tw8509862326624826180:=0
def tw16666698153826226138:=0
def tw5810758558793755366:=0
def tw16608046662146280156:=0
def tw7758144618485539511:=0
def tw2024629427955373634:=0
def tw6167030305315092760:=0
def tw7484845460164117060:=0
def tw3409459194196318887:=0
def tw3098598442267777768:=0
def tw322954257472891533:=0
def tw9485501390640506107:=0
def tw3642614086972978511:=0
def tw17068087301714665976:=0
def tw11150926434676803361:=0
def tw18190773938877187626:=0
def tw3408814391472989165:=0
def tw12230038441241703543:=0
def tw12449060428339589021:=0
def tw9398161855192402715:=0
def tw6377562102004940056:=0
def tw10637359768939134448:=0
def tw14947060318998782067:=0
def tw14130355917665309117:=0
def tw14334206691092767461:=0
def tw4711052958643647167:=0
def tw94067028445138245:=0
def tw15631440234083331184:=0
def tw4122778172380322588:=0
def tw5455746644858659645:=0
def tw3091248334311052478:=0
def tw14664075617613115900:=0
def tw3629123953308692265:=0
def tw15164067429464874130:=0
def tw12385649646864924232:=0
def tw6308362202810612606:=0
def tw3371869905730153555:=0
def tw9040912625392742299:=0
def tw2083779219312234261:=0
def tw7723870061014238474:=0
def tw5747763063102667144:=0
def tw3260842245472977246:=0
def tw1344698725078500687:=0
def tw7794354862453128300:=0
def tw654901958462013541:=0
def tw4509910433951427156:=0
def tw1827179347061801777:=0
def tw17454243050017837463:=0
def tw14689405228342276259:=0
def tw11584287464684706027:=0
def tw17413476882353569471:=0
def tw8539751049649805247:=0
def tw3900236032738600043:=0
def tw9266187164460896367:=0
def tw4915175561399915040:=0
def tw14160451787816443764:=0
def tw12860825259088152151:=0
def tw6792476594219043916:=0
def tw8932931184306902459:=0
def tw4565091099044114107:=0
def tw8032917859474652619:=0
def tw15611492404142568224:=0
def tw319917995822412622:=0
def tw17321136572961631304:=0
def tw4740989956601507268:=0
def tw652998793965881835:=0
def tw10396445528993694134:=0
def tw6922777927093293810:=0
def tw4378277824312459212:=0
def tw10731366689894000834:=0
def tw15603209405895238109:=0
def tw11603330397850396612:=0
def tw2103368003766945932:=0
def tw18416813631006557947:=0
def tw5371981379880847201:=0
def tw16450332262115694397:=0
def tw9162718444470110487:=0
def tw16053507324225596555:=0
def tw10742887873609285844:=0
def tw9907530846956991064:=0
def tw611809969235659200:=0
def tw16641723346631726773:=0
def tw14676058177499274296:=0
def tw10647851759759348106:=0
def tw12773471698274055153:=0
def tw3402276777117158902:=0
def tw4070043848339962860:=0
def tw18062476161568288165:=0
def tw9076575703953769920:=0
def tw9784889808850670692:=0
def tw2906236056358800723:=0
def tw17934970687873135452:=0
def tw14903336697996445456:=0
def tw15057996916764748502:=0
def tw14016264993293978170:=0
def tw6747241143641373600:=0
def tw7770936972609188463:=0
def tw5075027498734368804:=0
def tw14874904445224886802:=0
def tw11147833161941724964:=0
def tw9334568959347202165:=0
def tw2395040961308383045:=0
def tw10228235592040538140:=0
def tw3329979784038501469:=0
def tw7820710588094385389:=0
def tw4869452393055194783:=0
def tw5814476539130761752:=0
def tw15642627405692351303:=0
def tw11243874397725458267:=0
def tw16350457816822378726:=0
def tw10137508680533719797:=0
def tw9414740620209427475:=0
def tw3185837989664724805:=0
def tw10453199346752313616:=0
def tw9516883548785999411:=0
def tw16449089899852051299:=0
def tw7420730008022227402:=0
def tw16620558028073978248:=0
end PySem.W.Fast
open PySem PySem.W PyProof.Rows
set_option maxRecDepth 100000 in
set_option maxHeartbeats 0 in
theorem PySem.Challenge.cw_ringbeat_k83_texts_refused_holds : PySem.Challenge.rw_ringbeat_k83_texts_refused.Holds := by
 w_on; o_law; k_head; (case hw => w_witness2)
 k_fill
 refine My.walk (l := PySem.Challenge.rw_ringbeat_k83_texts_refused) rfl rfl (fun w h Y => PySem.W.kIn_of Y) ?F
 case F =>
  intro w mg fa h KX G hmg
  refine' My.fin (a := .mk ..) hmg ?T ?b
  case T =>
   constructor
   all_goals try dsimp only [My.Adr.ct]
   iterate 5 exact L3.zC
   iterate 9 exact L3.zX
   iterate 2 exact L3.zM
   exact L3.zM (b := L3.zE 5 (L3.lA5 fun _ _ _ _ _ => ⟨_, rfl, rfl⟩))
   (refine' L3.m_bd 4 0 rfl rfl ?r1 ?r2 ?r3 ?r4; (case r1 => k_is); (case r2 => rfl); (case r3 => exact (.cons ⟨_, rfl⟩ .nil)); (case r4 => exact L3.lA4 fun _ _ _ _ => ⟨_, rfl, rfl⟩))
   exact L3.zM (b := L3.zE 5 (L3.lA5 fun _ _ _ _ _ => ⟨_, rfl, rfl⟩))
   (refine' L3.m_bd 4 0 rfl rfl ?r1 ?r2 ?r3 ?r4; (case r1 => k_is); (case r2 => rfl); (case r3 => exact (.cons ⟨_, rfl⟩ .nil)); (case r4 => exact L3.lA4 fun _ _ _ _ => ⟨_, rfl, rfl⟩))
   iterate 8 exact L3.zM
   iterate 9 exact L3.zD
   iterate 5 exact L3.zM
   iterate 25 exact L3.zD
   iterate 7 exact ⟨by k_is, by k_is, by k_is⟩
   iterate 6 ((repeat refine L3.zF ?_); exact L3.m_al0)
   iterate 2 ((repeat refine L3.zI ?_); exact L3.m_al0)
   k_is
   exact ⟨L3.m_xo (by k_is) (by first | exact .base | exact .own .base), by k_is, by k_is, by k_is, by k_is, by k_is, by k_is⟩
   exact ⟨by k_is, by k_is, by k_is⟩
   k_is
   exact ⟨L3.m_xo (by k_is) (by first | exact .base | exact .own .base), by k_is, by k_is, by k_is, by k_is, by k_is, by k_is⟩
   exact ⟨by k_is, by k_is, by k_is⟩
   k_is
   exact ⟨L3.m_xo (by k_is) (by first | exact .base | exact .own .base), by k_is, by k_is, by k_is, by k_is, by k_is, by k_is⟩
   exact ⟨by k_is, by k_is, by k_is⟩
   k_is
   exact ⟨L3.m_xo (by k_is) (by first | exact .base | exact .own .base), by k_is, by k_is, by k_is, by k_is, by k_is, by k_is⟩
   iterate 2 exact ⟨by k_is, by k_is, by k_is⟩
   iterate 2 walk_at "zA"
   iterate 9 walk_at "zX2"
   iterate 4 ((repeat refine L3.zH ?_); exact L3.m_al0)
   iterate 14 exact L3.zB
   iterate 6 exact L3.zG
  exact fun s v => .of_eq rfl
