import PyProof.Rows.All
import Wide.All
import OpenK.AllK
import Wide.FinOn
import Lean
import PyProof.EqAt
import PyProof.EqKinds
import PyProof.TupleCall
import PyProof.ExcClass3
import PyProof.ExcBaseAll.ValueError
import KE.KTryMore
import PyProof.FString2
import KE.KDictList
import PySem.Challenge.RW_ringbeat_k45_again_put_off
set_option Elab.async false
set_option linter.all false
set_option maxRecDepth 100000
open Array renaming length_toList→dR,getElem?_eq_some_iff→gJ
open Bool renaming false_ne_true→aH,and_eq_true→bJ,false_eq_true→cC,or_eq_false_iff→oK,and_false→sV
open Int renaming toNat_natCast→fH,emod_nonneg→iI,fdiv_eq_ediv_of_nonneg→mL,le_refl→pE,toNat_of_nonneg→pW
open List renaming mem_cons_self→ai,mem_cons_of_mem→ao,range→av,mem_append_right→az,mem_cons→aB,replicate→aD,mem_filter→aM,size_toArray→aO,mem_range→aP,getElem?_eq_some_iff→aT,length_range→aU,length_cons→aV,mem_singleton→aW,lookup_cons→aZ,length_map→bi,map_cons→bn,nodup_append→bo,mem_append_left→bq,length_append→bA,mem_append→bC,Nodup→bF,nodup_nil→bG,getElem?_map→bK,append_nil→bQ,nodup_cons→bR,all_eq_true→cm,not_mem_nil→cn,getElem?_append_left→cx,replicate_succ→cz,mem_iff_getElem→cD,find?_cons→cM,length_replicate→cU,all_cons→cZ,mem_iff_getElem?→dw,foldl_cons→dH,flatten_cons→dJ,getElem?_set_ne→dL,map_map→dM,mem_map→dN,any_cons→dQ,getElem?_range→dS,getElem?_set_self→d8,mem_zipIdx_iff_getElem?→el,getElem?_append_right→eK,lookup→eL,getElem?_eq_getElem→eZ,getElem_range→e8,zip_cons_cons→e9,getElem?_replicate→fv,append_assoc→fD,countP_cons→fV,ext_getElem→fW,eq_nil_of_length_eq_zero→gc,take_append_of_le_length→gd,length_zip→gu,of_mem_zip→gx,countP_append→gL,drop_eq_getElem_cons→gQ,contains→gS,getElem_map→ig,length_take→ij,nodup_range→ik,drop_eq_nil_of_le→iy,filter_eq_nil_iff→iz,take_of_length_le→iA,map_const'→iE,length_filter_le→iJ,length_singleton→iK,length→iZ,mem_of_mem_take→i6,filterMap_cons→jN,map_congr_left→jO,contains_cons→ke,findIdx?_cons→kh,foldl_append→kD,map_nil→kE,any_eq_true→kX,getElem_inj→kY,getElem_set→kZ,forIn_cons→lD,perm_ext_iff_of_nodup→mw,exists_mem_of_ne_nil→mM,append_cancel_left→nF,filter_cons_of_neg→nG,filter_cons_of_pos→nH,length_eq_zero_iff→nI,drop_of_length_le→nK,countP_singleton→oj,getElem_toArray→oN,mem_of_getElem?→oO,length_reverse→pF,find?_eq_none→pX,foldl→pY,mem_filterMap→pZ,getElem_take→qP,filter_cons→rj,length_drop→rl,take_left'→sy,find?_some→sA,length_nil→sC,length_set→sD,map_append→sE,zip_append→sI,forIn_nil→sW
open Nat renaming le_refl→aC,lt_of_lt_of_le→aX,ne_of_lt→aY,le_trans→bX,zero_le→d9,lt_irrefl→eu,lt_succ_of_lt→eF,pow_le_pow_right→eP,lt_succ_self→iu,ne_of_gt→iF,le_succ→jG,le_of_lt→kN,le_of_succ_le→kO,min_self→kP,log2_lt→lE,min_eq_left→mh,mod_lt→mP,le_of_eq→oo,sub_zero→oq,lt_of_le_of_lt→qQ,lt_trichotomy→rm,min_eq_right→sJ,strongRecOn→sX
open Option renaming bind_some→bj,map_eq_some_iff→cu,isSome_iff_exists→my,isSome_map→pG,getD_none→p4,map_some→qR
open PyProof.Rows renaming callWith_type1→bT,callWith_builtin1→i7
open PySem renaming Value→ae,Addr→ah,Shared→aj,starEach→ak,wpAny_bind→aq,mainGlobals→ax,model→aG,Heap→aI,Str→aJ,FuncData→aL,wpAny→aN,wpAny_pure→aS,NameKind→ba,Program→bg,eval→br,Around→bx,PyData→bD,Stmt→bL,World→bN,backTo→bU,PassesOwn→bW,sizeLine_eq→bY,bootBuiltins→bZ,strIterType→cA,Pos→cE,wpAny_Call_Name_kw→cF,keywordEach→cJ,Obj→cN,assignEach→cQ,foldedSetIterable→cR,compareOp→cV,attributeBase→df,swapsWith→di,wpAny_mono→dk,behindInMarks→dz,binaryOp→dI,Builtin→dO,holding→dP,backToKw→eh,sysModules→ez,wpAny_passesOwn→eJ,wpAny_holding→eM,codeAny→eW,wpAny_truthy_bool→eX,Scope→fC,Keyword→fE,standAt→fF,getMethod→fK,codeAny_mono→fZ,wpAny_standAt→gE,sliceBounds→gK,letOwnedTupleGo→gO,assign→hG,callWith→hJ,wpAny_newObj_type→iB,Operator→iS,cLine→iT,wpAny_execs_nil→jP,newFunctionEnv→kz,tupleKind→kF,CmpOp→la,call_meets→lm,tupleKind_room_in1→lq,callerA→mj,seqIndex_neg→ml,Sem→ng,seqIndex_of→nh,BindsTo→nL,setItem→nM,valueAt→nN,Code→ou,closureFor→oy,compEnvC→oz,compPost→oA,Data→pH,swappedStores→pI,swapsWithSole→pJ,atKey→p5,bindC→p6,bindL→p7,concat_meets→qS,isTrue→qT,builtinsNs→uC,typeIs_int→uD,wpAny_Name→uE
open PySem.Heap renaming get?_push_of_some→aw,lt_size→aF,get?_push_size→bB,get?_update_other→cK,size_push→dU,get?_update_self→et,SameBut→gD,update_setField_same→mK,get?_none_of_le→oM,get?_update_ne→pD,get?_push_at→qO
open PySem.W renaming Frag→aa,findIn→am,keepIn→ar,nsIn→ay,codeIn→aA,mg_of→aE,kitOne→aK,mroIn→bu,hasDictIn→bH,specialIn→bO,mg_none_of→bS,kia_one→bV,Looks→ck,isFn→cr,emptyDict→cG,plainGet→cT,looks_findIn→cY,instObj→dA,makesIn→dB,takerIn→dC,plainOver→dE,callWith_K→dW,findCls→d6,readsIn→d7,methodCall_KW→ej,InstAt→eA,exmOne→eD,clsIn→fL,takesIn→gb,fnOf→gp,check_slot→gz,any_some→gR,cellsFrom_some→hU,lookIn→iG,looks_clsIn→iU,looks_mroIn→iV,plainGet_of→iW,subIn→i8,kitx_list→kb,methodObj→kc,handedIn→kA,OpenLaw→kQ,findObj→kR,isClsIn→kS,typeIn→lw,findObj_own→nO,looks_find→oB,method_cls→oC,cls_value→oP,kitx_dict→oQ,kitx_none→oR,set_plain→oS,InitBack→pK,bind_fn→p9,instIn→qU,notCls→qV,WalkO→rn
namespace L2
open PySem PySem.Spec PyProof.Rows
abbrev eO:=Sum Int aJ
def mX:eO->ae->Bool
 |.inl k,v=>ae.isInt k v
 |.inr x,v=>ae.isStrOf x v
def Jj (w:bN):eO->Int
 |.inl k=>hashInt k
 |.inr x=>hashStr w x
theorem wq:∀{k:eO} {v:ae},mX k v=true->(∃i t,k=Sum.inl i/\v=ae.int i t)\/(∃x t,k=Sum.inr x/\v=ae.str x t)
 |.inl i,v,h=>by
  obtain⟨t,e⟩:=ae.isInt_shape (k:=i) (v:=v) h
  exact .inl ⟨i,t,rfl,e⟩
 |.inr x,v,h=>by
  obtain⟨t,e⟩:=ae.isStrOf_shape (x:=x) (v:=v) h
  exact .inr ⟨x,t,rfl,e⟩
theorem V0 (i:Int)(t:Tok):mX (.inl i) (.int i t)=true:=by simp[mX,ae.isInt]
theorem V1 (x:aJ)(t:Tok):mX (.inr x) (.str x t)=true:=by simp[mX,ae.isStrOf]
theorem Y7 (a b:Int):decide ((Sum.inl a:eO)=Sum.inl b)=(a==b):=by
 by_cases e:a=b
 ·subst e;simp
 ·have h:¬(Sum.inl a:eO)=Sum.inl b:=λq=>e (Sum.inl.inj q)
  rw[decide_eq_false h]
  exact(beq_eq_false_iff_ne.mpr e).symm
theorem Y8 (a b:aJ):decide ((Sum.inr a:eO)=Sum.inr b)=decide (a=b):=by
 by_cases e:a=b
 ·subst e;simp
 ·have h:¬(Sum.inr a:eO)=Sum.inr b:=λq=>e (Sum.inr.inj q)
  rw[decide_eq_false h,decide_eq_false e]
theorem Y9 (a:Int)(b:aJ):decide ((Sum.inl a:eO)=Sum.inr b)=false:=decide_eq_false (λq=>nomatch q)
theorem Za (a:aJ)(b:Int):decide ((Sum.inr a:eO)=Sum.inl b)=false:=decide_eq_false (λq=>nomatch q)
def dZ (prog:bg)(w:bN):PySem.KeyKind prog w eO where
 is:=mX
 hash:=Jj w
 inj:=λv a b ha hb=>by
  rcases wq ha with⟨i,t,rfl,rfl⟩|⟨x,t,rfl,rfl⟩
  ·rcases wq hb with⟨j,u,rfl,e⟩|⟨y,u,rfl,e⟩
   ·injection e with e1 _;rw[e1]
   ·exact nomatch e
  ·rcases wq hb with⟨j,u,rfl,e⟩|⟨y,u,rfl,e⟩
   ·exact nomatch e
   ·injection e with e1 _;rw[e1]
 byValue:=λk v h=>by
  rcases wq h with⟨i,t,rfl,rfl⟩|⟨x,t,rfl,rfl⟩<;>rfl
 pyHash:=λhv h=>by
  rcases wq hv with⟨i,t,rfl,rfl⟩|⟨x,t,rfl,rfl⟩
  ·exact wpAny_pyHash_int h
  ·exact wpAny_pyHash_str h
 eqBool:=λhu hv h=>by
  rcases wq hu with⟨i,t,rfl,rfl⟩|⟨x,t,rfl,rfl⟩
  ·rcases wq hv with⟨j,u,rfl,rfl⟩|⟨y,u,rfl,rfl⟩
   ·rw[Y7]at h;exact wpAny_eqBool_int h
   ·rw[Y9]at h;exact SeqAt.EqAt.int_str i t y u _ _ _ _ h
  ·rcases wq hv with⟨j,u,rfl,rfl⟩|⟨y,u,rfl,rfl⟩
   ·rw[Za]at h;exact SeqAt.EqAt.str_int x t j u _ _ _ _ h
   ·rw[Y8]at h;exact wpAny_eqBool_str h
 «strs»:=λk x t v h=>by
  rcases wq h with⟨i,u,rfl,e⟩|⟨y,u,rfl,e⟩
  ·exact nomatch e
  ·injection e with e1 _
   subst e1
   cases v<;>rfl
theorem Ve (prog:bg)(w:bN)(i:Int)(t:Tok):(dZ prog w).is (.inl i) (.int i t)=true:=V0 i t
theorem Vf (prog:bg)(w:bN)(x:aJ)(t:Tok):(dZ prog w).is (.inr x) (.str x t)=true:=V1 x t
end L2
namespace L2
open PySem PySem.Spec PyProof.Rows
inductive V where
 |non|bl (b:Bool)|int (i:Int)|str (x:aJ)|byt (b:Array UInt8)|flt (b:UInt64)|ref (a:ah)|ty (n:String)
 deriving DecidableEq
def RelV:V->ae->Prop
 |.non,u=>u=ae.none
 |.bl b,u=>u=ae.bool b
 |.int i,u=>∃t,u=ae.int i t
 |.str x,u=>∃t,u=ae.str x t
 |.byt b,u=>∃t,u=ae.bytes b t
 |.flt b,u=>∃t,u=ae.float b t
 |.ref a,u=>u=ae.ref a
 |.ty n,u=>u=ae.type n
abbrev bM:List V->List ae->Prop:=Paired RelV
theorem bM.length {xs:List V}{us:List ae}(r:bM xs us):xs.length=us.length:=Paired.length r
theorem bM.get:∀{xs:List V} {us:List ae} {i:Nat} {x:V},bM xs us->xs[i]?=some x->∃u,us[i]?=some u/\RelV x u
 |_,_,_,_,.nil,e=>by simp at e
 |_,_,0,_,.cons r _,e=>by simp at e;subst e;exact⟨_,rfl,r⟩
 |_,_,i+1,x,.cons _ t,e=>by
  obtain⟨u,h1,h2⟩:=bM.get (i:=i) (x:=x) t (by simpa using e)
  exact⟨u,by simpa using h1,h2⟩
theorem bM.set {x:V}{u:ae}(r:RelV x u):∀{xs:List V} {us:List ae} (i:Nat),bM xs us->bM (xs.set i x) (us.set i u)
 |_,_,_,.nil=>.nil
 |_,_,0,.cons _ t=>.cons r t
 |_,_,i+1,.cons q t=>.cons q (bM.set r i t)
theorem bM.append:∀{xs ys:List V} {us ws:List ae},bM xs us->bM ys ws->bM (xs++ys) (us++ws)
 |_,_,_,_,.nil,s=>s
 |_,_,_,_,.cons r t,s=>.cons r (bM.append t s)
theorem bM.take:∀{xs:List V} {us:List ae} (n:Nat),bM xs us->bM (xs.take n) (us.take n)
 |_,_,0,_=>.nil
 |_,_,_+1,.nil=>.nil
 |_,_,n+1,.cons r t=>.cons r (bM.take n t)
theorem bM.drop:∀{xs:List V} {us:List ae} (n:Nat),bM xs us->bM (xs.drop n) (us.drop n)
 |_,_,0,r=>r
 |_,_,_+1,.nil=>.nil
 |_,_,n+1,.cons _ t=>bM.drop n t
def i9:Option V->Option ae->Prop
 |some v,some u=>RelV v u
 |none,none=>True
 |_,_=>False
def KV {κ:Type}:List (κ×V)->List (κ×ae)->Prop:=Paired λ(p:κ×V) (q:κ×ae)=>p.1=q.1/\RelV p.2 q.2
def kV:eO->V
 |.inl i=>.int i
 |.inr x=>.str x
inductive HO where
 |lst (xs:List V)
 |tup (xs:List V)
 |dK (cq:List (eO×V))|dT (cq:List (List eO×V))
 |set (S:Int->Bool) (n:Nat)
 |ins (C dx:ah) (fs:List (aJ×V))
 |own (x:ah)
 |xd (fs:List (aJ×V))
 |met (f x:ah)
 |rng (lo hi:Int)
 |frz (o:cN) (u:HO)
 |tbl (ps:Array ae)
 |ext (φ:aI->Prop)
abbrev Hp:=ah->Option HO
def upd (H:Hp)(a:ah)(o:HO):Hp:=λb=>if b=a then some o else H b
theorem zk {H:Hp}{a:ah}{o:HO}:upd H a o a=some o:=by unfold upd;rw[if_pos rfl]
theorem zh {H:Hp}{a b:ah}{o:HO}(h:b≠a):upd H a o b=H b:=by unfold upd;rw[if_neg h]
theorem Z2 {H:Hp}{a b:ah}{o u:HO}(h:H a=some o)(h':H b=some u)(d:o≠u):a≠b:=by
 intro e;subst e;rw[h]at h';exact d (Option.some.inj h')
theorem zj {H:Hp}{a b:ah}{o:HO}(h:H a=some o)(h':H b=none):a≠b:=by
 intro e;subst e;rw[h]at h';cases h'
section
variable (P:bg)(w:bN)
def dF (H:Hp)(h:aI)(a:ah):HO->Prop
  |.lst xs=>xs.length<=sizeLine/\∃(cj:List ae) (n:Nat),bM xs cj/\h.get? a=some { cls:=.type "list",data:=.seq cj.toArray n }
  |.tup xs=>xs.length<=sizeLine/\∃cj:List ae,bM xs cj/\IsTup h a cj.toArray
  |.dK cq=>cq.length<=sizeLine/\(a==ez)=false/\∃vs,KV cq vs/\h.DictOf (dZ P w) a vs
  |.dT cq=>cq.length<=sizeLine/\(a==ez)=false/\∃xs:List (List eO×ah×ae),
      Paired (λ(p:List eO×V) (q:List eO×ah×ae)=>p.1=q.1/\H q.2.1=some (.tup (p.1.map kV))/\RelV p.2 q.2.2) cq xs /\
      ∃o es ep,h.get? a=some o/\o.ExactDict/\o.data=.dict es ep/\es.toList=xs.map (entryOfKey (kF (dZ P w)))/\(xs.map (·.1)).Nodup
  |.set S n=>h.SetOf (intKind P w) a S n
  |.ins C dx fs=>H dx=some (.own a)/\fs.length<=1000/\dx≠a/\h.get? a=some (dA C dx) /\
      ∃mA,h.Ns1 dx mA/\(∀f,i9 (fs.lookup f) (mA f))/\PySem.Within mA (fs.map (·.1))
  |.own _=>∃o,h.get? a=some o
  |.xd fs=>∃mA,h.Ns1 a mA/\∀f,i9 (fs.lookup f) (mA f)
  |.rng lo hi=>∃t u v,h.get? a=some { cls:=.type "range",data:=.fields #[.int lo t,.int hi u,.int 1 v] }
  |.frz o u=>h.get? a=some o/\dF H h a u
  |.tbl ps=>h.get? a=some { cls:=.none,data:=.fields ps }
  |.met f x=>h.get? a=some (kc (.ref f) (.ref x))
  |.ext φ=>φ h/\(∃o,h.get? a=some o)/\∀h1 h2:aI,φ h1->(∀o,h1.get? a=some o->h2.get? a=some o)->φ h2
def jS (H:Hp)(h:aI):Prop:=∀a o,H a=some o->dF P w H h a o
end
section
variable {P:bg}{w:bN}{H H':Hp}{h h':aI}{a:ah}{o:HO}
theorem dF.lt (x:dF P w H h a o):a<h.objs.size:=by
 cases o with
 |lst xs=>obtain⟨_,_,_,_,e⟩:=x;exact aF e
 |tup xs=>obtain⟨_,_,_,p⟩:=x;exact p.lt
 |dK cq=>obtain⟨_,_,_,_,o,_,_,e,_⟩:=x;exact aF e
 |dT cq=>obtain⟨_,_,_,_,o,_,_,e,_⟩:=x;exact aF e
 |set S n=>obtain⟨o,_,_,_,e,_⟩:=x;exact aF e
 |ins C dx fs=>obtain⟨_,_,_,e,_⟩:=x;exact aF e
 |own y=>obtain⟨_,e⟩:=x;exact aF e
 |xd fs=>obtain⟨_,⟨_,_,_,e,_⟩,_⟩:=x;exact aF e
 |rng lo hi=>obtain⟨_,_,_,e⟩:=x;exact aF e
 |frz ob u=>obtain⟨e,_⟩:=x;exact aF e
 |tbl ps=>exact aF (show h.get? a=some _ from x)
 |met f y=>exact aF (show h.get? a=some _ from x)
 |ext φ=>obtain⟨_,⟨_,e⟩,_⟩:=x;exact aF e
theorem Paired.mapP {α β:Type}{F G:α->β->Prop}:∀{l₁:List α} {l₂:List β},Paired F l₁ l₂->(∀a b,F a b->G a b)->Paired G l₁ l₂
 |_,_,.nil,_=>.nil
 |_,_,.cons r t,f=>.cons (f _ _ r) (Paired.mapP t f)
theorem dF.stay (x:dF P w H h a o)(k:∀b u,(b=a\/H b=some (.own a))->h.get? b=some u->h'.get? b=some u)
    (ho:∀b,H b=some (.own a)->H' b=some (.own a)) (ht:∀b xs,H b=some (.tup xs)->H' b=some (.tup xs)):dF P w H' h' a o:=by
  induction o with
  |lst xs=>obtain⟨z,cj,n,r,e⟩:=x;exact⟨z,cj,n,r,k _ _ (.inl rfl) e⟩
  |tup xs=>obtain⟨z,cj,r,ob,e,c⟩:=x;exact⟨z,cj,r,ob,k _ _ (.inl rfl) e,c⟩
  |dK cq=>obtain⟨z,y,vs,r,ob,es,ep,e,c⟩:=x;exact⟨z,y,vs,r,ob,es,ep,k _ _ (.inl rfl) e,c⟩
  |dT cq=>
    obtain⟨z,y,xs,r,ob,es,ep,e,c⟩:=x
    exact⟨z,y,xs,Paired.mapP r λp q z=>⟨z.1,ht _ _ z.2.1,z.2.2⟩,ob,es,ep,k _ _ (.inl rfl) e,c⟩
  |set S n=>obtain⟨ob,es,ep,t,e,c⟩:=x;exact⟨ob,es,ep,t,k _ _ (.inl rfl) e,c⟩
  |ins C dx fs=>
    obtain⟨d,z,ne,e,mA,⟨od,es,ep,e2,c⟩,r⟩:=x
    exact⟨ho _ d,z,ne,k _ _ (.inl rfl) e,mA,⟨od,es,ep,k _ _ (.inr d) e2,c⟩,r⟩
  |own y=>obtain⟨ob,e⟩:=x;exact⟨ob,k _ _ (.inl rfl) e⟩
  |xd fs=>obtain⟨mA,⟨od,es,ep,e,c⟩,r⟩:=x;exact⟨mA,⟨od,es,ep,k _ _ (.inl rfl) e,c⟩,r⟩
  |rng lo hi=>obtain⟨t,u,v,e⟩:=x;exact⟨t,u,v,k _ _ (.inl rfl) e⟩
  |frz ob u ih=>obtain⟨e,q⟩:=x;exact⟨k _ _ (.inl rfl) e,ih q⟩
  |tbl ps=>
    have e:h.get? a=some { cls:=.none,data:=.fields ps }:=x
    show h'.get? a=some { cls:=.none,data:=.fields ps }
    exact k a _ (.inl rfl) e
  |met f y=>
    have e:h.get? a=some (kc (.ref f) (.ref y)):=x
    show h'.get? a=some (kc (.ref f) (.ref y))
    exact k a _ (.inl rfl) e
  |ext φ=>obtain⟨p,⟨o,e⟩,st⟩:=x;exact⟨st _ _ p λo q=>k _ _ (.inl rfl) q,⟨o,k _ _ (.inl rfl) e⟩,st⟩
theorem jS.lt (x:jS P w H h)(e:H a=some o):a<h.objs.size:=(x a o e).lt
theorem jS.fresh (x:jS P w H h)(e:h.objs.size<=a):H a=none:=by
 cases q:H a with
 |none=>rfl
 |some u=>exact absurd (aX (x.lt q) e) (eu _)
theorem jS.kept (x:jS P w H h)(k:∀b u,h.get? b=some u->h'.get? b=some u):jS P w H h':=λa o e=>
 (x a o e).stay (λb u _ q=>k b u q) (λ_ q=>q) λ_ _ q=>q
theorem jS.laid (x:jS P w H h)(k:∀b u,h.get? b=some u->h'.get? b=some u)(hp:h.objs.size<=a)(new:dF P w (upd H a o) h' a o):jS P w (upd H a o) h':=λb u e=>by
 have hn:=x.fresh hp
 by_cases hb:b=a
 ·subst hb;rw[zk]at e;cases e;exact new
 ·rw[zh hb]at e
  exact(x b u e).stay (λc v _ q=>k c v q) (λc q=>by rw[zh (zj q hn)];exact q) λc xs q=>by rw[zh (zj q hn)];exact q
end
def Rd (H:Hp)(a:ah)(u:HO):Prop:=H a=some u\/∃o,H a=some (.frz o u)
theorem Rd.ok {P:bg}{w:bN}{H:Hp}{h:aI}{a:ah}{u:HO}(r:Rd H a u)(x:jS P w H h):dF P w H h a u:=by
 rcases r with r|⟨o,r⟩
 ·exact x a u r
 ·obtain⟨_,q⟩:=x a _ r
  exact q
def As:Option HO->Prop
 |some (.lst _)=>True
 |some (.dK _)=>True
 |some (.dT _)=>True
 |some (.set _ _)=>True
 |some (.ins _ _ _)=>True
 |some (.ext _)=>True
 |_=>False
section
variable {P:bg}{w:bN}{H:Hp}{h h':aI}{x e:ah}{o':HO}
theorem jS.write (ok:jS P w H h)(mu:As (H x))(he:e=x\/H e=some (.own x))(k:∀b u,b≠e->h.get? b=some u->h'.get? b=some u)(zQ:∃u,h'.get? e=some u)
  (new:dF P w (upd H x o') h' x o'):jS P w (upd H x o') h':=λb u q=>by
 have De:∀c y,H c=some (.own y)->c≠x:=λc y r z=>by subst z;rw[r]at mu;exact mu
 have Jn:∀c xs,H c=some (.tup xs)->c≠x:=λc xs r z=>by subst z;rw[r]at mu;exact mu
 by_cases hb:b=x
 ·subst hb;rw[zk]at q;cases q;exact new
 ·rw[zh hb]at q
  by_cases xK:b=e
  ·have q':H b=some (.own x):=by
    rcases he with z|z
    ·exact absurd (xK.trans z) hb
    ·rw[xK];exact z
   rw[q]at q';cases q'
   obtain⟨v,hv⟩:=zQ
   exact⟨v,by rw[xK];exact hv⟩
  ·refine(ok b u q).stay (λc v hc r=>k c v ?_ r) (λc r=>by rw[zh (De c b r)];exact r) λc xs r=>by rw[zh (Jn c xs r)];exact r
   rcases hc with rfl|hc
   ·exact xK
   ·rintro rfl
    rcases he with z|z
    ·exact De c b hc z
    ·rw[hc]at z;cases z;exact hb rfl
end
structure Un (fs ex:List ah)(H H':Hp)(h h':aI):Prop where
 keep:∀b o,h.get? b=some o->H b=none->b∉fs->b∉ex->h'.get? b=some o
 slot:∀b o,h.get? b=some o->H b=none->b∈fs->b∉ex->∃sl,h'.get? b=some { o with slots:=sl }
 free:∀b o,h.get? b=some o->H b=none->b∉ex->H' b=none
 there:∀b o,h.get? b=some o->b∉ex->∃o',h'.get? b=some o'
 tups:∀b xs,H b=some (.tup xs)->H' b=some (.tup xs)
 frzs:∀b o u,H b=some (.frz o u)->H' b=some (.frz o u)
 tbls:∀b ps,H b=some (.tbl ps)->∃more,H' b=some (.tbl (ps++more))
section
variable {fs QX ex ex':List ah}{H H1 H2:Hp}{h h1 h2 h':aI}{a x e:ah}{o:HO}
theorem Un.any (u:Un fs ex H H1 h h1){b:ah}{ob:cN}(q:h.get? b=some ob)(n:H b=none)(hx:b∉ex):∃sl,h1.get? b=some { ob with slots:=sl }:=by
 by_cases hb:b∈fs
 ·exact u.slot b ob q n hb hx
 ·exact⟨ob.slots,u.keep b ob q n hb hx⟩
theorem Un.kept (k:∀b u,h.get? b=some u->h'.get? b=some u):Un fs ex H H h h' :=
 ⟨λb ob q _ _ _=>k b ob q,λb ob q _ _ _=>⟨ob.slots,k b ob q⟩,λ_ _ _ n _=>n,λb ob q _=>⟨ob,k b ob q⟩,λ_ _ q=>q,λ_ _ _ q=>q,λ_ ps q=>⟨#[],by rw[q];simp⟩⟩
theorem Un.refl:Un fs ex H H h h:=Un.kept λ_ _ q=>q
theorem Un.laid (k:∀b u,h.get? b=some u->h'.get? b=some u)(hp:h.objs.size<=a)(hn:H a=none):Un fs ex H (upd H a o) h h' where
 keep:=λb u q _ _ _=>k b u q
 slot:=λb u q _ _ _=>⟨u.slots,k b u q⟩
 free:=λb u q n _=>by rw[zh (aY (aX (aF q) hp))];exact n
 there:=λb u q _=>⟨u,k b u q⟩
 tups:=λb xs q=>by rw[zh (zj q hn)];exact q
 frzs:=λb u xs q=>by rw[zh (zj q hn)];exact q
 tbls:=λb ps q=>⟨#[],by rw[zh (zj q hn),q];simp⟩
theorem Un.write (mu:As (H x))(he:e=x\/H e=some (.own x))(k:∀b u,b≠e->h.get? b=some u->h'.get? b=some u)(zQ:∃u,h'.get? e=some u):Un fs ex H (upd H x o) h h':=by
 have hx:∀b,H b=none->b≠x:=λb n z=>by subst z;rw[n]at mu;exact mu
 have hb:∀b,H b=none->b≠e:=λb n z=>by
  subst z
  rcases he with r|r
  ·exact hx b n r
  ·rw[n]at r;cases r
 have hm:∀b u,H b=some u->¬As (some u)->b≠x:=λb u q nm z=>by subst z;rw[q]at mu;exact nm mu
 refine⟨λb u q n _ _=>k b u (hb b n) q,λb u q n _ _=>⟨u.slots,k b u (hb b n) q⟩,λb u q n _=>by rw[zh (hx b n)];exact n,λb u q _=>?_,
  λb xs q=>by rw[zh (hm b _ q λz=>z)];exact q,λb u xs q=>by rw[zh (hm b _ q λz=>z)];exact q,λb ps q=>⟨#[],by rw[zh (hm b _ q λz=>z),q];simp⟩⟩
 by_cases xK:b=e
 ·subst xK;exact zQ
 ·exact⟨u,k b u xK q⟩
end
def FI (h:aI)(H:Hp):List ah:=(av h.objs.size).filter λa=>(H a).isSome
def nw (h:aI)(H:Hp):aI:=PySem.W.hideAll h (FI h H)
theorem V2 (h:aI)(H:Hp):(nw h H).objs.size=h.objs.size:=PySem.W.hideAll_size _ _
theorem WC {h:aI}{H:Hp}{b:ah}{o:cN}(e:h.get? b=some o)(n:H b=none):(nw h H).get? b=some o :=
 PySem.W.hideAll_get _ e λhm=>by
  have q:(H b).isSome=true:=(aM.mp hm).2
  rw[n]at q;simp at q
theorem Xu {h:aI}{H:Hp}{b:ah}{o:cN}(e:(nw h H).get? b=some o):h.get? b=some o/\H b=none:=by
 have e':h.get? b=some o:=PySem.W.of_hideAll (FI h H) e
 refine⟨e',?_⟩
 cases q:H b with
 |none=>rfl
 |some x=>
  have hm:b∈FI h H:=aM.mpr ⟨aP.mpr (aF e'),by simp[q]⟩
  have z:(nw h H).get? b=none:=PySem.W.hideAll_none (FI h H) hm
  rw[z]at e;cases e
def tG (g h:aI)(L:ah):List (ah×cN):=(av h.objs.size).filterMap λa=>if a=L\/(g.get? a).isSome=true then none else(h.get? a).map λo=>(a,o)
def rest (g h:aI)(L d:ah):List (ah×cN):=(tG g h L).filter λp=>decide (p.1≠d)
end L2
namespace L2
open PySem PySem.Spec PyProof.Rows
structure Mod (K:aa)(mg:aJ->Option ae)(base:aI):Prop where
 kin:K.In base
 glob:base.Ns ax mg
 blt:∃mb,base.Ns uC mb/\∀x:aJ,x≠"__name__"->mb x=bZ x
 nolimit:base.NoLimit
structure Cx where
 prog:bg
 w:bN
 K:aa
 mg:aJ->Option ae
 base:aI
 A:bx
 N:List aJ
 s₀:aj
 H₀:Hp
 env:Env
 outer:List Env
 stack:List Env
 ex:List ah
 fn:aJ->Bool
 calm:Bool
 pn:List (ah×cN)
 xe:ae->aj->Prop
def qZ (l:List Env):List ah:=l.filterMap (·.frame)
abbrev Cx.fs (X:Cx):List ah:=qZ X.outer
def qC (sc:fC)(x:aJ):Prop:=sc.names.lookup x=some .local\/sc.names.lookup x=some .cell\/sc.names.lookup x=some .free
def Loc (sc:fC)(x:aJ):Prop:=sc.names.lookup x=some .local\/sc.names.lookup x=some .cell
def Look (env:Env)(h:aI)(m:aJ->Option ae)(x:aJ)(u:ae):Prop :=
 (env.kindOf x=some .local/\m x=some u)\/((env.kindOf x=some .cell\/env.kindOf x=some .free)/\∃c,env.cells.lookup x=some c/\h.IsCell c (some u))
structure Cx.Ok (X:Cx):Prop where
 mod:Mod X.K X.mg X.base
 kind:X.env.scope.kind=.function
 glob:X.env.globals=ax
 blt:X.env.builtins=uC
 above:X.s₀.heap.objs.size<=X.env.locals
 inj:∀x y c,X.env.cells.lookup x=some c->X.env.cells.lookup y=some c->x=y
 has:∀x,(X.env.kindOf x=some .cell\/X.env.kindOf x=some .free)->∃c,X.env.cells.lookup x=some c
 cab:∀x c,X.fn x=true->X.env.cells.lookup x=some c->X.s₀.heap.objs.size<=c
 hd:X.calm=true->X.A.handled=none
 frames:X.A.frames=some X.stack
 stk:X.stack=X.outer\/(X.stack=X.env::X.outer/\X.env.frame=some X.env.locals)
 exf:∀b∈X.ex,b≠X.env.locals/\∀x c,X.env.cells.lookup x=some c->c≠b
 bs:∀b o,X.base.get? b=some o->X.s₀.heap.get? b=some o/\X.H₀ b=none
 bsz:X.base.objs.size<=X.s₀.heap.objs.size
 noex:∀b o,X.base.get? b=some o->b∉X.ex
 exfs:∀b∈X.ex,b∉X.fs
 funs:X.s₀.heap.FunFrames X.base X.outer
 frf:∀b∈X.fs,X.H₀ b=none
structure Inv (X:Cx)(af:List (ah×cN))(σ:List (Option V))(H:Hp)(s:aj):Prop where
 ok:X.Ok
 os:s.os=X.s₀.os
 bare:AllBare s.gens
 base:Un X.fs X.ex X.H₀ H X.s₀.heap s.heap
 loc:∃m,s.heap.Ns X.env.locals m/\∀(i:Nat) (x:aJ) (v:V),X.N[i]?=some x->σ[i]?=some (some v)->qC X.env.scope x->∃u,RelV v u/\Look X.env s.heap m x u
 cell:∀x c,X.env.cells.lookup x=some c->∃v,s.heap.IsCell c v
 free:H X.env.locals=none
 freeC:∀x c,X.env.cells.lookup x=some c->H c=none
 pin:∀p∈X.pn++af,s.heap.get? p.1=some p.2/\H p.1=none/\p.1≠X.env.locals/\p.1∉X.fs/\∀v,p.2.data≠.cell v
 hok:jS X.prog X.w H s.heap
 len:σ.length=X.N.length
section
variable {X:Cx}{af:List (ah×cN)}{σ:List (Option V)}{H H':Hp}{s:aj}{h':aI}
theorem Cx.Ok.nofr (ok:X.Ok){b:ah}{o:cN}(e:X.base.get? b=some o):b∉X.fs:=λhb=>by
 have:=(ok.funs.mem hb).1
 rw[e]at this;cases this
theorem Inv.bs (I:Inv X af σ H s):∀b o,X.base.get? b=some o->s.heap.get? b=some o/\H b=none:=λb o e=>
 ⟨I.base.keep b o (I.ok.bs b o e).1 (I.ok.bs b o e).2 (I.ok.nofr e) (I.ok.noex b o e),I.base.free b o (I.ok.bs b o e).1 (I.ok.bs b o e).2 (I.ok.noex b o e)⟩
theorem Inv.bk (I:Inv X af σ H s):∀b o,X.base.get? b=some o->s.heap.get? b=some o:=λb o e=>(I.bs b o e).1
theorem Inv.mod (I:Inv X af σ H s):Mod X.K X.mg X.base:=I.ok.mod
theorem Inv.kIn (I:Inv X af σ H s):X.K.In s.heap:=I.ok.mod.kin.keeps I.bk
theorem Inv.fr (I:Inv X af σ H s):∃m,Fr X.base X.env.locals s.heap m :=
 let⟨m,hn,_⟩:=I.loc
 ⟨m,hn,I.bk,bX I.ok.bsz I.ok.above⟩
theorem Inv.lt (I:Inv X af σ H s):X.env.locals<s.heap.objs.size:=let⟨_,hn,_⟩:=I.loc;hn.lt
theorem Inv.sz (I:Inv X af σ H s):X.s₀.heap.objs.size<=s.heap.objs.size:=bX I.ok.above (kN I.lt)
theorem Inv.nofs (I:Inv X af σ H s){a:ah}(h:s.heap.objs.size<=a):a∉X.fs:=λhb=>by
 obtain⟨_,o,ho,_⟩:=I.ok.funs.mem hb
 exact absurd (aX (aF ho) (bX I.sz h)) (eu _)
theorem Inv.cne (I:Inv X af σ H s):∀x c,X.env.cells.lookup x=some c->c≠X.env.locals:=λx c e z=>by
 obtain⟨v,o,ho,hd⟩:=I.cell x c e
 obtain⟨m,⟨o',es,ep,xW,Ii,_⟩,_⟩:=I.loc
 rw[z,xW]at ho;cases ho;rw[Ii]at hd;cases hd
theorem Inv.funs (I:Inv X af σ H s):s.heap.FunFrames X.base X.outer:=by
 have all:∀(l:List Env),(∀b∈qZ l,b∈X.fs)->X.s₀.heap.FunFrames X.base l->s.heap.FunFrames X.base l:=by
  intro l
  induction l with
  |nil=>intro _ _;trivial
  |cons env r ih=>
   intro hs hl
   obtain⟨hk,⟨L,o,hf,hn,ho,hd⟩,hr⟩:=hl
   have hL:L∈X.fs:=hs L (by unfold qZ;rw[jN,hf];exact ai)
   obtain⟨sl,e⟩:=I.base.slot L o ho (I.ok.frf L hL) hL λz=>I.ok.exfs L z hL
   exact⟨hk,⟨L,_,hf,hn,e,hd⟩,ih (λb hb=>hs b (by unfold qZ;rw[jN,hf];exact ao _ hb)) hr⟩
 exact all X.outer (λ_ hb=>hb) I.ok.funs
theorem Inv.stack (I:Inv X af σ H s):s.heap.FunFrames X.base X.stack:=by
 rcases I.ok.stk with e|⟨e,hf⟩
 ·rw[e];exact I.funs
 ·rw[e]
  obtain⟨m,hn,_⟩:=I.loc
  refine .cons (by rw[I.ok.kind];decide) hf hn ?_ I.funs
  exact oM (bX I.ok.bsz I.ok.above)
theorem Inv.stkSub (I:Inv X af σ H s):∀b∈qZ X.stack,b∈X.env.locals::X.fs:=λb hb=>by
 rcases I.ok.stk with e|⟨e,hf⟩
 ·rw[e]at hb;exact ao _ hb
 ·rw[e]at hb
  unfold qZ at hb
  rw[jN,hf]at hb
  exact hb
theorem Inv.stkFree (I:Inv X af σ H s):∀b∈qZ X.stack,H b=none:=λb hb=>by
 rcases aB.mp (I.stkSub b hb)with e|hb
 ·rw[e];exact I.free
 ·obtain⟨_,o,ho,_⟩:=I.ok.funs.mem hb
  exact I.base.free b o ho (I.ok.frf b hb) λz=>I.ok.exfs b z hb
theorem Inv.step {g':Array GenState}{t':Nat}{d':Drawn}{ch:List ah}(I:Inv X af σ H s)
  (lA:∀b∈ch,(b∈X.ex\/X.s₀.heap.objs.size<=b)/\b≠X.env.locals/\(∀x c,X.env.cells.lookup x=some c->c≠b)/\∀p∈X.pn++af,p.1≠b)
  (keep:∀b o,b≠X.env.locals->b∉X.fs->b∉ch->s.heap.get? b=some o->H b=none->h'.get? b=some o)
  (slot:∀b o,b≠X.env.locals->b∈X.fs->b∉ch->s.heap.get? b=some o->H b=none->∃sl,h'.get? b=some { o with slots:=sl }) (free:∀b o,b∉ch->s.heap.get? b=some o->H b=none->H' b=none)
  (there:∀b o,b∉ch->s.heap.get? b=some o->∃o',h'.get? b=some o')
  (tups:∀b xs,H b=some (.tup xs)->H' b=some (.tup xs)) (frzs:∀b o u,H b=some (.frz o u)->H' b=some (.frz o u)) (tbls:∀b ps,H b=some (.tbl ps)->∃more,H' b=some (.tbl (ps++more)))
  (ns:∀m,s.heap.Ns X.env.locals m->h'.Ns X.env.locals m) (hok:jS X.prog X.w H' h') (hg:AllBare g') :
  Inv X af σ H' { s with heap:=h',gens:=g',drawn:=d',toks:=t' }:=by
 have zW:∀b o,X.s₀.heap.get? b=some o->b≠X.env.locals:=λb o e=>aY (aX (aF e) I.ok.above)
 have Fx:∀b o,X.s₀.heap.get? b=some o->b∉X.ex->b∉ch:=λb o e hx hb=>by
  rcases(lA b hb).1 with z|z
  ·exact hx z
  ·exact absurd (aX (aF e) z) (eu _)
 have cellK:∀x c,X.env.cells.lookup x=some c->∀v,s.heap.IsCell c v->h'.IsCell c v:=λx c e v ⟨o,ho,hd⟩=>by
  have C8:c∉ch:=λz=>(lA c z).2.2.1 x c e rfl
  by_cases hc:c∈X.fs
  ·obtain⟨sl,q⟩:=slot c o (I.cne x c e) hc C8 ho (I.freeC x c e)
   exact⟨_,q,hd⟩
  ·exact⟨o,keep c o (I.cne x c e) hc C8 ho (I.freeC x c e),hd⟩
 refine⟨I.ok,I.os,hg,⟨λb o e n hb hx=>?_,λb o e n hb hx=>?_,λb o e n hx=>?_,λb o e hx=>?_,λb xs e=>tups b xs (I.base.tups b xs e),λb o xs e=>frzs b o xs (I.base.frzs b o xs e),λb ps e=>?_⟩,?_,λx c e=>?_,?_,λx c e=>?_,λp hp=>?_,hok,I.len⟩
 ·exact keep b o (zW b o e) hb (Fx b o e hx) (I.base.keep b o e n hb hx) (I.base.free b o e n hx)
 ·obtain⟨sl,e1⟩:=I.base.slot b o e n hb hx
  obtain⟨Jy,e2⟩:=slot b _ (zW b o e) hb (Fx b o e hx) e1 (I.base.free b o e n hx)
  exact⟨Jy,e2⟩
 ·obtain⟨o',e1⟩:=I.base.there b o e hx
  exact free b o' (Fx b o e hx) e1 (I.base.free b o e n hx)
 ·obtain⟨o',e1⟩:=I.base.there b o e hx
  exact there b o' (Fx b o e hx) e1
 ·obtain⟨m1,e1⟩:=I.base.tbls b ps e
  obtain⟨m2,e2⟩:=tbls b _ e1
  exact⟨m1++m2,by rw[e2,Array.append_assoc]⟩
 ·obtain⟨m,hn,hl⟩:=I.loc
  refine⟨m,ns m hn,λi x v e1 e2 e3=>?_⟩
  obtain⟨u,r,l⟩:=hl i x v e1 e2 e3
  refine⟨u,r,?_⟩
  rcases l with l|⟨k,c,e,z⟩
  ·exact .inl l
  ·exact .inr ⟨k,c,e,cellK x c e _ z⟩
 ·obtain⟨v,z⟩:=I.cell x c e
  exact⟨v,cellK x c e v z⟩
 ·obtain⟨m,⟨o,_,_,ho,_⟩,_⟩:=I.loc
  exact free _ o (λz=>(lA _ z).2.1 rfl) ho I.free
 ·obtain⟨v,o,ho,hd⟩:=I.cell x c e
  exact free c o (λz=>(lA c z).2.2.1 x c e rfl) ho (I.freeC x c e)
 ·obtain⟨e,n,ne,nf,d⟩:=I.pin p hp
  have C8:p.1∉ch:=λz=>(lA p.1 z).2.2.2 p hp rfl
  exact⟨keep p.1 p.2 ne nf C8 e n,free p.1 p.2 C8 e n,ne,nf,d⟩
theorem Inv.un {t':Nat}(I:Inv X af σ H s)(u:Un X.fs [] H H' s.heap h')(hok:jS X.prog X.w H' h'):Inv X af σ H' { s with heap:=h',toks:=t' }:=by
 obtain⟨m,⟨o,es,ep,ho,r⟩,_⟩:=id I.loc
 obtain⟨sl,hL⟩:=u.any ho I.free (by simp)
 exact I.step (g':=s.gens) (d':=s.drawn) (ch:=[]) (λ_ z=>nomatch z) (λb o _ hb _ e n=>u.keep b o e n hb (by simp)) (λb o _ hb _ e n=>u.slot b o e n hb (by simp)) (λb o _ e n=>u.free b o e n (by simp)) (λb o _ e=>u.there b o e (by simp)) u.tups u.frzs u.tbls (λm' hm=>by
  obtain⟨o',Hg,Hf,xW,r'⟩:=hm
  rw[ho]at xW;cases xW
  exact⟨_,Hg,Hf,hL,r'⟩) hok I.bare
theorem Inv.call {g':Array GenState}{t':Nat}{d':Drawn}{ch:List ah}(I:Inv X af σ H s)(u:Un (qZ X.stack) ch H H' s.heap h')(hok:jS X.prog X.w H' h')(hg:AllBare g')
  (lA:∀b∈ch,(b∈X.ex\/X.s₀.heap.objs.size<=b)/\b≠X.env.locals/\(∀x c,X.env.cells.lookup x=some c->c≠b)/\∀p∈X.pn++af,p.1≠b) :
  Inv X af σ H' { s with heap:=h',gens:=g',drawn:=d',toks:=t' }:=by
 obtain⟨m,⟨o,es,ep,ho,r⟩,_⟩:=id I.loc
 obtain⟨sl,hL⟩:=u.any ho I.free λz=>(lA _ z).2.1 rfl
 exact I.step (ch:=ch) lA (λb o hL hb hc e n=>u.keep b o e n (λz=>(aB.mp (I.stkSub b z)).elim hL hb) hc) (λb o _ _ hc e n=>u.any e n hc) (λb o hc e n=>u.free b o e n hc) (λb o hc e=>u.there b o e hc) u.tups u.frzs u.tbls (λm' hm=>by
  obtain⟨o',Hg,Hf,xW,r'⟩:=hm
  rw[ho]at xW;cases xW
  exact⟨_,Hg,Hf,hL,r'⟩) hok hg
theorem Inv.turned {t':Nat}{it:ah}(I:Inv X af σ H s)(k:∀b o,b≠it->s.heap.get? b=some o->h'.get? b=some o)(hn:H it=none)(hL:it≠X.env.locals)
  (h1:it∈X.ex\/X.s₀.heap.objs.size<=it) (h2:∀x c,X.env.cells.lookup x=some c->c≠it) (h3:∀p∈X.pn++af,p.1≠it):Inv X af σ H { s with heap:=h',toks:=t' }:=by
 have Mg:∀b u,H b=some u->b≠it:=λb u e z=>by rw[z,hn]at e;cases e
 refine I.step (g':=s.gens) (d':=s.drawn) (ch:=[it]) (λb hb=>?_) (λb o _ _ hc e _=>k b o (λz=>hc (by simp[z])) e) (λb o _ _ hc e _=>⟨o.slots,k b o (λz=>hc (by simp[z])) e⟩) (λ_ _ _ _ n=>n)
  (λb o hc e=>⟨o,k b o (λz=>hc (by simp[z])) e⟩) (λ_ _ e=>e) (λ_ _ _ e=>e) (λb ps e=>⟨#[],by rw[e];simp⟩) (λm hm=>?_) (λb u e=>?_) I.bare
 ·have e:b=it:=by simpa using hb
  subst e
  exact⟨h1,hL,h2,h3⟩
 ·obtain⟨o,es,ep,ho,r⟩:=hm
  exact⟨o,es,ep,k _ o (Ne.symm hL) ho,r⟩
 ·refine(I.hok b u e).stay (λc v hc q=>k c v ?_ q) (λ_ q=>q) λ_ _ q=>q
  rcases hc with z|z
  ·rw[z];exact Mg b u e
  ·exact Mg c _ z
theorem Inv.tok (I:Inv X af σ H s)(t:Nat):Inv X af σ H { s with toks:=t }:=I.un (h':=s.heap) (t':=t) Un.refl I.hok
theorem Inv.kept {t':Nat}(I:Inv X af σ H s)(k:∀b u,s.heap.get? b=some u->h'.get? b=some u):Inv X af σ H { s with heap:=h',toks:=t' }:=I.un (Un.kept k) (I.hok.kept k)
theorem Inv.laid {a:ah}{o:HO}{t':Nat}(I:Inv X af σ H s)(k:∀b u,s.heap.get? b=some u->h'.get? b=some u)(hp:s.heap.objs.size<=a)(new:dF X.prog X.w (upd H a o) h' a o) :
  Inv X af σ (upd H a o) { s with heap:=h',toks:=t' }:=I.un (Un.laid k hp (I.hok.fresh hp)) (I.hok.laid k hp new)
theorem Inv.write {x e:ah}{o:HO}{t':Nat}(I:Inv X af σ H s)(mu:As (H x))(he:e=x\/H e=some (.own x))(k:∀b u,b≠e->s.heap.get? b=some u->h'.get? b=some u)(zQ:∃u,h'.get? e=some u)
  (new:dF X.prog X.w (upd H x o) h' x o):Inv X af σ (upd H x o) { s with heap:=h',toks:=t' }:=I.un (Un.write mu he k zQ) (I.hok.write mu he k zQ new)
theorem Inv.weak {σ':List (Option V)}(I:Inv X af σ H s)(hl:σ'.length = σ.length)(w:∀(i:Nat) v,σ'[i]?=some (some v)->σ[i]?=some (some v)):Inv X af σ' H s :=
 ⟨I.ok,I.os,I.bare,I.base,let⟨m,hn,Ff⟩:=I.loc;⟨m,hn,λi x v e1 e2 e3=>Ff i x v e1 (w i v e2) e3⟩,I.cell,I.free,I.freeC,I.pin,I.hok,hl.trans I.len⟩
theorem Inv.pins_of {vB:List (ah×cN)}(I:Inv X af σ H s)(h:∀p∈vB,s.heap.get? p.1=some p.2/\H p.1=none/\p.1≠X.env.locals/\p.1∉X.fs/\∀v,p.2.data≠.cell v):Inv X vB σ H s :=
 ⟨I.ok,I.os,I.bare,I.base,I.loc,I.cell,I.free,I.freeC,λp hp=>(bC.mp hp).elim (λz=>I.pin p (bq _ z)) (h p),I.hok,I.len⟩
theorem Ka {N:List aJ}(hN:N.Nodup){i j:Nat}{x:aJ}(a:N[i]?=some x)(b:N[j]?=some x):i=j:=by
 obtain⟨h1,e1⟩:=aT.mp a
 obtain⟨h2,e2⟩:=aT.mp b
 exact(kY hN).mp (e1.trans e2.symm)
theorem Nl {M:Model}{A:bx}{E:ae->aj->Prop}{i:Nat}{x:aJ}{v:V}{u:ae}{Q:Unit->aj->Prop}(I:Inv X af σ H s)(hN:X.N.Nodup)(hi:X.N[i]?=some x)(hx:Loc X.env.scope x)(r:RelV v u)
  (h:∀s',Inv X af (σ.set i (some v)) H s'->(∃a,gD a s.heap s'.heap/\(a=X.env.locals\/X.env.cells.lookup x=some a))->Q () s') (hf:X.fn x=true\/X.env.scope.names.lookup x=some .local:=by first|exact .inl rfl|exact .inr rfl|assumption):aN M A (storeName X.env x u) Q E s:=by
 obtain⟨m,hn,hl⟩:=id I.loc
 have xM:(X.env.scope.kind==.class || (X.env.scope.kind==.module&&X.env.locals != X.env.globals))=false:=by rw[I.ok.kind];rfl
 have LM:i < σ.length:=by rw[I.len];exact(aT.mp hi).1
 have cne:=I.cne
 have tracked:∀{a:ah} {h':aI},(∃o,s.heap.get? a=some o/\H a=none)->gD a s.heap h'->jS X.prog X.w H h':=λ{a h'} ha hs b ob e=>by
  obtain⟨_,_,uP⟩:=ha
  refine(I.hok b ob e).stay (λc w' hc q=>(hs.2 c ?_).trans q) (λ_ q=>q) λ_ _ q=>q
  rintro rfl
  rcases hc with rfl|hc
  ·rw[uP]at e;cases e
  ·rw[uP]at hc;cases hc
 rcases hx with hk|hk
 ·refine wpAny_storeName_local hk hn (λh' uQ hs=>?_) xM
  obtain⟨oL,_,_,LQ,_⟩:=id hn
  refine h _ ⟨I.ok,I.os,I.bare,⟨λb o e n hb hx=>?_,λb o e n hb hx=>?_,I.base.free,λb o e hx=>?_,I.base.tups,I.base.frzs,I.base.tbls⟩,⟨_,uQ,λj y v' e1 e2 e3=>?_⟩,λy c e=>?_,I.free,I.freeC,λp hp=>?_,tracked ⟨oL,LQ,I.free⟩ hs,by simpa using I.len⟩ ⟨_,hs,.inl rfl⟩
  ·exact(hs.2 b (aY (aX (aF e) I.ok.above))).trans (I.base.keep b o e n hb hx)
  ·obtain⟨sl,e1⟩:=I.base.slot b o e n hb hx
   exact⟨sl,(hs.2 b (aY (aX (aF e) I.ok.above))).trans e1⟩
  ·obtain⟨o',e1⟩:=I.base.there b o e hx
   exact⟨o',(hs.2 b (aY (aX (aF e) I.ok.above))).trans e1⟩
  ·by_cases hj:j=i
   ·subst hj
    rw[hi]at e1;cases e1
    rw[d8 LM]at e2
    cases e2
    exact⟨u,r,.inl ⟨hk,by simp⟩⟩
   ·rw[dL (Ne.symm hj)]at e2
    obtain⟨u',r',q⟩:=hl j y v' e1 e2 e3
    refine⟨u',r',?_⟩
    rcases q with⟨k,e⟩|⟨k,c,e,z⟩
    ·refine .inl ⟨k,?_⟩
     have:y≠x:=λe=>hj (Ka hN e1 (e▸hi))
     simp[this,e]
    ·exact .inr ⟨k,c,e,z.sameBut hs (cne y c e)⟩
  ·obtain⟨w',z⟩:=I.cell y c e
   exact⟨w',z.sameBut hs (cne y c e)⟩
  ·obtain⟨e,n,ne,nf,d⟩:=I.pin p hp
   exact⟨(hs.2 p.1 ne).trans e,n,ne,nf,d⟩
 ·have rf:X.fn x=true:=by
   rcases hf with z|z
   ·exact z
   ·rw[z]at hk;cases hk
  obtain⟨c,hc⟩:=I.ok.has x (.inl hk)
  obtain⟨w',z⟩:=I.cell x c hc
  refine wpAny_storeName_cell I.ok.kind hk hc z (λh' uN hs=>?_)
  obtain⟨oc,LR,IK⟩:=id z
  refine h { s with heap:=h' } ⟨I.ok,I.os,I.bare,⟨λb o e n hb hx=>?_,λb o e n hb hx=>?_,I.base.free,λb o e hx=>?_,I.base.tups,I.base.frzs,I.base.tbls⟩,⟨m,hn.sameBut hs (Ne.symm (cne x c hc)),λj y v' e1 e2 e3=>?_⟩,λy c' e=>?_,I.free,I.freeC,λp hp=>?_,tracked ⟨oc,LR,I.freeC x c hc⟩ hs,by simpa using I.len⟩ ⟨c,hs,.inr hc⟩
  ·exact(hs.2 b (aY (aX (aF e) (I.ok.cab x c rf hc)))).trans (I.base.keep b o e n hb hx)
  ·obtain⟨sl,e1⟩:=I.base.slot b o e n hb hx
   exact⟨sl,(hs.2 b (aY (aX (aF e) (I.ok.cab x c rf hc)))).trans e1⟩
  ·obtain⟨o',e1⟩:=I.base.there b o e hx
   exact⟨o',(hs.2 b (aY (aX (aF e) (I.ok.cab x c rf hc)))).trans e1⟩
  ·by_cases hj:j=i
   ·subst hj
    rw[hi]at e1;cases e1
    rw[d8 LM]at e2
    cases e2
    exact⟨u,r,.inr ⟨.inl hk,c,hc,uN⟩⟩
   ·rw[dL (Ne.symm hj)]at e2
    obtain⟨u',r',q⟩:=hl j y v' e1 e2 e3
    refine⟨u',r',?_⟩
    rcases q with q|⟨k,c',e,z'⟩
    ·exact .inl q
    ·refine .inr ⟨k,c',e,z'.sameBut hs ?_⟩
     rintro rfl
     exact hj (Ka hN e1 (I.ok.inj _ _ _ e hc▸hi))
  ·by_cases LF:c'=c
   ·subst LF;exact⟨_,uN⟩
   ·obtain⟨w2,z2⟩:=I.cell y c' e
    exact⟨w2,z2.sameBut hs LF⟩
  ·obtain⟨e,n,ne,nf,d⟩:=I.pin p hp
   refine⟨(hs.2 p.1 ?_).trans e,n,ne,nf,d⟩
   intro q
   rw[q,LR]at e
   have q':oc=p.2:=Option.some.inj e
   exact d w' (by rw[←q'];exact IK)
theorem Ek {M:Model}{A:bx}{E:ae->aj->Prop}{i:Nat}{x:aJ}{v:V}{u:ae}{Q:Unit->aj->Prop}(I:Inv X af σ H s)(hN:X.N.Nodup)(hi:X.N[i]?=some x)(hx:Loc X.env.scope x)(r:RelV v u)
  (h:∀s',Inv X af (σ.set i (some v)) H s'->Q () s') (hf:X.fn x=true\/X.env.scope.names.lookup x=some .local:=by first|exact .inl rfl|exact .inr rfl|assumption):aN M A (storeName X.env x u) Q E s :=
 Nl I hN hi hx r (λs' I' _=>h s' I') hf
theorem Inv.call' {s':aj}{ch:List ah}(I:Inv X af σ H s)(ho:s'.os=s.os)(u:Un (qZ X.stack) ch H H' s.heap s'.heap)(hok:jS X.prog X.w H' s'.heap)(hg:AllBare s'.gens)
  (lA:∀b∈ch,(b∈X.ex\/X.s₀.heap.objs.size<=b)/\b≠X.env.locals/\(∀x c,X.env.cells.lookup x=some c->c≠b)/\∀p∈X.pn++af,p.1≠b):Inv X af σ H' s':=by
 obtain⟨h',g',d',t',o'⟩:=s'
 have e:o'=s.os:=ho
 subst e
 exact I.call (g':=g') (t':=t') (d':=d') u hok hg lA
end
abbrev XK:=ae->Option ah->Hp->Prop
abbrev St:=List (Option V)
abbrev VK:=V->Hp->Prop
abbrev TE:=St->Hp->VK->Prop
abbrev TT:=St->Hp->(Bool->Hp->Prop)->Prop
abbrev TA:=St->Hp->(List V->Hp->Prop)->Prop
structure gU where
 nx:St->Hp->Prop
 rt:VK
 bk:St->Hp->Prop:=λ_ _=>False
 ct:St->Hp->Prop:=λ_ _=>False
abbrev TS:=gU->St->Hp->Prop
def EP (X:Cx)(af:List (ah×cN))(σ:St)(Q:VK)(u:ae)(s':aj):Prop:=∃v H',Inv X af σ H' s'/\RelV v u/\Q v H'
def TP (X:Cx)(af:List (ah×cN))(σ:St)(Q:Bool->Hp->Prop)(b:Bool)(s':aj):Prop:=∃H',Inv X af σ H' s'/\Q b H'
def AP (X:Cx)(af:List (ah×cN))(σ:St)(Q:List V->Hp->Prop)(us:List ae)(s':aj):Prop:=∃vs H',Inv X af σ H' s'/\bM vs us/\Q vs H'
def SP (X:Cx)(af:List (ah×cN))(D:gU)(f:Flow)(s':aj):Prop :=
 match f with
 |.next=>∃σ' H',Inv X af σ' H' s'/\D.nx σ' H'
 |.brk=>∃σ' H',Inv X af σ' H' s'/\D.bk σ' H'
 |.cont=>∃σ' H',Inv X af σ' H' s'/\D.ct σ' H'
 |.ret u=>∃v σ' H',Inv X af σ' H' s'/\RelV v u/\D.rt v H'
def PE (X:Cx)(e:Expr)(t:TE):Prop :=
 ∀(af:List (ah×cN)) (s:aj) (σ:St) (H:Hp) (Q:VK),Inv X af σ H s->t σ H Q->aN (aG X.prog X.w) X.A (br e X.env) (EP X af σ Q) X.xe s
def PT (X:Cx)(e:Expr)(t:TT):Prop :=
 ∀(af:List (ah×cN)) (s:aj) (σ:St) (H:Hp) (Q:Bool->Hp->Prop),Inv X af σ H s->t σ H Q->aN (aG X.prog X.w) X.A (qT e X.env (br e X.env)) (TP X af σ Q) X.xe s
def PW (X:Cx)(e:Expr)(t:TT):Prop :=
 ∀(whole:ng ae) (af:List (ah×cN)) (s:aj) (σ:St) (H:Hp) (Q:Bool->Hp->Prop),Inv X af σ H s->t σ H Q->aN (aG X.prog X.w) X.A (qT e X.env whole) (TP X af σ Q) X.xe s
theorem PW.pt {X:Cx}{e:Expr}{t:TT}(h:PW X e t):PT X e t:=h _
def PA (X:Cx)(es:List Expr)(t:TA):Prop :=
 ∀(pos:cE) (af:List (ah×cN)) (s:aj) (σ:St) (H:Hp) (Q:List V->Hp->Prop),Inv X af σ H s->t σ H Q->aN (aG X.prog X.w) X.A (spliced (bU pos (ak es X.env))) (AP X af σ Q) X.xe s
def PS (X:Cx)(st:bL)(t:TS):Prop :=
 ∀(af:List (ah×cN)) (s:aj) (σ:St) (H:Hp) (D:gU),Inv X af σ H s->t D σ H->aN (aG X.prog X.w) X.A (exec st X.env) (SP X af D) X.xe s
def nr (X:Cx)(st:List bL)(t:TS):Prop :=
 ∀(af:List (ah×cN)) (s:aj) (σ:St) (H:Hp) (D:gU),Inv X af σ H s->t D σ H->aN (aG X.prog X.w) X.A (execs st X.env) (SP X af D) X.xe s
theorem cW {α:Type}{t:ng α}{Q Q':α->aj->Prop}{M:Model}{A:bx}{E:ae->aj->Prop}{s:aj}(h:aN M A t Q E s)(hQ:∀a s,Q a s->Q' a s):aN M A t Q' E s:=dk h hQ λ_ _ x=>x
end L2
namespace L2
open PySem PySem.Spec PyProof.Rows
section
variable {X:Cx}
theorem bin {a b:Expr}{ta tb:TE}(ha:PE X a ta)(hb:PE X b tb){af:List (ah×cN)}{s:aj}{σ:St}{H:Hp}{R:V->V->Hp->Prop}(I:Inv X af σ H s)(h:ta σ H λx H1=>tb σ H1 λy H2=>R x y H2)
  {α:Type} {Q:α->aj->Prop} {f:ae->ae->ng α}
  (hf:∀v u s2 x y H2,Inv X af σ H2 s2->RelV x v->RelV y u->R x y H2->aN (aG X.prog X.w) X.A (f v u) Q X.xe s2) :
  aN (aG X.prog X.w) X.A (br a X.env) (λv s₁=>aN (aG X.prog X.w) X.A (br b X.env) (λu s₂=>aN (aG X.prog X.w) X.A (f v u) Q X.xe s₂) X.xe s₁) X.xe s:=by
 refine cW (ha af s σ H _ I h) λv s1 dh=>?_
 obtain⟨x,H1,I1,r1,q1⟩:=dh
 refine cW (hb af s1 σ H1 _ I1 q1) λu s2 dh=>?_
 obtain⟨y,H2,I2,r2,q2⟩:=dh
 exact hf v u s2 x y H2 I2 r1 r2 q2
def sq (i:Nat):TE:=λσ H Q=>∃v,σ[i]?=some (some v)/\Q v H
def tC (v:V):TE:=λ_ H Q=>Q v H
theorem u9 {i:Nat}{x:aJ}{pos:cE}(hN:X.N[i]?=some x)(hv:qC X.env.scope x)(hd:(x==("__debug__":aJ))=false:=by decide)(jB:(x==("__classdict__":aJ))=false:=by decide):PE X (.Name x pos) (sq i):=by
 intro af s σ H Q I h
 obtain⟨v,e,h⟩:=h
 obtain⟨m,hn,hl⟩:=I.loc
 obtain⟨u,r,l⟩:=hl i x v hN e hv
 have fin:EP X af σ Q u s:=⟨v,H,I,r,h⟩
 rcases l with⟨hk,hm⟩|⟨hk,c,hc,pP⟩
 ·exact uE (wpAny_loadName_local I.ok.kind hk hn hm fin) hd
 ·rcases hk with hk|hk
  ·exact uE (wpAny_loadName_cell I.ok.kind hk hc pP fin) hd
  ·exact uE (wpAny_loadName_free I.ok.kind hk hc pP fin jB) hd
theorem Zb {i j pos}:PE X (.Constant (.int i) j pos) (tC (.int i)):=λ_ _ _ H _ I h=>wpAny_Constant_int ⟨.int i,H,I.tok _,⟨_,rfl⟩,h⟩
theorem Z3 {b j pos}:PE X (.Constant (.bool b) j pos) (tC (.bl b)):=λ_ _ _ H _ I h=>Constant_bool ⟨.bl b,H,I,rfl,h⟩
theorem Zc {j pos}:PE X (.Constant .none j pos) (tC .non):=λ_ _ _ H _ I h=>Constant_none ⟨.non,H,I,rfl,h⟩
theorem Zd {x j pos}:PE X (.Constant (.str x) j pos) (tC (.str x)):=λ_ _ _ H _ I h=>Calls.Constant_str ⟨.str x,H,I.tok _,⟨_,rfl⟩,h⟩
def Gl (X:Cx)(x:aJ):Prop:=X.env.kindOf x=some .globalImplicit
theorem j9 {E:ae->aj->Prop}{af:List (ah×cN)}{s:aj}{σ:St}{H:Hp}{x:aJ}{u:ae}{pos:cE}{Q:ae->aj->Prop}(I:Inv X af σ H s)(hg:Gl X x)(hm:X.mg x=some u)(h:Q u s)
  (hd:(x==("__debug__":aJ))=false:=by decide):aN (aG X.prog X.w) X.A (br (.Name x pos) X.env) Q E s :=
 Calls.Name_function_global I.ok.kind hg (Calls.loadGlobal_global (by rw[I.ok.glob];exact I.mod.glob.keeps I.bk) hm h) hd
theorem sQ {E:ae->aj->Prop}{af:List (ah×cN)}{s:aj}{σ:St}{H:Hp}{x:aJ}{u:ae}{pos:cE}{Q:ae->aj->Prop}(I:Inv X af σ H s)(hg:Gl X x)(hm:X.mg x=none)(hv:bZ x=some u)(h:Q u s)
  (hn:x≠"__name__":=by decide) (hd:(x==("__debug__":aJ))=false:=by decide):aN (aG X.prog X.w) X.A (br (.Name x pos) X.env) Q E s:=by
 obtain⟨mb,h1,h2⟩:=I.mod.blt
 exact Calls.Name_function_global I.ok.kind hg (Calls.loadGlobal_builtin (by rw[I.ok.glob];exact I.mod.glob.keeps I.bk) hm (by rw[I.ok.blt];exact h1.keeps I.bk) ((h2 x hn).trans hv) h) hd
theorem Kn {x:aJ}{v:V}{u:ae}{pos:cE}(hg:Gl X x)(hm:X.mg x=some u)(r:RelV v u)(hd:(x==("__debug__":aJ))=false:=by decide):PE X (.Name x pos) (tC v) :=
 λ_ _ _ H _ I h=>j9 I hg hm ⟨v,H,I,r,h⟩ hd
theorem Ol {x:aJ}{v:V}{u:ae}{pos:cE}(hg:Gl X x)(hm:X.mg x=none)(hv:bZ x=some u)(r:RelV v u)(hn:x≠"__name__":=by decide)(hd:(x==("__debug__":aJ))=false:=by decide):PE X (.Name x pos) (tC v) :=
 λ_ _ _ H _ I h=>sQ I hg hm hv ⟨v,H,I,r,h⟩ hn hd
variable {a b:Expr}{ta tb:TE}{pos:cE}
def PC (X:Cx)(op:la)(a b:Expr)(t:TE):Prop :=
 ∀(af:List (ah×cN)) (s:aj) (σ:St) (H:Hp) (Q:VK),Inv X af σ H s->t σ H Q ->
  aN (aG X.prog X.w) X.A (br a X.env) (λv s₁=>aN (aG X.prog X.w) X.A (br b X.env) (λu s₂=>aN (aG X.prog X.w) X.A (cV op v u) (EP X af σ Q) X.xe s₂) X.xe s₁) X.xe s
theorem rZ (b:Expr){op:la}(h:op≠.In)(h2:op≠.NotIn):dz op b=false:=by
 have e1:(op==la.In)=false:=by cases op<;>first|rfl|exact absurd rfl h
 have e2:(op==la.NotIn)=false:=by cases op<;>first|rfl|exact absurd rfl h2
 cases b<;>simp[dz,e1,e2]
def tB (t:TE):TT:=λσ H Q=>t σ H λx H1=>∃c,x=.bl c/\Q c H1
theorem Ze {op:la}{t:TE}(h:PC X op a b t)(h1:dz op b=false:=by first|exact rZ _ (by decide) (by decide)|rfl):PT X (.Compare a [op] [b] pos) (tB t):=by
 intro af s σ H Q I hw
 refine wpAny_isTrue_Compare1 (cW (h af s σ H _ I hw) λv s1 h1=>cW h1 λu s2 h2=>cW h2 λc s3 ⟨x,H1,I1,r1,q1⟩=>?_) h1
 obtain⟨d,rfl,q⟩:=q1
 cases r1
 exact eX ⟨H1,I1,q⟩
theorem Zf {e:Expr}{t:TE}(h:PE X e t)(he:∀whole,qT e X.env whole=(do let v ← whole;fF e.pos;dP [v] (truthy v)):=by intro _;rfl):PT X e (tB t):=by
 intro af s σ H Q I hw
 refine isTrue_plain (cW (h af s σ H _ I hw) λv s1 ⟨x,H1,I1,r1,q1⟩=>?_) (he _)
 obtain⟨d,rfl,q⟩:=q1
 cases r1
 exact eX ⟨H1,I1,q⟩
variable {tA FC:TT}{rest:List Expr}
def JA (t u:TT):TT:=λσ H Q=>t σ H λc H1=>if c=true then u σ H1 Q else Q false H1
def Ul (t u:TT):TT:=λσ H Q=>t σ H λc H1=>if c=true then Q true H1 else u σ H1 Q
def JI (t:TT):TT:=λσ H Q=>t σ H λc H1=>Q (!c) H1
theorem Xv (ha:PT X a tA):PW X (.BoolOp .And [a] pos) tA:=by
 intro wh af s σ H Q I h
 refine isTrue_and (cW (ha af s σ H Q I h) λc s1 e=>?_)
 cases c with
 |true=>exact isTrue_and_nil e
 |false=>exact e
theorem Zg (ha:PT X a tA):PW X (.BoolOp .Or [a] pos) tA:=by
 intro wh af s σ H Q I h
 refine isTrue_or (cW (ha af s σ H Q I h) λc s1 e=>?_)
 cases c with
 |false=>exact isTrue_or_nil e
 |true=>exact e
theorem Zh (ha:PT X a tA)(hb:PW X (.BoolOp .And (b::rest) pos) FC):PW X (.BoolOp .And (a::b::rest) pos) (JA tA FC):=by
 intro wh af s σ H Q I h
 refine isTrue_and (cW (ha af s σ H _ I h) λc s1 dh=>?_)
 obtain⟨H1,I1,q1⟩:=dh
 cases c with
 |true=>exact hb wh af s1 σ H1 Q I1 q1
 |false=>exact⟨H1,I1,q1⟩
theorem Z4 (ha:PT X a tA)(hb:PW X (.BoolOp .Or (b::rest) pos) FC):PW X (.BoolOp .Or (a::b::rest) pos) (Ul tA FC):=by
 intro wh af s σ H Q I h
 refine isTrue_or (cW (ha af s σ H _ I h) λc s1 dh=>?_)
 obtain⟨H1,I1,q1⟩:=dh
 cases c with
 |true=>exact⟨H1,I1,q1⟩
 |false=>exact hb wh af s1 σ H1 Q I1 q1
theorem Zi (ha:PT X a tA):PT X (.UnaryOp .Not a pos) (JI tA):=by
 intro af s σ H Q I h
 exact isTrue_not (ha af s σ H (λc H1=>Q (!c) H1) I h)
def D1 (ta tb:TE):TE:=λσ H Q=>ta σ H λx H1=>∃c,x=.bl c/\if c=true then tb σ H1 Q else Q (.bl false) H1
def JJ (ta tb:TE):TE:=λσ H Q=>ta σ H λx H1=>∃c,x=.bl c/\if c=true then Q (.bl true) H1 else tb σ H1 Q
theorem Zj {op}{t:TE}(h:PE X a t):PE X (.BoolOp op [a] pos) t:=λaf s σ H Q I hw=>BoolOp_one (h af s σ H Q I hw)
theorem Zk (ha:PE X a ta)(hb:PE X (.BoolOp .And (b::rest) pos) tb):PE X (.BoolOp .And (a::b::rest) pos) (D1 ta tb):=by
 intro af s σ H Q I h
 refine BoolOp_and (cW (ha af s σ H _ I h) λv s1 dh=>?_)
 obtain⟨x,H1,I1,r1,q1⟩:=dh
 obtain⟨c,rfl,q1⟩:=q1
 cases r1
 refine eX ?_
 cases c with
 |true=>exact hb af s1 σ H1 Q I1 q1
 |false=>exact⟨.bl false,H1,I1,rfl,q1⟩
theorem Z5 (ha:PE X a ta)(hb:PE X (.BoolOp .Or (b::rest) pos) tb):PE X (.BoolOp .Or (a::b::rest) pos) (JJ ta tb):=by
 intro af s σ H Q I h
 refine BoolOp_or (cW (ha af s σ H _ I h) λv s1 dh=>?_)
 obtain⟨x,H1,I1,r1,q1⟩:=dh
 obtain⟨c,rfl,q1⟩:=q1
 cases r1
 refine eX ?_
 cases c with
 |false=>exact hb af s1 σ H1 Q I1 q1
 |true=>exact⟨.bl true,H1,I1,rfl,q1⟩
def Uk (t:TT)(ta tb:TE):TE:=λσ H Q=>t σ H λc H1=>if c=true then ta σ H1 Q else tb σ H1 Q
theorem WD {c:Expr}(hc:PT X c tA)(ha:PE X a ta)(hb:PE X b tb):PE X (.IfExp c a b pos) (Uk tA ta tb):=by
 intro af s σ H Q I h
 refine wpAny_IfExp (cW (hc af s σ H _ I h) λd s1 dh=>?_)
 obtain⟨H1,I1,q1⟩:=dh
 cases d with
 |true=>exact ha af s1 σ H1 Q I1 q1
 |false=>exact hb af s1 σ H1 Q I1 q1
end
end L2
namespace L2
open PySem PySem.Spec PyProof.Rows
def eE (K:aa)(H:Hp)(a:ah)(xs:List V):Prop :=
 Rd H a (.lst xs) \/
  ∃(o:cN) (cj:Array ae) (n:Nat),K.lookup a=some o/\o.cls=.type "list"/\o.dict=none/\o.data=.seq cj n/\cj.size<=sizeLine/\bM xs cj.toList
def kl (K:aa)(H:Hp)(a:ah)(xs:List V):Prop :=
 Rd H a (.tup xs) \/
  ∃(o:cN) (cj:Array ae) (n:Nat),K.lookup a=some o/\o.cls=.type "tuple"/\o.data=.seq cj n/\cj.size<=sizeLine/\bM xs cj.toList
def GR:ae->Option V
 |.none=>some .non
 |.bool b=>some (.bl b)
 |.int i _=>some (.int i)
 |.str x _=>some (.str x)
 |.bytes b _=>some (.byt b)
 |.float b _=>some (.flt b)
 |.ref a=>some (.ref a)
 |.type n=>some (.ty n)
 |_=>none
theorem RelV.abs {x:V}{u:ae}(r:RelV x u):GR u=some x:=by
 cases x with
 |non=>cases r;rfl
 |bl _=>cases r;rfl
 |int _=>obtain⟨t,rfl⟩:=r;rfl
 |str _=>obtain⟨t,rfl⟩:=r;rfl
 |byt _=>obtain⟨t,rfl⟩:=r;rfl
 |flt _=>obtain⟨t,rfl⟩:=r;rfl
 |ref _=>cases r;rfl
 |ty _=>cases r;rfl
theorem RelV.inj {x y:V}{u:ae}(r:RelV x u)(q:RelV y u):x=y:=Option.some.inj (r.abs.symm.trans q.abs)
theorem bM.inj:∀{xs ys:List V} {us:List ae},bM xs us->bM ys us->xs=ys
 |_,_,_,.nil,.nil=>rfl
 |_,_,_,.cons r t,.cons r' t'=>by rw[r.inj r',bM.inj t t']
section
variable {X:Cx}{af:List (ah×cN)}{σ:St}{H:Hp}{s:aj}{a:ah}{xs ys:List V}
theorem eE.of {K:aa}(h:H a=some (.lst xs)):eE K H a xs:=.inl (.inl h)
theorem kl.of {K:aa}(h:H a=some (.tup xs)):kl K H a xs:=.inl (.inl h)
theorem Inv.list (I:Inv X af σ H s)(h:eE X.K H a xs):∃cj:List ae,bM xs cj/\PlainL s.heap a cj.toArray/\xs.length<=sizeLine:=by
 rcases h with h|⟨o,cj,n,hk,hc,hd,hs,hz,r⟩
 ·obtain⟨z,cj,n,r,e⟩:=h.ok I.hok
  exact⟨cj,r,⟨_,n,e,rfl,rfl,rfl⟩,z⟩
 ·refine⟨cj.toList,r,⟨o,n,I.kIn a o hk,hc,hd,by simpa using hs⟩,?_⟩
  have e:=r.length
  simp only[dR]at e
  omega
theorem Inv.tuple (I:Inv X af σ H s)(h:kl X.K H a xs):∃cj:List ae,bM xs cj/\IsTup s.heap a cj.toArray/\xs.length<=sizeLine:=by
 rcases h with h|⟨o,cj,n,hk,hc,hs,hz,r⟩
 ·obtain⟨z,cj,r,p⟩:=h.ok I.hok
  exact⟨cj,r,p,z⟩
 ·refine⟨cj.toList,r,⟨o,I.kIn a o hk,hc,n,by simpa using hs⟩,?_⟩
  have e:=r.length
  simp only[dR]at e
  omega
theorem Inv.list_inj (I:Inv X af σ H s)(h:eE X.K H a xs)(h':eE X.K H a ys):xs=ys:=by
 obtain⟨cj,r,⟨o,n,e,_,_,d⟩,_⟩:=I.list h
 obtain⟨its',r',⟨o',n',e',_,_,d'⟩,_⟩:=I.list h'
 rw[e]at e';cases e'
 rw[d]at d'
 injection d' with d1 _
 have:cj=its':=by simpa using congrArg Array.toList d1
 subst this
 exact r.inj r'
end
abbrev Cx.wish (X:Cx)(E:ae->aj->Prop):Cx:={ X with xe:=E }
abbrev Cx.nox (X:Cx):Cx:=X.wish λ_ _=>False
theorem Cx.Ok.wish {X:Cx}(ok:X.Ok)(E:ae->aj->Prop):(X.wish E).Ok :=
 ⟨ok.mod,ok.kind,ok.glob,ok.blt,ok.above,ok.inj,ok.has,ok.cab,ok.hd,ok.frames,ok.stk,ok.exf,ok.bs,ok.bsz,ok.noex,ok.exfs,ok.funs,ok.frf⟩
theorem Cx.Ok.unwish {X:Cx}{E:ae->aj->Prop}(ok:(X.wish E).Ok):X.Ok :=
 ⟨ok.mod,ok.kind,ok.glob,ok.blt,ok.above,ok.inj,ok.has,ok.cab,ok.hd,ok.frames,ok.stk,ok.exf,ok.bs,ok.bsz,ok.noex,ok.exfs,ok.funs,ok.frf⟩
section
variable {X:Cx}{af:List (ah×cN)}{σ:St}{H:Hp}{s:aj}{E:ae->aj->Prop}
theorem Inv.wish (I:Inv X af σ H s)(E:ae->aj->Prop):Inv (X.wish E) af σ H s:=⟨I.ok.wish E,I.os,I.bare,I.base,I.loc,I.cell,I.free,I.freeC,I.pin,I.hok,I.len⟩
theorem Inv.unwish (I:Inv (X.wish E) af σ H s):Inv X af σ H s:=⟨I.ok.unwish,I.os,I.bare,I.base,I.loc,I.cell,I.free,I.freeC,I.pin,I.hok,I.len⟩
theorem SP.unwish {D:gU}{f:Flow}{s':aj}(h:SP (X.wish E) af D f s'):SP X af D f s':=by
 cases f with
 |next=>obtain⟨σ',H',I,q⟩:=h;exact⟨σ',H',I.unwish,q⟩
 |brk=>obtain⟨σ',H',I,q⟩:=h;exact⟨σ',H',I.unwish,q⟩
 |cont=>obtain⟨σ',H',I,q⟩:=h;exact⟨σ',H',I.unwish,q⟩
 |ret u=>obtain⟨v,σ',H',I,r,q⟩:=h;exact⟨v,σ',H',I.unwish,r,q⟩
theorem nr.nox {st:List bL}{t:TS}(h:nr X.nox st t):nr X st t:=λaf s σ H D I hw=>
 dk (h af s σ H D (I.wish _) hw) (λ_ _ q=>q.unwish) λ_ _ z=>False.elim z
end
section
variable {X:Cx}{st:bL}{rest:List bL}{t u:TS}{e:Expr}{te:TE}{pos:cE}
def D5:TS:=λD σ H=>D.nx σ H
def D8 (t u:TS):TS:=λD σ H=>t { D with nx:=u D } σ H
theorem Xw:nr X [] D5:=λ_ _ σ H _ I h=>jP ⟨σ,H,I,h⟩
theorem Kb (h1:PS X st t)(h2:nr X rest u):nr X (st::rest) (D8 t u):=by
 intro af s σ H D I h
 refine wpAny_execs_cons (cW (h1 af s σ H { D with nx:=u D } I h) λf s1 q=>?_)
 cases f with
 |next=>
  obtain⟨σ',H',I',q⟩:=q
  exact h2 af s1 σ' H' D I' q
 |ret v=>exact q
 |brk=>exact q
 |cont=>exact q
theorem Ko (h1:PS X st t):nr X [st] t:=by
 intro af s σ H D I h
 refine wpAny_execs_cons (cW (h1 af s σ H D I h) λf s1 q=>?_)
 cases f with
 |next=>exact jP q
 |ret v=>exact q
 |brk=>exact q
 |cont=>exact q
theorem Inv.quiet {af:List (ah×cN)}{σ:St}{H:Hp}{s:aj}(I:Inv X af σ H s):interactive X.env=false:=by simp[interactive,I.ok.kind]
def vH (te:TE):TS:=λD σ H=>te σ H λ_ H1=>D.nx σ H1
theorem Aa (he:PE X e te)(hs:di e none pos.line X.env=pure false:=by rfl):PS X (.Expr e pos) (vH te):=by
 intro af s σ H D I h
 exact wpAny_Expr_any (cW (he af s σ H _ I h) λv s1 ⟨x,H1,I1,r1,q1⟩=>⟨σ,H1,I1,q1⟩) I.quiet hs
def JK (te:TE):TS:=λD σ H=>te σ H D.rt
theorem O7 (he:PE X e te):PS X (.Return (some e) pos) (JK te):=by
 intro af s σ H D I h
 exact wpAny_Return_some (cW (he af s σ H _ I h) λv s1 ⟨x,H1,I1,r1,q1⟩=>⟨x,σ,H1,I1,r1,q1⟩)
def JG (c:TT)(t u:TS):TS:=λD σ H=>c σ H λb H1=>if b=true then t D σ H1 else u D σ H1
theorem Pv {c:Expr}{a b:List bL}{tc:TT}(hc:PT X c tc)(ha:nr X a t)(hb:nr X b u):PS X (.If c a b pos) (JG tc t u):=by
 intro af s σ H D I h
 refine wpAny_If (cW (hc af s σ H _ I h) λd s1 dh=>?_)
 obtain⟨H1,I1,q1⟩:=dh
 cases d with
 |true=>exact ha af s1 σ H1 D I1 q1
 |false=>exact hb af s1 σ H1 D I1 q1
def sm:TS:=λ_ _ _=>False
theorem WE:PS X st sm:=λ_ _ _ _ _ _ h=>h.elim
theorem V3 {Jz:List bL}:nr X Jz sm:=λ_ _ _ _ _ _ h=>h.elim
end
abbrev TG:=V->St->Hp->(St->Hp->Prop)->Prop
abbrev uI:=List V->St->Hp->(St->Hp->Prop)->Prop
def PG (X:Cx)(target:Expr)(t:TG):Prop :=
 ∀(af:List (ah×cN)) (s:aj) (σ:St) (H:Hp) (v:V) (u:ae) (Q:St->Hp->Prop),Inv X af σ H s->RelV v u->t v σ H Q ->
  aN (aG X.prog X.w) X.A (hG target X.env u) (λ_ s'=>∃σ' H',Inv X af σ' H' s'/\Q σ' H') X.xe s
def zG (X:Cx)(ts:List Expr)(t:uI):Prop :=
 ∀(af:List (ah×cN)) (s:aj) (σ:St) (H:Hp) (vs:List V) (us:List ae) (Q:St->Hp->Prop),Inv X af σ H s->bM vs us->t vs σ H Q ->
  aN (aG X.prog X.w) X.A (assignInOrder ((cQ ts X.env).map (·.2)) us) (λ_ s'=>∃σ' H',Inv X af σ' H' s'/\Q σ' H') X.xe s
abbrev rA:=V->V->V->Hp->(Hp->Prop)->Prop
def vQ (X:Cx)(t:rA):Prop :=
 ∀(af:List (ah×cN)) (s:aj) (σ:St) (H:Hp) (o i v:V) (ov iv u:ae) (Q:Hp->Prop),Inv X af σ H s->RelV o ov->RelV i iv->RelV v u->t o i v H Q ->
  aN (aG X.prog X.w) X.A (nM ov iv u) (λ_ s'=>∃H',Inv X af σ H' s'/\Q H') X.xe s
abbrev zI:=V->V->Hp->VK->Prop
def zH (X:Cx)(op:iS)(t:zI):Prop :=
 ∀(af:List (ah×cN)) (s:aj) (σ:St) (H:Hp) (x y:V) (v u:ae) (Q:VK),Inv X af σ H s->RelV x v->RelV y u->t x y H Q ->
  aN (aG X.prog X.w) X.A (inplaceOp op v u) (EP X af σ Q) X.xe s
section
variable {X:Cx}{pos:cE}
def pN (i:Nat):TG:=λv σ H Q=>Q (σ.set i (some v)) H
theorem Om {i:Nat}{x:aJ}(hN:X.N.Nodup)(hi:X.N[i]?=some x)(hx:Loc X.env.scope x)(hf:X.fn x=true\/X.env.scope.names.lookup x=some .local:=by first|exact .inl rfl|exact .inr rfl|assumption):PG X (.Name x pos) (pN i):=by
 intro af s σ H v u Q I r h
 exact wpAny_assign_Name (Ek I hN hi hx r (λs' I'=>⟨_,H,I',h⟩) hf)
def HH:uI:=λvs σ H Q=>vs=[]/\Q σ H
def B5 (t:TG)(u:uI):uI:=λvs σ H Q=>∃v r,vs=v::r/\t v σ H λσ' H'=>u r σ' H' Q
theorem On:zG X [] HH:=by
 intro af s σ H vs us Q I r h
 obtain⟨e,h⟩:=h
 subst e
 cases r
 exact assignInOrder_nil ⟨σ,H,I,h⟩
theorem NS {e:Expr}{es:List Expr}{t:TG}{u:uI}(h1:PG X e t)(h2:zG X es u)
  (hs:(cQ (e::es) X.env).map (·.2)=hG e X.env::(cQ es X.env).map (·.2):=by rfl):zG X (e::es) (B5 t u):=by
 intro af s σ H vs us Q I r h
 obtain⟨v,vr,e1,h⟩:=h
 subst e1
 cases r with
 |cons r rr=>
  rw[hs]
  refine assignInOrder_cons (cW (h1 af s σ H _ _ _ I r h) λ_ s1 dh=>?_)
  obtain⟨σ1,H1,I1,q1⟩:=dh
  exact h2 af s1 σ1 H1 _ _ Q I1 rr q1
def HJ (K:aa)(n:Nat)(t:uI):TG:=λv σ H Q=>∃a xs,v=.ref a/\kl K H a xs/\xs.length=n/\t xs σ H Q
theorem O8 {es:List Expr}{k:Nat}{t:uI}{n:Nat}(hc:X.calm=true)(h:zG X es t)
  (hn:(cQ es X.env).length=n:=by rfl) (ie:(cQ es X.env).findIdx? (·.1)=none:=by rfl):PG X (.Tuple es k pos) (HJ X.K n t):=by
 intro af s σ H v u Q I r hw
 obtain⟨a,xs,e1,hq,hl,hw⟩:=hw
 subst e1
 cases r
 obtain⟨cj,rv,ht,hz⟩:=I.tuple hq
 refine assign_Tuple_tuple (I.ok.hd hc) ht (by simp[hn,←hl,rv.length]) ie λh' hx=>?_
 have I1:Inv X af σ H { s with heap:=h' }:=I.kept (t':=s.toks) λb o e=>hx b o (aY (aF e)) e
 exact h af _ σ H xs _ Q I1 (by simpa using rv) hw
def HI (to ti:TE)(t:rA):TG:=λv σ H Q=>to σ H λo H1=>ti σ H1 λi H2=>t o i v H2 λH3=>Q σ H3
theorem Zl {o i:Expr}{to ti:TE}{t:rA}(ho:PE X o to)(hi:PE X i ti)(hs:vQ X t)
  (ha:∀v,hG (.Subscript o i pos) X.env v=(do
   let ov ← dP [v] (br o X.env)
   let iv ← dP [v,ov] (br i X.env)
   fF pos
   dP [v,ov,iv] (nM ov iv v)
   release [v,ov,iv] []):=by intro _;rfl):PG X (.Subscript o i pos) (HI to ti t):=by
 intro af s σ H v u Q I r h
 rw[ha]
 refine aq (eM (cW (ho af s σ H _ I h) λov s1 dh=>?_))
 obtain⟨x,H1,I1,r1,q1⟩:=dh
 refine aq (eM (cW (hi af s1 σ H1 _ I1 q1) λiv s2 dh=>?_))
 obtain⟨y,H2,I2,r2,q2⟩:=dh
 refine aq (gE (aq (eM (cW (hs af s2 σ H2 x y v ov iv u _ I2 r1 r2 r q2) λ_ s3 dh=>?_))))
 obtain⟨H3,I3,q3⟩:=dh
 exact wpAny_release ⟨σ,H3,I3,q3⟩
def yP (te:TE)(g:TG):TS:=λD σ H=>te σ H λx H1=>g x σ H1 D.nx
theorem O9 {tg e:Expr}{te:TE}{g:TG}(he:PE X e te)(hg:PG X tg g)(hs:pJ [tg] e pos.line X.env=pure false:=by rfl)(hw:pI [tg] e X.env=pure none:=by rfl)
  (h1:(cQ [tg] X.env).map (·.2)=[hG tg X.env]:=by rfl):PS X (.Assign [tg] e pos) (yP te g):=by
 intro af s σ H D I h
 refine wpAny_Assign_stores (cW (he af s σ H _ I h) λv s1 ⟨x,H1,I1,r1,q1⟩=>?_) hs hw
 rw[h1]
 exact cW (hg af s1 σ H1 x v _ I1 r1 q1) λ_ s2 q=>q
theorem Zm {i:Nat}{x:aJ}{e:Expr}{te:TE}{pos':cE}(hN:X.N.Nodup)(hi:X.N[i]?=some x)(hx:Loc X.env.scope x)(he:PE X e te)(hs:di e (some (.Name x pos')) pos.line X.env=pure false:=by rfl)(hf:X.fn x=true\/X.env.scope.names.lookup x=some .local:=by first|exact .inl rfl|exact .inr rfl|assumption) :
  PS X (.Assign [.Name x pos'] e pos) (yP te (pN i)):=by
 intro af s σ H D I h
 refine wpAny_Assign_Name (cW (he af s σ H _ I h) λv s1 ⟨y,H1,I1,r1,q1⟩=>?_) hs
 exact Ek I1 hN hi hx r1 (λs2 I2=>⟨_,H1,I2,q1⟩) hf
def JB (i:Nat)(te:TE)(ti:zI):TS:=λD σ H=>∃x,σ[i]?=some (some x)/\te σ H λy H1=>ti x y H1 λz H2=>D.nx (σ.set i (some z)) H2
theorem Zn {i:Nat}{x:aJ}{e:Expr}{te:TE}{op:iS}{ti:zI}{pos':cE}(hN:X.N.Nodup)(hi:X.N[i]?=some x)(hx:Loc X.env.scope x)(he:PE X e te)(ho:zH X op ti)(hf:X.fn x=true\/X.env.scope.names.lookup x=some .local:=by first|exact .inl rfl|exact .inr rfl|assumption) :
  PS X (.AugAssign (.Name x pos') op e pos) (JB i te ti):=by
 intro af s σ H D I h
 obtain⟨v,e1,h⟩:=h
 obtain⟨m,hn,hl⟩:=I.loc
 have UA:qC X.env.scope x:=by rcases hx with k|k;exact .inl k;exact .inr (.inl k)
 obtain⟨u,r,l⟩:=hl i x v hi e1 UA
 refine wpAny_AugAssign_Name ?_
 have go:aN (aG X.prog X.w) X.A (br e X.env) (λw s₂=>aN (aG X.prog X.w) X.A (inplaceOp op u w) (λr s₃=>aN (aG X.prog X.w) X.A (storeName X.env x r) (λ_=>SP X af D .next) X.xe s₃) X.xe s₂) X.xe s:=by
  refine cW (he af s σ H _ I h) λw s1 dh=>?_
  obtain⟨y,H1,I1,r1,q1⟩:=dh
  refine cW (ho af s1 σ H1 v y u w _ I1 r r1 q1) λz s2 dh=>?_
  obtain⟨zv,H2,I2,r2,q2⟩:=dh
  exact Ek I2 hN hi hx r2 (λs3 I3=>⟨_,H2,I3,q2⟩) hf
 rcases l with⟨hk,hm⟩|⟨hk,c,hc,pP⟩
 ·exact wpAny_loadName_local I.ok.kind hk hn hm go
 ·rcases hk with hk|hk
  ·exact wpAny_loadName_cell I.ok.kind hk hc pP go
  ·rcases hx with k|k
   ·have:X.env.scope.names.lookup x=some .free:=hk
    rw[k]at this;cases this
   ·have:X.env.scope.names.lookup x=some .free:=hk
    rw[k]at this;cases this
def D2 (to ti te:TE)(uA:V->V->Hp->VK->Prop)(FG:zI)(uB:rA):TS:=λD σ H=>to σ H λo H1=>ti σ H1 λi H2=>uA o i H2 λx H3=>te σ H3 λy H4=>FG x y H4 λz H5=>uB o i z H5 λH6=>D.nx σ H6
def Av (X:Cx)(t:V->V->Hp->VK->Prop):Prop :=
 ∀(af:List (ah×cN)) (s:aj) (σ:St) (H:Hp) (o i:V) (ov iv:ae) (Q:VK),Inv X af σ H s->RelV o ov->RelV i iv->t o i H Q ->
  aN (aG X.prog X.w) X.A (getItem ov iv) (EP X af σ Q) X.xe s
theorem Xx {o i e:Expr}{to ti te:TE}{uA:V->V->Hp->VK->Prop}{FG:zI}{uB:rA}{op:iS}{jF:cE}(ho:PE X o to)(hi:PE X i ti)(hg:Av X uA)(he:PE X e te)(hp:zH X op FG)(hs:vQ X uB)
  (ha:∀ov iv new,augStore i ov iv new=(do dP [new,ov,iv] (nM ov iv new);release [new,ov,iv] [];pure .next):=by intros;rfl):PS X (.AugAssign (.Subscript o i jF) op e pos) (D2 to ti te uA FG uB):=by
 intro af s σ H D I h
 refine wpAny_AugAssign_SubscriptAny (cW (ho af s σ H _ I h) λov s1 ⟨x1,H1,I1,r1,q1⟩=>?_) ha
 refine cW (hi af s1 σ H1 _ I1 q1) λiv s2 dh=>?_
 obtain⟨x2,H2,I2,r2,q2⟩:=dh
 refine cW (hg af s2 σ H2 x1 x2 ov iv _ I2 r1 r2 q2) λold s3 dh=>?_
 obtain⟨x3,H3,I3,r3,q3⟩:=dh
 refine cW (he af s3 σ H3 _ I3 q3) λv s4 dh=>?_
 obtain⟨x4,H4,I4,r4,q4⟩:=dh
 refine cW (hp af s4 σ H4 x3 x4 old v _ I4 r3 r4 q4) λnew s5 dh=>?_
 obtain⟨x5,H5,I5,r5,q5⟩:=dh
 exact cW (hs af s5 σ H5 x1 x2 x5 ov iv new _ I5 r1 r2 r5 q5) λ_ s6 ⟨H6,I6,q6⟩=>⟨σ,H6,I6,q6⟩
def Fv (f:Int->Int->Int):zI:=λx y H Q=>∃i j,x=.int i/\y=.int j/\Q (.int (f i j)) H
theorem Pa:zH X .Add (Fv λi j=>i+j):=by
 intro af s σ H x y v u Q I r1 r2 h
 obtain⟨i,j,e1,e2,q⟩:=h
 subst e1;subst e2
 obtain⟨t,rfl⟩:=r1
 obtain⟨t',rfl⟩:=r2
 exact iadd_int ⟨.int _,H,I.tok _,⟨_,rfl⟩,q⟩
theorem Pb:zH X .Sub (Fv λi j=>i-j):=by
 intro af s σ H x y v u Q I r1 r2 h
 obtain⟨i,j,e1,e2,q⟩:=h
 subst e1;subst e2
 obtain⟨t,rfl⟩:=r1
 obtain⟨t',rfl⟩:=r2
 exact isub_int ⟨.int _,H,I.tok _,⟨_,rfl⟩,q⟩
end
section
variable {X:Cx}{pos:cE}
def yV (c:TT)(tb:TS):TS:=λD σ H=>∃W:Nat->St->Hp->Prop,(∃m,W m σ H)/\∀m σ H,W m σ H ->
 c σ H λb H1=>if b=true then∃N:St->Hp->Prop,(∀σ' H',N σ' H'->∃m',m'<m/\W m' σ' H')/\tb { D with nx:=N,ct:=N,bk:=D.nx } σ H1 else D.nx σ H1
theorem WF {c:Expr}{body:List bL}{tc:TT}{tb:TS}(hp:bW (aG X.prog X.w) X.A X.env X.xe)(hc:PT X c tc)(hb:nr X body tb):PS X (.While c body [] pos) (yV tc tb):=by
 intro af s σ H D I h
 obtain⟨W,⟨m0,w0⟩,ce⟩:=h
 refine wpAny_While (codeAny_whileLoop (λn s'=>∃σ' H',Inv X af σ' H' s'/\W n σ' H') ?_ m0 ⟨σ,H,I,w0⟩)
 rintro n s1 ⟨σ1,H1,I1,w1⟩
 refine eJ hp (cW (hc af s1 σ1 H1 _ I1 (ce n σ1 H1 w1)) λb s2 dh=>?_)
 obtain⟨H2,I2,q2⟩:=dh
 cases b with
 |true=>
  obtain⟨N,hN,q2⟩:=q2
  rw[if_pos rfl]
  refine eJ hp (cW (hb af s2 σ1 H2 _ I2 q2) λf s3 q3=>?_)
  cases f with
  |next=>
   obtain⟨σ3,H3,I3,n3⟩:=q3
   obtain⟨m',hm,w3⟩:=hN σ3 H3 n3
   exact⟨m',hm,σ3,H3,I3,w3⟩
  |cont=>
   obtain⟨σ3,H3,I3,n3⟩:=q3
   obtain⟨m',hm,w3⟩:=hN σ3 H3 n3
   exact⟨m',hm,σ3,H3,I3,w3⟩
  |brk=>exact q3
  |ret v=>exact q3
 |false=>
  rw[if_neg aH]
  exact jP ⟨σ1,H2,I2,q2⟩
end
structure It where
 go:Nat->Hp->Prop
 yld:Nat->Hp->V->Hp->Prop
 stop:Nat->Hp->Prop
def kj (X:Cx)(af:List (ah×cN))(H:Hp)(b:ah):Prop :=
 H b=none/\b≠X.env.locals/\b∉X.fs/\(b∈X.ex\/X.s₀.heap.objs.size<=b)/\(∀x c,X.env.cells.lookup x=some c->c≠b)/\∀p∈X.pn++af,p.1≠b
theorem Inv.fpOk {X:Cx}{af:List (ah×cN)}{σ:St}{H H':Hp}{s:aj}{b:ah}(I:Inv X af σ H s)(hb:s.heap.objs.size<=b)(hn:H' b=none):kj X af H' b:=by
 refine⟨hn,iF (aX I.lt hb),I.nofs hb,.inr (bX I.sz hb),λx c e z=>?_,λp hp z=>?_⟩
 ·obtain⟨v,q⟩:=I.cell x c e
  exact absurd (aX q.lt (by rw[z];exact hb)) (eu _)
 ·exact absurd (aX (aF (I.pin p hp).1) (by rw[z];exact hb)) (eu _)
structure Turn (P:bg)(w:bN)(K:aa)(tg:Expr)(J:It)(fp:List ah)(it:ah)(tn:Nat->aI->Prop):Prop where
 mem:it∈fp
 obj:∀i h,tn i h->∀b∈fp,∃o,h.get? b=some o/\∀v,o.data≠.cell v
 keep:∀i h h',tn i h->(∀b∈fp,∀o,h.get? b=some o->h'.get? b=some o)->tn i h'
 item:∀(X:Cx),X.prog=P->X.w=w->X.K=K->X.calm=true->∀(i:Nat) (af:List (ah×cN)) (s:aj) (σ:St) (H:Hp) (E:ae->aj->Prop),Inv X af σ H s->(∀b∈fp,kj X af H b)->tn i s.heap->J.go i H ->
  aN (aG P w) X.A (pyNext (.ref it)) (λr s1=>∃u,r=some u /\
   aN (aG P w) X.A (gO tg (.ref it) u) (λ_ s2=>∃x H',Inv X af σ H' s2/\RelV x u/\J.yld i H x H'/\tn (i+1) s2.heap/\∀b∈fp,H' b=none) E s1) E s
 done:∀(X:Cx),X.prog=P->X.w=w->X.K=K->X.calm=true->∀(i:Nat) (af:List (ah×cN)) (s:aj) (σ:St) (H:Hp) (E:ae->aj->Prop),Inv X af σ H s->(∀b∈fp,kj X af H b)->tn i s.heap->J.stop i H ->
  aN (aG P w) X.A (pyNext (.ref it)) (λr s1=>r=none/\Inv X af σ H s1) E s
 self:∀(A:bx) (i:Nat) (s:aj) (Q:ae->aj->Prop) (E:ae->aj->Prop),tn i s.heap->Q (.ref it) s->aN (aG P w) A (pyIter (.ref it)) Q E s
abbrev TI:=St->Hp->(It->Hp->Prop)->Prop
def KY (X:Cx)(af:List (ah×cN))(σ:St)(tg:Expr)(R:It->Hp->Prop)(Fw:ae)(s2:aj):Prop :=
 ∃(it:ah) (fp:List ah) (tn:Nat->aI->Prop) (J:It) (H':Hp),Fw=.ref it/\Inv X af σ H' s2/\Turn X.prog X.w X.K tg J fp it tn/\tn 0 s2.heap/\(∀b∈fp,kj X af H' b)/\R J H'
def PI (X:Cx)(tg iter:Expr)(wi:TI):Prop :=
 ∀(af:List (ah×cN)) (s:aj) (σ:St) (H:Hp) (R:It->Hp->Prop),Inv X af σ H s->wi σ H R ->
  aN (aG X.prog X.w) X.A (br iter X.env) (λv s1=>aN (aG X.prog X.w) X.A (pyIter v) (KY X af σ tg R) X.xe s1) X.xe s
theorem GC {M:Model}{A:bx}{E:ae->aj->Prop}{s:aj}{tg:Expr}{it:ah}{u:ae}{o:cN}{n:String}{vs:Array ae}{Q:Unit->aj->Prop}(ho:s.heap.get? it=some o)(hc:o.cls=.type n)(hd:o.data=.fields vs)
    (hn:["enumerate","zip","dict_itemiterator","dict_reverseitemiterator","odict_iterator","itertools.zip_longest","itertools.pairwise"].contains n=false) (hQ:Q () s):aN M A (gO tg (.ref it) u) Q E s:=by
  unfold gO
  cases tg<;>first
    |exact aS hQ
    |(cases u<;>first
        |exact aS hQ
        |(refine aq (wpAny_load ho ?_)
          rw[hc,hd]
          show aN M A (if(["enumerate","zip","dict_itemiterator","dict_reverseitemiterator","odict_iterator","itertools.zip_longest","itertools.pairwise"].contains n&&vs[0]?==some (rawInt _))=true then _ else _) Q E s
          rw[if_neg (by intro h;rw[hn,Bool.false_and]at h;cases h)]
          exact aS hQ))
def GM (K:aa)(a:ah):It :=
 ⟨λi H=>∃xs x,eE K H a xs/\xs[i]?=some x,λi H x H'=>H'=H/\∀xs,eE K H a xs->xs[i]?=some x,λi H=>∃xs,eE K H a xs/\xs.length<=i⟩
def Ar (lo:Int)(n:Nat):It:=⟨λi _=>i<n,λi H x H'=>H'=H/\x=.int (lo+i),λi _=>n<=i⟩
theorem V4 {P:bg}{w:bN}{K:aa}{tg:Expr}(a it:ah):Turn P w K tg (GM K a) [it] it (λi h=>h.IsListIter it a i) where
 mem:=by simp
 obj:=λi h st b hb=>by
  have e:b=it:=by simpa using hb
  subst e
  obtain⟨o,e,c,d⟩:=st
  exact⟨o,e,λv z=>by rw[d]at z;cases z⟩
 keep:=λi h h' st k=>st.at λo e=>k it (by simp) o e
 item:=by
  intro X hP hw hK hc i af s σ H E I hf st hg
  subst hP hw hK
  obtain⟨xs,x,hq,hx⟩:=hg
  obtain⟨cj,rv,p,hz⟩:=I.list hq
  obtain⟨u,hu,ru⟩:=rv.get hx
  obtain⟨f0,f1,f2,f3,f4,f5⟩:=hf it (by simp)
  refine wpAny_pyNext_list_item st p.isList (x:=u) (by simpa using hu) λh' oJ sb=>?_
  have I1:Inv X af σ H { s with heap:=h' }:=I.turned (t':=s.toks) (λb o hb e=>(sb.2 b hb).trans e) f0 f1 f3 f4 f5
  obtain⟨o,e,c,d⟩:=id oJ
  exact⟨u,rfl,GC (s:={ s with heap:=h' }) e c d (by decide) ⟨x,H,I1,ru,⟨rfl,λys hy=>by rw[I.list_inj hy hq];exact hx⟩,oJ,λb hb=>(hf b hb).1⟩⟩
 done:=by
  intro X hP hw hK hc i af s σ H E I hf st hg
  subst hP hw hK
  obtain⟨xs,hq,hx⟩:=hg
  obtain⟨cj,rv,p,hz⟩:=I.list hq
  obtain⟨f0,f1,f2,f3,f4,f5⟩:=hf it (by simp)
  have hl:=rv.length
  exact wpAny_pyNext_list_end (I.ok.hd hc) st p.isList (by simp;omega) λh' eb=>⟨rfl,I.turned (t':=s.toks) (λb o hb e=>eb b o hb e) f0 f1 f3 f4 f5⟩
 self:=λ_ _ _ _ _ st h=>wpAny_pyIter_listiter st h
theorem VA {P:bg}{w:bN}{K:aa}{tg:Expr}(it:ah)(lo:Int)(n:Nat):Turn P w K tg (Ar lo n) [it] it (λi h=>IsRangeIter h it (lo+(i:Nat)*1) ((n:Int)-(i:Nat)) 1) where
 mem:=by simp
 obj:=λi h st b hb=>by
  have e:b=it:=by simpa using hb
  subst e
  exact⟨_,st,λv z=>by
   have z':pH.fields _=pH.cell v:=z
   cases z'⟩
 keep:=λi h h' st k=>k it (by simp) _ st
 item:=by
  intro X hP hw hK hc i af s σ H E I hf st hg
  subst hP hw hK
  obtain⟨f0,f1,f2,f3,f4,f5⟩:=hf it (by simp)
  have W:=Walks.range (prog:=X.prog) (w:=X.w) (I.ok.hd hc) it lo 1 n
  refine W.item i s _ _ hg st λv h' tk hv oJ kk=>?_
  obtain⟨t,rfl⟩:=hv
  have I1:Inv X af σ H { s with heap:=h',toks:=tk }:=I.turned (λb o hb e=>kk b o (by simpa using hb) e) f0 f1 f3 f4 f5
  refine⟨_,rfl,GC (s:={ s with heap:=h',toks:=tk }) (n:="range_iterator") oJ rfl rfl (by decide) ⟨.int (lo+i),H,I1,⟨t,?_⟩,⟨rfl,rfl⟩,oJ,λb hb=>(hf b hb).1⟩⟩
  rw[Int.mul_one]
 done:=by
  intro X hP hw hK hc i af s σ H E I hf st hg
  subst hP hw hK
  obtain⟨f0,f1,f2,f3,f4,f5⟩:=hf it (by simp)
  exact wpAny_pyNext_range_end (I.ok.hd hc) st (by have:n<=i:=hg;omega) λh' eb=>⟨rfl,I.turned (t':=s.toks) (λb o hb e=>eb b o hb e) f0 f1 f3 f4 f5⟩
 self:=λ_ _ _ _ _ st h=>wpAny_pyIter_rangeiter st h
end L2
namespace L2
open PySem PySem.Spec PyProof.Rows
section
variable {X:Cx}{tg:Expr}
def Cs (K:aa)(tl:TE):TI:=λσ H R=>tl σ H λx H1=>∃a,x=.ref a/\(∃xs,eE K H1 a xs)/\R (GM K a) H1
theorem Oo {l:Expr}{tl:TE}(hl:PE X l tl):PI X tg l (Cs X.K tl):=by
 intro af s σ H R I h
 refine cW (hl af s σ H _ I h) λv s1 dh=>?_
 obtain⟨x,H1,I1,r1,q1⟩:=dh
 obtain⟨a,e,⟨xs,hq⟩,q⟩:=q1
 subst e
 cases r1
 obtain⟨cj,rv,p,hz⟩:=I1.list hq
 refine wpAny_pyIter_list p.isList ?_
 refine⟨s1.heap.objs.size,[s1.heap.objs.size],_,_,H1,rfl,I1.kept (t':=s1.toks) λb o e=>aw _ e,V4 a _,⟨_,bB _ rfl,rfl,rfl⟩,λb hb=>?_,q⟩
 have e:b=s1.heap.objs.size:=by simpa using hb
 subst e
 exact I1.fpOk (aC _) (I1.hok.fresh (aC _))
theorem NT {af:List (ah×cN)}{σ:St}{H:Hp}{s:aj}{R:It->Hp->Prop}{E:ae->aj->Prop}{lo hi:Int}{t u v:Tok}{tk:Nat}(I:Inv X af σ H s)(h1:-(2 ^ 62)<=lo)(h2:lo<2 ^ 62)(h3:-(2 ^ 62)<=hi)(h4:hi<2 ^ 62)
    (q:R (Ar lo (hi-lo).toNat) H):aN (aG X.prog X.w) X.A (pyIter (.ref s.heap.objs.size)) (KY X af σ tg R) E { s with heap:=s.heap.push { cls:=.type "range",data:=.fields #[.int lo t,.int hi u,.int 1 v] },toks:=tk }:=by
  refine wpAny_pyIter_range (IsRange.new ..) (small_one h1 h2 h3 h4) ?_
  have I1:Inv X af σ H { s with heap:=s.heap.push { cls:=.type "range",data:=.fields #[.int lo t,.int hi u,.int 1 v] },toks:=tk }:=I.kept λb o e=>aw _ e
  refine⟨(s.heap.push { cls:=.type "range",data:=.fields #[.int lo t,.int hi u,.int 1 v] }).objs.size,[(s.heap.push { cls:=.type "range",data:=.fields #[.int lo t,.int hi u,.int 1 v] }).objs.size],_,_,H,rfl,
    I1.kept (t':=tk) λb o e=>aw _ e,VA _ lo (hi-lo).toNat,?_,λb hb=>?_,q⟩
  · have e1:lo+((0:Nat):Int)*1=lo:=by simp
    have e2:(((hi-lo).toNat:Nat):Int)-((0:Nat):Int)=dO.Range.rangeSize lo hi 1:=by rw[rangeSize_one];split<;>omega
    show IsRangeIter _ _ (lo+((0:Nat):Int)*1) ((((hi-lo).toNat:Nat):Int)-((0:Nat):Int)) 1
    rw[e1,e2]
    exact bB _ rfl
  · have e:b=(s.heap.push { cls:=.type "range",data:=.fields #[.int lo t,.int hi u,.int 1 v] }).objs.size:=by simpa using hb
    subst e
    exact I1.fpOk (aC _) (I1.hok.fresh (aC _))
def Ct (ta:TA):TI:=λσ H R=>ta σ H λvs H1=>∃j:Int,vs=[.int j]/\-(2 ^ 62)<=j/\j<2 ^ 62/\R (Ar 0 j.toNat) H1
def Cu (ta:TA):TI:=λσ H R=>ta σ H λvs H1=>∃i j:Int,vs=[.int i,.int j]/\(-(2 ^ 62)<=i/\i<2 ^ 62/\-(2 ^ 62)<=j/\j<2 ^ 62)/\R (Ar i (j-i).toNat) H1
theorem VE {a:Expr}{ta:TA}{p pos:cE}(hg:Gl X "range")(hm:X.mg "range"=none)(ha:PA X [a] ta)(hs:ak [a] X.env=[(false,br a X.env)]:=by rfl):PI X tg (.Call (.Name "range" p) [a] [] pos) (Ct ta):=by
 intro af s σ H R I h
 refine Call_ (sQ I hg hm boot_range (bT (cW (ha pos af s σ H _ I h) λus s1 ⟨vs,H1,I1,r1,q1⟩=>?_) hs rfl))
 obtain⟨j,e,q1,q2,q⟩:=q1
 subst e
 cases r1 with
 |cons r rr=>
  cases rr
  obtain⟨t,rfl⟩:=r
  exact call_range_1 (NT I1 (by omega) (by omega) q1 q2 (by simpa using q))
theorem VF {a b:Expr}{ta:TA}{p pos:cE}(hg:Gl X "range")(hm:X.mg "range"=none)(ha:PA X [a,b] ta)(hs:ak [a,b] X.env=[(false,br a X.env),(false,br b X.env)]:=by rfl)(lh:ak [b] X.env=[(false,br b X.env)]:=by rfl) :
  PI X tg (.Call (.Name "range" p) [a,b] [] pos) (Cu ta):=by
 intro af s σ H R I h
 refine Call_ (sQ I hg hm boot_range (bT (cW (ha pos af s σ H _ I h) λus s1 ⟨vs,H1,I1,r1,q1⟩=>?_) (by rw[hs,lh]) (by rw[lh];rfl)))
 obtain⟨i,j,e,⟨q1,q2,q3,q4⟩,q⟩:=q1
 subst e
 cases r1 with
 |cons r rr=>
  cases rr with
  |cons r' rr=>
   cases rr
   obtain⟨t,rfl⟩:=r
   obtain⟨t',rfl⟩:=r'
   exact call_range_2 (NT I1 q1 q2 q3 q4 q)
def JF (wi:TI)(g:TG)(tb:TS):TS:=λD σ H=>wi σ H λJ H1=>∃W:Nat->Nat->St->Hp->Prop,(∃m,W 0 m σ H1)/\∀i m σ H,W i m σ H ->
 (J.stop i H/\D.nx σ H)\/(J.go i H/\∃N:St->Hp->Prop,(∀σ' H',N σ' H'->∃m',m'<m/\W (i+1) m' σ' H')/\∀x H',J.yld i H x H'->g x σ H' λσ2 H2=>tb { D with nx:=N,ct:=N,bk:=D.nx } σ2 H2)
def kL (fp:List ah)(h:aI):List (ah×cN):=fp.filterMap λb=>(h.get? b).map λo=>(b,o)
theorem uz {fp:List ah}{h:aI}{b:ah}{o:cN}(hb:b∈fp)(e:h.get? b=some o):(b,o)∈kL fp h:=pZ.mpr ⟨b,hb,by rw[e];rfl⟩
theorem VG {fp:List ah}{h:aI}{p:ah×cN}(hp:p∈kL fp h):p.1∈fp/\h.get? p.1=some p.2:=by
 obtain⟨b,hb,e⟩:=pZ.mp hp
 cases q:h.get? b with
 |none=>rw[q]at e;cases e
 |some o=>
  rw[q]at e
  have e':(b,o)=p:=Option.some.inj e
  subst e'
  exact⟨hb,q⟩
theorem Inv.pinned {af:List (ah×cN)}{σ:St}{H:Hp}{s:aj}{fp:List ah}(I:Inv X af σ H s)(hf:∀b∈fp,kj X af H b)(ho:∀b∈fp,∃o,s.heap.get? b=some o/\∀v,o.data≠.cell v):Inv X (af++kL fp s.heap) σ H s :=
 I.pins_of λp hp=>(bC.mp hp).elim (λz=>I.pin p (az _ z)) λz=>by
  obtain⟨hb,e⟩:=VG z
  obtain⟨f0,f1,f2,_⟩:=hf p.1 hb
  obtain⟨o,e',d⟩:=ho p.1 hb
  rw[e]at e';cases e'
  exact⟨e,f0,f1,f2,d⟩
theorem Inv.unpinned {af pl:List (ah×cN)}{σ:St}{H:Hp}{s:aj}(I:Inv X (af++pl) σ H s):Inv X af σ H s:=I.pins_of λp hp=>I.pin p (az _ (bq _ hp))
theorem Pc {iter:Expr}{body:List bL}{wi:TI}{g:TG}{tb:TS}{pos:cE}(hp:bW (aG X.prog X.w) X.A X.env X.xe)(hc:X.calm=true)(hi:PI X tg iter wi)(hg:PG X tg g)(hb:nr X body tb)
  (hs:∀x,cR iter X.env x=pure x:=by intro _;rfl):PS X (.For tg iter body [] pos) (JF wi g tb):=by
 intro af s σ H D I h
 refine wpAny_For (cW (hi af s σ H _ I h) λv s1 h1=>cW h1 λFw s2 h2=>?_) hs
 obtain⟨it,fp,tn,J,H2,e,I2,T,qM,f2,W,⟨m0,w0⟩,ce⟩:=h2
 subst e
 have lZ:∀{H':Hp},(∀b∈fp,H' b=none)->∀b∈fp,kj X af H' b:=λhn b hb=>⟨hn b hb,(f2 b hb).2⟩
 refine codeAny_forLoop_any (λn s'=>∃i σ' H',Inv X af σ' H' s'/\tn i s'.heap/\(∀b∈fp,H' b=none)/\W i n σ' H') ?_ m0 ⟨0,σ,H2,I2,qM,λb hb=>(f2 b hb).1,w0⟩
 rintro n s3 ⟨i,σ3,H3,I3,MB,Lw,w3⟩
 rcases ce i n σ3 H3 w3 with⟨stop,qn⟩|⟨go,N,hN,step⟩
 ·refine eJ hp (cW (T.done X rfl rfl rfl hc i af s3 σ3 H3 X.xe I3 (lZ Lw) MB stop) λr s4 dh=>?_)
  obtain⟨hr,I4⟩:=dh
  subst hr
  exact jP ⟨σ3,H3,I4,qn⟩
 ·refine eJ hp (cW (T.item X rfl rfl rfl hc i af s3 σ3 H3 X.xe I3 (lZ Lw) MB go) λr s4 dh=>?_)
  obtain⟨u,hr,h4⟩:=dh
  subst hr
  refine eJ hp (cW h4 λ_ s5 dh=>?_)
  obtain⟨x,H5,I5,r5,y5,t6,xE⟩:=dh
  have Qg:=I5.pinned (lZ xE) (T.obj _ _ t6)
  refine eJ hp (cW (hg _ s5 σ3 H5 x u _ Qg r5 (step x H5 y5)) λ_ s6 dh=>?_)
  obtain⟨σ6,H6,I6,q6⟩:=dh
  refine eJ hp (cW (hb _ s6 σ6 H6 _ I6 q6) λf s7 q7=>?_)
  have again:∀{σ7:St} {H7:Hp},Inv X (af++kL fp s5.heap) σ7 H7 s7->N σ7 H7->∃m,m<n/\∃i σ' H',Inv X af σ' H' s7/\tn i s7.heap/\(∀b∈fp,H' b=none)/\W i m σ' H':=λ{σ7 H7} I7 n7=>by
   obtain⟨m',hm,w7⟩:=hN σ7 H7 n7
   refine⟨m',hm,i+1,σ7,H7,I7.unpinned,T.keep _ _ _ t6 λb hb o e=>(I7.pin (b,o) (az _ (az _ (uz hb e)))).1,λb hb=>?_,w7⟩
   obtain⟨o,e,d⟩:=T.obj _ _ t6 b hb
   exact(I7.pin (b,o) (az _ (az _ (uz hb e)))).2.1
  cases f with
  |next=>obtain⟨σ7,H7,I7,n7⟩:=q7;exact again I7 n7
  |cont=>obtain⟨σ7,H7,I7,n7⟩:=q7;exact again I7 n7
  |brk=>obtain⟨σ7,H7,I7,q7⟩:=q7;exact⟨σ7,H7,I7.unpinned,q7⟩
  |ret v=>obtain⟨x7,σ7,H7,I7,r7,q7⟩:=q7;exact⟨x7,σ7,H7,I7.unpinned,r7,q7⟩
end
end L2
namespace L2
open PySem PySem.Spec PyProof.Rows
abbrev R2:=V->V->Hp->VK->Prop
def gA (X:Cx)(f:ae->ae->ng ae)(r:R2):Prop :=
 ∀(af:List (ah×cN)) (s:aj) (σ:St) (H:Hp) (x y:V) (v u:ae) (Q:VK),Inv X af σ H s->RelV x v->RelV y u->r x y H Q ->
  aN (aG X.prog X.w) X.A (f v u) (EP X af σ Q) X.xe s
def EL (X:Cx)(f:ae->ng ae)(r:V->Hp->VK->Prop):Prop :=
 ∀(af:List (ah×cN)) (s:aj) (σ:St) (H:Hp) (x:V) (v:ae) (Q:VK),Inv X af σ H s->RelV x v->r x H Q ->
  aN (aG X.prog X.w) X.A (f v) (EP X af σ Q) X.xe s
def eR (X:Cx)(f:ae)(r:List V->Hp->VK->Prop):Prop :=
 ∀(af:List (ah×cN)) (s:aj) (σ:St) (H:Hp) (xs:List V) (us:List ae) (Q:VK),Inv X af σ H s->bM xs us->r xs H Q ->
  aN (aG X.prog X.w) X.A (call f us) (EP X af σ Q) X.xe s
def FD (r:R2)(ta tb:TE):TE:=λσ H Q=>ta σ H λx H1=>tb σ H1 λy H2=>r x y H2 Q
def Uo (r:V->Hp->VK->Prop)(ta:TE):TE:=λσ H Q=>ta σ H λx H1=>r x H1 Q
def rI (C:Int->Int->Prop)(g:Int->Int->V):R2:=λx y H Q=>∃i j,x=.int i/\y=.int j/\C i j/\Q (g i j) H
def oI (g:Int->Int->V):R2:=λx y H Q=>∃i j,x=.int i/\y=.int j/\Q (g i j) H
def rU (g:Int->V):V->Hp->VK->Prop:=λx H Q=>∃i,x=.int i/\Q (g i) H
section
variable {X:Cx}{a b c:Expr}{ta tb tc:TE}{pos:cE}
theorem vU (ha:PE X a ta)(hb:PE X b tb){af:List (ah×cN)}{s:aj}{σ:St}{H:Hp}{R:V->V->Hp->Prop}(I:Inv X af σ H s)
  (h:ta σ H λx H1=>tb σ H1 λy H2=>R x y H2) {Q:ae->aj->Prop} {f:ae->ae->ng ae}
  (hf:∀v u s2 x y H2,Inv X af σ H2 s2->RelV x v->RelV y u->R x y H2->aN (aG X.prog X.w) X.A (f v u) Q X.xe s2) :
  aN (aG X.prog X.w) X.A (br a X.env) (λv s₁=>aN (aG X.prog X.w) X.A (br b X.env) (λu s₂=>aN (aG X.prog X.w) X.A (f v u) Q X.xe s₂) X.xe s₁) X.xe s:=by
 refine cW (ha af s σ H _ I h) λv s1 dh=>?_
 obtain⟨x,H1,I1,r1,q1⟩:=dh
 refine cW (hb af s1 σ H1 _ I1 q1) λu s2 dh=>?_
 obtain⟨y,H2,I2,r2,q2⟩:=dh
 exact hf v u s2 x y H2 I2 r1 r2 q2
theorem KO {op:iS}{r:R2}(ho:gA X (dI op) r)(ha:PE X a ta)(hb:PE X b tb):PE X (.BinOp a op b pos) (FD r ta tb):=by
 intro af s σ H Q I h
 exact wpAny_BinOp (vU ha hb I h λv u s2 x y H2 I2 rx ry q=>ho af s2 σ H2 x y v u Q I2 rx ry q)
theorem Z6 {op:UnaryOp}{r:V->Hp->VK->Prop}(ho:EL X (unaryOp op) r)(ha:PE X a ta):PE X (.UnaryOp op a pos) (Uo r ta):=by
 intro af s σ H Q I h
 exact UnaryOp_ (cW (ha af s σ H _ I h) λv s1 ⟨x,H1,I1,r1,q1⟩=>ho af s1 σ H1 x v Q I1 r1 q1)
theorem zX {f:ae->ae->ng ae}{C:Int->Int->Prop}{g:Int->Int->Int}
  (rule:∀(i j:Int) (t u:Tok) (s:aj) (Q:ae->aj->Prop) (E:ae->aj->Prop),C i j->Q (.int (g i j) s.toks) { s with toks:=s.toks+1 }->aN (aG X.prog X.w) X.A (f (.int i t) (.int j u)) Q E s) :
  gA X f (rI C λi j=>.int (g i j)):=by
 intro af s σ H x y v u Q I rx ry h
 obtain⟨i,j,rfl,rfl,hc,q⟩:=h
 obtain⟨t,rfl⟩:=rx
 obtain⟨t',rfl⟩:=ry
 exact rule i j t t' s _ _ hc ⟨.int (g i j),H,I.tok _,⟨_,rfl⟩,q⟩
theorem Df {f:ae->ae->ng ae}{g:Int->Int->Int}
  (rule:∀(i j:Int) (t u:Tok) (s:aj) (Q:ae->aj->Prop) (E:ae->aj->Prop),Q (.int (g i j) s.toks) { s with toks:=s.toks+1 }->aN (aG X.prog X.w) X.A (f (.int i t) (.int j u)) Q E s) :
  gA X f (oI λi j=>.int (g i j)):=by
 intro af s σ H x y v u Q I rx ry h
 obtain⟨i,j,rfl,rfl,q⟩:=h
 obtain⟨t,rfl⟩:=rx
 obtain⟨t',rfl⟩:=ry
 exact rule i j t t' s _ _ ⟨.int (g i j),H,I.tok _,⟨_,rfl⟩,q⟩
theorem tX {f:ae->ae->ng ae}{g:Int->Int->Bool}
  (rule:∀(i j:Int) (t u:Tok) (s:aj) (Q:ae->aj->Prop) (E:ae->aj->Prop),Q (.bool (g i j)) s->aN (aG X.prog X.w) X.A (f (.int i t) (.int j u)) Q E s) :
  gA X f (oI λi j=>.bl (g i j)):=by
 intro af s σ H x y v u Q I rx ry h
 obtain⟨i,j,rfl,rfl,q⟩:=h
 obtain⟨t,rfl⟩:=rx
 obtain⟨t',rfl⟩:=ry
 exact rule i j t t' s _ _ ⟨.bl (g i j),H,I,rfl,q⟩
def sZ (i j:Int):Prop:=0<=j/\j<=1000000/\i.natAbs<2 ^ 64
def vN (i j:Int):Prop:=(-(2 ^ 64)<i/\i<2 ^ 64)\/(-(2 ^ 64)<j/\j<2 ^ 64)
theorem vN.ok {i j:Int}(h:vN i j):IntMulOk i j:=by
 rcases h with⟨h1,h2⟩|⟨h1,h2⟩
 ·exact .of_left (intBits_le_64 h1 h2)
 ·exact .of_right (intBits_le_64 h1 h2)
theorem VB (k:Nat):(0:Int)<=2 ^ k:=by
 rw[two_pow_cast]
 exact Int.natCast_nonneg _
theorem Zo:gA X (dI .Add) (oI λi j=>.int (i+j)):=Df λ_ _ _ _ _ _ _ q=>add_int q
theorem qc:gA X (dI .Sub) (oI λi j=>.int (i-j)):=Df λ_ _ _ _ _ _ _ q=>sub_int q
theorem xp:gA X (dI .Mod) (rI (λ_ j=>j≠0) λi j=>.int (i.fmod j)):=zX λ_ _ _ _ _ _ _ hc q=>mod_int' hc q
theorem Pd:gA X (dI .Pow) (rI sZ λi j=>.int (i ^ j.toNat)):=zX λ_ _ _ _ _ _ _ hc q=>pow_int_small hc.1 hc.2.1 hc.2.2 q
theorem Zp:gA X (dI .LShift) (rI sZ λi j=>.int (i*2 ^ j.toNat)):=zX λ_ _ _ _ _ _ _ hc q=>lshift_int_small hc.1 hc.2.1 hc.2.2 q
theorem Pe:gA X (dI .RShift) (rI (λ_ j=>0<=j) λi j=>.int (i/2 ^ j.toNat)):=zX λi j _ _ _ _ _ hc q=>
 rshift_int hc (by rw[mL i (VB _)];exact q)
theorem Uz {f:ae->ng ae}{g:Int->Int}
  (rule:∀(i:Int) (t:Tok) (s:aj) (Q:ae->aj->Prop) (E:ae->aj->Prop),Q (.int (g i) s.toks) { s with toks:=s.toks+1 }->aN (aG X.prog X.w) X.A (f (.int i t)) Q E s) :
  EL X f (rU λi=>.int (g i)):=by
 intro af s σ H x v Q I rx h
 obtain⟨i,rfl,q⟩:=h
 obtain⟨t,rfl⟩:=rx
 exact rule i t s _ _ ⟨.int (g i),H,I.tok _,⟨_,rfl⟩,q⟩
theorem Zq:EL X (unaryOp .USub) (rU λi=>.int (-i)):=Uz λ_ _ _ _ _ q=>neg_int q
end
section
variable {X:Cx}{a b c:Expr}{ta tb tc:TE}{pos:cE}
theorem Pf {af:List (ah×cN)}{σ:St}{H:Hp}{s:aj}{Q:VK}{k k':Bool}(I:Inv X af σ H s)(q:Q (.bl k) H)(e:k=k'):EP X af σ Q (.bool k') s:=by
 subst e
 exact⟨.bl k,H,I,rfl,q⟩
theorem vM:gA X (cV .Lt) (oI λi j=>.bl (decide (i<j))):=tX λ_ _ _ _ _ _ _ q=>lt_int q
theorem Z7:gA X (cV .LtE) (oI λi j=>.bl (decide (i<=j))):=tX λ_ _ _ _ _ _ _ q=>le_int q
theorem Ai:gA X (cV .Gt) (oI λi j=>.bl (decide (j<i))):=tX λ_ _ _ _ _ _ _ q=>gt_int q
theorem KQ:gA X (cV .GtE) (oI λi j=>.bl (decide (j<=i))):=tX λ_ _ _ _ _ _ _ q=>ge_int q
theorem Zr:gA X (cV .Is) (λx y H Q=>y=.non/\Q (.bl (decide (x=.non))) H):=by
 intro af s σ H x y v u Q I rx ry h
 obtain⟨rfl,q⟩:=h
 cases ry
 refine is_none_gen (Pf I q ?_)
 cases x<;>first
  |(cases rx;rfl)
  |(obtain⟨t,rfl⟩:=rx;rfl)
theorem gA.or {f:ae->ae->ng ae}{r r':R2}(h:gA X f r)(h':gA X f r'):gA X f (λx y H Q=>r x y H Q\/r' x y H Q):=by
 intro af s σ H x y v u Q I rx ry q
 rcases q with q|q
 ·exact h af s σ H x y v u Q I rx ry q
 ·exact h' af s σ H x y v u Q I rx ry q
theorem bw (b:Expr){op:la}(h:op≠.In:=by decide)(h2:op≠.NotIn:=by decide):dz op b=false:=by
 have e1:(op==la.In)=false:=by cases op<;>first|rfl|exact absurd rfl h
 have e2:(op==la.NotIn)=false:=by cases op<;>first|rfl|exact absurd rfl h2
 cases b<;>simp[dz,e1,e2]
theorem XY {op:la}{r:R2}(ho:gA X (cV op) r)(ha:PE X a ta)(hb:PE X b tb)(hm:dz op b=false):PE X (.Compare a [op] [b] pos) (FD r ta tb):=by
 intro af s σ H Q I h
 exact wpAny_Compare1 (vU ha hb I h λv u s2 x y H2 I2 rx ry q=>ho af s2 σ H2 x y v u Q I2 rx ry q) hm
def D9 (t:TE):TT:=λσ H Q=>t σ H λx H'=>∃k,x=.bl k/\Q k H'
theorem XZ {op:la}{r:R2}(ho:gA X (cV op) r)(ha:PE X a ta)(hb:PE X b tb)(hm:dz op b=false):PT X (.Compare a [op] [b] pos) (D9 (FD r ta tb)):=by
 intro af s σ H Q I h
 refine wpAny_isTrue_Compare1 (cW (ha af s σ H _ I h) λv s1 ⟨x,H1,I1,r1,q1⟩=>cW (hb af s1 σ H1 _ I1 q1) λu s2 ⟨y,H2,I2,r2,q2⟩=>
  cW (ho af s2 σ H2 x y v u _ I2 r1 r2 q2) λc s3 ⟨z,H3,I3,r3,k,e,q3⟩=>?_) hm
 subst e
 cases r3
 exact eX ⟨H3,I3,q3⟩
theorem jV:(sizeLine:Nat)<2 ^ 63:=by rw[bY];decide
theorem VC:gA X (dI .Add) (λx y H Q=>∃i j,x=.str i/\y=.str j/\i.length+j.length<=sizeLine/\Q (.str (i++j)) H):=by
 intro af s σ H x y v u Q I rx ry h
 obtain⟨i,j,rfl,rfl,hz,q⟩:=h
 obtain⟨t,rfl⟩:=rx
 obtain⟨t',rfl⟩:=ry
 exact add_str (λt' tk=>⟨.str (i++j),H,I.tok _,⟨_,rfl⟩,q⟩) hz
theorem m9 {x:V}{us:List ae}(r:bM [x] us):∃u,us=[u]/\RelV x u:=by
 cases r with
 |cons r1 r2=>cases r2;exact⟨_,rfl,r1⟩
theorem vals2 {x y:V}{us:List ae}(r:bM [x,y] us):∃u w',us=[u,w']/\RelV x u/\RelV y w':=by
 cases r with
 |cons r1 r2=>
  cases r2 with
  |cons r3 r4=>cases r4;exact⟨_,_,rfl,r1,r3⟩
theorem VH (hc:X.calm=true):eR X (.builtin "max") (λxs H Q=>∃i j,xs=[.int i,.int j]/\Q (.int (if j > i then j else i)) H):=by
 intro af s σ H xs us Q I r h
 obtain⟨i,j,rfl,q⟩:=h
 obtain⟨u,w',rfl,⟨t,rfl⟩,⟨t',rfl⟩⟩:=vals2 r
 refine max_two_ints (I.ok.hd hc) λh' tk k=>⟨_,H,I.kept k,?_,q⟩
 by_cases hj:j > i
 ·rw[if_pos hj,if_pos hj];exact⟨_,rfl⟩
 ·rw[if_neg hj,if_neg hj];exact⟨_,rfl⟩
theorem U8:eR X (.type "str") (λxs H Q=>∃i,xs=[.int i]/\i.natAbs.log2<1920/\Q (.str (toString i)) H):=by
 intro af s σ H xs us Q I r h
 obtain⟨i,rfl,hz,q⟩:=h
 obtain⟨u,rfl,t,rfl⟩:=m9 r
 exact PySem.P.str_of_int hz ⟨.str _,H,I.tok _,⟨_,rfl⟩,q⟩
end
end L2
namespace L2
open PySem PySem.Spec PyProof.Rows
structure o6 (h:aI)(x dx C:ah)(mA:aJ->Option ae):Prop where
 obj:h.get? x=some (dA C dx)
 ns:h.Ns1 dx mA
 ne:dx≠x
theorem Nm {h:aI}{dx:ah}{mA:aJ->Option ae}(n:h.Ns1 dx mA):∃od,h.get? dx=some od/\∀name,iG name od=some (mA name):=by
 obtain⟨o,es,ep,ho,hd,hk,_,hm⟩:=n
 refine⟨o,ho,λname=>?_⟩
 have e:=hm name
 unfold nsFind findBy at e
 rw[←Array.find?_toList]at e
 unfold iG
 rw[hd]
 dsimp only
 split
 ·rename_i y q
  rw[q]at e
  exact congrArg some e
 ·rename_i q
  rw[q]at e
  have a:es.toList.any (·.refKey)=false:=by
   rw[List.any_eq_false]
   intro y hy
   obtain⟨z,t,IG⟩:=hk y (Array.mem_toList_iff.mp hy)
   simp[DictEntry.refKey,IG]
  have a':¬es.toList.any (·.refKey)=true:=by rw[a];exact aH
  rw[if_neg a']
  exact congrArg some e
theorem o6.look {h:aI}{x dx C:ah}{mA:aJ->Option ae}(I:o6 h x dx C mA):∃od,eA h x (dA C dx) C (some od)/\∀name,iG name od=some (mA name) :=
 let⟨od,ho,hl⟩:=Nm I.ns
 ⟨od,⟨I.obj,rfl,rfl,ho⟩,hl⟩
section
variable {prog:bg}{w:bN}{A:bx}{E:ae->aj->Prop}{s:aj}{K:aa}{x dx C f:ah}{mA:aJ->Option ae}{name:aJ}{v:ae}
theorem X0 {expr:Bool}{Q:ae->aj->Prop}(X:K.In s.heap)(I:o6 s.heap x dx C mA)(hg:cT K C name=true)(hh:bH K C=true)
  (ha:am K (.ref C) name=some none) (hv:mA name=some v) (IW:kA v=true) (h:Q v { s with toks:=s.toks+1 }) :
  aN (aG prog w) A (getAttr (.ref x) name expr) Q E s:=by
 obtain⟨od,J,hl⟩:=I.look
 exact PySem.W.get_value X J (iW hg).1 (nO hh ha rfl (by rw[hl,hv])) IW h
theorem WG {pl:ng Bool}{Q:ae×List ae->aj->Prop}(X:K.In s.heap)(I:o6 s.heap x dx C mA)(hg:cT K C name=true)
  (hf:am K (.ref C) name=some (some (.ref f))) (ht:cr K (.ref f)=true) (hv:mA name=none) (h:Q (.ref f,[.ref x]) s) :
  aN (aG prog w) A (fK (.ref x) name pl) Q E s:=by
 obtain⟨od,J,hl⟩:=I.look
 exact PySem.W.method_fn X J (iW hg).1 (iW hg).2 hf (beq_iff_eq.mp ht) (by show(iG name od).map (·.isSome)=some false;rw[hl,hv];rfl) h
theorem X1 {ns:List aJ}{Q:Unit->aj->Prop}(X:K.In s.heap)(I:o6 s.heap x dx C mA)
  (hs:am K (.ref C) "__setattr__"=some (some (.builtin "object.__setattr__"))) (hp:dE K C=true) (ht:dC K C name=some none) (hh:bH K C=true)
  (hw:PySem.Within mA ns) (hsz:ns.length<=sizeLine)
  (h:∀h',o6 h' x dx C (λy=>if y=name then some v else mA y)->gD dx s.heap h'->Q () { s with heap:=h',toks:=s.toks+2 }) :
  aN (aG prog w) A (setAttr (.ref x) name v) Q E s:=by
 obtain⟨od,J,hl⟩:=I.look
 refine oS X J hs (PySem.W.osa_open (s:={ s with toks:=s.toks+1 }) (r:=none) X J hp ht λb=>?_)
 obtain⟨cd,hc,Ii⟩:=gR hh
 have hx:s.heap.get? x=some ⟨.ref C,some dx,.plain,#[]⟩:=I.obj
 refine aq (aS (aq (aq (wpAny_loadPart hx (aq (ck.here (s:={ s with toks:=s.toks+1 }) (iU X hc) ?_))))))
 rw[Ii]
 refine aS (a:=some dx) (aq (aS (aq ?_)))
 refine wpAny_nsSet1 (s:={ s with toks:=s.toks+1 }) I.ns λh' rQ lh=>?_
 obtain⟨oD,QR,QP,IJ,Ij,Ib⟩:=rQ.count (PySem.Within.cons name v hw)
 refine aq (wpAny_lookBehind IJ (by rw[Ij];exact pastItsLine_dict (bX Ib (by rw[aV];omega))) ?_)
 exact aS (h _ ⟨(lh.2 _ (Ne.symm I.ne)).trans I.obj,rQ,I.ne⟩ lh)
theorem WH {R:Result->aj->Prop}{vs:List ae}{kw:List (aJ×ae)}(X:K.In s.heap)(hm:dB K C=true)
  (hi:am K (.ref C) "__init__"=some (some (.ref f))) (hf:lw K (.ref f)=some (.type "function"))
  (h:eW (aG prog w) (A.under (.builtin "type.__call__" ⟨.ref C::vs,kw⟩)) (.call (.ref f) ⟨.ref (s.heap.objs.size+1)::vs,kw⟩) (pK (s.heap.objs.size+1) R)
   { s with heap:=(s.heap.push cG).push (dA C s.heap.objs.size) }) :
  eW (aG prog w) A (.call (.ref C) ⟨vs,kw⟩) R s:=by
 obtain⟨hh,g,d,t,os⟩:=s
 exact PySem.W.make_core (PySem.W.makes_of X hm) (cY X hi) (λself=>p9 X self hf) (.inl rfl) h
end
def iD (f:aJ)(v:V):List (aJ×V)->List (aJ×V)
 |[]=>[(f,v)]
 |(g,x)::r=>if g=f then(g,v)::r else(g,x)::iD f v r
theorem MV (f g:aJ)(v:V):∀fs:List (aJ×V),(iD f v fs).lookup g=if g=f then some v else fs.lookup g
 |[]=>by
  show eL g [(f,v)]=_
  by_cases h:g=f
  ·have hb:(g==f)=true:=beq_iff_eq.mpr h
   simp only[eL,hb,if_pos h]
  ·have hb:(g==f)=false:=beq_eq_false_iff_ne.mpr h
   simp only[eL,hb,if_neg h]
 |(k,x)::r=>by
  have ih:=MV f g v r
  rw[show iD f v ((k,x)::r)=(if k=f then(k,v)::r else(k,x)::iD f v r)from rfl]
  by_cases hk:k=f
  ·rw[if_pos hk]
   by_cases h:g=k
   ·have hb:(g==k)=true:=beq_iff_eq.mpr h
    simp only[eL,hb,if_pos (h.trans hk)]
   ·have hb:(g==k)=false:=beq_eq_false_iff_ne.mpr h
    simp only[eL,hb,if_neg (λe:g=f=>h (e.trans hk.symm))]
  ·rw[if_neg hk]
   by_cases h:g=k
   ·have hb:(g==k)=true:=beq_iff_eq.mpr h
    simp only[eL,hb,if_neg (λe:g=f=>hk (h.symm.trans e))]
   ·have hb:(g==k)=false:=beq_eq_false_iff_ne.mpr h
    simp only[eL,hb]
    exact ih
theorem JT (f:aJ)(v:V):∀fs:List (aJ×V),f∈(iD f v fs).map (·.1)/\∀g,g∈fs.map (·.1)->g∈(iD f v fs).map (·.1)
 |[]=>⟨by simp[iD],λg h=>by simp at h⟩
 |(k,x)::r=>by
  obtain⟨i1,i2⟩:=JT f v r
  rw[show iD f v ((k,x)::r)=(if k=f then(k,v)::r else(k,x)::iD f v r)from rfl]
  by_cases hk:k=f
  ·rw[if_pos hk]
   subst hk
   exact⟨by simp,λg h=>by simpa using h⟩
  ·rw[if_neg hk]
   refine⟨?_,λg h=>?_⟩
   ·rw[bn]
    exact ao _ i1
   ·rw[bn]at h ⊢
    rcases aB.mp h with e|e
    ·exact aB.mpr (.inl e)
    ·exact ao _ (i2 g e)
theorem MW (f:aJ)(v:V):∀fs:List (aJ×V),(iD f v fs).length<=fs.length+1
 |[]=>by simp[iD]
 |(k,x)::r=>by
  have ih:=MW f v r
  rw[show iD f v ((k,x)::r)=(if k=f then(k,v)::r else(k,x)::iD f v r)from rfl]
  by_cases hk:k=f
  ·rw[if_pos hk,aV,aV];omega
  ·rw[if_neg hk,aV,aV];omega
theorem i9.some_of {v:V}{o:Option ae}(r:i9 (some v) o):∃u,o=some u/\RelV v u:=by
 cases o with
 |none=>exact(show False from r).elim
 |some u=>exact⟨u,rfl,r⟩
theorem i9.none_of {o:Option ae}(r:i9 none o):o=none:=by
 cases o with
 |none=>rfl
 |some u=>exact(show False from r).elim
theorem Nn {v:V}{u:ae}(r:RelV v u):kA u=true:=by
 cases v with
 |non=>cases(show u=ae.none from r);rfl
 |bl b=>cases(show u=ae.bool b from r);rfl
 |int i=>obtain⟨t,e⟩:=(show∃t,u=ae.int i t from r);cases e;rfl
 |str x=>obtain⟨t,e⟩:=(show∃t,u=ae.str x t from r);cases e;rfl
 |byt b=>obtain⟨t,e⟩:=(show∃t,u=ae.bytes b t from r);cases e;rfl
 |flt b=>obtain⟨t,e⟩:=(show∃t,u=ae.float b t from r);cases e;rfl
 |ref a=>cases(show u=ae.ref a from r);rfl
 |ty n=>cases(show u=ae.type n from r);rfl
section
variable {P:bg}{w:bN}{H H':Hp}{h h':aI}{a C dx:ah}{fs QX:List (aJ×V)}
theorem Gk (hok:jS P w H h)(e:H a=some (.ins C dx fs)):∃mA,o6 h a dx C mA/\(∀f,i9 (fs.lookup f) (mA f))/\PySem.Within mA (fs.map (·.1))/\fs.length<=1000/\H dx=some (.own a):=by
 obtain⟨d,z,ne,ob,mA,n,r,q⟩:=(show dF P w H h a (.ins C dx fs)from hok a _ e)
 exact⟨mA,⟨ob,n,ne⟩,r,q,z,d⟩
end
structure lF (K:aa)(C:ah):Prop where
 pg:cT K C aJ.empty=true
 hd:bH K C=true
 po:dE K C=true
 sa:am K (.ref C) "__setattr__"=some (some (.builtin "object.__setattr__"))
theorem lF.get {K:aa}{C:ah}(c:lF K C)(f:aJ):cT K C f=true:=c.pg
def fz (K:aa)(C:ah)(f:aJ):Prop:=am K (.ref C) f=some none
theorem fz.taker {K:aa}{C:ah}{f:aJ}(n:fz K C f):dC K C f=some none:=by
 unfold dC
 rw[show am K (.ref C) f=some none from n]
 rfl
structure oZ (K:aa)(C:ah)(m:aJ)(f:ah):Prop where
 at_:am K (.ref C) m=some (some (.ref f))
 fn:cr K (.ref f)=true
 kp:ar K (.ref f)=true
section
variable {X:Cx}{af:List (ah×cN)}{σ:St}{H:Hp}{s:aj}{a C dx:ah}{fs:List (aJ×V)}{f:aJ}{v:V}{A:bx}{E:ae->aj->Prop}
theorem VD {b:Bool}{Q:ae->aj->Prop}(I:Inv X af σ H s)(e:H a=some (.ins C dx fs))(c:lF X.K C)(n:fz X.K C f)(l:fs.lookup f=some v)
  (h:∀u s',Inv X af σ H s'->RelV v u->Q u s'):aN (aG X.prog X.w) A (getAttr (.ref a) f b) Q E s:=by
 obtain⟨mA,O,r,_,_,_⟩:=Gk I.hok e
 obtain⟨u,hu,ru⟩:=i9.some_of (v:=v) (o:=mA f) (by rw[←l];exact r f)
 exact X0 I.kIn O (c.get f) c.hd n hu (Nn ru) (h u _ (I.tok _) ru)
theorem JU {m:aJ}{g:ah}{pl:ng Bool}{Q:ae×List ae->aj->Prop}(I:Inv X af σ H s)(e:H a=some (.ins C dx fs))(c:lF X.K C)(k:oZ X.K C m g)(l:fs.lookup m=none)
  (h:Q (.ref g,[.ref a]) s):aN (aG X.prog X.w) A (fK (.ref a) m pl) Q E s:=by
 obtain⟨mA,O,r,_,_,_⟩:=Gk I.hok e
 have hn:mA m=none:=i9.none_of (by rw[←l];exact r m)
 exact WG I.kIn O (c.get m) k.at_ k.fn hn h
theorem VM {y:V}{u:ae}{Q:Unit->aj->Prop}(I:Inv X af σ H s)(e:H a=some (.ins C dx fs))(c:lF X.K C)(n:fz X.K C f)(hl:fs.length<1000)(ry:RelV y u)
  (h:∀s',Inv X af σ (upd H a (.ins C dx (iD f y fs))) s'->Q () s'):aN (aG X.prog X.w) A (setAttr (.ref a) f u) Q E s:=by
 obtain⟨mA,O,r,wi,_,ho⟩:=Gk I.hok e
 have hz:(fs.map (·.1)).length<=sizeLine:=by rw[bi,bY];omega
 refine X1 I.kIn O c.sa c.po n.taker c.hd wi hz λh' O' sb=>h _ ?_
 have hd:∃o,h'.get? dx=some o:=let⟨o,_,_,e',_⟩:=O'.ns;⟨o,e'⟩
 refine I.write (x:=a) (e:=dx) (by rw[e];exact True.intro) (.inr ho) (λb q hb z=>(sb.2 b hb).trans z) hd ?_
 refine⟨by rw[zh O.ne];exact ho,?_,O.ne,O'.obj,_,O'.ns,λg=>?_,λg hg=>?_⟩
 ·have:=MW f y fs;omega
 ·show i9 ((iD f y fs).lookup g) (if g=f then some u else mA g)
  rw[MV]
  by_cases q:g=f
  ·rw[if_pos q,if_pos q];exact ry
  ·rw[if_neg q,if_neg q];exact r g
 ·by_cases q:g=f
  ·rw[q];exact(JT f y fs).1
  ·refine(JT f y fs).2 g (wi g λz=>hg ?_)
   show(if g=f then some u else mA g)=none
   rw[if_neg q];exact z
theorem Inv.made (I:Inv X af σ H s):Inv X af σ (upd (upd H s.heap.objs.size (.own (s.heap.objs.size+1))) (s.heap.objs.size+1) (.ins C s.heap.objs.size []))
  { s with heap:=(s.heap.push cG).push (dA C s.heap.objs.size) }:=by
 have e1:(s.heap.push cG).get? s.heap.objs.size=some cG:=bB s.heap rfl
 have e2:((s.heap.push cG).push (dA C s.heap.objs.size)).get? (s.heap.objs.size+1)=some (dA C s.heap.objs.size):=by
  have:=bB (s.heap.push cG) (o:=dA C s.heap.objs.size) rfl
  rwa[dU]at this
 have e3:(s.heap.push cG).Ns s.heap.objs.size (λ_=>none):=⟨cG,#[],_,e1,rfl,(λe he=>absurd he (by simp)),λ_=>rfl⟩
 have I1:=I.laid (a:=s.heap.objs.size) (o:=.own (s.heap.objs.size+1)) (h':=s.heap.push cG) (t':=s.toks) (λb u q=>aw _ q) (aC _) ⟨_,e1⟩
 refine I1.laid (a:=s.heap.objs.size+1) (o:=.ins C s.heap.objs.size []) (t':=s.toks) (λb u q=>aw _ q) (oo (dU _ _)) ?_
 have ne:s.heap.objs.size≠s.heap.objs.size+1:=aY (iu _)
 refine⟨by rw[zh ne,zk],d9 _,ne,e2,λ_=>none,(aI.Ns1.of_empty e3).at λo q=>aw _ q,λ_=>True.intro,λy hy=>absurd rfl hy⟩
theorem Oi {prog:bg}{w:bN}{env:Env}{e:Expr}{f:aJ}{pos:cE}{s:aj}{Q:ae->aj->Prop}(hb:df e f env (br e env)=br e env)
  (h:aN (aG prog w) A (br e env) (λo s₁=>aN (aG prog w) A (getAttr o f true) Q E s₁) E s):aN (aG prog w) A (br (.Attribute e f pos) env) Q E s :=
 Attribute_any_ h (by rw[arm_eval_Attribute,hb])
end
def JE (K:aa)(ta:TE)(f:aJ):TE:=λσ H Q=>ta σ H λx H1=>∃a C dx fs v,x=.ref a/\H1 a=some (.ins C dx fs)/\lF K C/\fz K C f/\fs.lookup f=some v/\Q v H1
def Jx (K:aa)(ta tv:TE)(f:aJ):TS:=λD σ H=>tv σ H λy H1=>ta σ H1 λx H2=>∃a C dx fs,x=.ref a/\H2 a=some (.ins C dx fs)/\lF K C/\fz K C f/\fs.length<1000 /\
 D.nx σ (upd H2 a (.ins C dx (iD f y fs)))
section
variable {X:Cx}{o e value:Expr}{f:aJ}{pos pos' jF:cE}{ta tv:TE}
theorem Zs (he:PE X e ta)(hb:df e f X.env (br e X.env)=br e X.env):PE X (.Attribute e f pos) (JE X.K ta f):=by
 intro af s σ H Q I h
 refine Oi hb (cW (he af s σ H _ I h) λu s1 dh=>?_)
 obtain⟨x,H1,I1,rx,a,C,dx,fs,v,ex,ea,c,n,l,q⟩:=dh
 subst ex
 obtain rfl:u=ae.ref a:=rx
 exact VD I1 ea c n l λu' s2 I2 ru=>⟨v,H1,I2,ru,q⟩
theorem YW (ha:PE X o ta)(hv:PE X value tv)(hs:di value (some (.Attribute o f pos')) pos.line X.env=pure false):PS X (.Assign [.Attribute o f pos'] value pos) (Jx X.K ta tv f):=by
 intro af s σ H D I h
 refine plainObj_wpAny_Assign_Attribute (cW (hv af s σ H _ I h) λu s1 ⟨y,H1,I1,ry,q⟩=>cW (ha af s1 σ H1 _ I1 q) λov s2 ⟨x,H2,I2,rx,a,C,dx,fs,ex,ea,c,n,l,q2⟩=>?_) hs
 subst ex
 obtain rfl:ov=ae.ref a:=rx
 exact VM I2 ea c n l ry λs3 I3=>⟨σ,_,I3,q2⟩
def yJ:V->V->Hp->VK->Prop:=λx y H Q=>∃i j,x=.int i/\y=.int j/\Q (.int (i+j)) H
theorem zof {pl:ng Bool}{m:aJ}{cP:cE}{args:List Expr}{af:List (ah×cN)}{s:aj}{σ:St}{H:Hp}{Q:ae->aj->Prop}{te:TE}(he:PE X e te)(I:Inv X af σ H s)
  (h:te σ H λx H1=>∃a C dx fs g,x=.ref a/\H1 a=some (.ins C dx fs)/\lF X.K C/\oZ X.K C m g/\fs.lookup m=none /\
   ∀s1,Inv X af σ H1 s1->aN (aG X.prog X.w) X.A (hJ pos (.ref g) [.ref a] (bU pos (ak args X.env)) (eh pos (cJ [] X.env))) Q X.xe s1)
  (ht:br (.Call (.Attribute e m cP) args [] pos) X.env=(do
   let ov ← br e X.env
   fF cP.atName
   let(f,first) ← dP [ov] (fK ov m pl)
   hJ pos f first (bU pos (ak args X.env)) (eh pos (cJ [] X.env)))) :
  aN (aG X.prog X.w) X.A (br (.Call (.Attribute e m cP) args [] pos) X.env) Q X.xe s:=by
 refine ej (pl:=pl) (cW (he af s σ H _ I h) λu s1 ⟨x,H1,I1,rx,a,C,dx,fs,g,ex,ea,c,k,l,q⟩=>?_) ht
 subst ex
 obtain rfl:u=ae.ref a:=rx
 exact JU I1 ea c k l (q s1 I1)
end
section
variable {X:Cx}{af:List (ah×cN)}{σ:St}{H:Hp}{s:aj}{A:bx}{E:ae->aj->Prop}{Q:ae->aj->Prop}{c:ae}{b:Bool}
inductive jT (K:aa)(H:Hp):V->ae->Prop where
 |non:jT K H .non (.type "NoneType")
 |bl (x:Bool):jT K H (.bl x) (.type "bool")
 |int (i:Int):jT K H (.int i) (.type "int")
 |str (x:aJ):jT K H (.str x) (.type "str")
 |flt (x:UInt64):jT K H (.flt x) (.type "float")
 |lst {a:ah} {xs:List V} (e:H a=some (.lst xs)):jT K H (.ref a) (.type "list")
 |frz {a:ah} {o:cN} {xs:List V} (e:H a=some (.frz o (.lst xs))):jT K H (.ref a) (.type "list")
 |tup {a:ah} {xs:List V} (e:H a=some (.tup xs)):jT K H (.ref a) (.type "tuple")
 |dK {a:ah} {cq:List (eO×V)} (e:H a=some (.dK cq)):jT K H (.ref a) (.type "dict")
 |dT {a:ah} {cq:List (List eO×V)} (e:H a=some (.dT cq)):jT K H (.ref a) (.type "dict")
 |ins {a C dx:ah} {fs:List (aJ×V)} (e:H a=some (.ins C dx fs)) (cl:lF K C) (ha:am K (.ref C) "__class__"=some (some (.builtin "object.__class__")))
   (hn:bO K (.builtin "object.__class__") "__get__"=some (some (.builtin "getset_descriptor.__get__"))) (Fm:gb K (.builtin "object.__class__")=some true)
   (hm:bu K C (.type "object")=some true):jT K H (.ref a) (.ref C)
theorem Np {x:V}{u t:ae}(I:Inv X af σ H s)(rx:RelV x u)(ty:jT X.K H x t)(e:aK X.K t c=some b)(h:∀tk,Q (.bool b) { s with toks:=tk }) :
  aN (aG X.prog X.w) A (call (.builtin "isinstance") [u,c]) Q E s:=by
 cases ty with
 |non=>cases(show u=ae.none from rx);exact bV oR I.kIn True.intro e (λz=>nomatch z) h
 |bl y=>cases(show u=ae.bool y from rx);exact bV PySem.W.kitx_bool I.kIn True.intro e (λz=>nomatch z) h
 |int i=>obtain⟨t,q⟩:=(show∃t,u=ae.int i t from rx);cases q;exact bV PySem.W.kitx_int I.kIn True.intro e (λz=>nomatch z) h
 |str y=>obtain⟨t,q⟩:=(show∃t,u=ae.str y t from rx);cases q;exact bV PySem.W.kitx_str I.kIn True.intro e (λz=>nomatch z) h
 |flt y=>obtain⟨t,q⟩:=(show∃t,u=ae.float y t from rx);cases q;exact bV PySem.W.kitx_float I.kIn True.intro e (λz=>nomatch z) h
 |@lst a xs ea=>
  cases(show u=ae.ref a from rx)
  obtain⟨_,_,n,_,h1⟩:=(show dF X.prog X.w H s.heap a (.lst xs)from I.hok a _ ea)
  exact bV kb I.kIn ⟨_,h1,rfl⟩ e (λz=>nomatch z) h
 |@frz a ob xs ea=>
  cases(show u=ae.ref a from rx)
  obtain⟨_,_,_,n,_,h1⟩:=(show dF X.prog X.w H s.heap a (.frz ob (.lst xs))from I.hok a _ ea)
  exact bV kb I.kIn ⟨_,h1,rfl⟩ e (λz=>nomatch z) h
 |@tup a xs ea=>
  cases(show u=ae.ref a from rx)
  obtain⟨_,_,_,p⟩:=(show dF X.prog X.w H s.heap a (.tup xs)from I.hok a _ ea)
  obtain⟨o,h1,h2,_⟩:=p
  exact bV PySem.W.kitx_tuple I.kIn ⟨o,h1,h2⟩ e (λz=>nomatch z) h
 |@dK a cq ea=>
  cases(show u=ae.ref a from rx)
  obtain⟨_,_,vs,_,p⟩:=(show dF X.prog X.w H s.heap a (.dK cq)from I.hok a _ ea)
  obtain⟨o,es,ep,h1,h2,_⟩:=p
  exact bV oQ I.kIn ⟨o,h1,h2.1⟩ e (λz=>nomatch z) h
 |@dT a cq ea=>
  cases(show u=ae.ref a from rx)
  obtain⟨_,_,xs,_,o,es,ep,h1,h2,_⟩:=(show dF X.prog X.w H s.heap a (.dT cq)from I.hok a _ ea)
  exact bV oQ I.kIn ⟨o,h1,h2.1⟩ e (λz=>nomatch z) h
 |@ins a C dx fs ea cl ha hn Fm hm=>
  cases(show u=ae.ref a from rx)
  obtain⟨mA,O,_⟩:=Gk I.hok ea
  obtain⟨od,J,_⟩:=O.look
  exact bV (PySem.W.kitx_own (cl.get _) cl.hd ha hn Fm hm) I.kIn J e (λz=>nomatch z) h
end
end L2
namespace L2
open PySem PySem.Spec PyProof.Rows
structure dG (k:Nat)(A:bx):Prop where
 hd:A.handled=none
 dp:A.depth+3*k+5<recursionLimit
 un:A.units+16*k+200<iT
theorem dG.mono {j k:Nat}{A:bx}(r:dG k A)(h:j<=k):dG j A:=⟨r.hd,by have:=r.dp;omega,by have:=r.un;omega⟩
theorem dG.deeper {k:Nat}{A:bx}(r:dG (k+1) A)(env:Env):dG k (A.deeper env) :=
 ⟨r.hd,by have:=r.dp;show A.depth+1+3*k+5<_;omega,by have:=r.un;show A.units+3+16*k+200<_;omega⟩
theorem VN {A:bx}{C:ah}{us:List ae}{kw:List (aJ×ae)}:(A.under (.builtin "type.__call__" ⟨.ref C::us,kw⟩)).depth=A.depth+1:=by
 first|rfl|simp[bx.under,ou.weight,ou.isCreation,ou.isGuard,ou.isCaller,ou.frames,ou.isFrame,guardIds]
theorem VO {A:bx}{C:ah}{us:List ae}{kw:List (aJ×ae)}:(A.under (.builtin "type.__call__" ⟨.ref C::us,kw⟩)).units=A.units+1:=by
 first|rfl|simp[bx.under,ou.cUnits,ou.frames,ou.isFrame]
theorem dG.make {k:Nat}{A:bx}(r:dG (k+1) A)(C:ah)(us:List ae)(kw:List (aJ×ae)):dG k (A.under (.builtin "type.__call__" ⟨.ref C::us,kw⟩)) :=
 ⟨r.hd,by have:=r.dp;rw[VN];omega,by have:=r.un;rw[VO];omega⟩
theorem dG.depth {k:Nat}{A:bx}(r:dG k A):A.depth<recursionLimit:=by have:=r.dp;omega
theorem dG.units {k:Nat}{A:bx}(r:dG k A):A.units+64<iT:=by have:=r.un;omega
def D6:TA:=λ_ H Q=>Q [] H
def D3 (ta:TE)(tr:TA):TA:=λσ H Q=>ta σ H λx H1=>tr σ H1 λxs H2=>Q (x::xs) H2
section
variable {X:Cx}{e:Expr}{es:List Expr}{te:TE}{t:TA}{pos:cE}
theorem ji:PA X [] D6:=λ_ _ _ _ H Q I h=>Calls.spliced_nil ⟨[],H,I,.nil,h⟩
theorem wt (ha:PE X e te)(hr:PA X es t)(hs:ak (e::es) X.env=(false,br e X.env)::ak es X.env:=by rfl):PA X (e::es) (D3 te t):=by
 intro pos af s σ H Q I h
 rw[hs]
 show aN _ _ (spliced ((false,br e X.env)::bU pos (ak es X.env))) _ _ s
 refine Calls.spliced_cons (cW (ha af s σ H _ I h) λu s1 dh=>?_)
 obtain⟨x,H1,I1,r1,q1⟩:=dh
 exact cW (hr pos af s1 σ H1 _ I1 q1) λus s2 ⟨xs,H2,I2,r2,q2⟩=>⟨x::xs,H2,I2,.cons r1 r2,q2⟩
def JL (t:TA):TE:=λσ H Q=>t σ H λxs H1=>xs.length<=sizeLine/\∀p,H1 p=none->Q (.ref p) (upd H1 p (.tup xs))
def JH (t:TA):TE:=λσ H Q=>t σ H λxs H1=>xs.length<=sizeLine/\∀p,H1 p=none->Q (.ref p) (upd H1 p (.lst xs))
theorem YX {x1}(h:PA X es t):PE X (.Tuple es x1 pos) (JL t):=by
 intro af s σ H Q I hq
 refine wpAny_Tuple_spliced (cW (h pos af s σ H _ I hq) λus s1 ⟨xs,H1,I1,r,z,q⟩=>⟨by rw[←r.length];exact z,?_⟩)
 have hf:H1 s1.heap.objs.size=none:=I1.hok.fresh (aC _)
 refine⟨.ref s1.heap.objs.size,upd H1 s1.heap.objs.size (.tup xs),I1.laid (t':=s1.toks) (λb u e=>aw _ e) (aC _) ?_,rfl,q _ hf⟩
 exact⟨z,us,r,⟨_,bB _ rfl,rfl,_,rfl⟩⟩
theorem YY (h:PA X es t):PE X (.List es pos) (JH t):=by
 intro af s σ H Q I hq
 refine wpAny_List_spliced (cW (h pos af s σ H _ I hq) λus s1 ⟨xs,H1,I1,r,z,q⟩=>⟨by rw[←r.length];exact z,?_⟩)
 have hf:H1 s1.heap.objs.size=none:=I1.hok.fresh (aC _)
 refine⟨.ref s1.heap.objs.size,upd H1 s1.heap.objs.size (.lst xs),I1.laid (t':=s1.toks) (λb u e=>aw _ e) (aC _) ?_,rfl,q _ hf⟩
 exact⟨z,us,0,r,bB _ rfl⟩
end
abbrev Sp:=List V->Hp->VK->XK->Prop
abbrev qA:=List Env->Hp->aj->XK->ae->aj->Prop
structure oT (P:bg)(w:bN)(K:aa)(mg:aJ->Option ae)(base:aI)(A:bx)(outer:List Env)(s:aj)(H:Hp):Prop where
 frames:A.frames=some outer
 mod:Mod K mg base
 bs:∀b o,base.get? b=some o->s.heap.get? b=some o/\H b=none
 bsz:base.objs.size<=s.heap.objs.size
 funs:s.heap.FunFrames base outer
 frf:∀b∈qZ outer,H b=none
 hok:jS P w H s.heap
 bare:AllBare s.gens
def CE (outer:List Env)(P:bg)(w:bN)(H:Hp)(s:aj)(Q:VK)(u:ae)(s':aj):Prop :=
 ∃v H',s'.os=s.os/\AllBare s'.gens/\Un (qZ outer) [] H H' s.heap s'.heap/\jS P w H' s'.heap/\RelV v u/\Q v H'
def CR (CX:qA)(outer:List Env)(P:bg)(w:bN)(H:Hp)(s:aj)(Q:VK)(E:XK)(r:Result)(s':aj):Prop :=
 match r with
 |.ok (.ret u)=>CE outer P w H s Q u s'
 |.ok _=>False
 |.error e=>CX outer H s E e s'
structure cp (P:bg)(w:bN)(K:aa)(mg:aJ->Option ae)(base:aI)(CX:qA)(k:Nat)(f:ah)(fd:aL)(ps:List aJ)(sp:Sp):Prop where
 len:∀vs H Q E,sp vs H Q E->vs.length=ps.length
 run:∀(A:bx) (outer:List Env) (s:aj) (H:Hp) (args:Args) (us:List ae) (vs:List V) (Q:VK) (E:XK),dG k A->oT P w K mg base A outer s H->nL s fd args (ps.zip us)->bM vs us->sp vs H Q E ->
  eW (aG P w) A (.call (.ref f) args) (CR CX outer P w H s Q E) s
theorem oT.make {P:bg}{w:bN}{K:aa}{mg:aJ->Option ae}{base:aI}{A:bx}{outer:List Env}{s:aj}{H:Hp}(e:oT P w K mg base A outer s H)(C:ah)(us:List ae)(kw:List (aJ×ae)) :
  oT P w K mg base (A.under (.builtin "type.__call__" ⟨.ref C::us,kw⟩)) outer s H:=⟨by first|exact e.frames|(simpa[bx.under,ou.envs,ou.isFrame,pushEnvs]using e.frames),e.mod,e.bs,e.bsz,e.funs,e.frf,e.hok,e.bare⟩
section
variable {X:Cx}{af:List (ah×cN)}{σ:St}{H:Hp}{s s':aj}
theorem Inv.env0 (I:Inv X af σ H s):oT X.prog X.w X.K X.mg X.base X.A X.stack s H :=
 ⟨I.ok.frames,I.ok.mod,I.bs,bX I.ok.bsz I.sz,I.stack,I.stkFree,I.hok,I.bare⟩
theorem Inv.after {Q:VK}{u:ae}(I:Inv X af σ H s)(h:CE X.stack X.prog X.w H s Q u s'):EP X af σ Q u s':=by
 obtain⟨v,H',os,bare,un,hok,r,q⟩:=h
 obtain⟨hh,g,d,t,Mi⟩:=s'
 obtain rfl:Mi=s.os:=os
 exact⟨v,H',I.call (h':=hh) (g':=g) (d':=d) (t':=t) (ch:=[]) un hok bare (λb z=>absurd z (by simp)),r,q⟩
end
def vG (sp:Sp)(gC:List V)(E:XK)(t:TA):TE:=λσ H Q=>t σ H λvs H1=>sp (vs++gC) H1 Q E
def vI (C:ah)(m:aJ)(sp:Sp)(gC:List V)(E:XK)(ta:TE)(t:TA):TE:=λσ H Q=>ta σ H λx H1=>∃a dx fs,x=.ref a/\H1 a=some (.ins C dx fs)/\fs.lookup m=none /\
 t σ H1 λvs H2=>sp (x::(vs++gC)) H2 Q E
def D4 (C:ah)(sp:Sp)(gC:List V)(E:XK)(t:TA):TE:=λσ H Q=>t σ H λvs H1=>∀x dx,H1 x=none->H1 dx=none->dx≠x ->
 sp (.ref x::(vs++gC)) (upd (upd H1 dx (.own x)) x (.ins C dx [])) (λv H2=>v=.non/\Q (.ref x) H2) E
def bz (K:aa)(fd:aL)(ps:List aJ)(ds:List ae):Prop :=
 ∀(s:aj) (us:List ae),K.In s.heap->(us++ds).length=ps.length->nL s fd ⟨us,[]⟩ (ps.zip (us++ds))
theorem bz.all {K:aa}{fd:aL}{ps:List aJ}(h:∀us:List ae,us.length=ps.length->bindArgs fd ⟨us,[]⟩=pure (ps.zip us)):bz K fd ps []:=λs us _ hl=>by
 rw[bQ]at hl ⊢
 exact .of_eq (h us hl)
def iN (CX:qA)(X:Cx)(E:XK):Prop:=∀(af:List (ah×cN)) (σ:St) (H:Hp) (s:aj) (e:ae) (s':aj),Inv X af σ H s->CX X.stack H s E e s'->X.xe e s'
section
variable {X:Cx}{CX:qA}{k:Nat}{f C:ah}{fd:aL}{ps:List aJ}{sp:Sp}{gC:List V}{ds:List ae}{E:XK}{x m:aJ}{p pos cP:cE}{e o:Expr}{es:List Expr}{ta:TE}{t:TA}
theorem Gx {af:List (ah×cN)}{σ:St}{H:Hp}{s:aj}{Q:VK}{us:List ae}{vs:List V}(F:cp X.prog X.w X.K X.mg X.base CX k f fd ps sp)(hr:dG k X.A)(hb:bz X.K fd ps ds)(hd:bM gC ds)(hx:iN CX X E)
  (I:Inv X af σ H s) (r:bM vs us) (h:sp (vs++gC) H Q E):aN (aG X.prog X.w) X.A (call (.ref f) us) (EP X af σ Q) X.xe s:=by
 have r2:bM (vs++gC) (us++ds):=r.append hd
 have hl:(us++ds).length=ps.length:=by rw[←r2.length];exact F.len _ _ _ _ h
 refine wpAny_call (fZ (F.run X.A X.stack s H ⟨us,[]⟩ (us++ds) (vs++gC) Q E hr I.env0 (hb s us I.kIn hl) r2 h) λr s' hq=>?_)
 cases r with
 |error e=>exact hx af σ H s e s' I hq
 |ok fl=>
  cases fl with
  |ret u=>exact I.after hq
  |next=>exact False.elim hq
  |brk=>exact False.elim hq
  |cont=>exact False.elim hq
theorem X2 (F:cp X.prog X.w X.K X.mg X.base CX k f fd ps sp)(hr:dG k X.A)(hg:Gl X x)(hm:X.mg x=some (.ref f))(hk:ar X.K (.ref f)=true)(hb:bz X.K fd ps ds)(hd:bM gC ds)(hx:iN CX X E)
  (ha:PA X (e::es) t) (iC:(x==("__debug__":aJ))=false:=by decide) (he:ak (e::es) X.env=(false,br e X.env)::ak es X.env:=by rfl) (gq:(bU pos (ak es X.env)).any (·.1)=false:=by rfl) :
  PE X (.Call (.Name x p) (e::es) [] pos) (vG sp gC E t):=by
 intro af s σ H Q I h
 refine cF (j9 I hg hm ?_ iC)
 refine dW (h₀:=X.base) I.ok.mod.kin hk (cW (ha pos af s σ H _ I h) λus s1 ⟨vs,H1,I1,r,q⟩=>⟨I1.kIn,?_⟩) he gq
 exact Gx F hr hb hd hx I1 r q
theorem X3 {pl:ng Bool}(he:PE X o ta)(c:lF X.K C)(hm:oZ X.K C m f)(F:cp X.prog X.w X.K X.mg X.base CX k f fd ps sp)(hr:dG k X.A)(hb:bz X.K fd ps ds)(hd:bM gC ds)(hx:iN CX X E)(ha:PA X (e::es) t)
  (ie:ak (e::es) X.env=(false,br e X.env)::ak es X.env:=by rfl) (gq:(bU pos (ak es X.env)).any (·.1)=false:=by rfl)
  (ht:br (.Call (.Attribute o m cP) (e::es) [] pos) X.env=(do
   let ov ← br o X.env
   fF cP.atName
   let(f,first) ← dP [ov] (fK ov m pl)
   hJ pos f first (bU pos (ak (e::es) X.env)) (eh pos (cJ [] X.env))):=by rfl) :
  PE X (.Call (.Attribute o m cP) (e::es) [] pos) (vI C m sp gC E ta t):=by
 intro af s σ H Q I h
 refine ej (pl:=pl) (cW (he af s σ H _ I h) λu s1 ⟨x,H1,I1,rx,a,dx,fs,ex,ea,l,q⟩=>?_) ht
 subst ex
 obtain rfl:u=ae.ref a:=rx
 refine JU I1 ea c hm l ?_
 refine dW (first:=[.ref a]) (h₀:=X.base) I.ok.mod.kin hm.kp (cW (ha pos af s1 σ H1 _ I1 q) λus s2 ⟨vs,H2,I2,r,q2⟩=>⟨I2.kIn,?_⟩) ie gq
 exact Gx (us:=.ref a::us) (vs:=.ref a::vs) F hr hb hd hx I2 (.cons rfl r) q2
theorem WI {pl:ng Bool}(he:PE X o ta)(c:lF X.K C)(hm:oZ X.K C m f)(F:cp X.prog X.w X.K X.mg X.base CX k f fd ps sp)(hr:dG k X.A)(hb:bz X.K fd ps ds)(hd:bM gC ds)(hx:iN CX X E)
  (ht:br (.Call (.Attribute o m cP) [] [] pos) X.env=(do
   let ov ← br o X.env
   fF cP.atName
   let(f,first) ← dP [ov] (fK ov m pl)
   hJ pos f first (bU pos (ak [] X.env)) (eh pos (cJ [] X.env))):=by rfl) :
  PE X (.Call (.Attribute o m cP) [] [] pos) (vI C m sp gC E ta D6):=by
 intro af s σ H Q I h
 refine ej (pl:=pl) (cW (he af s σ H _ I h) λu s1 ⟨x,H1,I1,rx,a,dx,fs,ex,ea,l,q⟩=>?_) ht
 subst ex
 obtain rfl:u=ae.ref a:=rx
 refine JU I1 ea c hm l ?_
 exact PySem.W.callWith_K0 (first:=[.ref a]) I1.kIn hm.kp (Gx (us:=[.ref a]) (vs:=[.ref a]) F hr hb hd hx I1 (.cons rfl .nil) q)
structure Mk (K:aa)(C f:ah):Prop where
 makes:dB K C=true
 init:am K (.ref C) "__init__"=some (some (.ref f))
 fn:cr K (.ref f)=true
 kp:ar K (.ref C)=true
theorem WJ {af:List (ah×cN)}{σ:St}{H:Hp}{s:aj}{Q:VK}{us:List ae}{vs:List V}(M:Mk X.K C f)(F:cp X.prog X.w X.K X.mg X.base CX k f fd ps sp)(hr:dG (k+1) X.A)(hb:bz X.K fd ps ds)(hd:bM gC ds)
  (hx:iN CX X E) (I:Inv X af σ H s) (r:bM vs us)
  (h:∀x dx,H x=none->H dx=none->dx≠x->sp (.ref x::(vs++gC)) (upd (upd H dx (.own x)) x (.ins C dx [])) (λv H2=>v=.non/\Q (.ref x) H2) E) :
  aN (aG X.prog X.w) X.A (call (.ref C) us) (EP X af σ Q) X.xe s:=by
 have hq:=h (s.heap.objs.size+1) s.heap.objs.size (I.hok.fresh (jG _)) (I.hok.fresh (aC _)) (aY (iu _))
 have I2:=Inv.made (C:=C) I
 have r2:bM (V.ref (s.heap.objs.size+1)::(vs++gC)) (ae.ref (s.heap.objs.size+1)::(us++ds)):=.cons rfl (r.append hd)
 have hl:(ae.ref (s.heap.objs.size+1)::us++ds).length=ps.length:=by
  have e:=r2.length
  rw[F.len _ _ _ _ hq]at e
  exact e.symm
 refine wpAny_call (WH (f:=f) I.kIn M.makes M.init (beq_iff_eq.mp M.fn) (fZ (F.run _ X.stack _ _ ⟨ae.ref (s.heap.objs.size+1)::us,[]⟩ (ae.ref (s.heap.objs.size+1)::(us++ds)) _ _ E (hr.make C us [])
  (I2.env0.make C us []) (hb _ (ae.ref (s.heap.objs.size+1)::us) I2.kIn hl) r2 hq) λr s' oH=>?_))
 cases r with
 |error e=>exact hx af σ _ _ e s' I2 oH
 |ok fl=>
  cases fl with
  |ret u=>
   obtain⟨v,H',I3,rv,ev,q3⟩:=I2.after oH
   subst ev
   exact⟨rv,⟨V.ref (s.heap.objs.size+1),H',I3,rfl,q3⟩⟩
  |next=>exact False.elim oH
  |brk=>exact False.elim oH
  |cont=>exact False.elim oH
theorem X4 (M:Mk X.K C f)(F:cp X.prog X.w X.K X.mg X.base CX k f fd ps sp)(hr:dG (k+1) X.A)(hg:Gl X x)(hm:X.mg x=some (.ref C))(hb:bz X.K fd ps ds)(hd:bM gC ds)(hx:iN CX X E)
  (ha:PA X (e::es) t) (iC:(x==("__debug__":aJ))=false:=by decide) (he:ak (e::es) X.env=(false,br e X.env)::ak es X.env:=by rfl) (gq:(bU pos (ak es X.env)).any (·.1)=false:=by rfl) :
  PE X (.Call (.Name x p) (e::es) [] pos) (D4 C sp gC E t):=by
 intro af s σ H Q I h
 refine cF (j9 I hg hm ?_ iC)
 refine dW (h₀:=X.base) I.ok.mod.kin M.kp (cW (ha pos af s σ H _ I h) λus s1 ⟨vs,H1,I1,r,q⟩=>⟨I1.kIn,?_⟩) he gq
 exact WJ M F hr hb hd hx I1 r q
end
section
variable {X:Cx}{CX:qA}{k:Nat}{f C:ah}{fd:aL}{ps ks:List aJ}{sp:Sp}{E:XK}{x m:aJ}{p pos cP yF:cE}{e o:Expr}{es:List Expr}{kws:List fE}{te ta:TE}{t tk:TA}{nm:Option aJ}
variable {g:List ae->List ae->List ae}{gV:List V->List V->List V}
end
structure bt (N P:List aJ)(sc:fC):Prop where
 kind:sc.kind=.function
 co:sc.isCoroutine=false
 gen:sc.isGenerator=false
 nd:N.Nodup
 pre:N.take P.length=P
 par:∀x∈P,sc.names.lookup x=some .local\/sc.names.lookup x=some .cell
 nofree:∀y∈sc.names,y.2≠.free
theorem Nq {kindOf:aJ->Option ba}{x:aJ}:∀{binds:List (aJ×ae)} {m:aJ->Option ae},(∀v,(x,v)∉binds)->p7 kindOf binds m x=m x
 |[],_,_=>rfl
 |(n,v)::r,m,h=>by
  unfold p7
  rw[Nq λw hw=>h w (ao _ hw)]
  split
  ·have:x≠n:=by rintro rfl;exact h v ai
   simp[this]
  ·rfl
theorem Nr {kindOf:aJ->Option ba}{x:aJ}:∀{binds:List (aJ×ae)} {m:aJ->Option ae},(∀v,(x,v)∉binds)->p6 kindOf binds m x=m x
 |[],_,_=>rfl
 |(n,v)::r,m,h=>by
  unfold p6
  rw[Nr λw hw=>h w (ao _ hw)]
  split
  ·rfl
  ·have:x≠n:=by rintro rfl;exact h v ai
   simp[this]
theorem Nt {kindOf:aJ->Option ba}{x:aJ}{v:ae}:∀{P:List aJ} {vs:List ae} {i:Nat} {m:aJ->Option ae},P.Nodup->P[i]?=some x->vs[i]?=some v->kindOf x=some .local ->
  p7 kindOf (P.zip vs) m x=some v
 |[],_,_,_,_,h,_,_=>by simp at h
 |_::_,[],_,_,_,_,h,_=>by simp at h
 |p::P,w::vs,0,m,nd,h1,h2,hk=>by
  simp at h1 h2;subst h1;subst h2
  show p7 kindOf ((p,w)::P.zip vs) m p=_
  unfold p7
  rw[Nq λv hv=>(bR.mp nd).1 (gx hv).1,if_pos hk]
  simp
 |p::P,w::vs,i+1,m,nd,h1,h2,hk=>by
  show p7 kindOf ((p,w)::P.zip vs) m x=_
  unfold p7
  exact Nt (i:=i) (bR.mp nd).2 (by simpa using h1) (by simpa using h2) hk
theorem Nu {kindOf:aJ->Option ba}{x:aJ}{v:ae}:∀{P:List aJ} {vs:List ae} {i:Nat} {m:aJ->Option ae},P.Nodup->P[i]?=some x->vs[i]?=some v->kindOf x≠some .local ->
  p6 kindOf (P.zip vs) m x=some v
 |[],_,_,_,_,h,_,_=>by simp at h
 |_::_,[],_,_,_,_,h,_=>by simp at h
 |p::P,w::vs,0,m,nd,h1,h2,hk=>by
  simp at h1 h2;subst h1;subst h2
  show p6 kindOf ((p,w)::P.zip vs) m p=_
  unfold p6
  rw[Nr λv hv=>(bR.mp nd).1 (gx hv).1,if_neg hk]
  simp
 |p::P,w::vs,i+1,m,nd,h1,h2,hk=>by
  show p6 kindOf ((p,w)::P.zip vs) m x=_
  unfold p6
  exact Nu (i:=i) (bR.mp nd).2 (by simpa using h1) (by simpa using h2) hk
def start (N:List aJ)(vs:List V):St:=vs.map some++aD (N.length-vs.length) none
def lg (CX:qA)(P:bg)(w:bN)(K:aa)(mg:aJ->Option ae)(base:aI)(N:List aJ)(qual:aJ)(scope:fC)(f:ah)(cd:ae)(A:bx)(outer:List Env)(s:aj)(H:Hp)(E:XK):Cx where
 prog:=P
 w:=w
 K:=K
 mg:=mg
 base:=base
 A:=A.deeper (envOfC qual scope s.heap.objs.size f cd)
 N:=N
 s₀:=s
 H₀:=H
 env:=envOfC qual scope s.heap.objs.size f cd
 outer:=outer
 stack:=envOfC qual scope s.heap.objs.size f cd::outer
 ex:=[]
 calm:=true
 fn:=λ_=>true
 pn:=[]
 xe:=λe s'=>aN (aG P w) (A.deeper (envOfC qual scope s.heap.objs.size f cd)) (leaving (envOfC qual scope s.heap.objs.size f cd) e) (λ_ s''=>CX outer H s E e s'') (λe' s''=>CX outer H s E e' s'') s'
theorem NU {sc:fC}{n:Nat}{x:aJ}(h:sc.names.lookup x=some .cell):∃c,(cellsFrom n sc.names []).lookup x=some c:=by
 have q:=hU sc.names n [] (.inl h)
 exact my.mp q
theorem VI {CX:qA}{P:bg}{w:bN}{K:aa}{mg:aJ->Option ae}{base:aI}{N ps:List aJ}{qual:aJ}{scope:fC}{f:ah}{cd:ae}{A:bx}{outer:List Env}{s s1:aj}{H:Hp}{E:XK}{us:List ae}{vs:List V}
  (S:bt N ps scope) (hd:A.handled=none) (e0:oT P w K mg base A outer s H) (hl:vs.length=ps.length) (r:bM vs us)
  (x:InCallC s s.heap.objs.size (p7 (envOfC qual scope s.heap.objs.size f cd).kindOf (ps.zip us) λ_=>none) (cellsFrom (s.heap.objs.size+1) scope.names []) (p6 (envOfC qual scope s.heap.objs.size f cd).kindOf (ps.zip us) λ_=>none) s1) :
  Inv (lg CX P w K mg base N qual scope f cd A outer s H E) [] (start N vs) H s1:=by
 have gq:ps.length<=N.length:=by have:=congrArg iZ S.pre;rw[ij]at this;omega
 obtain⟨h1,tk,rfl,hk⟩:=x.done
 have Dd:∀b:ah,b∉(lg CX P w K mg base N qual scope f cd A outer s H E).ex:=λb z=>absurd (show b∈([]:List ah)from z) (by simp)
 refine⟨⟨e0.mod,S.kind,rfl,rfl,aC _,λy z c h1 h2=>?_,λy hy=>?_,λy c _ h=>?_,λ_=>hd,bx.frames_deeper e0.frames,.inr ⟨rfl,rfl⟩,λb z=>absurd z (Dd b),e0.bs,e0.bsz,λb _ _=>Dd b,λb z=>absurd z (Dd b),e0.funs,e0.frf⟩,
  rfl,e0.bare,Un.kept hk,⟨_,x.toInCall.ns,λi y v h1 h2 h3=>?_⟩,λy c h=>⟨_,x.cell y c h⟩,e0.hok.fresh (aC _),λy c h=>?_,λp hp=>absurd (show p∈([]:List (ah×cN))from hp) (by simp),e0.hok.kept hk,?_⟩
 ·exact name_of_addr x.apart (PySem.mem_of_lookup h1) (PySem.mem_of_lookup h2)
 ·have hy:scope.names.lookup y=some .cell\/scope.names.lookup y=some .free:=hy
  rcases hy with hy|hy
  ·exact NU hy
  ·exact absurd rfl (S.nofree _ (PySem.mem_of_lookup hy))
 ·exact kN (x.above y c (PySem.mem_of_lookup h))
 ·have hi:i<vs.length:=by
   unfold start at h2
   by_cases hi:i<vs.length
   ·exact hi
   ·rw[eK (by simpa using hi)]at h2
    rw[fv]at h2
    split at h2<;>cases h2
  have ha:vs[i]?=some v:=by
   unfold start at h2
   rw[cx (by simpa using hi),bK]at h2
   cases e:vs[i]? with
   |none=>rw[e]at h2;cases h2
   |some a=>rw[e]at h2;cases h2;rfl
  obtain⟨u,hu,rv⟩:=r.get ha
  have hp:ps[i]?=some y:=by
   rw[←S.pre,List.getElem?_take_of_lt (by omega)];exact h1
  have Mf:ps.Nodup:=by rw[←S.pre];exact S.nd.sublist (List.take_sublist _ _)
  refine⟨u,rv,?_⟩
  rcases S.par y (oO hp)with k|k
  ·exact .inl ⟨k,Nt Mf hp hu k⟩
  ·obtain⟨c,e⟩:=NU (n:=s.heap.objs.size+1) k
   refine .inr ⟨.inl k,c,e,?_⟩
   have q:=x.cell y c e
   rw[Nu Mf hp hu (by show scope.names.lookup y≠_;rw[k];decide)]at q
   exact q
 ·exact e0.hok.fresh (kN (x.above y c (PySem.mem_of_lookup h)))
 ·unfold start
  show _=N.length
  rw[bA,bi,cU]
  omega
theorem Pt {CX:qA}{P:bg}{w:bN}{K:aa}{mg:aJ->Option ae}{base:aI}{k:Nat}{f:ah}{name qual:aJ}{params:Arguments}{body:List bL}{scope:fC}{dV kV doc pm gB ct oc:ae}{an od:Option ah}
    {vA:Array (Option ae)} {N ps:List aJ} {sp:Sp} (lk:K.lookup f=some ⟨oc,od,.func (gp name qual params body scope dV kV doc pm an gB ct),vA⟩) (jB:aA K gB qual=true) (S:bt N ps scope)
    (len:∀vs H Q E,sp vs H Q E->vs.length=ps.length)
    (rH:∀(A:bx) (outer:List Env) (s:aj) (H:Hp) (vs:List V) (Q:VK) (E:XK),dG k (A.deeper (envOfC qual scope s.heap.objs.size f gB))->sp vs H Q E ->
      ∃t,nr (lg CX P w K mg base N qual scope f gB A outer s H E) body t/\t { nx:=λ_ H'=>Q .non H',rt:=Q } (start N vs) H) :
    cp P w K mg base CX (k+1) f (gp name qual params body scope dV kV doc pm an gB ct) ps sp:=by
  refine⟨len,λA outer s H args us vs Q E hr e0 hb r uU=>?_⟩
  have hl:=len _ _ _ _ uU
  have KX:K.In s.heap:=e0.mod.kin.keeps λb o e=>(e0.bs b o e).1
  have lim:s.heap.NoLimit:=e0.mod.nolimit.keeps λb o e=>(e0.bs b o e).1
  have Ce:∀y∈ps.zip us,scope.names.lookup y.1=some .local\/(scope.names.lookup y.1=some .cell/\((cellsFrom (s.heap.objs.size+1) scope.names []).lookup y.1).isSome=true):=λ⟨n,v⟩ hy=>by
    rcases S.par n (gx hy).1 with q|q
    · exact .inl q
    · exact .inr ⟨q,hU _ _ _ (.inl q)⟩
  refine codeAny_call_function hr.depth (KX _ _ lk) rfl S.co S.gen rfl (PySem.W.codeRec_of KX jB) (hb _ _ _ _ ?_)
  refine wpAny_newFunctionEnv_cells S.kind Ce λenv he s1 x=>?_
  subst he
  refine⟨lim.keeps x.toInCall.keep,codeAny_func ?_⟩
  obtain⟨t,ht,hq⟩:=rH A outer s H vs Q E (hr.deeper _) uU
  have I:Inv (lg CX P w K mg base N qual scope f gB A outer s H E) [] (start N vs) H s1:=VI S hr.hd e0 hl r x
  refine dk (ht [] s1 (start N vs) H _ I hq) (λfl s' hs=>?_) λe s' hs=>hs
  have fin:∀{σ':St} {H':Hp} {v:V} {u:ae},Inv (lg CX P w K mg base N qual scope f gB A outer s H E) [] σ' H' s'->RelV v u->Q v H'->CE outer P w H s Q u s' :=
    λ{σ' H' v u} J rv q=>⟨v,H',J.os,J.bare,J.base,J.hok,rv,q⟩
  cases fl with
  |ret u=>
    obtain⟨v,σ',H',J,rv,q⟩:=hs
    exact fin J rv q
  |next=>
    obtain⟨σ',H',J,q⟩:=hs
    exact fin (v:=V.non) (u:=ae.none) J rfl q
  |brk=>
    obtain⟨_,_,_,q⟩:=hs
    exact False.elim q
  |cont=>
    obtain⟨_,_,_,q⟩:=hs
    exact False.elim q
end L2
namespace L2
open PySem PySem.Spec PyProof.Rows
section
variable {X:Cx}{x:aJ}{p pos:cE}{e:Expr}{es:List Expr}{t:TA}{id T:String}{r:List V->Hp->VK->Prop}
def JC (r:List V->Hp->VK->Prop)(t:TA):TE:=λσ H Q=>t σ H λvs H1=>r vs H1 Q
theorem Em (hc:eR X (.builtin id) r)(hg:Gl X x)(hm:X.mg x=none)(hv:bZ x=some (.builtin id))(ha:PA X (e::es) t)(hn:x≠"__name__":=by decide)(iC:(x==("__debug__":aJ))=false:=by decide)
  (he:ak (e::es) X.env=(false,br e X.env)::ak es X.env:=by rfl) (gq:(bU pos (ak es X.env)).any (·.1)=false:=by rfl):PE X (.Call (.Name x p) (e::es) [] pos) (JC r t):=by
 intro af s σ H Q I h
 refine cF (sQ I hg hm hv ?_ hn iC)
 exact i7 (cW (ha pos af s σ H _ I h) λus s1 ⟨vs,H1,I1,r1,q1⟩=>hc af s1 σ H1 vs us Q I1 r1 q1) he gq
theorem Nv (hc:eR X (.type T) r)(hg:Gl X x)(hm:X.mg x=none)(hv:bZ x=some (.type T))(ha:PA X (e::es) t)(hn:x≠"__name__":=by decide)(iC:(x==("__debug__":aJ))=false:=by decide)
  (he:ak (e::es) X.env=(false,br e X.env)::ak es X.env:=by rfl) (gq:(bU pos (ak es X.env)).any (·.1)=false:=by rfl):PE X (.Call (.Name x p) (e::es) [] pos) (JC r t):=by
 intro af s σ H Q I h
 refine cF (sQ I hg hm hv ?_ hn iC)
 exact bT (cW (ha pos af s σ H _ I h) λus s1 ⟨vs,H1,I1,r1,q1⟩=>hc af s1 σ H1 vs us Q I1 r1 q1) he gq
end
end L2
namespace HT
open PySem PyProof.Rows
section
open PySem.SeqAt
open PySem.AutoSeq1 (wpAny_loadPart')
open PySem.MeetsSeq PySem.MeetsSeq2 PySem.MeetsSeq3
end
section
variable {prog:bg}{w:bN}{A:bx}{E:ae->aj->Prop}{s:aj}
theorem cat_tup {t b:ah}{vs ws:List ae}{Q:ae->aj->Prop}(ht:IsTup s.heap t vs.toArray)(hb:IsTup s.heap b ws.toArray)(hv:vs≠[])
    (h1:ws=[]->Q (.ref t) s) (h2:ws≠[]->Q (.ref s.heap.objs.size) { s with heap:=s.heap.push { cls:=.type "tuple",data:=.seq (vs++ws).toArray } })
    (hsz:vs.length+ws.length<=sizeLine):aN (aG prog w) A (dI .Add (.ref t) (.ref b)) Q E s:=by
  obtain⟨⟨cls,dd,data,sl⟩,ho,hc,n,hd⟩:=id ht
  obtain⟨⟨G5,EV,data2,DZ⟩,xX,uO,n2,hd2⟩:=id hb
  simp only at hc hd uO hd2
  subst hc hd uO hd2
  have e:vs.toArray++ws.toArray=(vs++ws).toArray:=by simp
  by_cases hw:ws=[]
  · exact qS ⟨_,ho,rfl⟩ ⟨_,xX,rfl⟩ noFill_tuple_add seq_tuple_add PySem.F.slot_tuple_add PySem.F.entry_tuple_add (PySem.F.args_tuple_add_2 _ _)
      (tuple_addW1 t b vs.toArray ws.toArray n n2 dd EV sl DZ (by simpa using hv) (by simp[hw])) ⟨ho,xX,h1 hw⟩
  · refine qS ⟨_,ho,rfl⟩ ⟨_,xX,rfl⟩ noFill_tuple_add seq_tuple_add PySem.F.slot_tuple_add PySem.F.entry_tuple_add (PySem.F.args_tuple_add_2 _ _)
      (tuple_addW2 t b vs.toArray ws.toArray n n2 dd EV sl DZ (by simpa using hv) (by simpa using hw) (by rw[aO,aO];exact hsz)) ⟨ho,xX,?_⟩
    rw[e]
    exact h2 hw
def sIx (n d:Nat):Option Int->Nat
 |none=>d
 |some v=>if v<0 then(v+(n:Int)).toNat else min v.toNat n
theorem sIx_none (n d:Nat):sIx n d none=d:=rfl
theorem sIx_nat (n d k:Nat):sIx n d (some (k:Int))=min k n:=by
 show(if(k:Int)<0 then((k:Int)+(n:Int)).toNat else min (k:Int).toNat n)=min k n
 rw[if_neg (by omega),fH]
end
end HT
namespace L2
open PySem PySem.Spec PyProof.Rows
abbrev TO:=St->Hp->(Option Int->Hp->Prop)->Prop
def PO (X:Cx)(e:Option Expr)(t:TO):Prop :=
 ∀(af:List (ah×cN)) (s:aj) (σ:St) (H:Hp) (Q:Option Int->Hp->Prop),Inv X af σ H s->t σ H Q ->
  aN (aG X.prog X.w) X.A (evalPart e X.env) (λu s'=>∃o H',Inv X af σ H' s'/\IsPart u o/\Q o H') X.xe s
def t7:TO:=λ_ H Q=>Q none H
def D7 (t:TE):TO:=λσ H Q=>t σ H λx H1=>∃i,x=.int i/\Q (some i) H1
theorem VP {ns:List Int}:∀{us:List ae},bM (ns.map V.int) us->IntsAre us ns:=by
 induction ns with
 |nil=>intro us r;rw[kE]at r;cases r;exact .nil
 |cons n ns ih=>
  intro us r
  rw[bn]at r
  cases r with
  |cons r1 r2=>
   obtain⟨t,e⟩:=r1
   subst e
   exact .cons n t (ih r2)
section
variable {X:Cx}{e:Expr}{te:TE}{lo hi:Option Expr}{tl th:TO}{pos p2:cE}
theorem X5:PO X none t7:=by
 intro af s σ H Q I h
 rw[evalPart_none]
 exact aS ⟨none,H,I,.none,h⟩
theorem X6 (h:PE X e te):PO X (some e) (D7 te):=by
 intro af s σ H Q I hw
 rw[evalPart_some]
 refine cW (h af s σ H _ I hw) λu s1 dh=>?_
 obtain⟨x,H1,I1,r1,q1⟩:=dh
 obtain⟨i,rfl,q⟩:=q1
 obtain⟨t,rfl⟩:=r1
 exact⟨some i,H1,I1,.int i t,q⟩
def KZ (X:Cx)(r:V->Option Int->Option Int->Hp->VK->Prop):Prop :=
 ∀(af:List (ah×cN)) (s:aj) (σ:St) (H:Hp) (x:V) (v vl vu:ae) (lo hi:Option Int) (sl:ah) (Q:VK),Inv X af σ H s->RelV x v->s.heap.IsSliceOf sl vl vu .none->IsPart vl lo->IsPart vu hi->r x lo hi H Q ->
  ∃T id,typeLookup (.type T) "__getitem__"=pure (some (.builtin id))/\s.TypeIs v T/\aN (aG X.prog X.w) X.A (getItem v (.ref sl)) (EP X af σ Q) X.xe s
def Um (r:V->Option Int->Option Int->Hp->VK->Prop)(te:TE)(tl th:TO):TE:=λσ H Q=>te σ H λx H1=>tl σ H1 λl H2=>th σ H2 λu H3=>r x l u H3 Q
theorem WK {r:V->Option Int->Option Int->Hp->VK->Prop}(hr:KZ X r)(he:PE X e te)(hl:PO X lo tl)(hu:PO X hi th):PE X (.Subscript e (.Slice lo hi none p2) pos) (Um r te tl th):=by
  intro af s σ H Q I h
  refine Subscript_ (cW (he af s σ H _ I h) λv s1 dh=>?_)
  obtain⟨x,H1,I1,r1,q1⟩:=dh
  refine wpAny_Slice (cW (hl af s1 σ H1 _ I1 q1) λvl s2 ⟨l,H2,I2,pl,q2⟩=>cW (hu af s2 σ H2 _ I2 q2) λvu s3 dh=>?_)
  obtain⟨u,H3,I3,pu,q3⟩:=dh
  rw[evalPart_none]
  refine aS ?_
  have I4:Inv X af σ H3 { s3 with heap:=s3.heap.push { cls:=.type "slice",data:=.fields #[vl,vu,.none] } }:=I3.kept (t':=s3.toks) λb ob q=>aw _ q
  obtain⟨T,id,hT,ht,hg⟩:=hr af { s3 with heap:=s3.heap.push { cls:=.type "slice",data:=.fields #[vl,vu,.none] } } σ H3 x v vl vu l u s3.heap.objs.size Q I4 r1 (aI.IsSliceOf.new ..) pl pu q3
  show aN (aG X.prog X.w) X.A (subscriptTail e (.Slice lo hi none p2) v (.ref s3.heap.objs.size)) (EP X af σ Q) X.xe { s3 with heap:=s3.heap.push { cls:=.type "slice",data:=.fields #[vl,vu,.none] } }
  exact tail_any (ops:=[.ref s3.heap.objs.size,v]) ht hT hg (by with_unfolding_all rfl)
def qF (xs:List V)(lo hi:Option Int):List V:=(xs.drop (HT.sIx xs.length 0 lo)).take (HT.sIx xs.length xs.length hi-HT.sIx xs.length 0 lo)
theorem Vg (xs:List V)(lo hi:Option Int):(qF xs lo hi).length<=xs.length:=by
 unfold qF
 rw[ij,rl]
 omega
def vD (K:aa):R2:=λx y H Q=>∃a b xs ys,x=.ref a/\y=.ref b/\kl K H a xs/\kl K H b ys/\xs≠[]/\xs.length+ys.length<=sizeLine /\
 (ys=[]->Q (.ref a) H)/\(ys≠[]->∀p,H p=none->Q (.ref p) (upd H p (.tup (xs++ys))))
theorem bM.nil_iff {xs:List V}{us:List ae}(r:bM xs us):us=[]↔xs=[]:=by
 cases r with
 |nil=>simp
 |cons _ _=>simp
theorem X7:gA X (dI .Add) (vD X.K):=by
 intro af s σ H x y v u Q I rx ry h
 obtain⟨a,b,xs,ys,rfl,rfl,ha,hb,hx,hz,q1,q2⟩:=h
 cases rx
 cases ry
 obtain⟨cj,r1,p1,_⟩:=I.tuple ha
 obtain⟨tR,r2,p2,_⟩:=I.tuple hb
 refine HT.cat_tup p1 p2 (λz=>hx (r1.nil_iff.mp z)) (λz=>⟨.ref a,H,I,rfl,q1 (r2.nil_iff.mp z)⟩) (λz=>?_) (by rw[←r1.length,←r2.length];exact hz)
 refine⟨.ref s.heap.objs.size,_,I.laid (t':=s.toks) (o:=.tup (xs++ys)) (λb ob q=>aw _ q) (aC _) ?_,rfl,q2 (λw=>z (r2.nil_iff.mpr w)) _ (I.hok.fresh (aC _))⟩
 exact⟨by rw[bA];exact hz,_,r1.append r2,IsTup.new _ _⟩
end
end L2
namespace L2
open PySem PySem.Spec PyProof.Rows
def ixN (n:Nat)(i:Int):Option Nat:=if 0<=i then(if i<n then some i.toNat else none)else if -(n:Int)<=i then some (i+n).toNat else none
def atI {α:Type}(xs:List α)(i:Int):Option α:=(ixN xs.length i).bind λj=>xs[j]?
theorem Kp {n:Nat}{i:Int}{j:Nat}(h:ixN n i=some j):seqIndex? i n=some j/\j<n/\-(n:Int)<=i/\i<n:=by
 unfold ixN at h
 by_cases h0:0<=i
 ·rw[if_pos h0]at h
  by_cases h1:i<n
  ·rw[if_pos h1]at h
   have e:i.toNat=j:=Option.some.inj h
   exact⟨by rw[nh h0 h1,e],by omega,by omega,h1⟩
  ·rw[if_neg h1]at h;cases h
 ·rw[if_neg h0]at h
  by_cases h1:-(n:Int)<=i
  ·rw[if_pos h1]at h
   have e:(i+n).toNat=j:=Option.some.inj h
   exact⟨by rw[ml (by omega) h1,e],by omega,h1,by omega⟩
  ·rw[if_neg h1]at h;cases h
theorem Gm {α:Type}{xs:List α}{i:Int}{v:α}(h:atI xs i=some v):∃j,seqIndex? i xs.length=some j/\xs[j]?=some v/\j<xs.length/\-(xs.length:Int)<=i/\i<xs.length:=by
 unfold atI at h
 cases e:ixN xs.length i with
 |none=>rw[e]at h;cases h
 |some j=>
  rw[e]at h
  obtain⟨h1,h2,h3,h4⟩:=Kp e
  exact⟨j,h1,h,h2,h3,h4⟩
theorem qd {α:Type}{xs:List α}{j:Nat}{v:α}(h:xs[j]?=some v):atI xs (j:Int)=some v:=by
 have hj:j<xs.length:=(aT.mp h).1
 have e:ixN xs.length (j:Int)=some j:=by
  unfold ixN
  rw[if_pos (by omega),if_pos (by omega)];simp
 unfold atI;rw[e];exact h
def lx (b:Expr):Prop:=∀o i,subscripted b false o i=operate [o,i] (getItem o i)
def sK (X:Cx)(r:R2):Prop :=
 ∀(value slice:Expr) (af:List (ah×cN)) (s:aj) (σ:St) (H:Hp) (x y:V) (v u:ae) (Q:VK),Inv X af σ H s->RelV x v->RelV y u->r x y H Q ->
  subscripted slice false v u=operate [v,u] (getItem v u)->aN (aG X.prog X.w) X.A (subscriptTail value slice v u) (EP X af σ Q) X.xe s
def KW (X:Cx)(id:String)(r:V->List V->Hp->VK->Prop):Prop :=
 ∀(af:List (ah×cN)) (s:aj) (σ:St) (H:Hp) (x:V) (xs:List V) (v:ae) (us:List ae) (Q:VK),Inv X af σ H s->RelV x v->bM xs us->r x xs H Q ->
  aN (aG X.prog X.w) X.A (call (.builtin id) (v::us)) (EP X af σ Q) X.xe s
section
variable {X:Cx}{a b:Expr}{ta tb:TE}{pos:cE}
theorem sK.or {r r':R2}(h:sK X r)(h':sK X r'):sK X (λx y H Q=>r x y H Q\/r' x y H Q):=by
 intro value slice af s σ H x y v u Q I rx ry q hs
 rcases q with q|q
 ·exact h value slice af s σ H x y v u Q I rx ry q hs
 ·exact h' value slice af s σ H x y v u Q I rx ry q hs
theorem Pu {r:R2}(hr:sK X r)(ha:PE X a ta)(hb:PE X b tb)(hs:lx b):PE X (.Subscript a b pos) (FD r ta tb):=by
 intro af s σ H Q I h
 exact Subscript_ (vU ha hb I h λv u s2 x y H2 I2 rx ry q=>hr a b af s2 σ H2 x y v u Q I2 rx ry q (hs _ _))
def DQ (K:aa):R2:=λx y H Q=>∃p xs i v,x=.ref p/\y=.int i/\eE K H p xs/\atI xs i=some v/\Q v H
def DS (K:aa):R2:=λx y H Q=>∃p xs i v,x=.ref p/\y=.int i/\kl K H p xs/\atI xs i=some v/\Q v H
def DR:R2:=λx y H Q=>∃z i c,x=.str z/\y=.int i/\z.length<=sizeLine/\atI z.cps.toList i=some c/\Q (.str ⟨#[c]⟩) H
theorem Oj:sK X (DQ X.K):=by
 intro value slice af s σ H x y v u Q I rx ry h hs
 obtain⟨p,xs,i,z,rfl,rfl,hq,he,q⟩:=h
 cases rx
 obtain⟨t,rfl⟩:=ry
 obtain⟨cj,r,pl,hz⟩:=I.list hq
 obtain⟨j,h1,h2,h3,h4,h5⟩:=Gm he
 obtain⟨w,ew,pA⟩:=r.get h2
 have hl:=r.length
 have hn:=jV
 have fin:EP X af σ Q w s:=⟨z,H,I,pA,q⟩
 by_cases h0:0<=i
 ·have hj:i.toNat=j:=by
   rw[nh h0 h5]at h1
   exact Option.some.inj h1
  exact item_listR pl.isList h0 (by omega) (by rw[hj];simpa using ew) fin hs
 ·have hj:(i+(cj.toArray.size:Int)).toNat=j:=by
   rw[ml (by omega) h4]at h1
   rw[aO,←hl]
   exact Option.some.inj h1
  exact subscriptTail_builtinR (x:=w) pl.isList.typeIs slot_list_getitem.lookup
   (wpAny_getItem_list_neg (Q:=λr s'=>r=w/\EP X af σ Q r s') pl.isList (by omega) (by rw[aO]<;>omega) (by omega) (by rw[hj];simpa using ew) ⟨rfl,fin⟩) hs
theorem YZ:sK X (DS X.K):=by
 intro value slice af s σ H x y v u Q I rx ry h hs
 obtain⟨p,xs,i,z,rfl,rfl,hq,he,q⟩:=h
 cases rx
 obtain⟨t,rfl⟩:=ry
 obtain⟨cj,r,pl,hz⟩:=I.tuple hq
 obtain⟨j,h1,h2,h3,h4,h5⟩:=Gm he
 obtain⟨w,ew,pA⟩:=r.get h2
 have hl:=r.length
 have hn:=jV
 have fin:EP X af σ Q w s:=⟨z,H,I,pA,q⟩
 exact subscriptTail_builtinR (x:=w) pl.typeIs slot_tuple_getitem.lookup
  (getItem_tuple (j:=j) (Q:=λr s'=>r=w/\EP X af σ Q r s') pl (by omega) (by omega) (by rw[aO,←hl];exact h1) (by simpa using ew) ⟨rfl,fin⟩) hs
theorem Y0:sK X DR:=by
 intro value slice af s σ H x y v u Q I rx ry h hs
 obtain⟨z,i,c,rfl,rfl,hz,he,q⟩:=h
 obtain⟨t,rfl⟩:=rx
 obtain⟨t',rfl⟩:=ry
 obtain⟨j,h1,h2,h3,h4,h5⟩:=Gm he
 have hl:z.cps.toList.length=z.length:=by simp[aJ.length]
 rw[hl]at h1 h4 h5
 have hn:=jV
 exact tail_any (typeIs_str s z t) slot_str_getitem.lookup (getItem_str (c:=c) (by
  have e1:decide (i < -(2 ^ 63:Int))=false:=decide_eq_false (by omega)
  have e2:decide (i >= 2 ^ 63)=false:=decide_eq_false (by omega)
  rw[e1,e2,Bool.or_false]) (by rw[h1];simpa using h2) ⟨.str ⟨#[c]⟩,H,I.tok _,⟨_,rfl⟩,q⟩) hs
def MA (K:aa):R2:=λx y H Q=>DQ K x y H Q\/DS K x y H Q\/DR x y H Q
theorem Ac:sK X (MA X.K):=Oj.or (YZ.or Y0)
theorem VQ (cj:List ae)(n j:Nat)(u:ae):cN.mapSeq (·.setIfInBounds j u) { cls:=.type "list",data:=.seq cj.toArray n } = { cls:=.type "list",data:=.seq (cj.set j u).toArray n }:=by
  simp[cN.mapSeq]
theorem Inv.lst {af:List (ah×cN)}{σ:St}{H:Hp}{s:aj}{p:ah}{xs:List V}(I:Inv X af σ H s)(h:H p=some (.lst xs)) :
    ∃(cj:List ae) (n:Nat),bM xs cj/\s.heap.get? p=some { cls:=.type "list",data:=.seq cj.toArray n }/\xs.length<=sizeLine:=by
  obtain⟨z,cj,n,r,e⟩:=I.hok p _ h
  exact⟨cj,n,r,e,z⟩
theorem Inv.lstUpd {af:List (ah×cN)}{σ:St}{H:Hp}{s:aj}{p:ah}{xs ys:List V}{cj its':List ae}{n n':Nat}{f:cN->cN}(I:Inv X af σ H s)(h:H p=some (.lst xs))
    (ho:s.heap.get? p=some { cls:=.type "list",data:=.seq cj.toArray n }) (hf:f { cls:=.type "list",data:=.seq cj.toArray n } = { cls:=.type "list",data:=.seq its'.toArray n' }) (r:bM ys its') (hz:ys.length<=sizeLine) (t:Nat) :
    Inv X af σ (upd H p (.lst ys)) { s with heap:=s.heap.update p f,toks:=t }:=by
  have e:(s.heap.update p f).get? p=some { cls:=.type "list",data:=.seq its'.toArray n' }:=by
    rw[et f ho (by rw[hf]<;>rfl),hf]
  refine I.write (x:=p) (e:=p) (by rw[h];trivial) (.inl rfl) (λb u hb q=>(cK _ _ (Ne.symm hb)).trans q) ⟨_,e⟩ ?_
  exact⟨hz,its',n',r,e⟩
def DV:V->V->V->Hp->(Hp->Prop)->Prop:=λo i v H Q=>∃p xs k j,o=.ref p/\i=.int k/\H p=some (.lst xs)/\ixN xs.length k=some j/\Q (upd H p (.lst (xs.set j v)))
theorem NV:vQ X DV:=by
 intro af s σ H o i v ov iv u Q I ro ri rv h
 obtain⟨p,xs,k,j,rfl,rfl,hp,hj,q⟩:=h
 cases ro
 obtain⟨t,rfl⟩:=ri
 obtain⟨cj,n,r,ho,hz⟩:=I.lst hp
 obtain⟨h1,h2,h3,h4⟩:=Kp hj
 have hl:=r.length
 have hn:=jV
 have I':Inv X af σ (upd H p (.lst (xs.set j v))) { s with heap:=s.heap.update p (cN.mapSeq (·.setIfInBounds j u)) } :=
  I.lstUpd hp ho (VQ cj n j u) (r.set rv j) (by rw[sD];exact hz) s.toks
 by_cases h0:0<=k
 ·have hk:k.toNat=j:=by
   rw[nh h0 h4]at h1
   exact Option.some.inj h1
  exact PySem.W.ki_setAt ho h0 (by omega) (by rw[aO,←hl];exact h4) (by rw[hk];exact⟨_,I',q⟩)
 ·have hk:(k+(cj.toArray.size:Int)).toNat=j:=by
   rw[ml (by omega) h3]at h1
   rw[aO,←hl]
   exact Option.some.inj h1
  exact PySem.W.ki_setBack ho (by omega) (by rw[aO,←hl];exact h3) (by omega) (by rw[hk];exact⟨_,I',q⟩)
theorem U9 (lo hi:Option Int)(n:Nat):(gK lo hi none n).1=((HT.sIx n 0 lo:Nat):Int)/\(gK lo hi none n).2.1=((HT.sIx n n hi:Nat):Int)/\(gK lo hi none n).2.2=1:=by
 refine⟨?_,?_,rfl⟩
 ·cases lo with
  |none=>simp[gK,HT.sIx]
  |some i=>
   simp only[gK,HT.sIx,p4,show(1:Int) > 0 by decide,if_true]
   by_cases h:i<0
   ·simp only[h,if_true]<;>omega
   ·simp only[h,if_false]<;>omega
 ·cases hi with
  |none=>simp[gK,HT.sIx]
  |some i=>
   simp only[gK,HT.sIx,p4,show(1:Int) > 0 by decide,if_true]
   by_cases h:i<0
   ·simp only[h,if_true]<;>omega
   ·simp only[h,if_false]<;>omega
theorem U6 (cj:List ae)(lo hi:Option Int):slicePick cj.toArray lo hi none=((cj.drop (HT.sIx cj.length 0 lo)).take (HT.sIx cj.length cj.length hi-HT.sIx cj.length 0 lo)).toArray:=by
 obtain⟨h1,h2,h3⟩:=U9 lo hi cj.toArray.size
 unfold slicePick
 rw[h1,h2,h3]
 simp only[sliceRange_one,pick_run,aO]<;>rfl
def Jv (K:aa):V->Option Int->Option Int->Hp->VK->Prop:=λx lo hi H Q=>∃a xs,x=.ref a/\eE K H a xs/\∀p,H p=none->Q (.ref p) (upd H p (.lst (qF xs lo hi)))
theorem X8:KZ X (Jv X.K):=by
 intro af s σ H x v vl vu lo hi sl Q I rx hs pl pu h
 obtain⟨a,xs,rfl,hx,q⟩:=h
 cases rx
 obtain⟨cj,r,ht,hz⟩:=I.list hx
 have fq:=r.length
 refine⟨"list",_,slot_list_getitem.lookup,ht.isList.typeIs,?_⟩
 refine wpAny_getItem_list_slice ht.isList hs pl pu .none (by simp) ?_ (by rw[aO]<;>omega)
 rw[U6,←fq]
 refine⟨.ref s.heap.objs.size,_,I.laid (t':=s.toks) (o:=.lst (qF xs lo hi)) (λb ob q=>aw _ q) (aC _) ?_,rfl,q _ (I.hok.fresh (aC _))⟩
 exact⟨bX (Vg xs lo hi) hz,_,0,(r.drop (HT.sIx xs.length 0 lo)).take (HT.sIx xs.length xs.length hi-HT.sIx xs.length 0 lo),bB _ rfl⟩
def gY:V->Bool
 |.non=>true
 |.bl _=>true
 |.int _=>true
 |.str _=>true
 |_=>false
def qG:V->V->Bool
 |.non,.non=>true
 |.bl a,.bl b=>a==b
 |.bl a,.int b=>(if a then 1 else 0)==b
 |.int a,.bl b=>a==(if b then 1 else 0)
 |.int a,.int b=>a==b
 |.str a,.str b=>a==b
 |_,_=>false
theorem Y1 {A:bx}{s:aj}{y x:V}{u v:ae}(ry:RelV y u)(rx:RelV x v)(fy:gY y=true)(fx:gY x=true):SeqAt.EqAt A s u v (qG y x):=by
 cases y with
 |non=>
  cases ry
  cases x with
  |non=>cases rx;exact SeqAt.EqAt.same _
  |bl b=>cases rx;exact SeqAt.EqAt.none_bool b
  |int b=>obtain⟨t,rfl⟩:=rx;exact SeqAt.EqAt.none_int b t
  |str b=>obtain⟨t,rfl⟩:=rx;exact SeqAt.EqAt.none_str b t
  |_=>exact absurd (show false=true from fx) aH
 |bl a=>
  cases ry
  cases x with
  |non=>cases rx;exact SeqAt.EqAt.bool_none a
  |bl b=>cases rx;exact SeqAt.EqAt.bool_bool a b
  |int b=>obtain⟨t,rfl⟩:=rx;exact SeqAt.EqAt.bool_int a b t
  |str b=>obtain⟨t,rfl⟩:=rx;exact SeqAt.EqAt.bool_str a b t
  |_=>exact absurd (show false=true from fx) aH
 |int a=>
  obtain⟨t',rfl⟩:=ry
  cases x with
  |non=>cases rx;exact SeqAt.EqAt.int_none a t'
  |bl b=>cases rx;exact SeqAt.EqAt.int_bool a t' b
  |int b=>obtain⟨t,rfl⟩:=rx;exact SeqAt.EqAt.int_int a t' b t
  |str b=>obtain⟨t,rfl⟩:=rx;exact SeqAt.EqAt.int_str a t' b t
  |_=>exact absurd (show false=true from fx) aH
 |str a=>
  obtain⟨t',rfl⟩:=ry
  cases x with
  |non=>cases rx;exact SeqAt.EqAt.str_none a t'
  |bl b=>cases rx;exact SeqAt.EqAt.str_bool a t' b
  |int b=>obtain⟨t,rfl⟩:=rx;exact SeqAt.EqAt.str_int a t' b t
  |str b=>obtain⟨t,rfl⟩:=rx;exact SeqAt.EqAt.str_str a t' b t
  |_=>exact absurd (show false=true from fx) aH
 |_=>exact absurd (show false=true from fy) aH
def qY (x:V)(u:ae):Bool:=match u with
 |.none=>qG .non x
 |.bool b=>qG (.bl b) x
 |.int i _=>qG (.int i) x
 |.str z _=>qG (.str z) x
 |_=>false
theorem KD {x y:V}{u:ae}(r:RelV y u)(f:gY y=true):qY x u=qG y x:=by
 cases y with
 |non=>cases r;rfl
 |bl b=>cases r;rfl
 |int i=>obtain⟨t,rfl⟩:=r;rfl
 |str z=>obtain⟨t,rfl⟩:=r;rfl
 |_=>exact absurd (show false=true from f) aH
theorem Kq {x:V}:∀{xs:List V} {us:List ae},bM xs us->xs.all gY=true->us.any (qY x)=xs.any λy=>qG y x
 |_,_,.nil,_=>rfl
 |y::xs,u::us,.cons r t,f=>by
  rw[cZ,bJ]at f
  rw[dQ,dQ,KD r f.1,Kq t f.2]
theorem Gb {A:bx}{s:aj}{x:V}{v:ae}(rx:RelV x v)(fx:gY x=true):∀{xs:List V} {us:List ae},bM xs us->xs.all gY=true->∀u∈us,SeqAt.EqAt A s u v (qY x u)
 |_,_,.nil,_=>λu hu=>by cases hu
 |y::xs,u::us,.cons r t,f=>λu' hu=>by
  rw[cZ,bJ]at f
  rcases aB.mp hu with rfl|hu
  ·rw[KD r f.1];exact Y1 r rx f.1 fx
  ·exact Gb rx fx t f.2 u' hu
def Fu (x:V)(xs:List V):Bool:=xs.any λy=>qG y x
def Mw (K:aa)(neg:Bool):R2:=λx y H Q=>∃p xs,y=.ref p/\(eE K H p xs\/kl K H p xs)/\gY x=true/\xs.all gY=true/\Q (.bl (if neg then !Fu x xs else Fu x xs)) H
theorem Va:gA X (cV .NotIn) (Mw X.K true):=by
 intro af s σ H x y v u Q I rx ry h
 obtain⟨p,xs,rfl,hq,fx,fs,q⟩:=h
 cases ry
 rcases hq with hq|hq
 ·obtain⟨cj,r,pl,hz⟩:=I.list hq
  refine SeqAt.notIn_listAt (qY x) pl.isList (λw hw=>Gb rx fx r fs w (by simpa using hw)) ⟨.bl _,H,I,rfl,?_⟩
  rw[show cj.toArray.any (qY x)=cj.any (qY x)by simp,Kq r fs]
  exact q
 ·obtain⟨cj,r,pl,hz⟩:=I.tuple hq
  refine SeqAt.notIn_tupleAt (qY x) pl (λw hw=>Gb rx fx r fs w (by simpa using hw)) ⟨.bl _,H,I,rfl,?_⟩
  rw[show cj.toArray.any (qY x)=cj.any (qY x)by simp,Kq r fs]
  exact q
theorem Vb:eR X (.builtin "len") (λxs H Q=>∃p ys,xs=[.ref p]/\(eE X.K H p ys\/kl X.K H p ys)/\Q (.int ys.length) H):=by
 intro af s σ H xs us Q I r h
 obtain⟨p,ys,rfl,hq,q⟩:=h
 obtain⟨u,rfl,rx⟩:=m9 r
 cases rx
 have hn:=jV
 rcases hq with hq|hq
 ·obtain⟨cj,r',pl,hz⟩:=I.list hq
  have fq:=r'.length
  exact Calls.call_len_list pl.isList (by simp only[aO]<;>omega) ⟨.int ys.length,H,I.tok _,⟨s.toks+1,by rw[aO,fq]⟩,q⟩
 ·obtain⟨cj,r',pl,hz⟩:=I.tuple hq
  have fq:=r'.length
  exact len_tuple pl (by simp only[aO]<;>omega) ⟨.int ys.length,H,I.tok _,⟨s.toks+1,by rw[aO,fq]⟩,q⟩
theorem Vc:eR X (.builtin "len") (λxs H Q=>∃z,xs=[.str z]/\z.length<=sizeLine/\Q (.int z.length) H):=by
 intro af s σ H xs us Q I r h
 obtain⟨z,rfl,hz,q⟩:=h
 obtain⟨u,rfl,t,rfl⟩:=m9 r
 have hn:=jV
 exact len_str (by omega) ⟨.int z.length,H,I.tok _,⟨_,rfl⟩,q⟩
theorem eR.or {f:ae}{r r':List V->Hp->VK->Prop}(h:eR X f r)(h':eR X f r'):eR X f (λxs H Q=>r xs H Q\/r' xs H Q):=by
 intro af s σ H xs us Q I rs q
 rcases q with q|q
 ·exact h af s σ H xs us Q I rs q
 ·exact h' af s σ H xs us Q I rs q
theorem qf:eR X (.type "list") (λxs H Q=>∃p ys,xs=[.ref p]/\(eE X.K H p ys\/kl X.K H p ys)/\∀l,H l=none->Q (.ref l) (upd H l (.lst ys))):=by
  intro af s σ H xs us Q I r h
  obtain⟨p,ys,rfl,hq,q⟩:=h
  obtain⟨u,rfl,rx⟩:=m9 r
  cases rx
  have fin:∀(cj:List ae),bM ys cj->ys.length<=sizeLine->∀(h':aI) (c':Nat),(∀b o',s.heap.get? b=some o'->h'.get? b=some o') ->
      h'.get? s.heap.objs.size=some { cls:=.type "list",dict:=none,data:=.seq cj.toArray c',slots:=#[] }->EP X af σ Q (.ref s.heap.objs.size) { s with heap:=h' }:=λcj r' hz h' c' kp e=>
    ⟨.ref s.heap.objs.size,_,I.laid (t':=s.toks) kp (aC _) (show dF X.prog X.w _ h' _ (.lst ys)from⟨hz,cj,c',r',e⟩),rfl,q _ (I.hok.fresh (aC _))⟩
  rcases hq with hq|hq
  · obtain⟨cj,r',pl,hz⟩:=I.list hq
    have fq:=r'.length
    obtain⟨o,ho,hc,n,hd⟩:=pl.isList
    exact call_list_seq p (.inl rfl) ho hc hd (λh' c' kp e=>fin cj r' hz h' c' kp e) (by simp only[aO]<;>omega)
  · obtain⟨cj,r',pl,hz⟩:=I.tuple hq
    have fq:=r'.length
    obtain⟨o,ho,hc,n,hd⟩:=pl
    exact call_list_seq p (.inr rfl) ho hc hd (λh' c' kp e=>fin cj r' hz h' c' kp e) (by simp only[aO]<;>omega)
def MJ (K:aa)(T:String)(x:V)(H:Hp):Prop:=match x with
 |.str _=>T = "str"
 |.int _=>T = "int"
 |.ref p=>(T = "list"/\∃xs,eE K H p xs)\/(T = "tuple"/\∃o,K.lookup p=some o/\o.cls=.type "tuple"/\o.dict=none) \/
   (T = "dict"/\((∃cq,H p=some (.dK cq))\/∃cq,H p=some (.dT cq)))\/(T = "set"/\∃S n,H p=some (.set S n))
 |_=>False
theorem Y2 {af:List (ah×cN)}{σ:St}{H:Hp}{s:aj}{T:String}{x:V}{v:ae}(I:Inv X af σ H s)(r:RelV x v)(ty:MJ X.K T x H) :
  s.TypeIs v T/\∀a,v=.ref a->∃ob,s.heap.get? a=some ob/\ob.dict=none:=by
 cases x with
 |str z=>
  obtain⟨t,rfl⟩:=r
  cases(show T = "str" from ty)
  exact⟨typeIs_str s z t,λ_ e=>nomatch e⟩
 |int i=>
  obtain⟨t,rfl⟩:=r
  cases(show T = "int" from ty)
  exact⟨uD s i t,λ_ e=>nomatch e⟩
 |ref p=>
  cases r
  rcases ty with⟨rfl,xs,hq⟩|⟨rfl,o,hk,hc,hd⟩|⟨rfl,hk⟩|⟨rfl,S,n,hk⟩
  ·obtain⟨cj,_,pl,_⟩:=I.list hq
   refine⟨pl.isList.typeIs,λa e=>?_⟩
   cases e
   obtain⟨o,n,e,c,hd,_⟩:=pl
   exact⟨o,e,hd⟩
  ·refine⟨⟨o,I.kIn p o hk,hc⟩,λa e=>?_⟩
   cases e
   exact⟨o,I.kIn _ o hk,hd⟩
  ·have z:∃o,s.heap.get? p=some o/\o.ExactDict:=by
    rcases hk with⟨cq,hk⟩|⟨cq,hk⟩
    ·obtain⟨_,_,_,_,o,_,_,e,ex,_⟩:=I.hok p _ hk
     exact⟨o,e,ex⟩
    ·obtain⟨_,_,_,_,o,_,_,e,ex,_⟩:=I.hok p _ hk
     exact⟨o,e,ex⟩
   obtain⟨o,e,ex⟩:=z
   refine⟨⟨o,e,ex.1⟩,λa e2=>?_⟩
   cases e2
   exact⟨o,e,ex.2.1⟩
  ·obtain⟨o,_,_,_,e,ex,_⟩:=I.hok p _ hk
   refine⟨⟨o,e,ex.1⟩,λa e2=>?_⟩
   cases e2
   exact⟨o,e,ex.2.1⟩
 |_=>exact False.elim ty
def Uj (K:aa)(T:String)(r:V->List V->Hp->VK->Prop)(to:TE)(t:TA):TE:=λσ H Q=>to σ H λx H1=>MJ K T x H1/\t σ H1 λxs H2=>r x xs H2 Q
variable {o e:Expr}{es:List Expr}{to:TE}{t:TA}{name:aJ}{cP dq:cE}{T id:String}{r:V->List V->Hp->VK->Prop}
theorem GD (pa:PlainAttrs T)(slot:Slot T name id)(RP:typeOf (.builtin id)=pure (.type "method_descriptor"))(hm:KW X id r)(ho:PE X o to)(ha:PA X (e::es) t)
  (lQ:df o name X.env (br o X.env)=br o X.env:=by rfl)
  (pf:((bU dq (ak (e::es) X.env)).all (λx=>!x.1)&&(eh dq (cJ [] X.env)).all (λx=>x.1.isSome)
   && decide ((e::es).length+([]:List fE).length+(if([]:List fE).isEmpty then 0 else 1)<30))=true:=by rfl)
  (lS:(cP.endLine==dq.line)=true:=by rfl) (hs:ak (e::es) X.env=(false,br e X.env)::ak es X.env:=by rfl) (jU:(bU dq (ak es X.env)).any (·.1)=false:=by rfl) :
  PE X (.Call (.Attribute o name cP) (e::es) [] dq) (Uj X.K T r to t):=by
 intro af s σ H Q I h
 refine wpAny_Call_method_late lQ pf lS rfl (cW (ho af s σ H _ I h) λv s1 dh=>?_)
 obtain⟨x,H1,I1,r1,ty,q1⟩:=dh
 obtain⟨h1,h2⟩:=Y2 I1 r1 ty
 refine⟨T,id,pa,slot,RP,h1,h2,?_⟩
 have hA:=ha dq af s1 σ H1 _ I1 q1
 rw[hs]at hA ⊢
 refine Calls.callWith_builtin (by show(false || (bU dq (ak es X.env)).any (·.1))=false;rw[jU]<;>rfl) (Calls.evalArgs_plain ?_)
 exact cW hA λus s2 ⟨vs,H2,I2,r2,q2⟩=>hm af s2 σ H2 x vs v us Q I2 r1 r2 q2
end
end L2
namespace L2
open PySem PySem.Spec PyProof.Rows
def KU (X:Cx)(id:String)(r:V->List V->Hp->VK->Prop):Prop :=
 ∀(af:List (ah×cN)) (s:aj) (σ:St) (H:Hp) (x:V) (xs:List V) (v:ae) (us:List ae) (Q:VK),Inv X af σ H s->RelV x v->bM xs us->r x xs H Q ->
  aN (aG X.prog X.w) X.A (call (.builtin id) (v::us)) (EP X af σ Q) X.xe s
theorem bM.one:∀{x:V} {us:List ae},bM [x] us->∃u,us=[u]/\RelV x u
 |_,_,.cons r .nil=>⟨_,rfl,r⟩
theorem bM.eraseIdx:∀{xs:List V} {us:List ae} (i:Nat),bM xs us->bM (xs.eraseIdx i) (us.eraseIdx i)
 |_,_,_,.nil=>.nil
 |_,_,0,.cons _ t=>t
 |_,_,i+1,.cons r t=>.cons r (bM.eraseIdx i t)
theorem bM.rep {xs:List V}{us:List ae}(h:bM xs us):∀k:Nat,bM (aD k xs).flatten (aD k us).flatten
 |0=>.nil
 |k+1=>by
  rw[cz,cz,dJ,dJ]
  exact bM.append h (bM.rep h k)
theorem Nw {α:Type}:∀(l:List α) (i:Nat),(l.eraseIdx i).length<=l.length
 |[],_=>aC _
 |_::_,0=>jG _
 |_::r,i+1=>Nat.succ_le_succ (Nw r i)
theorem zev (cj:List ae):∀(k:Nat) (fN:List ae),
  pY (λx1 x2=>x1++x2) fN.toArray (aD k cj.toArray)=(fN++(aD k cj).flatten).toArray
 |0,fN=>by simp
 |k+1,fN=>by
  have e:fN.toArray++cj.toArray=(fN++cj).toArray:=by simp
  have e2:(fN++cj)++(aD k cj).flatten=fN++(aD (k+1) cj).flatten:=by
   rw[cz,dJ,fD]
  rw[←e2,←zev cj k (fN++cj),←e,cz,dH]
section
variable {X:Cx}{af:List (ah×cN)}{σ:St}{H:Hp}{s:aj}{l b:ah}{xs ys zs:List V}
theorem Inv.lset {cj its':List ae}{n:Nat}{f:Array ae->Array ae}{t':Nat}(I:Inv X af σ H s)(hH:H l=some (.lst xs))
    (e:s.heap.get? l=some { cls:=.type "list",data:=.seq cj.toArray n }) (hf:f cj.toArray=its'.toArray) (hv:bM ys its') (hz:ys.length<=sizeLine) :
    Inv X af σ (upd H l (.lst ys)) { s with heap:=s.heap.update l (cN.mapSeq f),toks:=t' }:=by
  have q:=PySem.IsL.update e f
  rw[hf]at q
  refine I.write (x:=l) (e:=l) (by rw[hH];exact trivial) (.inl rfl) (λb' u hb hu=>(cK s.heap (cN.mapSeq f) (Ne.symm hb)).trans hu) ⟨_,q⟩ ?_
  exact⟨hz,its',_,hv,q⟩
theorem Inv.lnew {cj:List ae}{t':Nat}(I:Inv X af σ H s)(hv:bM ys cj)(hz:ys.length<=sizeLine) :
    Inv X af σ (upd H s.heap.objs.size (.lst ys)) { s with heap:=s.heap.push { cls:=.type "list",data:=.seq cj.toArray },toks:=t' } :=
  I.laid (λ_ _ q=>aw _ q) (aC _) ⟨hz,cj,0,hv,bB _ rfl⟩
theorem Inv.fresh (I:Inv X af σ H s):H s.heap.objs.size=none:=I.hok.fresh (aC _)
theorem Inv.lstM (I:Inv X af σ H s)(hH:H l=some (.lst xs)):xs.length<=sizeLine/\∃(cj:List ae) (n:Nat),bM xs cj/\xs.length=cj.length/\s.heap.get? l=some { cls:=.type "list",data:=.seq cj.toArray n }:=by
  obtain⟨z,cj,n,r,e⟩:=I.hok l _ hH
  exact⟨z,cj,n,r,r.length,e⟩
theorem sd {n:Nat}(h:n<=sizeLine):dO.List.listTooLong n=false:=by
 unfold dO.List.listTooLong
 exact decide_eq_false (by omega)
end
section
variable {X:Cx}
def tZ:V->List V->Hp->VK->Prop:=λx vs H Q=>∃l xs y,x=.ref l/\vs=[y]/\H l=some (.lst xs)/\xs.length<sizeLine/\Q .non (upd H l (.lst (xs++[y])))
theorem FV:KU X "list.append" tZ:=by
 intro af s σ H x vs v us Q I rx rv h
 obtain⟨l,xs,y,rfl,rfl,hH,hz,q⟩:=h
 cases rx
 obtain⟨u,rfl,ru⟩:=rv.one
 obtain⟨z,cj,n,r,hl,e⟩:=I.lstM hH
 refine lm F.slot_list_append ⟨_,e,rfl⟩ F.entry_list_append (F.args_list_append_2 _ _) (PySem.list_append l cj.toArray n u (by rw[aO];omega)) ⟨e,?_⟩
 refine⟨.non,_,I.lset (its':=cj++[u]) hH e (by simp) (r.append (.cons ru .nil)) ?_,rfl,q⟩
 rw[bA,iK]
 omega
def yN:V->List V->Hp->VK->Prop:=λx vs H Q=>∃l xs i k y,x=.ref l/\vs=[.int i]/\H l=some (.lst xs)/\-(2 ^ 63)<=i/\i<2 ^ 63/\seqIndex? i xs.length=some k/\xs[k]?=some y/\Q y (upd H l (.lst (xs.eraseIdx k)))
theorem WL:KU X "list.pop" yN:=by
 intro af s σ H x vs v us Q I rx rv h
 obtain⟨l,xs,i,k,y,rfl,rfl,hH,h1,h2,hk,hy,q⟩:=h
 cases rx
 obtain⟨u,rfl,ru⟩:=rv.one
 obtain⟨t,rfl⟩:=ru
 obtain⟨z,cj,n,r,hl,e⟩:=I.lstM hH
 obtain⟨w,hw,pA⟩:=r.get hy
 refine lm F.slot_list_pop ⟨_,e,rfl⟩ F.entry_list_pop (F.args_list_pop_2 _ _)
  (MeetsSeq.list_pop_at l cj.toArray n i t k w (fitsIndex_both h1 h2) (by rw[aO,←hl];exact hk) (by rw[←Array.getElem?_toList];exact hw) (by rw[aO];omega)) ⟨e,?_⟩
 refine⟨y,_,I.lset (its':=cj.eraseIdx k) hH e ?_ (r.eraseIdx k) ?_,pA,q⟩
 ·show cj.toArray.eraseIdxIfInBounds k=(cj.eraseIdx k).toArray
  rw[List.eraseIdxIfInBounds_toArray]
 ·have:=Nw xs k
  omega
theorem X9 {α:Type}(xs:List α)(k:Nat):(aD k xs).flatten.length=k*xs.length:=by
 induction k with
 |zero=>simp
 |succ k ih=>rw[cz,dJ,bA,ih,Nat.succ_mul,Nat.add_comm]
end
section
variable {prog:bg}{w:bN}{A:bx}{E:ae->aj->Prop}{s:aj}
end
section
variable {X:Cx}
end
end L2
namespace Att
open PySem PySem.W PySem.Calls PyProof.Rows
theorem UE {P:Params}{h:aI}:∀(ns:List Int) (vs:List ae),WellAll P h vs (ns.map WData.int)->IntsAre vs ns:=by
 intro ns
 induction ns with
 |nil=>
  intro vs w
  rw[kE]at w
  cases w
  exact .nil
 |cons n ns ih=>
  intro vs w
  rw[bn]at w
  cases w with
  |cons a b=>
   cases a
   exact .cons _ _ (ih _ b)
theorem VJ {l:OpenLaw}{n:Nat}(hn:l.most=some n){P:Params}{h:aI}{args:List WData}{vals:List ae}
    (ny:l.row.toRowW.claim.pre args=true) (IX:WellAll P h vals args) :
    ∃a vs ns,vals=[ae.ref a]/\args=[WData.list (ns.map WData.int)]/\h.get? a=some { cls:=.type "list",data:=.seq vs.toArray }/\IntsAre vs ns/\ns.length<=n:=by
  have RJ:WShape.hasAll [] args [.list .int]=true:=(pre_splitW ny).1
  have hc:l.pre.holds [] { args:=args }=true:=(pre_splitW ny).2
  obtain⟨d,r,rfl,h1,h2⟩:=hasAllW_cons RJ
  obtain rfl:=hasAllW_nil h2
  obtain⟨xs,rfl,h3⟩:=hasW_list h1
  obtain⟨ns,rfl⟩:=items_int h3
  have fq:ns.length<=n:=by
    unfold OpenLaw.pre at hc
    have h4:(WTm.not (.lt (.lit (.int (n:Int))) (.len (.arg 0)))).holds [] { args:=[.list (ns.map .int)] }=true:=by
      have h4:=(holds_andW hc).1
      rw[hn]at h4
      exact h4
    have h5:=condW_of h4 (w_not (w_lt w_lit (w_len_list (w_arg rfl))))
    rw[bi]at h5
    refine Nat.le_of_not_lt λq=>?_
    have q':(n:Int)<((ns.length:Nat):Int):=by omega
    first
      |(rw[decide_eq_true q']at h5;exact absurd h5 (by decide))
      |(simp at h5;omega)
  cases IX with
  |cons w1 w2=>
    cases w2
    cases w1 with
    |list ho rG=>exact⟨_,_,ns,rfl,rfl,ho,UE ns _ rG,fq⟩
theorem VL (l:OpenLaw)(args:List WData):l.row.toRowW.claim.post args (.bool true) args=true :=
  postW_of (r:=l.row.toRowW) (X:=(true==true))
    (show WShape.has [] (.bool true) .bool=true by first|rfl|decide|simp[WShape.has,WShape.arms,WShape.armsAll])
    (show(WTm.eq .res (.lit (.bool true))).value [] { args:=args,res:=some (.bool true),after:=args }=some (.bool (true==true))from w_eq_bool (w_res rfl) w_lit) rfl
theorem attach_call {l:OpenLaw}{n:Nat}{q:bg}{loose:List aJ}{XP:(aJ->Option ae)->aI->Prop}{YP:bN->aI->Prop}{d:DefRec}
    (hn:l.most=some n) (B9:d.params.defaults=[])
    (call:∀(w:bN) (s₀ s₁:aj) (mg mb:aJ->Option ae) (fa:ah) (o:cN) (pm cd doc:ae) (a:ah) (vs:List ae) (ns:List Int),
      Ground q loose [] XP w s₀ mg mb s₁.heap->YP w s₁.heap ->
      s₁.heap.get? fa=some o->o.data=.func (docDef d.name d.params d.body d.scope pm cd doc)->s₁.heap.CodeRec cd d.name->mg d.name=some (.ref fa) ->
      s₁.heap.get? a=some { cls:=.type "list",data:=.seq vs.toArray }->IntsAre vs ns->ns.length<=n->s₁.gens = #[] ->
      eW (aG l.prog w) mj (.call (.ref fa) ⟨[.ref a],[]⟩) (λr s'=>r=.ok (.ret (.bool true))/\OldK s₁.heap s'.heap/\s'.os=s₁.os/\AllBare s'.gens) s₁) :
    WalkO q loose XP YP l.row.toRowW d [] (λf vs=>PySem.call f vs):=by
  intro w s₀ s₁ mg mb G Y fa o pm cd doc dV kV ho hd jB hD hmg hg args vals as ny Rx hrd IX xR
  obtain rfl:dV=.none:=Dflts.none hD B9
  obtain rfl:kV=.none:=Dflts.noKw hD
  obtain⟨a,vs,ns,rfl,rfl,xY,rO,fq⟩:=VJ hn ny IX
  refine enter_call (fZ (call w s₀ s₁ mg mb fa o pm cd doc a vs ns G Y ho (fd_plain hd) jB hmg xY rO fq hg) λr s' hq=>?_)
  obtain⟨rfl,h2,h3,h4⟩:=hq
  exact⟨.inl ⟨.bool true,.bool true,[],rfl,λ_=>rfl,.bool true,VL l _,λ_=>⟨List.Pairwise.nil,λ_ hm=>(nomatch hm)⟩⟩,h2,h3,h4⟩
section
variable {prog:bg}{w:bN}{A:bx}{E:ae->aj->Prop}{s:aj}{K:Frag}
end
end Att
namespace L2
open PySem PySem.Spec PyProof.Rows
theorem Nx:∀{vs:List ae} {ns:List Int},IntsAre vs ns->bM (ns.map V.int) vs
 |_,_,.nil=>.nil
 |_,_,.cons n t h=>.cons ⟨t,rfl⟩ (Nx h)
def vO (H:Hp):Prop:=∀b,H b=none\/∃o xs,H b=some (.frz o (.lst xs))
theorem WM {P:bg}{w:bN}{K:aa}{mg mb:aJ->Option ae}{CX:qA}{k:Nat}{fa a:ah}{fd:aL}{x:aJ}{sp:Sp}{s₁:aj}{vs:List ae}{ns:List Int}
    (KX:K.In s₁.heap) (oG:s₁.heap.Ns ax mg) (hb:s₁.heap.Ns uC mb) (Fa:∀x:aJ,x≠"__name__"->mb x=bZ x) (IH:s₁.heap.NoLimit) (hg:s₁.gens = #[])
    (ha:s₁.heap.get? a=some { cls:=.type "list",data:=.seq vs.toArray }) (hi:IntsAre vs ns) (hl:ns.length<=sizeLine) (hr:dG k mj)
    (F:∀base:aI,K.In base->base.Ns ax mg->cp P w K mg base CX k fa fd [x] sp) (B8:∀(s:aj) (u:ae),nL s fd ⟨[u],[]⟩ [(x,u)])
    (uU:∀H:Hp,vO H->eE K H a (ns.map V.int)->sp [.ref a] H (λv _=>v=.bl true) λ_ _ _=>False)
    (HR:∀H e s',CX [] H s₁ (λ_ _ _=>False) e s'->False) :
    eW (aG P w) mj (.call (.ref fa) ⟨[.ref a],[]⟩) (λr s'=>r=.ok (.ret (.bool true))/\OldK s₁.heap s'.heap/\s'.os=s₁.os/\AllBare s'.gens) s₁:=by
  have rv:=Nx hi
  have Jk:=hi.length
  have core:∀H:Hp,vO H->eE K H a (ns.map V.int)->jS P w H s₁.heap->(∀b,H b≠none->b=a)->(H a≠none->K.lookup a=none) ->
      eW (aG P w) mj (.call (.ref fa) ⟨[.ref a],[]⟩) (λr s'=>r=.ok (.ret (.bool true))/\OldK s₁.heap s'.heap/\s'.os=s₁.os/\AllBare s'.gens) s₁:=by
    intro H hO hS hok hA hK
    have pM:∀{b:ah} {o:cN},s₁.heap.get? b=some o->H b=none->(nw s₁.heap H).get? b=some o:=λe n=>WC e n
    have Dd:∀{b:ah} {o:cN} {es:Array DictEntry} {ep:Nat},s₁.heap.get? b=some o->o.data=.dict es ep->H b=none:=λ{b o es ep} e d=>by
      cases q:H b with
      |none=>rfl
      |some u=>
        have e':b=a:=hA b (by rw[q];simp)
        subst e'
        rw[ha]at e;cases e
        have d':pH.seq vs.toArray _=pH.dict es ep:=d
        cases d'
    have Fz:∀{b:ah} {m:aJ->Option ae},s₁.heap.Ns b m->(nw s₁.heap H).Ns b m:=λ{b m} ⟨o,es,ep,e,d,r⟩=>⟨o,es,ep,pM e (Dd e d),d,r⟩
    have LA:K.In (nw s₁.heap H):=λb o e=>pM (KX b o e) (by
      cases q:H b with
      |none=>rfl
      |some u=>
        have e':b=a:=hA b (by rw[q];simp)
        subst e'
        rw[hK (by rw[q];simp)]at e;cases e)
    have hM:Mod K mg (nw s₁.heap H):=⟨LA,Fz oG,⟨mb,Fz hb,Fa⟩,let⟨mc,h1,h2⟩:=IH;⟨mc,Fz h1,h2⟩⟩
    have e0:oT P w K mg (nw s₁.heap H) mj [] s₁ H:=⟨rfl,hM,λb o e=>Xu e,oo (V2 _ _),trivial,λb hb=>absurd (show b∈([]:List ah)from hb) (by simp),hok,.of_eq hg⟩
    refine fZ ((F _ LA (Fz oG)).run mj [] s₁ H ⟨[.ref a],[]⟩ [.ref a] [.ref a] _ _ hr e0 (B8 s₁ (.ref a)) (.cons rfl .nil) (uU H hO hS)) λr s' h=>?_
    cases r with
    |error e=>exact(HR H e s' h).elim
    |ok fl=>
      cases fl with
      |next=>exact False.elim h
      |brk=>exact False.elim h
      |cont=>exact False.elim h
      |ret u=>
        obtain⟨v,H',os,bare,un,IL,r',q⟩:=h
        have q':v=.bl true:=q
        subst q'
        obtain rfl:u=ae.bool true:=r'
        refine⟨rfl,OldK.of_keep λb o e=>?_,os,bare⟩
        cases q:H b with
        |none=>exact un.keep b o e q (by intro z;exact absurd (show b∈([]:List ah)from z) (by simp)) (by simp)
        |some u=>
          rcases hO b with z|⟨ob,xs,z⟩
          · rw[q]at z;cases z
          · have z2:=un.frzs b ob _ z
            obtain⟨e1,_⟩:=hok b _ z
            obtain⟨e2,_⟩:=IL b _ z2
            rw[e]at e1;cases e1
            exact e2
  cases hk:K.lookup a with
  |some o=>
    have e:=KX a o hk
    rw[ha]at e
    cases e
    refine core (λ_=>none) (λ_=>.inl rfl) (.inr ⟨_,vs.toArray,_,hk,rfl,rfl,rfl,by rw[aO,Jk];exact hl,by simpa using rv⟩) (λb u z=>by have z':(none:Option HO)=some u:=z;cases z') (λb z=>absurd rfl z) λz=>absurd rfl z
  |none=>
    refine core (λb=>if b=a then some (.frz { cls:=.type "list",data:=.seq vs.toArray } (.lst (ns.map V.int)))else none) (λb=>?_) (.inl (.inr ⟨{ cls:=.type "list",data:=.seq vs.toArray },if_pos rfl⟩)) (λb u z=>?_) (λb z=>?_) λ_=>hk
    · by_cases hb:b=a
      · exact .inr ⟨_,_,if_pos hb⟩
      · exact .inl (if_neg hb)
    · by_cases hb:b=a
      · have z':=(if_pos hb).symm.trans z
        cases z'
        subst hb
        exact⟨ha,by rw[bi];exact hl,vs,_,rv,ha⟩
      · have z':=(if_neg hb).symm.trans z
        cases z'
    · by_cases hb:b=a
      · exact hb
      · exact absurd (if_neg hb) z
end L2
namespace L2
open PySem PySem.Spec PyProof.Rows
theorem walk_of {l:kQ}{n k:Nat}{q:bg}{loose:List aJ}{XP:(aJ->Option ae)->aI->Prop}{YP:bN->aI->Prop}{d:DefRec}{K:Params->aa}{CX:bN->qA}{sp:bN->Sp}{x:aJ}
  (hn:l.most=some n) (rQ:n<=sizeLine) (B9:d.params.defaults=[]) (hr:dG k mj)
  (hY:∀(w:bN) (h:aI),YP w h->(K w.params).In h)
  (F:∀(w:bN) (mg:aJ->Option ae) (fa:ah) (h:aI),(K w.params).In h->h.Ns ax mg->mg d.name=some (.ref fa) ->
   ∃fd:aL,(∀(s:aj) (u:ae),nL s fd ⟨[u],[]⟩ [(x,u)]) /\
    ∀base:aI,(K w.params).In base->base.Ns ax mg->cp l.prog w (K w.params) mg base (CX w) k fa fd [x] (sp w))
  (uU:∀(w:bN) (H:Hp) (a:ah) (ns:List Int),ns.length<=n->vO H->eE (K w.params) H a (ns.map V.int)->sp w [.ref a] H (λv _=>v=.bl true) λ_ _ _=>False)
  (HR:∀(w:bN) (H:Hp) (s:aj) (e:ae) (s':aj),CX w [] H s (λ_ _ _=>False) e s'->False) :
  rn q loose XP YP l.row.toRowW d [] (λf vs=>PySem.call f vs):=by
 refine Att.attach_call hn B9 λw s₀ s₁ mg mb fa o pm cd doc a vs ns G Y ho hd jB hmg xY rO fq hg=>?_
 have KX:=hY w _ Y
 obtain⟨fd,hb,hF⟩:=F w mg fa _ KX G.T.g hmg
 exact WM KX G.T.g G.T.b G.T.builtins G.T.nolimit hg xY rO (bX fq rQ) hr hF hb (λH hO hS=>uU w H a ns fq hO hS) λH e s'=>HR w H s₁ e s'
end L2
namespace L2
open PySem PySem.Spec PyProof.Rows
def inClass (s:bL)(j:Nat):bL:=match s with
 |.ClassDef _ _ _ body _ _ _ _ _ _ _=>body.getD j (.Pass ⟨0,0,0,0⟩)
 |_=>.Pass ⟨0,0,0,0⟩
def lz (s:bL):Arguments:=match s with
  |.FunctionDef _ a _ _ _ _ _ _ _ _=>a
  |_=>{ posonlyargs:=[],args:=[],vararg:=none,kwonlyargs:=[],kw_defaults:=[],kwarg:=none,defaults:=[] }
def fU (s:bL):List bL:=match s with
 |.FunctionDef _ _ b _ _ _ _ _ _ _=>b
 |_=>[]
def aQ (s:bL):fC:=match s with
  |.FunctionDef _ _ _ _ _ _ sc _ _ _=>sc
  |_=>{ kind:=.function,names:=[],isGenerator:=false,isCoroutine:=false }
abbrev eQ:qA:=λ_ _ _ _ _ _=>False
abbrev E0:XK:=λ_ _ _=>False
theorem og {X:Cx}:iN eQ X E0:=λ_ _ _ _ _ _ _ h=>h.elim
section
variable {P:bg}{w:bN}{K:aa}{mg:aJ->Option ae}{base:aI}
end
theorem EE {A:bx}{k:Nat}(hr:dG k A):A.units+1<iT:=qQ (Nat.add_le_add_left (by decide:1<=64) _) hr.units
theorem qL {n:Nat}(h:n<=1000):n<sizeLine:=qQ h (by decide)
section
variable {X:Cx}
end
def bI (H H':Hp):Prop:=∀b o,H b=some o->H' b=some o
theorem bI.refl (H:Hp):bI H H:=λ_ _ h=>h
theorem bI.trans {H H1 H2:Hp}(a:bI H H1)(b:bI H1 H2):bI H H2:=λc o h=>b c o (a c o h)
theorem bI.free {H H':Hp}(e:bI H H'){l:ah}(h:H' l=Option.none):H l=Option.none:=by
 cases q:H l with
 |none=>rfl
 |some o=>
  rw[e l o q]at h
  cases h
theorem bI.seq {K:aa}{H H':Hp}{a:ah}{xs:List V}(e:bI H H')(h:eE K H a xs):eE K H' a xs:=by
 rcases h with(h|⟨o,h⟩)|h
 ·exact .inl (.inl (e _ _ h))
 ·exact .inl (.inr ⟨o,e _ _ h⟩)
 ·exact .inr h
end L2
namespace L2
open PySem PySem.Spec PyProof.Rows
def zK (a C:ah)(dx tb:Option ah)(h:aI):Prop :=
  ∃a0,h.get? a=some { cls:=.ref C,dict:=dx,data:=.fields #[a0,tb.elim ae.none .ref,.none,.none,.bool false,.none] }
def Aw (T:ah)(h:aI):Prop:=∃ts,h.get? T=some { cls:=.type "traceback",data:=.fields ts }/\ts[3]?=some .none
theorem zK.stay {a C:ah}{dx tb:Option ah}{h h':aI}(x:zK a C dx tb h)(k:∀o,h.get? a=some o->h'.get? a=some o):zK a C dx tb h' :=
 let⟨a0,e⟩:=x;⟨a0,k _ e⟩
theorem Aw.stay {T:ah}{h h':aI}(x:Aw T h)(k:∀o,h.get? T=some o->h'.get? T=some o):Aw T h' :=
 let⟨ts,e,q⟩:=x;⟨ts,k _ e,q⟩
abbrev li (a C:ah)(dx tb:Option ah):HO:=.ext (zK a C dx tb)
abbrev MD (T:ah):HO:=.ext (Aw T)
def oE (H:Hp)(a C:ah)(dx tb:Option ah):Prop:=H a=some (li a C dx tb)/\∀T,tb=some T->H T=some (MD T)/\T≠a
def dY (H:Hp)(a C:ah)(dx:Option ah)(T:ah):Hp:=upd (upd H T (MD T)) a (li a C dx (some T))
theorem Kr {H:Hp}{a C T:ah}{dx tb:Option ah}(x:oE H a C dx tb)(hT:H T=none):oE (dY H a C dx T) a C dx (some T):=by
 have ne:T≠a:=λe=>by rw[e,x.1]at hT;cases hT
 refine⟨zk,λT' e=>?_⟩
 cases e
 exact⟨by unfold dY;rw[zh ne,zk],ne⟩
section
variable {X:Cx}{af:List (ah×cN)}{σ:St}{H:Hp}{s:aj}{a C:ah}{dx tb:Option ah}{M:Model}{A1 A2:bx}{E1 E2:ae->aj->Prop}
theorem Inv.xc (I:Inv X af σ H s)(x:oE H a C dx tb):zK a C dx tb s.heap:=(I.hok a _ x.1).1
theorem Inv.tbo {T:ah}(I:Inv X af σ H s)(x:oE H a C dx (some T)):Aw T s.heap:=(I.hok T _ (x.2 T rfl).1).1
theorem Inv.entry {head:ae}{pO:Bool}{Q:Unit->aj->Prop}(I:Inv X af σ H s)(ie:X.stack=X.env::X.outer)(hf:X.env.frame=some X.env.locals)(hA:A1.frames=some X.stack)(x:oE H a C dx tb)
    (h:∀s' T,H T=none->Inv X af σ (dY H a C dx T) s'->Q () s') :
    aN M A1 (do let fr ← frameOf X.env;let pl ← entryPlaceOf X.env.locals pO;let b ← EntryCells.newEntry head fr .none (rawInt X.env.locals) .none pl;setField (.ref a) 1 b) (λ_ s1=>aN M A2 (setFlight (.ref a) none) Q E1 s1) E2 s:=by
  have Cc:=I.stack
  rw[ie]at Cc hA
  refine aq (wpAny_frameOf_fun hA Cc hf λh1 vF=>aq (wpAny_entryPlaceOf λpl gq=>?_))
  unfold EntryCells.newEntry newFields
  refine aq (iB ?_ (gq.sizeOk5 _ _ _ _ _))
  have fr:∀b,H b≠none->b∉(X.env::X.outer).filterMap (·.frame):=λb hb hm=>hb (I.stkFree b (by rw[ie];exact hm))
  obtain⟨a0,he⟩:=I.xc x
  have e1:=(vF.2.1 a (fr a (by rw[x.1];simp))).trans he
  generalize RN:([head,ae.ref X.env.locals,.none,rawInt X.env.locals,.none]++(if pl.isEmpty then aD 6 ae.none else pl)).toArray=ts
  have Re:ts[3]?=some (rawInt X.env.locals):=by rw[←RN];simp
  have LB:3<ts.size:=(gJ.mp Re).1
  have e2:=aw (h:=h1) { cls:=.type "traceback",dict:=none,data:=.fields ts } e1
  refine wpAny_setField e2 rfl (by simp) ?_
  have neT:h1.objs.size≠a:=iF (aF e1)
  have e3:=et (cN.mapFields (·.setIfInBounds 1 (ae.ref h1.objs.size))) e2 rfl
  have t3:=(cK (h1.push { cls:=.type "traceback",dict:=none,data:=.fields ts }) (cN.mapFields (·.setIfInBounds 1 (ae.ref h1.objs.size))) (Ne.symm neT)).trans (bB h1 rfl)
  unfold setFlight
  refine aq (wpAny_field e3 rfl (x:=.ref h1.objs.size) (by simp) ?_)
  rw[if_pos (show(ae.ref h1.objs.size != ae.none)=true from by simp)]
  refine wpAny_setField t3 rfl LB ?_
  suffices z:∀h4,h4=((h1.push { cls:=.type "traceback",dict:=none,data:=.fields ts }).update a (cN.mapFields (·.setIfInBounds 1 (ae.ref h1.objs.size)))).update h1.objs.size (cN.mapFields (·.setIfInBounds 3 ((none:Option ah).elim ae.none λf=>rawInt f)))->Q () ⟨h4,s.gens,s.drawn,s.toks,s.os⟩from z _ rfl
  intro h4 Cd
  have IC:=Cd.symm
  clear Cd
  have LY:h1.objs.size=s.heap.objs.size:=vF.1
  have up:∀b o,b≠a->h1.get? b=some o->h4.get? b=some o:=λb o hb q=>by
    rw[←IC,cK _ _ (iF (aF q)),cK _ _ (Ne.symm hb)]
    exact aw _ q
  have zM:H h1.objs.size=none:=I.hok.fresh (by rw[LY];exact aC _)
  have e4:h4.get? a=some { cls:=.ref C,dict:=dx,data:=.fields #[a0,.ref h1.objs.size,.none,.none,.bool false,.none] }:=by
    rw[←IC,cK _ _ neT,e3];simp[cN.mapFields]
  have t4:h4.get? h1.objs.size=some { cls:=.type "traceback",data:=.fields (ts.setIfInBounds 3 .none) }:=by
    rw[←IC,et _ t3 rfl];simp[cN.mapFields]
  have kp:∀b o,H b≠none->b≠a->s.heap.get? b=some o->h4.get? b=some o:=λb o hb ha q=>up b o ha ((vF.2.1 b (fr b hb)).trans q)
  have nn:∀b,H b=none->b≠a:=λb hb q=>by rw[q,x.1]at hb;cases hb
  have nT:∀b o,s.heap.get? b=some o->b≠h1.objs.size:=λb o q=>by rw[LY];exact aY (aF q)
  have hm:∀b,b∈(X.env::X.outer).filterMap (·.frame)->b=X.env.locals\/b∈X.fs:=λb hb=>aB.mp (I.stkSub b (by rw[ie];exact hb))
  refine h _ h1.objs.size zM (I.step (g':=s.gens) (t':=s.toks) (d':=s.drawn) (ch:=[]) (λb z=>nomatch z) (λb o E7 HQ _ q n=>up b o (nn b n) ((vF.2.1 b λz=>(hm b z).elim E7 HQ).trans q)) (λb o _ _ _ q n=>?_) (λb o _ q n=>?_) (λb o _ q=>?_) (λb xs q=>?_) (λb o u q=>?_) (λb ps q=>?_) (λm q=>?_) (λb u q=>?_) I.bare)
  · obtain⟨sl,q'⟩:=vF.2.2 b o q
    exact⟨sl,up b _ (nn b n) q'⟩
  · unfold dY;rw[zh (nn b n),zh (nT b o q)];exact n
  · by_cases hb:b=a
    · rw[hb];exact⟨_,e4⟩
    · obtain⟨sl,q'⟩:=vF.2.2 b o q
      exact⟨_,up b _ hb q'⟩
  · unfold dY;rw[zh (λz=>by rw[z,x.1]at q;cases q),zh (zj q zM)];exact q
  · unfold dY;rw[zh (λz=>by rw[z,x.1]at q;cases q),zh (zj q zM)];exact q
  · exact⟨#[],by unfold dY;rw[zh (λz=>by rw[z,x.1]at q;cases q),zh (zj q zM),q];simp⟩
  · obtain⟨o,es,ep,ho,r⟩:=q
    obtain⟨sl,q'⟩:=vF.2.2 _ o ho
    exact⟨_,es,ep,up _ _ (nn _ I.free) q',r⟩
  · by_cases hb:b=a
    · subst hb
      have q:dY H b C dx h1.objs.size b=some u:=q
      unfold dY at q
      rw[zk]at q
      cases q
      exact⟨⟨a0,e4⟩,⟨_,e4⟩,λ_ _ z k=>z.stay k⟩
    · unfold dY at q
      rw[zh hb]at q
      by_cases qI:b=h1.objs.size
      · rw[qI,zk]at q
        cases q
        rw[qI]
        exact⟨⟨_,t4,by simp[LB]⟩,⟨_,t4⟩,λ_ _ z k=>z.stay k⟩
      · rw[zh qI]at q
        refine(I.hok b u q).stay (λc v hc z=>kp c v ?_ ?_ z) (λc z=>?_) (λc xs z=>?_)
        · rcases hc with rfl|hc
          · rw[q];simp
          · rw[hc];simp
        · rcases hc with rfl|hc
          · exact hb
          · intro e;rw[e,x.1]at hc;cases hc
        · unfold dY;rw[zh (λe=>by rw[e,x.1]at z;cases z),zh (zj z zM)];exact z
        · unfold dY;rw[zh (λe=>by rw[e,x.1]at z;cases z),zh (zj z zM)];exact z
theorem Inv.note {Q:Unit->aj->Prop}(I:Inv X af σ H s)(ie:X.stack=X.env::X.outer)(hf:X.env.frame=some X.env.locals)(hA:A1.frames=some X.stack)(x:oE H a C dx tb)
  (h:∀s' T,H T=none->Inv X af σ (dY H a C dx T) s'->Q () s') :
  aN M A1 (noteFrame (.ref a) X.env) (λ_ s1=>aN M A2 (setFlight (.ref a) none) Q E1 s1) E2 s:=by
 obtain⟨a0,he⟩:=I.xc x
 unfold noteFrame
 simp only[hf]
 cases tb with
 |none=>
  refine aq (wpAny_field he rfl (x:=.none) (by simp) ?_)
  rw[if_neg (by decide)]
  exact I.entry ie hf hA x h
 |some T=>
  obtain⟨ts,ht,h3⟩:=I.tbo x
  refine aq (wpAny_field he rfl (x:=.ref T) (by simp) ?_)
  rw[if_pos (show(ae.ref T != ae.none)=true from by simp)]
  refine aq (wpAny_field ht rfl h3 ?_)
  rw[if_neg (show¬((ae.none==rawInt X.env.locals)=true)from by simp[rawInt])]
  refine aq (wpAny_setField ht rfl (gJ.mp h3).1 ?_)
  rw[mK s.heap T _ ts 3 .none ht rfl h3]
  exact I.entry ie hf hA x h
end
def tq (P:bg)(w:bN):qA:=λouter H s E u s'=>∃(a C:ah) (dx:Option ah) (T:ah) (H':Hp),u=.ref a/\s'.os=s.os/\AllBare s'.gens/\Un (qZ outer) [] H H' s.heap s'.heap/\jS P w H' s'.heap/\oE H' a C dx (some T)/\E u none H'
abbrev GK:=St->ah->Hp->Prop
def jK (X:Cx)(G:GK):Prop:=∀(af:List (ah×cN)) (σ:St) (H:Hp) (s:aj) (a C:ah) (dx tb:Option ah),Inv X af σ H s->oE H a C dx tb->(∀T,H T=none->G σ a (dY H a C dx T))->X.xe (.ref a) s
theorem Ny {P:bg}{w:bN}{K:aa}{mg:aJ->Option ae}{base:aI}{N:List aJ}{qual:aJ}{scope:fC}{f:ah}{cd:ae}{A:bx}{outer:List Env}{s:aj}{H:Hp}{E:XK} :
  jK (lg (tq P w) P w K mg base N qual scope f cd A outer s H E) (λ_ a H'=>E (.ref a) none H'):=by
 intro af σ H1 s1 a C dx tb I x g
 show aN _ _ (leaving _ _) _ _ _
 unfold leaving
 refine aq (I.note rfl rfl I.ok.frames x λs2 T hT J=>?_)
 exact⟨a,C,dx,T,_,rfl,J.os,J.bare,J.base,J.hok,Kr x hT,g T hT⟩
def EX (G:GK)(σ:St):XK:=λu _ H'=>∃a C dx T,u=.ref a/\oE H' a C dx (some T)/\∀T',H' T'=none->G σ a (dY H' a C dx T')
section
variable {X:Cx}{k:Nat}{f C:ah}{fd:aL}{ps:List aJ}{sp:Sp}{gC:List V}{ds:List ae}{G:GK}{x m:aJ}{p pos cP:cE}{e o:Expr}{es:List Expr}{ta:TE}{t:TA}
theorem Inv.raised {af:List (ah×cN)}{σ:St}{H:Hp}{s:aj}{u:ae}{s':aj}(I:Inv X af σ H s)(hx:jK X G)(h:tq X.prog X.w X.stack H s (EX G σ) u s'):X.xe u s':=by
 obtain⟨a,C,dx,T,H',rfl,ho,hg,un,hok,xr,w⟩:=h
 have J:Inv X af σ H' s':=I.call' (ch:=[]) ho un hok hg (λb z=>nomatch z)
 obtain⟨a2,C2,Hd,T2,e2,JP,w⟩:=w
 cases e2
 exact hx af σ H' s' a C2 Hd (some T2) J JP w
theorem Ya {af:List (ah×cN)}{σ:St}{H:Hp}{s:aj}{Q:VK}{us:List ae}{vs:List V}(F:cp X.prog X.w X.K X.mg X.base (tq X.prog X.w) k f fd ps sp)(hr:dG k X.A)(hb:bz X.K fd ps ds)(hd:bM gC ds)(hx:jK X G)
  (I:Inv X af σ H s) (r:bM vs us) (h:sp (vs++gC) H Q (EX G σ)):aN (aG X.prog X.w) X.A (call (.ref f) us) (EP X af σ Q) X.xe s:=by
 have r2:=r.append hd
 have hl:(us++ds).length=ps.length:=by rw[←r2.length];exact F.len _ _ _ _ h
 refine wpAny_call (fZ (F.run X.A X.stack s H ⟨us,[]⟩ (us++ds) (vs++gC) Q (EX G σ) hr I.env0 (hb s us I.kIn hl) r2 h) λz s' hq=>?_)
 cases z with
 |error u=>exact I.raised hx hq
 |ok fl=>cases fl<;>first|exact I.after hq|exact False.elim hq
def yQ (sp:Sp)(gC:List V)(G:GK)(t:TA):TE:=λσ H Q=>t σ H λvs H1=>sp (vs++gC) H1 Q (EX G σ)
theorem WN (F:cp X.prog X.w X.K X.mg X.base (tq X.prog X.w) k f fd ps sp)(hr:dG k X.A)(hg:Gl X x)(hm:X.mg x=some (.ref f))(hk:ar X.K (.ref f)=true)(hb:bz X.K fd ps ds)(hd:bM gC ds)(hx:jK X G)
  (ha:PA X (e::es) t) (iC:(x==("__debug__":aJ))=false:=by decide) (he:ak (e::es) X.env=(false,br e X.env)::ak es X.env:=by rfl) (gq:(bU pos (ak es X.env)).any (·.1)=false:=by rfl) :
  PE X (.Call (.Name x p) (e::es) [] pos) (yQ sp gC G t):=by
 intro af s σ H Q I h
 refine cF (j9 I hg hm (dW (h₀:=X.base) I.ok.mod.kin hk (cW (ha pos af s σ H _ I h) λus s1 ⟨vs,H1,I1,r,q⟩=>⟨I1.kIn,?_⟩) he gq) iC)
 exact Ya F hr hb hd hx I1 r q
end
end L2
namespace L2
open PySem PySem.Spec PyProof.Rows
abbrev o7:=PySem.F.excBase_ValueError
inductive fM:List ae->Prop
 |base:fM [.type "ValueError",.type "Exception",.type "BaseException",.type "object"]
 |own {c:ah} {r:List ae}:fM r->fM (.ref c::r)
theorem fM.refuse {l:List ae}(self:ae)(h:fM l):refuseLoop self "__setattr__" l=pure ():=by
 induction h with
 |base=>exact PySem.F.store_ValueError.passes self
 |own h ih=>rw[refuseLoop_ref];exact ih
theorem fM.obj {l:List ae}(h:fM l):l.contains (.type "object")=true:=by
 induction h with
 |base=>decide
 |own h ih=>rw[ke,ih,Bool.or_true]
structure rB (K:aa)(C:ah):Prop where
 ob:∃(nm q:aJ) (N:ah) (bs bm:List ae) (jC:Bool) (sn:List aJ) (sub:List ae) (ab:Bool) (col:Option Bool) (dd:Option ah) (k0 k1 k2 k3 k5:Option ae),
  K.lookup C=some (excClassObj nm q C N bs bm jC sn sub ab col dd k0 k1 k2 k3 k5 "ValueError.__new__")/\fM bm
 mV:bu K C (.type "ValueError")=some true
 mB:bu K C (.type "BaseException")=some true
 mA:bu K C (.type "AttributeError")=some false
 mN:bu K C (.type "NameError")=some false
 sp:bO K (.ref C) "__call__"=some (some (.builtin "type.__call__"))
 ty:qU K (.ref C) (.type "type")=some true
section
variable {nm q:aJ}{C N:ah}{bs bm:List ae}{jC:Bool}{sn:List aJ}{sub:List ae}{ab:Bool}{col:Option Bool}{dd:Option ah}{k0 k1 k2 k3 k5:Option ae}
theorem Gn {K:aa}{b:ae}{v:Bool}(ho:K.lookup C=some (excClassObj nm q C N bs bm jC sn sub ab col dd k0 k1 k2 k3 k5 "ValueError.__new__"))(h:bu K C b=some v):(ae.ref C::bm).contains b=v:=by
 unfold bu fL at h
 rw[ho]at h
 simpa using h
variable {prog:bg}{w:bN}{A:bx}{R:Result->aj->Prop}{h:aI}{g:Array GenState}{d:Drawn}{t:Nat}{os:OsState}
theorem Y3 {rest:List ae}(zO:(ae.ref C::bm).contains (.type "ValueError")=true)(Ia:(ae.ref C::bm).contains (.type "AttributeError")=false)(Ie:(ae.ref C::bm).contains (.type "NameError")=false)
    (hC:h.get? C=some (excClassObj nm q C N bs bm jC sn sub ab col dd k0 k1 k2 k3 k5 "ValueError.__new__")) (hz:rest.length<=sizeLine)
    (hq:R (.ok (.ret (.ref (h.objs.size+1)))) ⟨(h.push { cls:=.type "tuple",data:=.seq rest.toArray }).push { cls:=.ref C,data:=.fields #[.ref h.objs.size,.none,.none,.none,.bool false,.none] },g,d,t,os⟩) :
    eW (aG prog w) A (.call (.builtin "ValueError.__new__") ⟨.ref C::rest,[]⟩) R ⟨h,g,d,t,os⟩:=by
  have LS:=o7.noStar
  refine codeAny_call_builtin_code (ou.quiet_builtin _ o7.quiet) ?_
  simp only[checkBuiltinCall,o7.newKind,o7.newSplit,o7.newRow]
  repeat (first|refine wpAny_loadPart_at hC ?_|(refine wpAny_isSubtype_exc hC ?_;rw[zO])|refine wpAny_staticBase_exc hC ?_|refine wpAny_madeBy_exc hC ?_|simp only[bne_self_eq_false,cC,if_false]|wp_step)
  have LI:=o7.ends
  refine codeAny_builtinAt o7.entry ?_
  unfold dO.«BaseException.__new__»
  refine PySem.wpAt_bind ?_
  show PySem.wpAt _ _ _ (stack >>= _) _ _ _
  refine PySem.wpAt_bind (PySem.wpAt_stack λp below=>PySem.wpAt_of_wpAny ?_)
  wp_walk
  refine PySem.wpAt_of_wpAny ?_
  rw[o7.owner]
  repeat (first|with_reducible refine wpAny_madeHere_exc o7.canon hC ?_|with_reducible refine wpAny_loadPart_at hC ?_|(with_reducible refine wpAny_isSubtype_exc hC ?_;first|rw[zO]|rw[Ia]|rw[Ie])|wp_step)
  show R _ _
  rw[dU]
  exact hq
theorem Yb {rest:List ae}{init:ae}(zO:(ae.ref C::bm).contains (.type "ValueError")=true)(Ia:(ae.ref C::bm).contains (.type "AttributeError")=false)(Ie:(ae.ref C::bm).contains (.type "NameError")=false)
    (hC:h.get? C=some (excClassObj nm q C N bs bm jC sn sub ab col dd k0 k1 k2 k3 k5 "ValueError.__new__")) (call:ck (aG prog w) h (specialOf (.ref C) "__call__") (some (.builtin "type.__call__"))) (typ:ck (aG prog w) h (isInstance (.ref C) (.type "type")) true)
    (hi:ck (aG prog w) h (typeLookup (.ref C) "__init__") (some init)) (hb:∀self,ck (aG prog w) h (bindSpecial init self) (init,[self])) (hz:rest.length<=sizeLine)
    (hq:eW (aG prog w) (A.under (.builtin "type.__call__" ⟨.ref C::rest,[]⟩)) (.call init ⟨.ref (h.objs.size+1)::rest,[]⟩) (pK (h.objs.size+1) R)
      ⟨(h.push { cls:=.type "tuple",data:=.seq rest.toArray }).push { cls:=.ref C,data:=.fields #[.ref h.objs.size,.none,.none,.none,.bool false,.none] },g,d,t,os⟩) :
    eW (aG prog w) A (.call (.ref C) ⟨rest,[]⟩) R ⟨h,g,d,t,os⟩:=by
  have self:ck (aG prog w) h (isSubtype (.ref C) (.ref C)) true:=λA Q E s k z=>by
    obtain⟨hh,g',d',t',Mi⟩:=s
    refine wpAny_isSubtype_exc (k _ _ hC) ?_
    rw[show(ae.ref C::bm).contains (.ref C)=true by simp];exact z
  refine codeAny_of_tree ?_
  show aN _ _ (callAny (.ref C) _) _ _ _
  refine PySem.W.nd_load hC ?_
  show aN _ _ (callAny.viaDunder (.ref C) _) _ _ _
  unfold callAny.viaDunder
  refine aq (call.at ?_)
  dsimp only
  rw[tc_bind]
  refine aq (aS (aq (aS ?_)))
  refine aS (a:=Fin.again (.call (.builtin "type.__call__") ⟨.ref C::rest,[]⟩)) (And.intro rfl ?_)
  refine codeAny_call_builtin_at (ou.quiet_builtin _ (by decide +kernel)) entry_typeCall (gz tc_kind tc_split typ (PySem.W.tc_args _ _ _) ?_)
  unfold dO.«type.__call__»
  repeat (first|with_reducible refine wpAny_loadPart_at hC ?_|with_reducible refine wpAny_madeBy_exc hC ?_|with_reducible refine wpAny_mroOf_exc hC ?_|simp only[List.isEmpty_cons,cC,if_false]|with_reducible refine wpAny_call ?_|wp_step)
  refine Y3 zO Ia Ie hC hz ?_
  have k:∀b o,h.get? b=some o->((h.push { cls:=.type "tuple",data:=.seq rest.toArray }).push { cls:=.ref C,data:=.fields #[.ref h.objs.size,.none,.none,.none,.bool false,.none] }).get? b=some o:=λb o e=>aw _ (aw _ e)
  have hx:((h.push { cls:=.type "tuple",data:=.seq rest.toArray }).push { cls:=.ref C,data:=.fields #[.ref h.objs.size,.none,.none,.none,.bool false,.none] }).get? (h.objs.size+1)=some { cls:=.ref C,data:=.fields #[.ref h.objs.size,.none,.none,.none,.bool false,.none] }:=by heap_get
  have t1:ck (aG prog w) ((h.push { cls:=.type "tuple",data:=.seq rest.toArray }).push { cls:=.ref C,data:=.fields #[.ref h.objs.size,.none,.none,.none,.bool false,.none] }) (typeOf (.ref (h.objs.size+1))) (.ref C):=(ck.ld hx).andThen .now
  have s1:=self.keeps k
  have i1:=hi.keeps k
  have b1:=(hb (.ref (h.objs.size+1))).keeps k
  unfold isInstance callSpecial? specialOf
  repeat (first|with_reducible refine wpAny_call ?_|lk)
  refine fZ hq λr s' z=>?_
  rcases r with e|(v|_|_|_)<;>first|exact z|exact z.elim|skip
  obtain⟨rfl,z⟩:=z
  exact aS (aS z)
end
end L2
namespace L2
open PySem PySem.Spec PyProof.Rows
section
variable {nm q:aJ}{C N:ah}{bs bm:List ae}{jC:Bool}{sn:List aJ}{sub:List ae}{ab:Bool}{col:Option Bool}{dd:Option ah}{k0 k1 k2 k3 k5:Option ae}
variable {prog:bg}{w:bN}{A:bx}{E:ae->aj->Prop}{h:aI}{g:Array GenState}{d:Drawn}{t:Nat}{os:OsState}
theorem WO {e:ah}{dx:Option ah}{a0 v1 v2 v3 v4 v5:ae}{rest:List ae}{R:Result->aj->Prop}(zO:(ae.ref C::bm).contains (.type "ValueError")=true)
    (hC:h.get? C=some (excClassObj nm q C N bs bm jC sn sub ab col dd k0 k1 k2 k3 k5 "ValueError.__new__")) (he:h.get? e=some { cls:=.ref C,dict:=dx,data:=.fields #[a0,v1,v2,v3,v4,v5] }) (hz:rest.length<=sizeLine)
    (hq:∀h' a1,(∀b o,b≠e->h.get? b=some o->h'.get? b=some o)->h'.get? e=some { cls:=.ref C,dict:=dx,data:=.fields #[a1,v1,v2,v3,v4,v5] }->R (.ok (.ret .none)) ⟨h',g,d,t,os⟩) :
    eW (aG prog w) A (.call (.builtin "ValueError.__init__") ⟨.ref e::rest,[]⟩) R ⟨h,g,d,t,os⟩:=by
  have IR:=o7.noStar
  refine codeAny_call_builtin o7.init.plain o7.initEntry ?_
  simp only[checkBuiltinCall,o7.initKind,o7.initSplit,o7.initRow]
  repeat (first|with_reducible refine wpAny_loadPart_at he ?_|with_reducible refine wpAny_loadPart_at hC ?_|(with_reducible refine wpAny_isSubtype_exc hC ?_;rw[zO])|wp_step)
  refine wpAny_onRaise ?_
  rw[show∀(a b:String) (n:Nat),Bind.check ⟨.positional,"*","ValueError",.self,[⟨"args",.varPos,false⟩]⟩ a b n (List.map (λx=>x.fst) ({ pos:=ae.ref e::rest }:Args).kw)=pure ()from
    λa b n=>check_star_args _ _ _ _ _ _]
  refine aS ?_
  unfold dO.«BaseException.__init__»
  dsimp only
  rw[if_neg (by decide)]
  unfold newTuple
  refine aq (iB ?_ (by show rest.toArray.size<=sizeLine;rw[aO];exact hz))
  have e1:=aw (h:=h) { cls:=.type "tuple",data:=.seq rest.toArray } he
  unfold dO.BaseException.bexcPut
  refine aq (aq (wpAny_field e1 rfl (x:=a0) (by simp) ?_))
  refine aq (wpAny_setField e1 rfl (by simp) ?_)
  have e2:=et (cN.mapFields (·.setIfInBounds 0 (ae.ref h.objs.size))) e1 rfl
  have fin:R (.ok (.ret .none)) ⟨(h.push { cls:=.type "tuple",data:=.seq rest.toArray }).update e (cN.mapFields (·.setIfInBounds 0 (ae.ref h.objs.size))),g,d,t,os⟩:=by
    refine hq _ (.ref h.objs.size) (λb o hb ho=>?_) ?_
    · rw[cK _ _ (Ne.symm hb)]
      exact aw _ ho
    · rw[e2];simp[cN.mapFields]
  cases a0<;>first|exact wpAny_letGo (aS fin)|exact aS (aS fin)
end
section
variable {nm q:aJ}{C N:ah}{bs bm:List ae}{sn:List aJ}{sub:List ae}{ab:Bool}{col:Option Bool}{dd:Option ah}{k0 k1 k2 k3 k5:Option ae}
variable {prog:bg}{w:bN}{A:bx}{E:ae->aj->Prop}{s:aj}{K:aa}{x:ah}{dt:pH}{sl:Array (Option ae)}{name:aJ}{v:ae}
theorem ZE {Q:Unit->aj->Prop}(X:K.In s.heap)(hK:K.lookup C=some (excClassObj nm q C N bs bm true sn sub ab col dd k0 k1 k2 k3 k5 "ValueError.__new__"))(hm:fM bm)(hx:s.heap.get? x=some ⟨.ref C,none,dt,sl⟩)(hd:∀cd,dt≠.cls cd)(xP:(⟨.ref C,none,dt,sl⟩:cN).isFreed=false)
    (hs:am K (.ref C) "__setattr__"=some (some (.builtin "object.__setattr__"))) (ht:dC K C name=some none)
    (h:∀h' dx,s.heap.get? dx=none->dx≠x->s.heap.objs.size<=dx->h'.get? x=some ⟨.ref C,some dx,dt,sl⟩->h'.Ns1 dx (λy=>if y=name then some v else none)->(∀b o,b≠x->s.heap.get? b=some o->h'.get? b=some o)->Q () { s with heap:=h',toks:=s.toks+2 }) :
    aN (aG prog w) A (setAttr (.ref x) name v) Q E s:=by
  have hn:qV ⟨.ref C,none,dt,sl⟩=true:=by
    unfold qV
    cases dt<;>first|rfl|exact absurd rfl (hd _)
  have J:eA s.heap x ⟨.ref C,none,dt,sl⟩ C none:=⟨hx,rfl,hn,trivial⟩
  refine oS X J hs ?_
  have SF:=PySem.F.store_object
  obtain⟨cd,hc,Cj,Ca⟩:∃cd,fL K C=some cd/\cd.mro=.ref C::bm/\cd.hasDict=true:=⟨_,by unfold fL;rw[hK],rfl,rfl⟩
  have sub:ck (aG prog w) s.heap (isInstance (.ref x) (.type "object")) true:=J.type.andThen (iV X (by unfold bu;rw[hc,bj,Cj,if_neg (by simp),(fM.own hm).obj]))
  refine codeAny_call_builtin SF.slot.plain SF.entry (@gz (aG prog w) _ _ { s with toks:=s.toks+1 } "object.__setattr__" "object" "__setattr__" (.ref x) [.str name s.toks,v] [] _ SF.kind SF.split sub (SF.args (.ref x) (.str name s.toks) v) ?_)
  obtain⟨attr,ha,hr⟩:=Option.bind_eq_some_iff.mp ht
  have hM:ck (aG prog w) s.heap (mroOf (.ref C)) (.ref C::bm):=Cj▸(iU X hc).andThen .now
  have L3:ck (aG prog w) s.heap (dO.ObjectAttr.storeTaker? attr) none:=by
    cases attr with
    |none=>exact .now
    |some a=>
      obtain⟨b,hb,xI⟩:=cu.mp hr
      refine(PySem.W.looks_takesIn X hb).andThen ?_
      cases b
      · exact .now
      · cases xI
  rw[PySem.W.osa_eq,refuse_eq]
  refine aq (aq (J.type.here (s:={ s with toks:=s.toks+1 }) (aq (hM.here (s:={ s with toks:=s.toks+1 }) ?_))))
  rw[(fM.own hm).refuse]
  refine aS (aq (J.type.here (s:={ s with toks:=s.toks+1 }) (aq ((cY X ha).here (s:={ s with toks:=s.toks+1 }) (aq (L3.here (s:={ s with toks:=s.toks+1 }) ?_))))))
  refine aq (aS (aq (aq (wpAny_loadPart (s:={ s with toks:=s.toks+1 }) hx (aq ((iU X hc).here (s:={ s with toks:=s.toks+1 }) ?_))))))
  rw[Ca]
  have LW:(s.heap.push { cls:=.type "dict",data:=.dict #[] }).get? x=some ⟨.ref C,none,dt,sl⟩:=aw _ hx
  have I0:x≠s.heap.objs.size:=aY (aF hx)
  show aN _ _ (if(!true || !typeHasDict (.ref C))=true then _ else _) _ _ _
  rw[if_neg (by simp[typeHasDict])]
  have go:aN (aG prog w) A.in1 (do
      let d ← alloc { cls:=.type "dict",data:=.dict #[] }
      update x λo=>{ o with dict:=some d }
      dictMade (.ref C) x d) (λa s'=>aN (aG prog w) A.in1 (match a with
        |some d=>dO.ObjectAttr.storeInDict d (.str name s.toks) name v
        |none=>dO.ObjectAttr.noDictFor (.ref x) (.ref C) name attr.isSome) (λfin s'=>match fin with|.done f=>(match Except.ok f with|.ok (.ret _)=>Q () s'|.ok _=>False|.error e=>E e s')|.again c'=>c'.quiet=true/\eW (aG prog w) A c' (λr s'=>match r with|.ok (.ret _)=>Q () s'|.ok _=>False|.error e=>E e s') s') E s') E { s with toks:=s.toks+1 }:=by
    refine aq (wpAny_alloc' ?_)
    refine aq (wpAny_update' LW ?_)
    refine aS ?_
    have Rp:((s.heap.push { cls:=.type "dict",data:=.dict #[] }).update x λo=>{ cls:=o.cls,dict:=some s.heap.objs.size,data:=o.data,slots:=o.slots }).get? s.heap.objs.size=some { cls:=.type "dict",data:=.dict #[] } :=
      (pD _ _ _ _ I0.symm).trans (qO rfl rfl)
    have Rz:((s.heap.push { cls:=.type "dict",data:=.dict #[] }).update x λo=>{ cls:=o.cls,dict:=some s.heap.objs.size,data:=o.data,slots:=o.slots }).Ns s.heap.objs.size (λ_=>none):=⟨_,#[],_,Rp,rfl,λe he=>absurd he (by simp),λ_=>rfl⟩
    show aN _ _ (dO.ObjectAttr.storeInDict s.heap.objs.size (.str name s.toks) name v) _ _ _
    unfold dO.ObjectAttr.storeInDict dO.ObjectAttr.newKeyGuard
    refine aq (aS (aq (wpAny_nsSet1 (aI.Ns1.of_empty Rz) λh' uQ uT=>?_)))
    obtain⟨oD,QR,QP,IJ,Ij,Ib⟩:=uQ.count (Within.cons name v Within.nil)
    refine aq (wpAny_lookBehind IJ (by rw[Ij];exact pastItsLine_dict (bX Ib (by rw[aV,sC,bY];omega))) ?_)
    refine aS (h h' s.heap.objs.size (oM (aC _)) I0.symm (aC _) ?_ uQ λb o hb ho=>?_)
    · refine(uT.2 x I0).trans (et _ LW ?_)
      cases dt<;>first|rfl|exact xP
    · exact(uT.2 b (aY (aF ho))).trans ((pD _ _ _ _ hb).trans (aw _ ho))
  cases dt<;>first|exact absurd rfl (hd _)|exact go
theorem ZF {expr:Bool}{Q:ae->aj->Prop}{ox:cN}{od:Option cN}(X:K.In s.heap)(J:eA s.heap x ox C od)(Ro:am K (.ref C) "__getattribute__"=some (some (.builtin "BaseException.__getattribute__")))
  (hk:am K (.ref C) "__getattr__"=some none) (hB:bu K C (.type "BaseException")=some true) (hf:kR K C od name=some (.value v)) (hv:kA v=true) (h:Q v { s with toks:=s.toks+1 }) :
  aN (aG prog w) A (getAttr (.ref x) name expr) Q E s:=by
 obtain⟨hh,g,d,t,os⟩:=s
 have L0:=J.type (M:=aG prog w)
 have L1:=cY (M:=aG prog w) X Ro
 have L2:=cY (M:=aG prog w) X hk
 have L3:=oB (M:=aG prog w) X J hf
 have FX:=PySem.F.excAttr_ValueError
 have IY:(ae.builtin "BaseException.__getattribute__" == ae.builtin "object.__getattribute__")=false:=by decide +kernel
 unfold getAttr getAttrBy
 refine aq (wpAny_mkText (eM (aq (L0.at (aq (L1.at ?_))))))
 dsimp only
 rw[IY,sV,if_neg aH]
 unfold getAttrByItsOwn hookBefore
 rw[if_pos (show onTheHeap (ae.ref C)=true from rfl)]
 refine aq (L2.at ?_)
 refine aq (wpAny_attempt (eM ?_))
 unfold callGetattribute
 rw[if_neg (show¬((expr&&onTheHeap (ae.builtin "BaseException.__getattribute__"))=true)by cases expr<;>decide)]
 unfold boundAndCalled
 rw[FX.ga.bind (.ref x)]
 refine aq (aS ?_)
 have hi:ck (aG prog w) hh (isInstance (.ref x) (.type "BaseException")) true:=L0.andThen (iV X hB)
 refine wpAny_call (codeAny_call_builtin FX.ga.plain PySem.F.entry_bexc_ga (@gz (aG prog w) _ _ ⟨hh,g,d,t+1,os⟩ "BaseException.__getattribute__" "BaseException" "__getattribute__" (.ref x) [.str name t] [] _ (by decide +kernel) (by decide +kernel) hi (PySem.F.args_bexc_ga _ _) ?_))
 unfold dO.«object.__getattribute__»
 refine aq (aS (aq (aS (aq (L0.at (aq (L3.at ?_)))))))
 refine aS ?_
 show aN _ _ (handedOut v) _ _ _
 rw[PySem.W.handedOut_of hv]
 exact aS h
end
end L2
set_option maxHeartbeats 4000000
namespace L2
open PySem PySem.Spec PyProof.Rows
section
variable {X:Cx}{af:List (ah×cN)}{σ:St}{H:Hp}{s:aj}{C:ah}
theorem Inv.xmade (I:Inv X af σ H s)(us:List ae):H (s.heap.objs.size+1)=none/\Inv X af σ (upd H (s.heap.objs.size+1) (li (s.heap.objs.size+1) C none none)) { s with heap:=(s.heap.push { cls:=.type "tuple",data:=.seq us.toArray }).push { cls:=.ref C,data:=.fields #[.ref s.heap.objs.size,.none,.none,.none,.bool false,.none] } }:=by
  have I1:Inv X af σ H { s with heap:=s.heap.push { cls:=.type "tuple",data:=.seq us.toArray } }:=I.kept (t':=s.toks) λb o e=>aw _ e
  have z:(s.heap.push { cls:=.type "tuple",data:=.seq us.toArray }).objs.size=s.heap.objs.size+1:=dU ..
  have e:((s.heap.push { cls:=.type "tuple",data:=.seq us.toArray }).push { cls:=.ref C,data:=.fields #[.ref s.heap.objs.size,.none,.none,.none,.bool false,.none] }).get? (s.heap.objs.size+1)=some { cls:=.ref C,data:=.fields #[.ref s.heap.objs.size,.none,.none,.none,.bool false,.none] }:=qO z.symm rfl
  refine⟨I.hok.fresh (jG _),I1.laid (t':=s.toks) (λb o e=>aw _ e) (oo z) ⟨⟨_,e⟩,⟨_,e⟩,λ_ _ q k=>q.stay k⟩⟩
theorem Inv.xwrite {a:ah}{dx Hc tb tb':Option ah}{h':aI}{t':Nat}(I:Inv X af σ H s)(he:H a=some (li a C dx tb))(k:∀b u,b≠a->s.heap.get? b=some u->h'.get? b=some u)(new:zK a C Hc tb' h') :
  Inv X af σ (upd H a (li a C Hc tb')) { s with heap:=h',toks:=t' }:=by
 obtain⟨a1,e⟩:=id new
 exact I.write (x:=a) (e:=a) (by rw[he];trivial) (.inl rfl) k ⟨_,e⟩ ⟨new,⟨_,e⟩,λ_ _ q k=>q.stay k⟩
variable {k:Nat}{f:ah}{fd:aL}{ps:List aJ}{sp:Sp}{x:aJ}{p pos:cE}{e:Expr}{es:List Expr}{t:TA}{te:TE}{G:GK}
def yW (C:ah)(sp:Sp)(t:TA):TE:=λσ H Q=>t σ H λvs H1=>vs.length<=1000/\∀a,H1 a=none->sp (.ref a::vs) (upd H1 a (li a C none none)) (λv H2=>v=.non/\Q (.ref a) H2) E0
theorem jr {K:aa}(c:rB K C):∃(nm q:aJ) (N:ah) (bs bm:List ae) (jC:Bool) (sn:List aJ) (sub:List ae) (ab:Bool) (col:Option Bool) (dd:Option ah) (k0 k1 k2 k3 k5:Option ae),
  K.lookup C=some (excClassObj nm q C N bs bm jC sn sub ab col dd k0 k1 k2 k3 k5 "ValueError.__new__")/\fM bm/\(ae.ref C::bm).contains (.type "ValueError")=true/\(ae.ref C::bm).contains (.type "BaseException")=true/\(ae.ref C::bm).contains (.type "AttributeError")=false/\(ae.ref C::bm).contains (.type "NameError")=false:=by
 obtain⟨nm,q,N,bs,bm,jC,sn,sub,ab,col,dd,k0,k1,k2,k3,k5,ho,hm⟩:=c.ob
 exact⟨nm,q,N,bs,bm,jC,sn,sub,ab,col,dd,k0,k1,k2,k3,k5,ho,hm,Gn ho c.mV,Gn ho c.mB,Gn ho c.mA,Gn ho c.mN⟩
theorem V7 {Q:VK}{us:List ae}{vs:List V}(c:rB X.K C)(hi:am X.K (.ref C) "__init__"=some (some (.ref f)))(rf:cr X.K (.ref f)=true)(F:cp X.prog X.w X.K X.mg X.base eQ k f fd ps sp)(hr:dG (k+1) X.A)(hb:bz X.K fd ps [])
  (I:Inv X af σ H s) (r:bM vs us) (hz:vs.length<=1000) (h:∀a,H a=none->sp (.ref a::vs) (upd H a (li a C none none)) (λv H2=>v=.non/\Q (.ref a) H2) E0) :
  aN (aG X.prog X.w) X.A (call (.ref C) us) (EP X af σ Q) X.xe s:=by
 obtain⟨hn,I2⟩:=I.xmade (C:=C) us
 have hq:=h _ hn
 obtain⟨nm,q,N,bs,bm,jC,sn,sub,ab,col,dd,k0,k1,k2,k3,k5,ho,hm,c1,c2,c3,c4⟩:=jr c
 have r2:bM (V.ref (s.heap.objs.size+1)::vs) (ae.ref (s.heap.objs.size+1)::us):=.cons rfl r
 have hl:(ae.ref (s.heap.objs.size+1)::us++[]).length=ps.length:=by rw[bQ,←r2.length];exact F.len _ _ _ _ hq
 have Fa:=hb _ (ae.ref (s.heap.objs.size+1)::us) I2.kIn hl
 rw[bQ]at Fa
 have RR:us.length<=sizeLine:=by rw[←r.length];exact bX hz (by rw[bY];omega)
 obtain⟨h0,g,d,t,os⟩:=s
 refine wpAny_call (Yb c1 c3 c4 (I.kIn _ _ ho) (PySem.W.looks_specialIn I.kIn c.sp) (PySem.W.looks_instIn I.kIn c.ty) (cY I.kIn hi) (λself=>p9 I.kIn self (beq_iff_eq.mp rf)) RR (fZ (F.run _ X.stack _ _ ⟨ae.ref (h0.objs.size+1)::us,[]⟩ _ _ _ E0 (hr.make C us []) (I2.env0.make C us []) Fa r2 hq) λz s' oH=>?_))
 cases z with
 |error u=>exact False.elim oH
 |ok fl=>
  cases fl with
  |ret u=>
   obtain⟨v,H',I3,rv,ev,q3⟩:=I2.after oH
   subst ev
   exact⟨rv,V.ref (h0.objs.size+1),H',I3,rfl,q3⟩
  |_=>exact False.elim oH
theorem WP (c:rB X.K C)(IF:ar X.K (.ref C)=true)(hi:am X.K (.ref C) "__init__"=some (some (.ref f)))(rf:cr X.K (.ref f)=true)(F:cp X.prog X.w X.K X.mg X.base eQ k f fd ps sp)(hr:dG (k+1) X.A)(hg:Gl X x)(hm:X.mg x=some (.ref C))(hb:bz X.K fd ps [])
  (ha:PA X (e::es) t) (iC:(x==("__debug__":aJ))=false:=by decide) (he:ak (e::es) X.env=(false,br e X.env)::ak es X.env:=by rfl) (gq:(bU pos (ak es X.env)).any (·.1)=false:=by rfl) :
  PE X (.Call (.Name x p) (e::es) [] pos) (yW C sp t):=by
 intro af s σ H Q I h
 refine cF (j9 I hg hm (dW (h₀:=X.base) I.ok.mod.kin IF (cW (ha pos af s σ H _ I h) λus s1 ⟨vs,H1,I1,r,q⟩=>⟨I1.kIn,?_⟩) he gq) iC)
 exact V7 c hi rf F hr hb I1 r q.1 q.2
def yU (K:aa)(G:GK)(te:TE):TS:=λD σ H=>te σ H λv H1=>∃a C dx,v=.ref a/\rB K C/\oE H1 a C dx none/\∀T,H1 T=none->G σ a (dY H1 a C dx T)
theorem WQ (hc:X.calm=true)(hx:jK X G)(he:PE X e te):PS X (.Raise (some e) none pos) (yU X.K G te):=by
 intro af s σ H D I h
 have main:aN (aG X.prog X.w) X.A (raiseStmt X.env (some (do let v ← br e X.env;fF pos;pure v)) none) (SP X af D) X.xe s:=by
  unfold raiseStmt
  refine aq (aq (cW (he af s σ H _ I h) λv s1 ⟨v',H1,I1,r1,a,C,dx,e1,c,xr,w⟩=>aq (gE (aS ?_))))
  subst e1
  cases r1
  obtain⟨nm,q,N,bs,bm,jC,sn,sub,ab,col,dd,k0,k1,k2,k3,k5,ho,hm,c1,c2,c3,c4⟩:=jr c
  obtain⟨a0,ha⟩:=I1.xc xr
  have hC:=I1.kIn _ _ ho
  have fin:X.xe (.ref a) s1:=hx af σ H1 s1 a C dx none I1 xr w
  have hh:=I.ok.hd hc
  obtain⟨h0,g,d,t,os⟩:=s1
  repeat (first|with_reducible refine wpAny_loadPart_at ha ?_|with_reducible refine wpAny_loadPart_at hC ?_|(with_reducible refine wpAny_isSubtype_exc hC ?_;rw[c2])|wp_step)
  exact wpAny_raiseNew_none hh fin
 rw[arm_exec_Raise]
 exact aq (gE main)
def sr (K:aa)(to:TE)(te:TE):TE:=λσ H Q=>to σ H λv H1=>te σ H1 λu H2=>∃a C dx tb,v=.ref a/\rB K C/\H2 a=some (li a C dx tb)/\Q .non H2
theorem WR {B:ah}{o:Expr}{to:TE}{cP:cE}{pl:ng Bool}{m:aJ}(hg:Gl X x)(hm:X.mg x=some (.ref B))
  (h1:bO X.K (.ref B) "__getattribute__"=some (some (.builtin "type.__getattribute__"))) (h2:d7 X.K B (.type "type")=true) (h3:d6 X.K (.ref B) (.type "type") m=some (.val (.builtin "ValueError.__init__"))) (ho:PE X o to) (he:PE X e te)
  (iC:(x==("__debug__":aJ))=false:=by decide) (ie:ak [o,e] X.env=[(false,br o X.env),(false,br e X.env)]:=by rfl) (pq:ak [e] X.env=[(false,br e X.env)]:=by rfl)
  (ht:br (.Call (.Attribute (.Name x p) m cP) [o,e] [] pos) X.env=(do
   let ov ← br (.Name x p) X.env
   fF cP.atName
   let(f,first) ← dP [ov] (fK ov m pl)
   hJ pos f first (bU pos (ak [o,e] X.env)) (eh pos (cJ [] X.env))):=by rfl) :
  PE X (.Call (.Attribute (.Name x p) m cP) [o,e] [] pos) (sr X.K to te):=by
 intro af s σ H Q I h
 refine ej (pl:=pl) (j9 I hg hm ?_ iC) ht
 refine oC I.kIn h1 (oP I.kIn h2 h3 rfl ?_)
 have I1:Inv X af σ H { s with toks:=s.toks+1 }:=I.tok _
 refine i7 (cW ((wt ho (wt he ji pq) (by rw[ie,pq])) pos af _ σ H (λvs H2=>match vs with|[v,u]=>∃a C dx tb,v=.ref a/\rB X.K C/\H2 a=some (li a C dx tb)/\Q .non H2|_=>False) I1 h) λus s2 ⟨vs,H2,I2,r,q2⟩=>?_) (by rw[ie,pq]) (by rw[pq];rfl)
 cases r with
 |nil=>exact False.elim q2
 |cons rv r=>
  cases r with
  |nil=>exact False.elim q2
  |cons ru r=>
   cases r with
   |cons _ _=>exact False.elim q2
   |nil=>
    obtain⟨a,C,dx,tb,e1,c,ha,q3⟩:=q2
    subst e1
    cases rv
    obtain⟨nm,q,N,bs,bm,jC,sn,sub,ab,col,dd,k0,k1,k2,k3,k5,Fj,hmr,c1,c2,c3,c4⟩:=jr c
    obtain⟨a0,ea⟩:=(I2.hok a _ ha).1
    refine wpAny_call (WO c1 (I2.kIn _ _ Fj) ea (by show 1<=sizeLine;rw[bY];omega) λh' a1 kp e2=>?_)
    have I3:=I2.xwrite (tb':=tb) (Hc:=dx) ha (h':=h') (t':=s2.toks) kp ⟨a1,e2⟩
    have hH:upd H2 a (li a C dx tb)=H2:=by
     funext b
     by_cases hb:b=a
     ·rw[hb,zk,ha]
     ·rw[zh hb]
    rw[hH]at I3
    exact⟨.non,H2,I3,rfl,q3⟩
def vJ (K:aa)(f:aJ)(te to:TE):TS:=λD σ H=>te σ H λu H1=>to σ H1 λv H2=>∃a C tb,v=.ref a/\rB K C/\bH K C=true/\am K (.ref C) "__setattr__"=some (some (.builtin "object.__setattr__"))/\dC K C f=some none/\H2 a=some (li a C none tb) /\
 ∀dx,H2 dx=none->dx≠a->D.nx σ (upd (upd H2 dx (.xd [(f,u)])) a (li a C (some dx) tb))
theorem Yc {f:aJ}{o value:Expr}{to tv:TE}{pos':cE}(ho:PE X o to)(hv:PE X value tv)(hs:di value (some (.Attribute o f pos')) pos.line X.env=pure false:=by rfl):PS X (.Assign [.Attribute o f pos'] value pos) (vJ X.K f tv to):=by
 intro af s σ H D I h
 refine plainObj_wpAny_Assign_Attribute (cW (hv af s σ H _ I h) λu s1 ⟨u',H1,I1,r1,q1⟩=>cW (ho af s1 σ H1 _ I1 q1) λov s2 ⟨v',H2,I2,r2,q2⟩=>?_) hs
 obtain⟨a,C,tb,e1,c,hd,RG,Fm,ha,w⟩:=q2
 subst e1
 cases r2
 obtain⟨nm,q,N,bs,bm,jC,sn,sub,ab,col,dd,k0,k1,k2,k3,k5,Fj,hm,c1,c2,c3,c4⟩:=jr c
 obtain rfl:jC=true:=by unfold bH fL at hd;rw[Fj]at hd;simpa using hd
 obtain⟨a0,ea⟩:=(I2.hok a _ ha).1
 refine ZE I2.kIn Fj hm ea (λ_ z=>by cases z) rfl RG Fm λh' dx Fc kB oF zU oG kp=>?_
 have nn:∀b,H2 b=none->b≠a:=λb hb q=>by rw[q,ha]at hb;cases hb
 have zP:H2 dx=none:=I2.hok.fresh oF
 have nT:∀b o,s2.heap.get? b=some o->b≠dx:=λb o q z=>by rw[z,Fc]at q;cases q
 refine⟨σ,upd (upd H2 dx (.xd [(f,u')])) a (li a C (some dx) tb),I2.step (g':=s2.gens) (t':=s2.toks+2) (d':=s2.drawn) (ch:=[]) (λb z=>nomatch z) (λb o _ _ _ q n=>kp b o (nn b n) q) (λb o _ _ _ q n=>⟨o.slots,kp b o (nn b n) q⟩) (λb o _ q n=>?_) (λb o _ q=>?_) (λb xs q=>?_) (λb o u q=>?_) (λb ps q=>?_) (λm q=>?_) (λb u q=>?_) I2.bare,w dx zP kB⟩
 ·rw[zh (nn b n),zh (nT b o q)];exact n
 ·by_cases hb:b=a
  ·rw[hb];exact⟨_,zU⟩
  ·exact⟨o,kp b o hb q⟩
 ·rw[zh (λz=>by rw[z,ha]at q;cases q),zh (zj q zP)];exact q
 ·rw[zh (λz=>by rw[z,ha]at q;cases q),zh (zj q zP)];exact q
 ·exact⟨#[],by rw[zh (λz=>by rw[z,ha]at q;cases q),zh (zj q zP),q];simp⟩
 ·obtain⟨o,es,ep,ho,r⟩:=q
  exact⟨o,es,ep,kp _ _ (nn _ I2.free) ho,r⟩
 ·by_cases hb:b=a
  ·subst hb
   rw[zk]at q
   cases q
   exact⟨⟨a0,zU⟩,⟨_,zU⟩,λ_ _ z k=>z.stay k⟩
  ·rw[zh hb]at q
   by_cases qI:b=dx
   ·rw[qI,zk]at q
    cases q
    rw[qI]
    refine⟨_,oG,λy=>?_⟩
    by_cases hy:y=f
    ·subst hy
     rw[if_pos rfl]
     have:(y==y)=true:=beq_self_eq_true y
     simp only[eL,this]
     exact r1
    ·rw[if_neg hy]
     have:(y==f)=false:=beq_eq_false_iff_ne.mpr hy
     simp only[eL,this]
     trivial
   ·rw[zh qI]at q
    refine(I2.hok b u q).stay (λc v hc z=>kp c v ?_ z) (λc z=>?_) (λc xs z=>?_)
    ·rcases hc with rfl|hc
     ·exact hb
     ·intro e;rw[e,ha]at hc;cases hc
    ·rw[zh (λe=>by rw[e,ha]at z;cases z),zh (zj z zP)];exact z
    ·rw[zh (λe=>by rw[e,ha]at z;cases z),zh (zj z zP)];exact z
end
end L2
set_option maxHeartbeats 4000000
namespace L2
open PySem PySem.Spec PyProof.Rows
section
variable {X:Cx}{e:Expr}{es:List Expr}{te:TE}{pos:cE}
abbrev TF:=St->Hp->(Hp->Prop)->Prop
def PF (X:Cx)(e:Expr)(n:Nat)(t:TF):Prop:=∀(af:List (ah×cN)) (s:aj) (σ:St) (H:Hp) (Q:Hp->Prop),Inv X af σ H s->t σ H Q ->
 aN (aG X.prog X.w) X.A (br e X.env) (λv s1=>∃y tk H1,v=.str y tk/\y.length<=n/\Inv X af σ H1 s1/\Q H1) X.xe s
theorem WS {c:aJ}{j}(hz:c.length<=2000:=by decide):PF X (.Constant (.str c) j pos) 2000 (λ_ H Q=>Q H):=λ_ _ _ H _ I h=>Calls.Constant_str ⟨c,_,H,rfl,hz,I.tok _,h⟩
def mR (v:V):Prop:=v=.non\/∃i:Int,v=.int i/\i.natAbs.log2<1920
theorem Z8 (he:PE X e te):PF X (.FormattedValue e (-1) none pos) 2000 (λσ H Q=>te σ H λv H1=>mR v/\Q H1):=by
 intro af s σ H Q I h
 refine wpAny_FormattedValue_plain (cW (he af s σ H _ I h) λu s1 dh=>?_)
 obtain⟨v,H1,I1,r1,f,q⟩:=dh
 rcases f with rfl|⟨i,rfl,hi⟩
 ·cases r1
  exact wpAny_formatField_none ⟨_,_,H1,rfl,by decide,I1.tok _,q⟩
 ·obtain⟨t,rfl⟩:=r1
  refine wpAny_formatField_int hi ⟨_,_,H1,rfl,?_,I1.tok _,q⟩
  have z:=int_text_length_le (k:=1920) (by decide) hi
  rw[PySem.ofString_length];omega
def EK (X:Cx)(es:List Expr)(t:TF):Prop:=∀(af:List (ah×cN)) (s:aj) (σ:St) (H:Hp) (fN:aJ) (Q:VK),Inv X af σ H s->fN.length+2000*es.length<=100000->t σ H (λH1=>∀x,Q (.str x) H1) ->
 Joins (aG X.prog X.w) X.A X.xe (evalEach es X.env) fN (λout s1=>out.length<=sizeLine/\EP X af σ Q (.str out s1.toks) { s1 with toks:=s1.toks+1 }) s
theorem Yd:EK X [] (λ_ H Q=>Q H):=by
 intro af s σ H fN Q I hz h
 exact⟨by rw[bY];omega,.str fN,H,I.tok _,⟨_,rfl⟩,h fN⟩
theorem NM {t1 t2:TF}(h1:PF X e 2000 t1)(h2:EK X es t2)(hs:evalEach (e::es) X.env=br e X.env::evalEach es X.env:=by rfl):EK X (e::es) (λσ H Q=>t1 σ H λH1=>t2 σ H1 Q):=by
 intro af s σ H fN Q I hz h
 rw[hs]
 refine dk (h1 af s σ H _ I h) (λv s1 ⟨y,tk,H1,e1,hy,I1,q⟩=>?_) λ_ _ x=>x
 have hl:(fN++y).length=fN.length+y.length:=strLen_append _ _
 rw[aV]at hz
 exact⟨y,tk,e1,by rw[hl,bY];omega,h2 af s1 σ H1 (fN++y) Q I1 (by rw[hl];omega) q⟩
theorem Ye {a b:Expr}{t:TF}(h:EK X (a::b::es) t)(hl:(a::b::es).length<=40:=by decide):PE X (.JoinedStr (a::b::es) pos) (λσ H Q=>t σ H λH1=>∀x,Q (.str x) H1):=by
 intro af s σ H Q I hq
 refine wpAny_JoinedStr (h af s σ H aJ.empty Q I ?_ hq)
 have:(aJ.empty:aJ).length=0:=rfl
 omega
structure GP (K:aa)(C:ah)(f:aJ):Prop where
 ga:am K (.ref C) "__getattribute__"=some (some (.builtin "BaseException.__getattribute__"))
 gn:am K (.ref C) "__getattr__"=some none
 mB:bu K C (.type "BaseException")=some true
 hd:bH K C=true
 no:am K (.ref C) f=some none
def Ea (K:aa)(ta:TE)(f:aJ):TE:=λσ H Q=>ta σ H λx H1=>∃a C dx tb fs v,x=.ref a/\H1 a=some (li a C (some dx) tb)/\H1 dx=some (.xd fs)/\GP K C f/\fs.lookup f=some v/\Q v H1
theorem Yf {f:aJ}(he:PE X e te)(hb:df e f X.env (br e X.env)=br e X.env):PE X (.Attribute e f pos) (Ea X.K te f):=by
 intro af s σ H Q I h
 refine Oi hb (cW (he af s σ H _ I h) λu s1 dh=>?_)
 obtain⟨x,H1,I1,rx,a,C,dx,tb,fs,v,ex,ea,ed,c,l,q⟩:=dh
 subst ex
 cases rx
 obtain⟨a0,eo⟩:=(I1.hok a _ ea).1
 obtain⟨mA,oG,IN⟩:=I1.hok dx _ ed
 obtain⟨od,ho,hl⟩:=Nm oG
 have J:eA s1.heap a _ C (some od):=⟨eo,rfl,rfl,ho⟩
 have hv:=IN f
 rw[l]at hv
 cases hm:mA f with
 |none=>rw[hm]at hv;exact False.elim hv
 |some w=>
  rw[hm]at hv
  exact ZF I1.kIn J c.ga c.gn c.mB (nO c.hd c.no rfl (by rw[hl,hm])) (Nn hv) ⟨v,H1,I1.tok _,hv,q⟩
end
structure XIc (K:aa)(C:ah):Prop where
 ga:am K (.ref C) "__getattribute__"=some (some (.builtin "BaseException.__getattribute__"))
 gn:am K (.ref C) "__getattr__"=some none
 mB:bu K C (.type "BaseException")=some true
 hd:bH K C=true
 ca:am K (.ref C) "__class__"=some (some (.builtin "object.__class__"))
 cg:bO K (.builtin "object.__class__") "__get__"=some (some (.builtin "getset_descriptor.__get__"))
 ct:gb K (.builtin "object.__class__")=some true
 mO:bu K C (.type "object")=some true
section
variable {prog:bg}{w:bN}{A:bx}{E:ae->aj->Prop}{s:aj}{K:aa}{x C:ah}{ox:cN}{od:Option cN}
theorem WT {Q:Option ae->aj->Prop}(c:XIc K C)(X:K.In s.heap)(J:eA s.heap x ox C od)(h:Q (some (.ref C)) { s with toks:=s.toks+1 }):aN (aG prog w) A (getAttr? (.ref x) "__class__") Q E s:=by
 have hf:kR K C od "__class__"=some (.bind (.builtin "getset_descriptor.__get__") (.builtin "object.__class__")):=by
  obtain⟨cd,hc,_⟩:=gR c.hd
  unfold kR
  rw[hc,bj,c.ca,bj]
  dsimp only
  rw[c.cg,bj]
  dsimp only
  rw[c.ct,bj]
 obtain⟨hh,g,d,t,os⟩:=s
 have L0:=J.type (M:=aG prog w)
 have L1:=cY (M:=aG prog w) X c.ga
 have L2:=cY (M:=aG prog w) X c.gn
 have L3:=oB (M:=aG prog w) X J hf
 have FX:=PySem.F.excAttr_ValueError
 have IY:(ae.builtin "BaseException.__getattribute__" == ae.builtin "object.__getattribute__")=false:=by decide +kernel
 unfold getAttr? getAttrBy? getAttrBy
 refine aq (wpAny_mkText (aq (wpAny_attempt (eM (aq (L0.at (aq (L1.at ?_))))))))
 dsimp only
 rw[IY,sV,if_neg aH]
 unfold getAttrByItsOwn hookBefore
 rw[if_pos (show onTheHeap (ae.ref C)=true from rfl)]
 refine aq (L2.at ?_)
 refine aq (wpAny_attempt (eM ?_))
 unfold callGetattribute
 rw[if_neg (by decide)]
 unfold boundAndCalled
 rw[FX.ga.bind (.ref x)]
 refine aq (aS ?_)
 have hi:ck (aG prog w) hh (isInstance (.ref x) (.type "BaseException")) true:=L0.andThen (iV X c.mB)
 refine wpAny_call (codeAny_call_builtin FX.ga.plain PySem.F.entry_bexc_ga (@gz (aG prog w) _ _ ⟨hh,g,d,t+1,os⟩ "BaseException.__getattribute__" "BaseException" "__getattribute__" (.ref x) [.str "__class__" t] [] _ (by decide +kernel) (by decide +kernel) hi (PySem.F.args_bexc_ga _ _) ?_))
 unfold dO.«object.__getattribute__»
 refine aq (aS (aq (aS (aq (L0.at (aq (L3.at ?_)))))))
 show aN _ _ (dP [.builtin "object.__class__"] (call (.builtin "getset_descriptor.__get__") [.builtin "object.__class__",.ref x,.ref C]) >>= ret) _ _ _
 refine aq (eM (wpAny_call (PySem.W.class_get (s:=⟨hh,g,d,t+1,os⟩) X J c.mO ?_)))
 refine aS ?_
 show aN _ _ (handedOut (.ref C)) _ _ _
 exact PySem.W.handed_on rfl (aS h)
theorem Wr (c:XIc K C):PySem.W.KitX K (.ref x) (.ref C) (λh=>eA h x ox C od) where
 ty:=λ_ _ _ J=>J.type
 it:=λM h X _=>by
  obtain⟨cd,hc,_⟩:=gR c.hd
  unfold fL at hc
  split at hc
  ·rename_i c' d' QN Jy ho
   intro A' Q' E' s' k q
   unfold isType loadHead
   exact aq (wpAny_loadPart (k _ _ (X _ _ ho)) (aS q))
  ·cases hc
 ne:=λh tp dd cj n sl X RM=>by
  obtain⟨cd,hc,_⟩:=gR c.hd
  refine Bool.eq_false_iff.mpr λq=>?_
  obtain rfl:C=tp:=ae.ref.inj (beq_iff_eq.mp q)
  unfold fL at hc
  split at hc
  ·rename_i c' d' QN Jy ho
   have z:=(X _ _ ho).symm.trans RM
   cases z
  ·cases hc
 ca:=λX J k=>WT c X J k
end
end L2
set_option maxHeartbeats 4000000
namespace L2
open PySem PySem.Spec PyProof.Rows
abbrev Cx.tr (X:Cx)(E:ae->aj->Prop)(af:List (ah×cN)):Cx:={ X with xe:=E,pn:=X.pn++af }
abbrev Cx.hd (X:Cx)(a:ah):Cx:={ X with A:=X.A.mark (some (.ref a)),calm:=false,xe:=λ_ _=>False }
section
variable {X:Cx}{af:List (ah×cN)}{σ:St}{H:Hp}{s:aj}{E:ae->aj->Prop}{a:ah}
theorem Inv.tr (I:Inv X af σ H s)(E:ae->aj->Prop):Inv (X.tr E af) [] σ H s :=
 ⟨⟨I.ok.mod,I.ok.kind,I.ok.glob,I.ok.blt,I.ok.above,I.ok.inj,I.ok.has,I.ok.cab,I.ok.hd,I.ok.frames,I.ok.stk,I.ok.exf,I.ok.bs,I.ok.bsz,I.ok.noex,I.ok.exfs,I.ok.funs,I.ok.frf⟩,I.os,I.bare,I.base,I.loc,I.cell,I.free,I.freeC,λp hp=>I.pin p (by simpa using hp),I.hok,I.len⟩
theorem Inv.untr {q:List (ah×cN)}(I:Inv (X.tr E af) q σ H s):Inv X af σ H s :=
 ⟨⟨I.ok.mod,I.ok.kind,I.ok.glob,I.ok.blt,I.ok.above,I.ok.inj,I.ok.has,I.ok.cab,I.ok.hd,I.ok.frames,I.ok.stk,I.ok.exf,I.ok.bs,I.ok.bsz,I.ok.noex,I.ok.exfs,I.ok.funs,I.ok.frf⟩,I.os,I.bare,I.base,I.loc,I.cell,I.free,I.freeC,λp hp=>I.pin p (bq _ hp),I.hok,I.len⟩
theorem Inv.hdl (I:Inv X af σ H s)(a:ah):Inv (X.hd a) af σ H s :=
 ⟨⟨I.ok.mod,I.ok.kind,I.ok.glob,I.ok.blt,I.ok.above,I.ok.inj,I.ok.has,I.ok.cab,(λz=>by cases z),I.ok.frames,I.ok.stk,I.ok.exf,I.ok.bs,I.ok.bsz,I.ok.noex,I.ok.exfs,I.ok.funs,I.ok.frf⟩,I.os,I.bare,I.base,I.loc,I.cell,I.free,I.freeC,I.pin,I.hok,I.len⟩
theorem Inv.unhd (ok:X.Ok)(I:Inv (X.hd a) af σ H s):Inv X af σ H s :=
 ⟨ok,I.os,I.bare,I.base,I.loc,I.cell,I.free,I.freeC,I.pin,I.hok,I.len⟩
theorem SP.untr {D:gU}{f:Flow}{s':aj}(h:SP (X.tr E af) [] D f s'):SP X af D f s':=by
 cases f with
 |next=>obtain⟨σ',H',I,q⟩:=h;exact⟨σ',H',I.untr,q⟩
 |brk=>obtain⟨σ',H',I,q⟩:=h;exact⟨σ',H',I.untr,q⟩
 |cont=>obtain⟨σ',H',I,q⟩:=h;exact⟨σ',H',I.untr,q⟩
 |ret u=>obtain⟨v,σ',H',I,r,q⟩:=h;exact⟨v,σ',H',I.untr,r,q⟩
abbrev TH:=ah->ah->TS
def PH (X:Cx)(hs:List ExceptHandler)(th:TH):Prop:=∀(af:List (ah×cN)) (s:aj) (σ:St) (H:Hp) (D:gU) (a C:ah) (dx:Option ah) (T:ah),Inv X af σ H s->oE H a C dx (some T)->th a C D σ H ->
 aN (aG X.prog X.w) X.A (handleBy (.ref a) X.env hs) (SP X af D) X.xe s
theorem ZG:PH X [] (λ_ _ _ _ _=>False):=λ_ _ _ _ _ _ _ _ _ _ _ h=>h.elim
theorem Vd {M:Model}{A:bx}{E:ae->aj->Prop}{C T:ah}{dx:Option ah}{Q:Unit->aj->Prop}(I:Inv X af σ H s)(x:oE H a C dx (some T))(h:Q () s):aN M A (setFlight (.ref a) none) Q E s:=by
 obtain⟨a0,he⟩:=I.xc x
 obtain⟨ts,ht,h3⟩:=I.tbo x
 unfold setFlight
 refine aq (wpAny_field he rfl (x:=.ref T) (by simp) ?_)
 rw[if_pos (show(ae.ref T != ae.none)=true from by simp)]
 refine wpAny_setField ht rfl (gJ.mp h3).1 ?_
 show Q () { s with heap:=s.heap.update T (cN.mapFields (·.setIfInBounds 3 ae.none)) }
 rw[mK s.heap T _ ts 3 .none ht rfl h3]
 exact h
def yX (th:TH)(D:gU):GK:=λσ' a H'=>∃C dx T,oE H' a C dx (some T)/\th a C D σ' H'
theorem ZH {body:List bL}{h0:ExceptHandler}{hs:List ExceptHandler}{pos:cE}{th:TH}{tb:∀(E:ae->aj->Prop) (af:List (ah×cN)) (G:GK),bW (aG X.prog X.w) X.A X.env E->jK (X.tr E af) G->TS}(ie:X.stack=X.env::X.outer)(hf:X.env.frame=some X.env.locals)
  (hb:∀E af G h1 h2,nr (X.tr E af) body (tb E af G h1 h2)) (hh:PH X (h0::hs) th):PS X (.Try body (h0::hs) [] [] pos) (λD σ H=>∀E af h1 h2,tb E af (yX th D) h1 h2 D σ H):=by
 intro af s σ H D I h
 refine wpAny_Try_except ?_
 have key:aN (aG X.prog X.w) X.A (execs body X.env) (SP (X.tr (λe s1=>aN (aG X.prog X.w) X.A (noteFrame e X.env) (λ_ s2=>aN (aG X.prog X.w) X.A (setFlight e none) (λ_ s3=>aN (aG X.prog X.w) X.A (handleBy e X.env (h0::hs)) (SP X af D) X.xe s3) X.xe s2) X.xe s1) af) [] D)
   (λe s1=>aN (aG X.prog X.w) X.A (noteFrame e X.env) (λ_ s2=>aN (aG X.prog X.w) X.A (setFlight e none) (λ_ s3=>aN (aG X.prog X.w) X.A (handleBy e X.env (h0::hs)) (SP X af D) X.xe s3) X.xe s2) X.xe s1) s:=by
  have p1:bW (aG X.prog X.w) X.A X.env (λe s1=>aN (aG X.prog X.w) X.A (noteFrame e X.env) (λ_ s2=>aN (aG X.prog X.w) X.A (setFlight e none) (λ_ s3=>aN (aG X.prog X.w) X.A (handleBy e X.env (h0::hs)) (SP X af D) X.xe s3) X.xe s2) X.xe s1) :=
   bW.looking (K:=λe s2=>aN (aG X.prog X.w) X.A (setFlight e none) (λ_ s3=>aN (aG X.prog X.w) X.A (handleBy e X.env (h0::hs)) (SP X af D) X.xe s3) X.xe s2)
  have p2:jK (X.tr (λe s1=>aN (aG X.prog X.w) X.A (noteFrame e X.env) (λ_ s2=>aN (aG X.prog X.w) X.A (setFlight e none) (λ_ s3=>aN (aG X.prog X.w) X.A (handleBy e X.env (h0::hs)) (SP X af D) X.xe s3) X.xe s2) X.xe s1) af) (yX th D):=by
   intro q σ' H' s' a C dx tb I' xr g
   have J:=I'.untr
   refine J.note ie hf J.ok.frames xr λs2 T hT J2=>?_
   obtain⟨C2,Hd,T2,JP,h2⟩:=g T hT
   exact hh af s2 σ' _ D a C2 Hd T2 J2 JP h2
  exact hb _ af _ p1 p2 [] s σ H D (I.tr _) (h _ af p1 p2)
 refine dk key (λf s1 q=>?_) λ_ _ z=>z
 have q:=q.untr
 cases f with
 |next=>exactλΓ p hΓ=>q
 |_=>exact q
theorem Inv.del {M:Model}{A:bx}{E:ae->aj->Prop}{i:Nat}{n:aJ}{v:V}{Q:Unit->aj->Prop}(I:Inv X af σ H s)(hN:X.N.Nodup)(hi:X.N[i]?=some n)(hl:X.env.scope.names.lookup n=some .local)(hσ:σ[i]?=some (some v))
  (h:∀s',Inv X af (σ.set i none) H s'->Q () s'):aN M A (unbindName X.env n) Q E s:=by
 obtain⟨m,hn,Cf⟩:=id I.loc
 obtain⟨u,r,lk⟩:=Cf i n v hi hσ (.inl hl)
 have xM:(X.env.scope.kind==.class || (X.env.scope.kind==.module&&X.env.locals != X.env.globals))=false:=by rw[I.ok.kind];rfl
 have hm:m n=some u:=by
  rcases lk with⟨_,q⟩|⟨k,_⟩
  ·exact q
  ·have k:X.env.scope.names.lookup n=some .cell\/X.env.scope.names.lookup n=some .free:=k
   rw[hl]at k
   rcases k with k|k<;>cases k
 refine wpAny_unbindName_local hl hn hm xM λh' u' uQ hs=>?_
 have zW:∀b o,X.s₀.heap.get? b=some o->b≠X.env.locals:=λb o e=>aY (aX (aF e) I.ok.above)
 obtain⟨oL,_,_,LQ,_⟩:=id hn
 refine h _ ⟨I.ok,I.os,I.bare,⟨λb o e nn hb hx=>(hs.2 b (zW b o e)).trans (I.base.keep b o e nn hb hx),λb o e nn hb hx=>?_,I.base.free,λb o e hx=>?_,I.base.tups,I.base.frzs,I.base.tbls⟩,⟨_,uQ,λj y v' e1 e2 e3=>?_⟩,λy c e=>?_,I.free,I.freeC,λp hp=>?_,λb ob e=>?_,by simpa using I.len⟩
 ·obtain⟨sl,e1⟩:=I.base.slot b o e nn hb hx
  exact⟨sl,(hs.2 b (zW b o e)).trans e1⟩
 ·obtain⟨o',e1⟩:=I.base.there b o e hx
  exact⟨o',(hs.2 b (zW b o e)).trans e1⟩
 ·by_cases hj:j=i
  ·subst hj
   rw[d8 (by rw[I.len];exact(aT.mp hi).1)]at e2
   cases e2
  ·rw[dL (Ne.symm hj)]at e2
   obtain⟨w,r',q⟩:=Cf j y v' e1 e2 e3
   refine⟨w,r',?_⟩
   rcases q with⟨k,e⟩|⟨k,c,e,z⟩
   ·refine .inl ⟨k,?_⟩
    have:y≠n:=λe=>hj (Ka hN e1 (e▸hi))
    simp[this,e]
   ·exact .inr ⟨k,c,e,z.sameBut hs (I.cne y c e)⟩
 ·obtain⟨w',z⟩:=I.cell y c e
  exact⟨w',z.sameBut hs (I.cne y c e)⟩
 ·obtain⟨e,nn,ne,nf,d⟩:=I.pin p hp
  exact⟨(hs.2 p.1 ne).trans e,nn,ne,nf,d⟩
 ·refine(I.hok b ob e).stay (λc w' hc q=>(hs.2 c ?_).trans q) (λ_ q=>q) λ_ _ q=>q
  rintro rfl
  rcases hc with rfl|hc
  ·rw[I.free]at e;cases e
  ·rw[I.free]at hc;cases hc
def gU.un (D:gU)(i:Nat):gU:={ nx:=λσ H=>D.nx (σ.set i none) H,rt:=D.rt,bk:=λσ H=>D.bk (σ.set i none) H,ct:=λσ H=>D.ct (σ.set i none) H }
theorem Z9 {x n:aJ}{i:Nat}{np pos:cE}{B:ah}{body:List bL}{rest:List ExceptHandler}{tb:ah->TS}{th:TH}(hN:X.N.Nodup)(hi:X.N[i]?=some n)(hl:X.env.scope.names.lookup n=some .local)(hg:Gl X x)(hm:X.mg x=some (.ref B))(hb:∀a,nr (X.hd a) body (tb a))(hr:PH X rest th)(kB:body≠[]:=by simp)(iC:(x==("__debug__":aJ))=false:=by decide) :
  PH X (.ExceptHandler (some (.Name x np)) (some n) body pos::rest) (λa C D σ H=>∃b,eD X.K (.ref C) (.ref B)=some b/\if b=true then tb a (D.un i) (σ.set i (some (.ref a))) H else th a C D σ H):=by
 intro af s σ H D a C dx T I xr h
 obtain⟨b,hx,h⟩:=h
 have I1:=I.hdl a
 obtain⟨a0,he⟩:=I.xc xr
 refine wpAny_handleBy_cons (codeAny_handlers_test (j9 I1 hg hm ?_ iC)) (by intro z;cases z)
 have LT:ck (aG X.prog X.w) s.heap (typeOf (.ref a)) (.ref C):=(ck.ld he).andThen .now
 refine(PySem.W.exm_one I.kIn LT hx).here ?_
 cases b with
 |false=>
  rw[if_neg aH]at h ⊢
  exact hr af s σ H D a C dx T I xr h
 |true=>
  rw[if_pos rfl]at h ⊢
  have fin:∀{f:Flow} {s':aj} {A:bx} {E:ae->aj->Prop},SP (X.hd a) af (D.un i) f s'->aN (aG X.prog X.w) A (do bindName X.env n .none;unbindBehindTheSuite X.env n pos) (λ_ s3=>SP X af D f s3) E s':=by
   intro f s' A E q
   have go:∀{σ':St} {H':Hp},Inv (X.hd a) af σ' H' s'->(∀s3,Inv X af (σ'.set i none) H' s3->SP X af D f s3)->aN (aG X.prog X.w) A (do bindName X.env n .none;unbindBehindTheSuite X.env n pos) (λ_ s3=>SP X af D f s3) E s':=by
    intro σ' H' J w
    refine aq (wpAny_bindName (Ek (J.unhd I.ok) hN hi (.inl hl) (v:=.non) rfl (λs3 J3=>?_) (.inr hl)))
    unfold unbindBehindTheSuite
    refine wpAny_onRaise (J3.del hN hi hl (v:=.non) (by rw[d8 (by rw[J.len];exact(aT.mp hi).1)]) λs4 J4=>?_)
    rw[List.set_set]at J4
    exact w s4 J4
   cases f with
   |next=>obtain⟨σ',H',J,q⟩:=q;exact go J λs3 J3=>⟨_,H',J3,q⟩
   |brk=>obtain⟨σ',H',J,q⟩:=q;exact go J λs3 J3=>⟨_,H',J3,q⟩
   |cont=>obtain⟨σ',H',J,q⟩:=q;exact go J λs3 J3=>⟨_,H',J3,q⟩
   |ret u=>obtain⟨v,σ',H',J,r,q⟩:=q;exact go J λs3 J3=>⟨v,_,H',J3,r,q⟩
  refine codeAny_of_tree ?_
  show aN _ (X.A.mark (some (.ref a))) (do return Fin.done (← (handleWith (.ref a) X.env [.ExceptHandler none (some n) body pos]).onRaise (λx=>do noteFrame x X.env;theTreesLotGoes x))) _ _ s
  refine aq (wpAny_noted ?_)
  have hw:handleWith (.ref a) X.env [.ExceptHandler none (some n) body pos]=(do
    fF pos
    setFlight (.ref a) none
    bindName X.env n (.ref a)
    match ← (execs body X.env).attempt with
    |.ok f=>pure f
    |.error x=>
     noteFrame x X.env
     dP [x] <|(do
      bindName X.env n .none
      unbindBehindTheSuite X.env n pos:ng Unit).onRaise λ_=>setFlight x none
     passOn "try.except-as" x X.env):=by
   cases body with
   |nil=>exact absurd rfl kB
   |cons _ _=>rfl
  rw[hw]
  refine aq (gE (aq (Vd I xr (aq (wpAny_bindName (Ek (X:=X.hd a) I1 hN hi (.inl hl) (v:=.ref a) rfl (λs3 J3=>?_) (.inr hl)))))))
  refine aq (wpAny_attempt (dk (hb a af s3 _ H _ J3 h) (λf s4 q=>aS (aS ?_)) λ_ _ z=>False.elim z))
  exact fin q
end
end L2
namespace L2
open PySem PySem.Spec PyProof.Rows
section
variable {κ:Type}[DecidableEq κ]
def hE (cq:List (κ×V))(k:κ):Option V:=(cq.find? λkv=>decide (kv.1=k)).map (·.2)
def putK (cq:List (κ×V))(k:κ)(v:V):List (κ×V) :=
 if(cq.any λkv=>decide (kv.1=k))=true then cq.map (λkv=>if kv.1=k then(kv.1,v)else kv)else cq++[(k,v)]
theorem Kc {p:κ×V}{r:List (κ×V)}{k:κ}(e:p.1=k):hE (p::r) k=some p.2:=by simp[hE,cM,e]
theorem Ke {p:κ×V}{r:List (κ×V)}{k:κ}(e:¬p.1=k):hE (p::r) k=hE r k:=by simp[hE,cM,e]
theorem NN (k:κ):∀cq:List (κ×V),(cq.any λkv=>decide (kv.1=k))=(hE cq k).isSome
 |[]=>rfl
 |p::r=>by
  rw[dQ]
  by_cases e:p.1=k
  ·simp only[Kc e,decide_eq_true e,Bool.true_or,Option.isSome_some]
  ·rw[Ke e,decide_eq_false e,Bool.false_or];exact NN k r
theorem MX (cq:List (κ×V))(k:κ)(v:V):(putK cq k v).length<=cq.length+1:=by
 unfold putK
 split
 ·rw[bi];omega
 ·rw[bA,aV,sC];omega
theorem i9.isSome_eq {o:Option V}{u:Option ae}(r:i9 o u):o.isSome=u.isSome:=by
 cases o with
 |none=>cases u with
  |none=>rfl
  |some _=>exact(show False from r).elim
 |some _=>cases u with
  |none=>exact(show False from r).elim
  |some _=>rfl
theorem i9.getD {o:Option V}{u:Option ae}{d:V}{d':ae}(r:i9 o u)(rd:RelV d d'):RelV (o.getD d) (u.getD d'):=by
 cases o with
 |none=>cases u with
  |none=>exact rd
  |some _=>exact(show False from r).elim
 |some _=>cases u with
  |none=>exact(show False from r).elim
  |some _=>exact r
theorem KV.val {cq:List (κ×V)}{vs:List (κ×ae)}(r:KV cq vs)(k:κ):i9 (hE cq k) (nN vs k):=by
 unfold KV at r
 induction r with
 |nil=>exact True.intro
 |@cons p q ps qs h t ih=>
  obtain⟨h1,h2⟩:=h
  by_cases e:p.1=k
  ·have e':q.1=k:=h1.symm.trans e
   have b:nN (q::qs) k=some q.2:=by simp[nN,cM,e']
   rw[Kc e,b];exact h2
  ·have e':¬q.1=k:=λz=>e (h1.trans z)
   have b:nN (q::qs) k=nN qs k:=by simp[nN,cM,e']
   rw[Ke e,b];exact ih
theorem KV.any {cq:List (κ×V)}{vs:List (κ×ae)}(r:KV cq vs)(k:κ):(cq.any λkv=>decide (kv.1=k))=vs.any λkv=>decide (kv.1=k):=by
 unfold KV at r
 induction r with
 |nil=>rfl
 |cons h t ih=>rw[dQ,dQ,ih,h.1]
theorem KV.repl {cq:List (κ×V)}{vs:List (κ×ae)}(r:KV cq vs)(k:κ){y:V}{u:ae}(ry:RelV y u) :
  KV (cq.map λkv=>if kv.1=k then(kv.1,y)else kv) (vs.map λkv=>if kv.1=k then(kv.1,u)else kv):=by
 unfold KV at r ⊢
 induction r with
 |nil=>exact .nil
 |@cons p q ps qs h t ih=>
  rw[bn,bn]
  refine .cons ?_ ih
  obtain⟨h1,h2⟩:=h
  by_cases e:p.1=k
  ·rw[if_pos e,if_pos (h1.symm.trans e)];exact⟨h1,ry⟩
  ·rw[if_neg e,if_neg (λz=>e (h1.trans z))];exact⟨h1,h2⟩
theorem KV.put {cq:List (κ×V)}{vs:List (κ×ae)}(r:KV cq vs)(k:κ){y:V}{u:ae}(ry:RelV y u):KV (putK cq k y) (stored vs k u):=by
 unfold putK stored
 rw[r.any k]
 by_cases e:(vs.any λkv=>decide (kv.1=k))=true
 ·rw[if_pos e,if_pos e];exact r.repl k ry
 ·rw[if_neg e,if_neg e];exact Paired.snoc r ⟨rfl,ry⟩
theorem KV.length {cq:List (κ×V)}{vs:List (κ×ae)}(r:KV cq vs):cq.length=vs.length:=Paired.length r
end
theorem GA {P:bg}{w:bN}{k:eO}{u:ae}(r:RelV (kV k) u):(dZ P w).is k u=true:=by
 cases k with
 |inl i=>obtain⟨t,e⟩:=(show∃t,u=ae.int i t from r);subst e;exact Ve P w i t
 |inr x=>obtain⟨t,e⟩:=(show∃t,u=ae.str x t from r);subst e;exact Vf P w x t
theorem Nz {P:bg}{w:bN}:∀{ks:List eO} {us:List ae},bM (ks.map kV) us->ItemsAre (dZ P w) ks us
 |[],_,r=>by rw[kE]at r;cases r;exact .nil
 |k::ks,_,r=>by
  rw[bn]at r
  cases r with
  |cons h t=>exact .cons (GA h) (Nz t)
abbrev KT (H:Hp):List (List eO×V)->List (List eO×ah×ae)->Prop:=Paired λp q=>p.1=q.1/\H q.2.1=some (.tup (p.1.map kV))/\RelV p.2 q.2.2
theorem KT.val {H:Hp}{cq:List (List eO×V)}{xs:List (List eO×ah×ae)}(r:KT H cq xs)(k:List eO):i9 (hE cq k) ((p5 xs k).map (·.2)):=by
 induction r with
 |nil=>exact True.intro
 |@cons p q ps qs h t ih=>
  obtain⟨h1,_,h2⟩:=h
  by_cases e:p.1=k
  ·have e':q.1=k:=h1.symm.trans e
   have b:p5 (q::qs) k=some q.2:=by simp[p5,cM,e']
   rw[Kc e,b];exact h2
  ·have e':¬q.1=k:=λz=>e (h1.trans z)
   have b:p5 (q::qs) k=p5 qs k:=by simp[p5,cM,e']
   rw[Ke e,b];exact ih
theorem KT.repl {H:Hp}{cq:List (List eO×V)}{xs:List (List eO×ah×ae)}(r:KT H cq xs)(k:List eO){y:V}{u:ae}(ry:RelV y u) :
  KT H (cq.map λkv=>if kv.1=k then(kv.1,y)else kv) (xs.map (putAt k u)):=by
 induction r with
 |nil=>exact .nil
 |@cons p q ps qs h t ih=>
  rw[bn,bn]
  refine .cons ?_ ih
  obtain⟨h1,h2,h3⟩:=h
  unfold putAt
  by_cases e:p.1=k
  ·rw[if_pos e,if_pos (h1.symm.trans e)];exact⟨h1,h2,ry⟩
  ·rw[if_neg e,if_neg (λz=>e (h1.trans z))];exact⟨h1,h2,h3⟩
theorem KT.put {H:Hp}{cq:List (List eO×V)}{xs:List (List eO×ah×ae)}(r:KT H cq xs)(k:List eO){b:ah}{y:V}{u:ae}(hb:H b=some (.tup (k.map kV)))(ry:RelV y u) :
  KT H (putK cq k y) (storedH xs k b u):=by
 have e:(cq.any λkv=>decide (kv.1=k))=(p5 xs k).isSome:=by
  rw[NN,(r.val k).isSome_eq,pG]
 unfold putK storedH
 rw[e]
 by_cases q:(p5 xs k).isSome=true
 ·rw[if_pos q,if_pos q];exact r.repl k ry
 ·rw[if_neg q,if_neg q];exact Paired.snoc r ⟨rfl,hb,ry⟩
theorem KT.keeps {H H':Hp}{cq:List (List eO×V)}{xs:List (List eO×ah×ae)}(r:KT H cq xs)(ht:∀b ys,H b=some (.tup ys)->H' b=some (.tup ys)):KT H' cq xs :=
 Paired.mapP r λ_ _ z=>⟨z.1,ht _ _ z.2.1,z.2.2⟩
section
variable {P:bg}{w:bN}{H:Hp}{h:aI}{a:ah}
theorem Pw {u:HO}(ok:jS P w H h)(e:Rd H a u):dF P w H h a u:=e.ok ok
theorem EG {cq:List (eO×V)}(ok:jS P w H h)(e:Rd H a (.dK cq)):cq.length<=sizeLine/\(a==ez)=false/\∃vs,KV cq vs/\h.DictOf (dZ P w) a vs :=
 show dF P w H h a (.dK cq)from Pw ok e
theorem zs9 {cq:List (eO×V)}(ok:jS P w H h)(e:H a=some (.dK cq)):cq.length<=sizeLine/\(a==ez)=false/\∃vs,KV cq vs/\h.DictOf (dZ P w) a vs:=EG ok (.inl e)
theorem Gs {ks:List eO}(ok:jS P w H h)(e:H a=some (.tup (ks.map kV))):(kF (dZ P w)).is h ks a:=by
 obtain⟨_,cj,r,o,h1,h2,n,h3⟩:=(show dF P w H h a (.tup (ks.map kV))from ok a _ e)
 exact⟨o,cj.toArray,n,h1,h2,h3,by simpa using Nz r⟩
theorem GB {cq:List (List eO×V)}(ok:jS P w H h)(e:Rd H a (.dT cq)):cq.length<=sizeLine/\(a==ez)=false /\
  ∃xs,KT H cq xs/\h.DictOfH (kF (dZ P w)) a xs:=by
 obtain⟨z,y,xs,r,o,es,ep,h1,h2,h3,h4,h5⟩:=(show dF P w H h a (.dT cq)from Pw ok e)
 refine⟨z,y,xs,r,o,es,ep,h1,h2,h3,h4,λx hx=>?_,h5⟩
 have all:∀{l:List (List eO×V)} {m:List (List eO×ah×ae)},KT H l m->∀x∈m,(kF (dZ P w)).is h x.1 x.2.1:=by
  intro l m q
  induction q with
  |nil=>intro x hx;exact nomatch hx
  |@cons p q ps qs hq t ih=>
   intro x hx
   rcases aB.mp hx with e|hx
   ·subst e
    exact Gs ok (by rw[←hq.1];exact hq.2.1)
   ·exact ih x hx
 exact all r x hx
theorem zta {cq:List (List eO×V)}(ok:jS P w H h)(e:H a=some (.dT cq)):cq.length<=sizeLine/\(a==ez)=false /\
  ∃xs,KT H cq xs/\h.DictOfH (kF (dZ P w)) a xs:=GB ok (.inl e)
end
def lG (H:Hp)(a:ah)(y:V)(r:Option V):Prop :=
 (∃cq k,Rd H a (.dK cq)/\y=kV k/\r=hE cq k)\/∃cq k b,Rd H a (.dT cq)/\y=.ref b/\H b=some (.tup (k.map kV))/\r=hE cq k
def nP (H:Hp)(a:ah)(y v:V)(H':Hp):Prop :=
 (∃cq k,H a=some (.dK cq)/\y=kV k/\cq.length<sizeLine/\H'=upd H a (.dK (putK cq k v))) \/
 ∃cq k b,H a=some (.dT cq)/\y=.ref b/\H b=some (.tup (k.map kV))/\cq.length<sizeLine/\H'=upd H a (.dT (putK cq k v))
theorem lG.k {H:Hp}{a:ah}{cq:List (eO×V)}{k:eO}(e:H a=some (.dK cq)):lG H a (kV k) (hE cq k):=.inl ⟨cq,k,.inl e,rfl,rfl⟩
theorem lG.t {H:Hp}{a b:ah}{cq:List (List eO×V)}{k:List eO}(e:H a=some (.dT cq))(eb:H b=some (.tup (k.map kV))):lG H a (.ref b) (hE cq k):=.inr ⟨cq,k,b,.inl e,rfl,eb,rfl⟩
theorem nP.k {H:Hp}{a:ah}{cq:List (eO×V)}{k:eO}{v:V}(e:H a=some (.dK cq))(hl:cq.length<sizeLine):nP H a (kV k) v (upd H a (.dK (putK cq k v))):=.inl ⟨cq,k,e,rfl,hl,rfl⟩
theorem nP.t {H:Hp}{a b:ah}{cq:List (List eO×V)}{k:List eO}{v:V}(e:H a=some (.dT cq))(eb:H b=some (.tup (k.map kV)))(hl:cq.length<sizeLine) :
  nP H a (.ref b) v (upd H a (.dT (putK cq k v))):=.inr ⟨cq,k,b,e,rfl,eb,hl,rfl⟩
section
variable {X:Cx}{af:List (ah×cN)}{σ:St}{H:Hp}{s:aj}{a:ah}{y v:V}{u r:ae}{o:Option V}{A:bx}{E:ae->aj->Prop}
theorem Inv.big (I:Inv X af σ H s):ez<s.heap.objs.size:=by
 have h:ax<s.heap.objs.size:=(I.mod.glob.keeps I.bk).lt
 exact Nat.lt_trans (by decide) h
theorem G8 {Q:ae->aj->Prop}(hu:A.units+1<iT)(I:Inv X af σ H s)(g:lG H a y o)(ry:RelV y u)(h:∀s',Inv X af σ H s'->Q (.bool o.isSome) s') :
  aN (aG X.prog X.w) A (cV .In u (.ref a)) Q E s:=by
 rcases g with⟨cq,k,e,ey,l⟩|⟨cq,k,b,e,ey,eb,l⟩
 ·subst ey
  obtain⟨z,hd,vs,rel,dd⟩:=EG I.hok e
  refine wpAny_in_of (GA ry) hd dd.mapOf ?_
  rw[←(rel.val k).isSome_eq,←l]
  exact h _ (I.tok _)
 ·subst ey
  cases(show u=ae.ref b from ry)
  obtain⟨z,hd,xs,rel,dd⟩:=GB I.hok e
  refine wpAny_in_heap (lq hu) (Gs I.hok eb) hd dd ?_
  have q:=(rel.val k).isSome_eq
  rw[pG]at q
  rw[←q,←l]
  exact h _ (I.tok _)
theorem Ox {h':aI}{t':Nat}{ob:HO}(I:Inv X af σ H s)(mu:As (H a))(hs:gD a s.heap h')(he:∃q,h'.get? a=some q)(new:dF X.prog X.w (upd H a ob) h' a ob) :
  Inv X af σ (upd H a ob) { s with heap:=h',toks:=t' } :=
 I.write (x:=a) (e:=a) mu (.inl rfl) (λb q hb z=>(hs.2 b hb).trans z) he new
theorem ZI {P:bg}{w:bN}{H':Hp}{h':aI}{cq:List (eO×V)}{vs:List (eO×ae)}(z:cq.length<=sizeLine)(hd:(a==ez)=false)(rel:KV cq vs)(dd:h'.DictOf (dZ P w) a vs) :
  dF P w H' h' a (.dK cq):=⟨z,hd,vs,rel,dd⟩
theorem V8 {H':Hp}{Q:Unit->aj->Prop}(hu:A.units+1<iT)(I:Inv X af σ H s)(g:nP H a y v H')(ry:RelV y u)(rv:RelV v r)(h:∀s',Inv X af σ H' s'->Q () s') :
  aN (aG X.prog X.w) A (nM (.ref a) u r) Q E s:=by
 rcases g with⟨cq,k,e,ey,l,eH⟩|⟨cq,k,b,e,ey,eb,l,eH⟩
 ·subst ey eH
  obtain⟨z,hd,vs,rel,dd⟩:=zs9 I.hok e
  have hz:vs.length<=sizeLine:=by rw[←rel.length];exact z
  have hl:(putK cq k v).length<=sizeLine:=by have:=MX cq k v;omega
  refine wpAny_setItem_pairs (hsz:=hz) (GA ry) dd λh' EU hs=>h _ ?_
  have he:∃q,h'.get? a=some q:=let⟨q,_,_,hq,_⟩:=EU;⟨q,hq⟩
  exact Ox I (by rw[e];exact True.intro) hs he (ZI hl hd (rel.put k rv) EU)
 ·subst ey eH
  cases(show u=ae.ref b from ry)
  obtain⟨z,hd,xs,rel,dd⟩:=zta I.hok e
  have hz:xs.length<=sizeLine:=by rw[←Paired.length rel];exact z
  have hl:(putK cq k v).length<=sizeLine:=by have:=MX cq k v;omega
  refine wpAny_setItem_heap (hsz:=hz) (lq hu) (Gs I.hok eb) dd λh' EU hs=>h _ ?_
  obtain⟨q,es,ep,hq,h2,h3,h4,_,h5⟩:=EU
  refine Ox I (by rw[e];exact True.intro) hs ⟨q,hq⟩ ⟨hl,hd,_,(rel.put k eb rv).keeps λc ys ec=>?_,q,es,ep,hq,h2,h3,h4,h5⟩
  rw[zh (Z2 ec e (λz=>nomatch z))]
  exact ec
end
section
variable {X:Cx}{af:List (ah×cN)}{σ:St}{H:Hp}{s:aj}{a:ah}{cq:List (eO×V)}{k:eO}{u:ae}{A:bx}{E:ae->aj->Prop}
theorem ztb {Q:ae->aj->Prop}(I:Inv X af σ H s)(e:Rd H a (.dK cq))(h:∀t s',Inv X af σ H s'->Q (.int cq.length t) s'):aN (aG X.prog X.w) A (call (.builtin "len") [.ref a]) Q E s:=by
 obtain⟨z,hd,vs,rel,dd⟩:=EG I.hok e
 refine call_len_dict hd dd (by rw[←rel.length];rw[bY]at z;omega) ?_
 rw[←rel.length]
 exact h _ _ (I.tok _)
end
def JD (ty td:TE):TE:=λσ H Q=>ty σ H λy H1=>td σ H1 λx H2=>∃a o,x=.ref a/\lG H2 a y o/\Q (.bl o.isSome) H2
def DY (td ty tv:TE):TS:=λD σ H=>tv σ H λv H1=>td σ H1 λx H2=>ty σ H2 λy H3=>∃a H4,x=.ref a/\nP H3 a y v H4/\D.nx σ H4
section
variable {X:Cx}{o i e value:Expr}{pos pos' jF:cE}{td ty tv:TE}
theorem ZJ (hu:X.A.units+1<iT)(hi:PE X i ty)(ho:PE X o td):PC X .In i o (JD ty td):=by
 intro af s σ H Q I h
 refine cW (hi af s σ H _ I h) λiv s1 ⟨y,H1,I1,ry,q1⟩=>cW (ho af s1 σ H1 _ I1 q1) λu s2 dh=>?_
 obtain⟨x,H2,I2,rx,a,ov,ex,g,q2⟩:=dh
 subst ex
 obtain rfl:u=ae.ref a:=rx
 exact G8 hu I2 g ry λs3 I3=>⟨.bl ov.isSome,H2,I3,rfl,q2⟩
theorem Yg (hu:X.A.units+1<iT)(ho:PE X o td)(hi:PE X i ty)(hv:PE X value tv)(hs:di value (some (.Subscript o i pos')) pos.line X.env=pure false) :
  PS X (.Assign [.Subscript o i pos'] value pos) (DY td ty tv):=by
 intro af s σ H D I h
 refine wpAny_Assign_Subscript (cW (hv af s σ H _ I h) λr s1 ⟨v,H1,I1,rv,q1⟩=>cW (ho af s1 σ H1 _ I1 q1) λu s2 ⟨x,H2,I2,rx,q2⟩=>cW (hi af s2 σ H2 _ I2 q2) λiv s3 ⟨y,H3,I3,ry,a,H4,ex,g,q3⟩=>?_) hs
 subst ex
 obtain rfl:u=ae.ref a:=rx
 exact V8 hu I3 g ry rv λs4 I4=>⟨σ,H4,I4,q3⟩
end
theorem Ws {P:bg}{w:bN}{H:Hp}(h:aI)(hb:ez<h.objs.size):dF P w H (h.push { cls:=.type "dict",data:=.dict #[] }) h.objs.size (.dK []) :=
  ⟨d9 _,beq_eq_false_iff_ne.mpr (Ne.symm (aY hb)),[],.nil,aI.DictOf.new h⟩
theorem Wt {P:bg}{w:bN}{H:Hp}(h:aI)(hb:ez<h.objs.size):dF P w H (h.push { cls:=.type "dict",data:=.dict #[] }) h.objs.size (.dT []) :=
  ⟨d9 _,beq_eq_false_iff_ne.mpr (Ne.symm (aY hb)),[],.nil,_,#[],0,bB _ rfl,⟨rfl,rfl,rfl⟩,rfl,rfl,bG⟩
def yS:TE:=λ_ H Q=>∀p,H p=none->Q (.ref p) (upd H p (.dK []))
def yT:TE:=λ_ H Q=>∀p,H p=none->Q (.ref p) (upd H p (.dT []))
section
variable {X:Cx}{pos:cE}
theorem Wu:PE X (.Dict [] [] pos) yS:=λaf s σ H Q I h=>
 wpAny_Dict_empty ⟨.ref s.heap.objs.size,_,I.laid (a:=s.heap.objs.size) (o:=.dK []) (t':=s.toks) (λ_ _ q=>aw _ q) (aC _) (Ws s.heap I.big),rfl,h _ (I.hok.fresh (aC _))⟩
theorem Wv:PE X (.Dict [] [] pos) yT:=λaf s σ H Q I h=>
 wpAny_Dict_empty ⟨.ref s.heap.objs.size,_,I.laid (a:=s.heap.objs.size) (o:=.dT []) (t':=s.toks) (λ_ _ q=>aw _ q) (aC _) (Wt s.heap I.big),rfl,h _ (I.hok.fresh (aC _))⟩
end
structure M1 (X:Cx)(o:Expr)(m:aJ)(cP:cE)(e:Expr)(dq:cE):Prop where
 base:df o m X.env (br o X.env)=br o X.env
 few:((bU dq (ak [e] X.env)).all (λx=>!x.1)&&(eh dq (cJ [] X.env)).all (λx=>x.1.isSome)
  && decide (([e]:List Expr).length+([]:List fE).length+(if([]:List fE).isEmpty then 0 else 1)<30))=true
 line:(cP.endLine==dq.line)=true
 trees:bU dq (ak [e] X.env)=[(false,br e X.env)]
def EI (H:Hp)(a:ah):Prop:=(∃cq,Rd H a (.dK cq))\/∃cq,Rd H a (.dT cq)
theorem ZK {X:Cx}{af:List (ah×cN)}{σ:St}{H:Hp}{s:aj}{a:ah}(I:Inv X af σ H s)(d:EI H a) :
  s.TypeIs (.ref a) "dict"/\(∀b,ae.ref a=.ref b->∃ob,s.heap.get? b=some ob/\ob.dict=none)/\(a==ez)=false:=by
 rcases d with⟨cq,e⟩|⟨cq,e⟩
 ·obtain⟨_,hd,vs,_,dd⟩:=EG I.hok e
  refine⟨dd.typeIs,λb q=>?_,hd⟩
  cases q
  obtain⟨ob,_,_,h1,h2,_⟩:=dd
  exact⟨ob,h1,h2.2.1⟩
 ·obtain⟨_,hd,xs,_,dd⟩:=GB I.hok e
  refine⟨dd.typeIs,λb q=>?_,hd⟩
  cases q
  obtain⟨ob,_,_,h1,h2,_⟩:=dd
  exact⟨ob,h1,h2.2.1⟩
section
variable {X:Cx}{af:List (ah×cN)}{σ:St}{H:Hp}{s:aj}{a:ah}{y d:V}{u r:ae}{o:Option V}{A:bx}{E:ae->aj->Prop}
theorem ZL {Q:ae->aj->Prop}(hu:A.units+1<iT)(I:Inv X af σ H s)(g:lG H a y o)(ry:RelV y u)(h:∀w' s',Inv X af σ H s'->RelV (o.getD .non) w'->Q w' s') :
  aN (aG X.prog X.w) A (call (.builtin "dict.get") [.ref a,u]) Q E s:=by
 rcases g with⟨cq,k,e,ey,l⟩|⟨cq,k,b,e,ey,eb,l⟩
 ·subst ey
  obtain⟨z,hd,vs,rel,dd⟩:=EG I.hok e
  refine call_meetsIn PySem.F.slot_dict_get dd.typeIs PySem.F.entry_dict_get (PySem.F.args_dict_get_2 _ _) (meets_dict_get (dZ X.prog X.w) a (GA ry) hd) ⟨_,dd.mapOf,h _ _ (I.tok _) ?_⟩
  rw[l]
  exact(rel.val k).getD rfl
 ·subst ey
  cases(show u=ae.ref b from ry)
  obtain⟨z,hd,xs,rel,dd⟩:=GB I.hok e
  refine call_meetsIn PySem.F.slot_dict_get dd.typeIs PySem.F.entry_dict_get (PySem.F.args_dict_get_2 _ _) (meetsH_dict_get (kF (dZ X.prog X.w)) a b hd) ⟨lq hu,k,xs,Gs I.hok eb,dd,h _ _ (I.tok _) ?_⟩
  rw[l]
  exact(rel.val k).getD rfl
end
def yR (td ty:TE):TE:=λσ H Q=>td σ H λx H1=>∃a,x=.ref a/\EI H1 a/\ty σ H1 λy H2=>∃o,lG H2 a y o/\Q (o.getD .non) H2
section
variable {X:Cx}{o e f:Expr}{cP dq:cE}{td ty tx:TE}
theorem Ww (hu:X.A.units+1<iT)(ho:PE X o td)(he:PE X e ty)(m:M1 X o "get" cP e dq):PE X (.Call (.Attribute o "get" cP) [e] [] dq) (yR td ty):=by
 intro af s σ H Q I h
 refine wpAny_Call_method m.base m.few m.line PySem.F.plainAttrs_dict PySem.F.slot_dict_get PySem.F.type_dict_get (cW (ho af s σ H _ I h) λu s1 dh=>?_)
 obtain⟨x,H1,I1,rx,a,ex,d,q1⟩:=dh
 subst ex
 obtain rfl:u=ae.ref a:=rx
 obtain⟨t1,t2,_⟩:=ZK I1 d
 refine⟨t1,t2,?_⟩
 rw[m.trees]
 refine Calls.callWith_builtin rfl (Calls.evalArgs_plain (Calls.spliced_cons (cW (he af s1 σ H1 _ I1 q1) λiv s2 ⟨y,H2,I2,ry,ov,g,q2⟩=>Calls.spliced_nil ?_)))
 exact ZL hu I2 g ry λw' s3 I3 pA=>⟨_,H2,I3,pA,q2⟩
end
section
variable {X:Cx}{af:List (ah×cN)}{σ:St}{H:Hp}{s:aj}{a:ah}{cq:List (eO×V)}{A:bx}{E:ae->aj->Prop}
end
section
variable {X:Cx}{af:List (ah×cN)}{σ:St}{H:Hp}{s:aj}{a:ah}{y:V}{u:ae}{A:bx}{E:ae->aj->Prop}
end
end L2
namespace L2
open PySem PySem.Spec PyProof.Rows
section
variable {X:Cx}
theorem V9:eR X (.builtin "len") (λxs H Q=>∃a cq,xs=[V.ref a]/\H a=some (.dK cq)/\Q (.int cq.length) H):=by
 intro af s σ H xs us Q I r h
 obtain⟨a,cq,rfl,ha,q⟩:=h
 obtain⟨u,rfl,ru⟩:=m9 r
 cases ru
 exact ztb I (.inl ha) λt s' I'=>⟨.int cq.length,H,I',⟨t,rfl⟩,q⟩
end
end L2
namespace L2
open PySem
section
variable {κ:Type}[DecidableEq κ]
end
end L2
namespace L2
open PySem PySem.Spec PyProof.Rows
def Sz (n:Nat)(i:Int):Prop:=i.natAbs<2 ^ n
theorem Sz.bits {n:Nat}{i:Int}(h:Sz n i):dO.Int.intBits i<=n:=by
 unfold dO.Int.intBits
 by_cases h0:(i==0)=true
 ·rw[if_pos h0];exact d9 _
 ·rw[if_neg h0]
  have hi:i.natAbs≠0:=by
   have:i≠0:=by simpa using h0
   omega
  exact Nat.succ_le_of_lt ((lE hi).mpr h)
theorem Sz.log {n:Nat}{i:Int}(h:Sz n i)(hn:0<n):i.natAbs.log2<n:=by
 by_cases hi:i.natAbs=0
 ·rw[hi];exact hn
 ·exact(lE hi).mpr h
theorem Sz.mono {n m:Nat}{i:Int}(h:Sz n i)(hm:n<=m):Sz m i:=aX h (eP (by decide) hm)
def mQ (i j:Int):Prop:=vN i j\/(Sz 100000 i/\Sz 100000 j)
theorem mQ.ok {i j:Int}(h:mQ i j):IntMulOk i j:=by
 rcases h with h|h
 ·exact h.ok
 ·exact IntMulOk.of_bits (bX h.1.bits (by decide)) (bX h.2.bits (by decide))
section
variable {X:Cx}
theorem jt:gA X (dI .Mult) (rI mQ λi j=>.int (i*j)):=zX λ_ _ _ _ _ _ _ hc q=>mul_int q hc.ok
theorem vp:gA X (dI .FloorDiv) (rI (λ_ j=>j≠0/\Sz 9000 j) λi j=>.int (i.fdiv j)) :=
 zX λ_ _ _ _ _ _ _ hc q=>floordiv_int hc.1 q (.inl (PyProof.noPylong_of_log2 (hc.2.log (by decide))))
theorem RelV.bool_iff {x:V}{v:ae}{b:Bool}(r:RelV x v):(v==ae.bool b)=decide (x=.bl b):=by
 cases x with
 |bl c=>
  cases(show v=ae.bool c from r)
  by_cases h:c=b
  ·subst h;simp
  ·have h1:¬V.bl c=V.bl b:=λz=>h (V.bl.inj z)
   rw[decide_eq_false h1]
   exact beq_eq_false_iff_ne.mpr λz=>h (by injection z)
 |non=>cases(show v=ae.none from r);rw[decide_eq_false (λz=>nomatch z)];exact beq_eq_false_iff_ne.mpr λz=>nomatch z
 |int i=>obtain⟨t,rfl⟩:=(show∃t,v=ae.int i t from r);rw[decide_eq_false (λz=>nomatch z)];exact beq_eq_false_iff_ne.mpr λz=>nomatch z
 |str i=>obtain⟨t,rfl⟩:=(show∃t,v=ae.str i t from r);rw[decide_eq_false (λz=>nomatch z)];exact beq_eq_false_iff_ne.mpr λz=>nomatch z
 |byt i=>obtain⟨t,rfl⟩:=(show∃t,v=ae.bytes i t from r);rw[decide_eq_false (λz=>nomatch z)];exact beq_eq_false_iff_ne.mpr λz=>nomatch z
 |flt i=>obtain⟨t,rfl⟩:=(show∃t,v=ae.float i t from r);rw[decide_eq_false (λz=>nomatch z)];exact beq_eq_false_iff_ne.mpr λz=>nomatch z
 |ref i=>cases(show v=ae.ref i from r);rw[decide_eq_false (λz=>nomatch z)];exact beq_eq_false_iff_ne.mpr λz=>nomatch z
 |ty i=>cases(show v=ae.type i from r);rw[decide_eq_false (λz=>nomatch z)];exact beq_eq_false_iff_ne.mpr λz=>nomatch z
theorem U7 {x:V}{v:ae}{b:Bool}(r:RelV x v):plainIs v (.bool b)=true:=by
 cases x with
 |bl c=>cases(show v=ae.bool c from r);rfl
 |non=>cases(show v=ae.none from r);rfl
 |int i=>obtain⟨t,rfl⟩:=(show∃t,v=ae.int i t from r);rfl
 |str i=>obtain⟨t,rfl⟩:=(show∃t,v=ae.str i t from r);rfl
 |byt i=>obtain⟨t,rfl⟩:=(show∃t,v=ae.bytes i t from r);rfl
 |flt i=>obtain⟨t,rfl⟩:=(show∃t,v=ae.float i t from r);rfl
 |ref i=>cases(show v=ae.ref i from r);rfl
 |ty i=>cases(show v=ae.type i from r);rfl
theorem ZM:gA X (cV .Is) (λx y H Q=>∃b,y=.bl b/\Q (.bl (decide (x=.bl b))) H):=by
 intro af s σ H x y v u Q I rx ry h
 obtain⟨b,rfl,q⟩:=h
 cases ry
 exact wpAny_is_plain (U7 rx) (Pf I q (RelV.bool_iff rx).symm)
theorem Wx:eR X (.builtin "isinstance") (λxs H Q=>∃x c t b,xs=[x,.ty c]/\jT X.K H x t/\aK X.K t (.type c)=some b/\Q (.bl b) H):=by
 intro af s σ H xs us Q I r h
 obtain⟨x,c,t,b,rfl,ty,e,q⟩:=h
 obtain⟨u,w',rfl,ru,pA⟩:=vals2 r
 cases(show w'=ae.type c from pA)
 exact Np I ru ty e λtk=>⟨.bl b,H,I.tok tk,rfl,q⟩
theorem Wa:eR X (.builtin "isinstance") (λxs H Q=>∃x C t b,xs=[x,.ref C]/\jT X.K H x t/\aK X.K t (.ref C)=some b/\Q (.bl b) H):=by
 intro af s σ H xs us Q I r h
 obtain⟨x,c,t,b,rfl,ty,e,q⟩:=h
 obtain⟨u,w',rfl,ru,pA⟩:=vals2 r
 cases(show w'=ae.ref c from pA)
 exact Np I ru ty e λtk=>⟨.bl b,H,I.tok tk,rfl,q⟩
end
mutual
inductive Dt (K:aa)(H:Hp):V->bD->Prop
 |non:Dt K H .non .none
 |bl (b:Bool):Dt K H (.bl b) (.bool b)
 |int (i:Int):Dt K H (.int i) (.int i)
 |str (x:aJ):Dt K H (.str x) (.str x)
 |lst {a:ah} {xs:List V} {ds:List bD}:eE K H a xs->Dts K H xs ds->Dt K H (.ref a) (.list ds)
 |tup {a:ah} {xs:List V} {ds:List bD}:kl K H a xs->Dts K H xs ds->Dt K H (.ref a) (.tuple ds)
inductive Dts (K:aa)(H:Hp):List V->List bD->Prop
 |nil:Dts K H [] []
 |cons {v:V} {d:bD} {vs:List V} {ds:List bD}:Dt K H v d->Dts K H vs ds->Dts K H (v::vs) (d::ds)
end
section
variable {X:Cx}{af:List (ah×cN)}{σ:St}{H:Hp}{s:aj}
mutual
theorem Dt.reads (I:Inv X af σ H s):∀{v:V} {d:bD} {u:ae},Dt X.K H v d->RelV v u->∃as,Reads s.heap u d as
 |_,_,_,.non,r=>by cases r;exact⟨_,.none⟩
 |_,_,_,.bl b,r=>by cases r;exact⟨_,.bool b⟩
 |_,_,_,.int i,r=>by obtain⟨t,rfl⟩:=r;exact⟨_,.int i t⟩
 |_,_,_,.str x,r=>by obtain⟨t,rfl⟩:=r;exact⟨_,.str x t⟩
 |_,_,_,.lst hq ds,r=>by
  obtain⟨cj,rv,⟨o,n,e,c,_,dd⟩,_⟩:=I.list hq
  obtain⟨as,ra⟩:=Dts.reads I ds rv
  cases r
  exact⟨_,.list e c dd (by simpa using ra)⟩
 |_,_,_,.tup hq ds,r=>by
  obtain⟨cj,rv,⟨o,e,c,n,dd⟩,_⟩:=I.tuple hq
  obtain⟨as,ra⟩:=Dts.reads I ds rv
  cases r
  exact⟨_,.tuple e c dd (by simpa using ra)⟩
theorem Dts.reads (I:Inv X af σ H s):∀{vs:List V} {ds:List bD} {us:List ae},Dts X.K H vs ds->bM vs us->∃as,ReadsAll s.heap us ds as
 |_,_,_,.nil,r=>by cases r;exact⟨_,.nil⟩
 |_,_,_,.cons h t,r=>by
  cases r with
  |cons p q=>
   obtain⟨as,ra⟩:=Dt.reads I h p
   obtain⟨bs,rb⟩:=Dts.reads I t q
   exact⟨_,.cons ra rb⟩
end
end
section
variable {X:Cx}
def yK (K:aa)(neg:Bool):R2:=λx y H Q=>∃d e,Dt K H x d/\Dt K H y e/\d.canLay0=true/\e.canLay0=true/\min d.depth e.depth<=60/\Q (.bl (if neg then !bD.eqv d e else bD.eqv d e)) H
theorem vd (hu:X.A.units+64<iT):gA X (cV .Eq) (yK X.K false):=by
 intro af s σ H x y v u Q I rx ry h
 obtain⟨d,e,hd,he,c1,c2,dp,q⟩:=h
 obtain⟨as,ra⟩:=hd.reads I rx
 obtain⟨bs,rb⟩:=he.reads I ry
 exact SeqAt.compareEq_reads ra rb c1 c2 (by omega) ⟨.bl _,H,I,rfl,q⟩
theorem Eu (hu:X.A.units+64<iT):gA X (cV .NotEq) (yK X.K true):=by
 intro af s σ H x y v u Q I rx ry h
 obtain⟨d,e,hd,he,c1,c2,dp,q⟩:=h
 obtain⟨as,ra⟩:=hd.reads I rx
 obtain⟨bs,rb⟩:=he.reads I ry
 exact SeqAt.compareNe_reads ra rb c1 c2 (by omega) ⟨.bl _,H,I,rfl,q⟩
theorem Dts.ints (K:aa)(H:Hp):∀ns:List Int,Dts K H (ns.map V.int) (ns.map bD.int)
 |[]=>.nil
 |n::r=>.cons (.int n) (Dts.ints K H r)
end
theorem uf {H:Hp}{p:ah}(h:H p=none)(o:HO):bI H (upd H p o):=λb u q=>by rw[zh (zj q h)];exact q
theorem dG.u64 {k:Nat}{A:bx}(r:dG k A):A.units+64<iT:=r.units
theorem small {n:Nat}(h:n<=1000):n<=sizeLine:=kN (qL h)
end L2
namespace L2
open PySem PySem.Spec PyProof.Rows
end L2
namespace L2
open PySem PySem.Spec PyProof.Rows
end L2
namespace L2
open PySem
theorem ZN:bZ "int"=some (.type "int"):=by decide +kernel
theorem Pg:bZ "str"=some (.type "str"):=by decide +kernel
theorem Oy:bZ "bool"=some (.type "bool"):=by decide +kernel
theorem Er:bZ "list"=some (.type "list"):=by decide +kernel
theorem ZO:bZ "len"=some (.builtin "len"):=by decide +kernel
theorem KF:bZ "max"=some (.builtin "max"):=by decide +kernel
theorem ur:bZ "isinstance"=some (.builtin "isinstance"):=by decide +kernel
theorem KG:bZ "all"=some (.builtin "all"):=by decide +kernel
end L2
namespace L2
open PySem PySem.Spec PyProof.Rows
section
variable {prog:bg}{w:bN}{A:bx}{R:Result->aj->Prop}{s:aj}
theorem MY {iX target iter:Expr}{ifs:List Expr}{scope:fC}{pos:cE}{it fN:ae}{env:Env}(I:Nat->aj->Prop)
  (ce:∀n s,I n s->aN (aG prog w) A (pyNext it) (λr s₁=>match r with
   |none=>R (.ok .next) s₁
   |some v=>aN (aG prog w) A (gO target it v) (λ_ MC=>aN (aG prog w) A (hG target env v) (λ_ s₂=>
     aN (aG prog w) A (forIn ifs true λc r=>if r=true then do let ok ← qT c env (br c env);pure (ForInStep.yield ok)else pure (ForInStep.yield r)) (λok s₃=>
      if ok=true then aN (aG prog w) A (br iX env) (λx s₄=>
       aN (aG prog w) A (call (.builtin "list.append") [fN,x]) (λ_ s₅=>∃m,m<n/\I m s₅) (λ_ _=>False) s₄) (λ_ _=>False) s₃
      else∃m,m<n/\I m s₃) (λ_ _=>False) s₂) (λ_ _=>False) MC) (λ_ _=>False) s₁) (λ_ _=>False) s)
  (n:Nat) (h:I n s) :
  eW (aG prog w) A (.compLoop (.ListComp iX [⟨target,iter,ifs,0⟩] scope pos) 0 it fN env) R s:=by
 have up:∀{α:Type} {m:ng α} {Q:α->aj->Prop} {E:ae->aj->Prop} {s:aj},aN (aG prog w) A m Q (λ_ _=>False) s->aN (aG prog w) A m Q E s:=λh=>dk h (λ_ _ q=>q) λ_ _ f=>f.elim
 refine codeAny_loop rfl I (λn s hI=>?_) n h
 show aN _ A ((compTurn (.ListComp iX [⟨target,iter,ifs,0⟩] scope pos) 0 it fN env).onRaise (λx=>do noteFrame x env;theTreesLotGoes x)) _ _ s
 refine wpAny_noted ?_
 rw[compTurn_list]
 refine aq (gE (aq (dk (up (ce n s hI)) (λr s₁ h₁=>?_) λ_ _ h'=>h')))
 cases r with
 |none=>exact aS h₁
 |some v=>
  refine aq (dk (up h₁) (λ_ MC RY=>?_) λ_ _ h'=>h')
  refine aq (dk (up RY) (λ_ s₂ h₂=>aq (dk (up h₂) (λok s₃ h₃=>?_) λ_ _ h'=>h')) λ_ _ h'=>h')
  cases ok with
  |false=>exact aS ⟨rfl,h₃⟩
  |true=>
   exact aq (aq (dk (up h₃) (λx s₄ h₄=>aq (dk (up h₄) (λ_ s₅ h₅=>aS (aS ⟨rfl,h₅⟩)) λ_ _ h'=>h')) λ_ _ h'=>h'))
end
theorem qy {env:Env}:∀(names:List (aJ×ba)) (fN:List (aJ×ah)),(∀x∈names,x.2=.free->∃c,env.cells.lookup x.1=some c)->(∀y c,fN.lookup y=some c->env.cells.lookup y=some c) ->
  ∃cl,(forIn names fN λ(x:aJ×ba) (cs:List (aJ×ah))=>if(x.2==ba.free)=true then do let a ← cellOf env x.1;pure (ForInStep.yield ((x.1,a)::cs))else pure (ForInStep.yield cs):ng (List (aJ×ah)))=pure cl /\
   (∀y c,cl.lookup y=some c->env.cells.lookup y=some c)/\(∀x∈names,x.2=.free->∃c,cl.lookup x.1=some c)/\∀y c,fN.lookup y=some c->∃c',cl.lookup y=some c'
 |[],fN,_,ha=>⟨fN,rfl,ha,λ_ h=>(nomatch h),λy c h=>⟨c,h⟩⟩
 |(n,k)::r,fN,hn,ha=>by
  by_cases hk:k=.free
  ·subst hk
   obtain⟨c,hc⟩:=hn (n,.free) ai rfl
   have e1:cellOf env n=pure c:=by unfold cellOf;rw[hc]
   have E9:∀y d,((n,c)::fN).lookup y=some d->env.cells.lookup y=some d:=λy d h=>by
    rw[aZ]at h
    cases hy:y==n with
    |true=>
     rw[hy]at h
     have:y=n:=eq_of_beq hy
     subst this
     cases h
     exact hc
    |false=>rw[hy]at h;exact ha y d h
   obtain⟨cl,h1,h2,h3,h4⟩:=qy r ((n,c)::fN) (λx hx=>hn x (ao _ hx)) E9
   refine⟨cl,?_,h2,?_,?_⟩
   ·rw[lD]
    simp only[beq_self_eq_true,if_true,e1,pure_bind]
    exact h1
   ·intro x hx hf
    rcases aB.mp hx with rfl|hx
    ·exact h4 n c (by rw[aZ,beq_self_eq_true])
    ·exact h3 x hx hf
   ·intro y d hy
    cases hb:y==n with
    |true=>exact h4 y c (by rw[aZ,hb])
    |false=>exact h4 y d (by rw[aZ,hb];exact hy)
  ·have hb:(k==ba.free)=false:=by simpa using hk
   obtain⟨cl,h1,h2,h3,h4⟩:=qy r fN (λx hx=>hn x (ao _ hx)) ha
   refine⟨cl,?_,h2,?_,h4⟩
   ·rw[lD]
    simp only[hb,cC,if_false,pure_bind]
    exact h1
   ·intro x hx hf
    rcases aB.mp hx with rfl|hx
    ·exact absurd hf hk
    ·exact h3 x hx hf
theorem Gp (n:Nat)(a:aJ)(r:List (aJ×ba))(fN:List (aJ×ah)):cellsFrom n ((a,.cell)::r) fN=cellsFrom (n+1) r ((a,n)::fN):=rfl
theorem Gu {k:ba}(hk:k≠.cell)(n:Nat)(a:aJ)(r:List (aJ×ba))(fN:List (aJ×ah)):cellsFrom n ((a,k)::r) fN=cellsFrom n r fN:=by
 cases k<;>first|rfl|exact absurd rfl hk
def iQ (names:List (aJ×ba)):Nat:=(names.filter λy=>y.2==ba.cell).length
theorem Ks (a:aJ)(r:List (aJ×ba)):iQ ((a,.cell)::r)=iQ r+1:=by unfold iQ;rw[nH (by rfl),aV]
theorem Ph {k:ba}(hk:k≠.cell)(a:aJ)(r:List (aJ×ba)):iQ ((a,k)::r)=iQ r:=by unfold iQ;rw[nG (by simpa using hk)]
theorem Aj:∀(names:List (aJ×ba)) (n:Nat) (fN:List (aJ×ah)) {x:aJ} {c:Nat},(cellsFrom n names fN).lookup x=some c->(n<=c/\c<n+iQ names/\(x,ba.cell)∈names)\/(fN.lookup x=some c/\(x,ba.cell)∉names)
 |[],_,_,_,_,h=>.inr ⟨h,by simp⟩
 |(a,k)::r,n,fN,x,c,h=>by
  by_cases hk:k=.cell
  ·subst hk
   rw[Gp]at h
   rcases Aj r (n+1) _ h with⟨h1,h2,h3⟩|⟨h1,h2⟩
   ·refine .inl ⟨by omega,?_,ao _ h3⟩
    rw[Ks];omega
   ·rw[aZ]at h1
    cases hx:x==a with
    |true=>
     rw[hx]at h1
     cases h1
     refine .inl ⟨aC _,?_,by rw[eq_of_beq hx];exact ai⟩
     rw[Ks];omega
    |false=>
     rw[hx]at h1
     refine .inr ⟨h1,λz=>?_⟩
     rcases aB.mp z with z|z
     ·cases z;simp at hx
     ·exact h2 z
  ·rw[Gu hk]at h
   have hf:=Ph hk a r
   rw[hf]
   rcases Aj r n _ h with⟨h1,h2,h3⟩|⟨h1,h2⟩
   ·exact .inl ⟨h1,h2,ao _ h3⟩
   ·refine .inr ⟨h1,λz=>?_⟩
    rcases aB.mp z with z|z
    ·cases z;exact hk rfl
    ·exact h2 z
theorem KH:∀(names:List (aJ×ba)) (n:Nat) (fN:List (aJ×ah)) {x:aJ},(x,ba.cell)∉names->(cellsFrom n names fN).lookup x=fN.lookup x
 |[],_,_,_,_=>rfl
 |(a,k)::r,n,fN,x,h=>by
  have hr:(x,ba.cell)∉r:=λz=>h (ao _ z)
  by_cases hk:k=.cell
  ·subst hk
   rw[Gp,KH r _ _ hr,aZ]
   cases hx:x==a with
   |true=>exact absurd (by rw[eq_of_beq hx];exact ai) h
   |false=>rfl
  ·rw[Gu hk,KH r _ _ hr]
theorem KI:∀(names:List (aJ×ba)) (n:Nat) (fN:List (aJ×ah)),(∀x y c,fN.lookup x=some c->fN.lookup y=some c->x=y)->(∀x c,fN.lookup x=some c->c<n)->∀x y c,(cellsFrom n names fN).lookup x=some c->(cellsFrom n names fN).lookup y=some c->x=y
 |[],_,_,h,_=>h
 |(a,k)::r,n,fN,h,hb=>by
  by_cases hk:k=.cell
  ·subst hk
   rw[Gp]
   refine KI r (n+1) _ (λx y c e e'=>?_) λx c e=>?_
   ·rw[aZ]at e e'
    cases hx:x==a with
    |true=>
     rw[hx]at e
     cases e
     cases hy:y==a with
     |true=>rw[eq_of_beq hx,eq_of_beq hy]
     |false=>rw[hy]at e';exact absurd (hb _ _ e') (eu _)
    |false=>
     rw[hx]at e
     cases hy:y==a with
     |true=>rw[hy]at e';cases e';exact absurd (hb _ _ e) (eu _)
     |false=>rw[hy]at e';exact h x y c e e'
   ·rw[aZ]at e
    cases hx:x==a with
    |true=>rw[hx]at e;cases e;exact iu _
    |false=>rw[hx]at e;exact eF (hb _ _ e)
  ·rw[Gu hk]
   exact KI r n fN h hb
theorem JV {M:Model}{A:bx}{E:ae->aj->Prop}:∀(names:List (aJ×ba)) (cells:List (aJ×ah)) (s:aj) (Q:List (aJ×ah)->aj->Prop),
    (∀h':aI,(∀b o,s.heap.get? b=some o->h'.get? b=some o)->(∀c,s.heap.objs.size<=c->c<s.heap.objs.size+iQ names->h'.IsCell c none)->Q (cellsFrom s.heap.objs.size names cells) { s with heap:=h' }) ->
    aN M A (forIn names cells λ(x:aJ×ba) (cells:List (aJ×ah))=>if(x.2==ba.cell)=true then do let a ← alloc { cls:=ae.type "cell",data:=pH.cell none };pure (ForInStep.yield ((x.1,a)::cells))else pure (ForInStep.yield cells)) Q E s
  |[],cells,s,Q,h=>by
    have:=h s.heap (λ_ _ e=>e) (λc h1 h2=>by rw[show iQ []=0 from rfl]at h2;omega)
    rw[sW]
    exact aS this
  |(a,k)::r,cells,s,Q,h=>by
    rw[lD]
    by_cases hk:k=.cell
    · subst hk
      simp only[beq_self_eq_true,if_true,bind_assoc,pure_bind]
      refine aq (wpAny_alloc ?_)
      have ih:=JV (M:=M) (A:=A) (E:=E) r ((a,s.heap.objs.size)::cells) { s with heap:=s.heap.push { cls:=ae.type "cell",data:=pH.cell none } } Q (λh' k1 k2=>by
        have hz:(s.heap.push { cls:=ae.type "cell",data:=pH.cell none }).objs.size=s.heap.objs.size+1:=dU _ _
        have:=h h' (λb o e=>k1 b o (aw _ e)) (λc h1 h2=>by
          rw[Ks]at h2
          by_cases hc:c=s.heap.objs.size
          · subst hc
            exact⟨_,k1 _ _ (bB _ rfl),rfl⟩
          · exact k2 c (by show(s.heap.push _).objs.size<=c;rw[hz];omega) (by show c<(s.heap.push _).objs.size+_;rw[hz];omega))
        rw[Gp]at this
        have e:(({ s with heap:=s.heap.push { cls:=ae.type "cell",data:=pH.cell none } }:aj)).heap.objs.size=s.heap.objs.size+1:=hz
        rw[e]
        exact this)
      exact ih
    · have hb:(k==ba.cell)=false:=by simpa using hk
      simp only[hb,cC,if_false,pure_bind]
      refine JV r cells s Q λh' k1 k2=>?_
      have hf:=Ph hk a r
      have:=h h' k1 (by rw[hf];exact k2)
      rw[Gu hk]at this
      exact this
theorem MZ {M:Model}{A:bx}{E:ae->aj->Prop}{s:aj}{scope:fC}{globals:ah}{closure:List (aJ×ah)}{qual:aJ}{code:ae}{out:Env}{builtins:ah}{Q:Env->aj->Prop}
    (h:∀h':aI,(∀b o,s.heap.get? b=some o->h'.get? b=some o)->h'.Ns s.heap.objs.size (λ_=>none)->(∀c,s.heap.objs.size+1<=c->c<s.heap.objs.size+1+iQ scope.names->h'.IsCell c none) ->
      Q (newEnv scope s.heap.objs.size globals (cellsFrom (s.heap.objs.size+1) scope.names closure) qual none code (some out) builtins) { s with heap:=h' }) :
    aN M A (kz scope globals closure [] qual none code (some out) builtins) Q E s:=by
  unfold kz
  refine aq (wpAny_alloc ?_)
  have hz:(s.heap.push { cls:=ae.type "dict",data:=pH.dict #[] }).objs.size=s.heap.objs.size+1:=dU _ _
  refine aq (JV scope.names closure { s with heap:=s.heap.push { cls:=ae.type "dict",data:=pH.dict #[] } } _ λh' k1 k2=>?_)
  have Fs:(({ s with heap:=s.heap.push { cls:=ae.type "dict",data:=pH.dict #[] } }:aj)).heap.objs.size=s.heap.objs.size+1:=hz
  rw[Fs]at k2 ⊢
  dsimp only
  rw[sW]
  refine aq (aS (aS ?_))
  exact h h' (λb o e=>k1 b o (aw _ e)) ((aI.Ns.new s.heap _).keeps k1) k2
def hV (X:Cx)(scope:fC)(cl:List (aJ×ah))(N:List aJ)(C:ah)(fp:List ah)(s₀:aj)(H₀:Hp):Cx :=
 { X with N:=N,s₀:=s₀,H₀:=H₀,env:=oz scope cl C X.env,outer:=X.stack,stack:=X.stack,ex:=fp,fn:=λx=>scope.names.lookup x==some .cell,pn:=[],xe:=λ_ _=>False }
structure ki (X:Cx)(scope:fC)(N:List aJ)(own:Nat)(cap:List Nat):Prop where
 kind:scope.kind=.function
 cells:∀x∈scope.names,x.2=.cell->scope.names.lookup x.1=some .cell
 locs:∀x∈scope.names,x.2=.local->scope.names.lookup x.1=some .local
 free:∀x∈scope.names,x.2=.free->X.env.kindOf x.1=some .cell\/X.env.kindOf x.1=some .free
 len:N.length=own+cap.length
 caps:∀(j:Nat) (x:aJ),N[own+j]?=some x->∃i,cap[j]?=some i/\X.N[i]?=some x/\(scope.names.lookup x=some .free)
theorem qz {α β:Type}[BEq α][LawfulBEq α]{x:α}{y:β}:∀{l:List (α×β)},l.lookup x=some y->(x,y)∈l
 |[],h=>by simp at h
 |(a,b)::r,h=>by
  rw[aZ]at h
  cases hb:x==a with
  |true=>rw[hb]at h;cases h;rw[eq_of_beq hb];exact ai
  |false=>rw[hb]at h;exact ao _ (qz h)
theorem M0 {env:Env}{x:aJ}:∀{names:List (aJ×ba)},names.lookup x=some .free ->
  (names.map λ(n,k)=>if(k==ba.free&&env.scope.kind==.function&&env.kindOf n==some .cell)then(n,ba.cell)else(n,k)).lookup x=some .cell \/
  (names.map λ(n,k)=>if(k==ba.free&&env.scope.kind==.function&&env.kindOf n==some .cell)then(n,ba.cell)else(n,k)).lookup x=some .free
 |[],h=>by simp at h
 |(n,k)::r,h=>by
  rw[aZ]at h
  rw[bn]
  cases hx:x==n with
  |true=>
   rw[hx]at h
   cases h
   by_cases hc:(ba.free==ba.free&&env.scope.kind==.function&&env.kindOf n==some .cell)=true
   ·left
    simp only[hc,if_true,aZ,hx]
   ·right
    simp only[hc,if_false,aZ,hx,cC]
  |false=>
   rw[hx]at h
   rcases M0 (env:=env) h with q|q
   ·left
    by_cases hc:(k==ba.free&&env.scope.kind==.function&&env.kindOf n==some .cell)=true
    ·simp only[hc,if_true,aZ,hx];exact q
    ·simp only[hc,if_false,aZ,hx,cC];exact q
   ·right
    by_cases hc:(k==ba.free&&env.scope.kind==.function&&env.kindOf n==some .cell)=true
    ·simp only[hc,if_true,aZ,hx];exact q
    ·simp only[hc,if_false,aZ,hx,cC];exact q
theorem MU {env:Env}{x:aJ}:∀{names:List (aJ×ba)},((names.map λ(n,k)=>if(k==ba.free&&env.scope.kind==.function&&env.kindOf n==some .cell)then(n,ba.cell)else(n,k)).lookup x=some .cell \/
  (names.map λ(n,k)=>if(k==ba.free&&env.scope.kind==.function&&env.kindOf n==some .cell)then(n,ba.cell)else(n,k)).lookup x=some .free)->(x,ba.free)∈names\/(x,ba.cell)∈names
 |[],h=>by simp at h
 |(n,k)::r,h=>by
  rw[bn]at h
  cases hx:x==n with
  |true=>
   have e:x=n:=eq_of_beq hx
   by_cases hc:(k==ba.free&&env.scope.kind==.function&&env.kindOf n==some .cell)=true
   ·have:k=.free:=by
     rw[bJ,bJ]at hc
     exact eq_of_beq hc.1.1
    left
    rw[e,this];exact ai
   ·simp only[hc,if_false,aZ,hx,cC]at h
    rcases h with h|h
    ·cases h;right;rw[e];exact ai
    ·cases h;left;rw[e];exact ai
  |false=>
   refine(MU (env:=env) (names:=r) ?_).imp (ao _) (ao _)
   by_cases hc:(k==ba.free&&env.scope.kind==.function&&env.kindOf n==some .cell)=true
   ·simpa only[hc,if_true,aZ,hx]using h
   ·simpa only[hc,if_false,aZ,hx,cC]using h
def fO (σ:St)(cap:List Nat):St:=cap.map λi=>(σ[i]?).join
theorem VR {σ:St}{cap:List Nat}{j i:Nat}{v:V}(hj:cap[j]?=some i)(h:(fO σ cap)[j]?=some (some v)):σ[i]?=some (some v):=by
 unfold fO at h
 rw[bK,hj]at h
 cases e:σ[i]? with
 |none=>rw[qR,e]at h;cases h
 |some o=>
  rw[qR,e]at h
  cases o with
  |none=>cases h
  |some u=>exact h
section
variable {X:Cx}{af:List (ah×cN)}{σ:St}{H:Hp}{s:aj}
theorem Nh {scope:fC}{cl:List (aJ×ah)}{N:List aJ}{own:Nat}{cap:List Nat}{fp:List ah}{h₁:aI}{t':Nat}{m₀:aJ->Option ae}(B:ki X scope N own cap)(I:Inv X af σ H s)
    (c1:∀y c,cl.lookup y=some c->X.env.cells.lookup y=some c) (c2:∀x∈scope.names,x.2=.free->∃c,cl.lookup x.1=some c)
    (hf:∀b∈fp,kj X af H b) (LK:∀b∈fp,b<s.heap.objs.size) (oG:h₁.Ns s.heap.objs.size m₀) (k:∀b o,s.heap.get? b=some o->h₁.get? b=some o)
    (rK:∀c,s.heap.objs.size+1<=c->c<s.heap.objs.size+1+iQ scope.names->h₁.IsCell c none) :
    Inv (hV X scope (cellsFrom (s.heap.objs.size+1) scope.names cl) N s.heap.objs.size fp s H) [] (aD own none++fO σ cap) H { s with heap:=h₁,toks:=t' } :=
  have low:∀x c,cl.lookup x=some c->c<s.heap.objs.size:=λx c e=>by
    obtain⟨v,o,q,_⟩:=I.cell x c (c1 x c e)
    exact aF q
  { ok:={
      mod:=I.mod
      kind:=B.kind
      glob:=I.ok.glob
      blt:=I.ok.blt
      above:=aC _
      inj:=KI _ _ _ (λx y c e e'=>I.ok.inj x y c (c1 x c e) (c1 y c e')) λx c e=>eF (low x c e)
      has:=λx hx=>by
        refine my.mp (hU scope.names _ _ ?_)
        rcases MU hx with q|q
        · right
          obtain⟨c,e⟩:=c2 _ q rfl
          rw[e];rfl
        · exact .inl (B.cells _ q rfl)
      cab:=λx c e e'=>by
        have hx:scope.names.lookup x=some .cell:=eq_of_beq e
        rcases Aj _ _ _ e' with⟨h1,_⟩|⟨_,h2⟩
        · exact kO h1
        · exact absurd (qz hx) h2
      hd:=I.ok.hd
      frames:=I.ok.frames
      stk:=.inl rfl
      exf:=λb hb=>⟨aY (LK b hb),λx c e=>by
        rcases Aj _ _ _ e with⟨h1,_⟩|⟨h1,_⟩
        · exactλz=>absurd (LK b hb) (by rw[←z];exact Nat.not_lt.mpr (kO h1))
        · exact(hf b hb).2.2.2.2.1 x c (c1 x c h1)⟩
      bs:=I.bs
      bsz:=bX I.ok.bsz I.sz
      noex:=λb o e hb=>by
        rcases(hf b hb).2.2.2.1 with q|q
        · exact I.ok.noex b o e q
        · exact absurd (aX (aF e) I.ok.bsz) (Nat.not_lt.mpr q)
      exfs:=λb hb hz=>by
        rcases aB.mp (I.stkSub b hz)with q|q
        · exact(hf b hb).2.1 q
        · exact(hf b hb).2.2.1 q
      funs:=I.stack
      frf:=I.stkFree }
    os:=rfl
    bare:=I.bare
    base:=Un.kept k
    loc:=by
      refine⟨m₀,oG,λi x v hN hσ hv=>?_⟩
      by_cases hi:i<own
      · rw[cx (by rw[cU];exact hi),fv,if_pos hi]at hσ
        cases hσ
      · obtain⟨j,rfl⟩:∃j,i=own+j:=⟨i-own,by omega⟩
        obtain⟨i',e1,e2,e3⟩:=B.caps j x hN
        rw[eK (by rw[cU];omega),cU,Nat.add_sub_cancel_left]at hσ
        have Ft:=VR e1 hσ
        have hk:=B.free (x,.free) (qz e3) rfl
        obtain⟨m,hm,hl⟩:=I.loc
        obtain⟨u,ru,hu⟩:=hl i' x v e2 Ft (.inr hk)
        refine⟨u,ru,?_⟩
        rcases hu with⟨q,_⟩|⟨_,c,hc,ic⟩
        · rcases hk with hk|hk
          · rw[hk]at q;cases q
          · rw[hk]at q;cases q
        · obtain⟨c',uN⟩:=c2 (x,.free) (qz e3) rfl
          have ec:=c1 x c' uN
          rw[hc]at ec
          cases ec
          have hn:(x,ba.cell)∉scope.names:=λz=>by
            have:=B.cells _ z rfl
            rw[e3]at this
            cases this
          exact .inr ⟨M0 e3,c,by show(cellsFrom _ _ _).lookup x=_;rw[KH _ _ _ hn];exact uN,ic.keeps k⟩
    cell:=λx c e=>by
      rcases Aj _ _ _ e with⟨h1,h2,_⟩|⟨h1,_⟩
      · exact⟨none,rK c h1 h2⟩
      · obtain⟨v,q⟩:=I.cell x c (c1 x c h1)
        exact⟨v,q.keeps k⟩
    free:=I.hok.fresh (aC _)
    freeC:=λx c e=>by
      rcases Aj _ _ _ e with⟨h1,_⟩|⟨h1,_⟩
      · exact I.hok.fresh (kO h1)
      · exact I.freeC x c (c1 x c h1)
    pin:=λp hp=>(nomatch hp)
    hok:=I.hok.kept k
    len:=by
      show(aD own none++fO σ cap).length=N.length
      rw[bA,cU,B.len]
      unfold fO
      rw[bi] }
end
def t8:TT:=λ_ H Q=>Q true H
def uH (X:Cx)(ifs:List Expr)(t:TT):Prop :=
 ∀(af:List (ah×cN)) (s:aj) (σ:St) (H:Hp) (Q:Bool->Hp->Prop),Inv X af σ H s->t σ H Q ->
  aN (aG X.prog X.w) X.A (forIn ifs true λc r=>if r=true then do let ok ← qT c X.env (br c X.env);pure (ForInStep.yield ok)else pure (ForInStep.yield r)) (TP X af σ Q) X.xe s
theorem Yh {X:Cx}:uH X [] t8:=λ_ _ _ H _ I h=>wpAny_tests_nil ⟨H,I,h⟩
theorem Yi {X:Cx}{c:Expr}{t:TT}(h:PT X c t):uH X [c] t:=λaf s σ H Q I q=>wpAny_tests_one (h af s σ H Q I q)
def pU (wi:TI)(own:Nat)(cap:List Nat)(g:TG)(tt:TT)(te:TE):TE:=λσ H Q=>wi σ H λJ H1=>∀D,H1 D=none->∃W:Nat->Nat->List V->Hp->Prop,(∃m,W 0 m [] (upd H1 D (.lst []))) /\
 ∀i m ys H2,W i m ys H2->H2 D=some (.lst ys)/\((J.stop i H2/\Q (.ref D) H2)\/(J.go i H2/\ys.length<sizeLine/\∀x H3,J.yld i H2 x H3->g x (aD own none++fO σ cap) H3 λσ2 H4=>tt σ2 H4 λb H5=>
  if b=true then te σ2 H5 λy H6=>H6 D=some (.lst ys)/\∃m',m'<m/\W (i+1) m' (ys++[y]) (upd H6 D (.lst (ys++[y])))else∃m',m'<m/\W (i+1) m' ys H5))
def fP (own:Nat)(g:TG):Prop:=∀v σ H Q,g v σ H Q->g v σ H λσ' H'=>Q σ' H'/\σ'.length = σ.length/\∀i,own<=i->σ'[i]? = σ[i]?
theorem VS (i own:Nat)(h:i<own):fP own (pN i):=λv σ H Q q=>⟨q,by rw[sD],λj hj=>by rw[dL (by omega)]⟩
theorem Yj {X:Cx}{iX iter tg:Expr}{ifs:List Expr}{scope:fC}{pos:cE}{N:List aJ}{own:Nat}{cap:List Nat}{wi:TI}{g:TG}{tt:TT}{te:TE}(B:ki X scope N own cap)(hc:X.calm=true)(hi:PI X tg iter wi)
    (kg:fP own g)
    (hg:∀cl C fp s₀ H₀,PG (hV X scope cl N C fp s₀ H₀) tg g) (ht:∀cl C fp s₀ H₀,uH (hV X scope cl N C fp s₀ H₀) ifs tt) (he:∀cl C fp s₀ H₀,PE (hV X scope cl N C fp s₀ H₀) iX te)
    (hs:∀x,cR iter X.env x=pure x:=by intro _;rfl):PE X (.ListComp iX [⟨tg,iter,ifs,0⟩] scope pos) (pU wi own cap g tt te):=by
  intro af s σ H Q I h
  obtain⟨cl,Ih,c1,c2,_⟩:=qy (env:=X.env) scope.names [] (λx hx hf=>I.ok.has x.1 (B.free x hx hf)) (λy c e=>by simp at e)
  have rJ:oy scope X.env=pure cl:=by
    have e:oy scope X.env=(forIn scope.names ([]:List (aJ×ah)) (λ(x:aJ×ba) (cs:List (aJ×ah))=>if(x.2==ba.free)=true then do let a ← cellOf X.env x.1;pure (ForInStep.yield ((x.1,a)::cs))else pure (ForInStep.yield cs)) >>= pure:ng (List (aJ×ah))):=rfl
    rw[e,Ih]
    rfl
  rw[eval_ListComp]
  refine wpAny_comprehension_free (use:=none) rfl hs rJ B.kind B.locs (cW (hi af s σ H _ I h) λv s1 h1=>cW h1 λFw s2 h2=>?_)
  obtain⟨it,fp,tn,J,H2,e,I2,T,qM,f2,W0⟩:=h2
  subst e
  obtain⟨W,⟨m0,w0⟩,ce⟩:=W0 s2.heap.objs.size (I2.hok.fresh (aC _))
  refine iB ?_
  have I3:Inv X af σ (upd H2 s2.heap.objs.size (.lst [])) { s2 with heap:=s2.heap.push { cls:=.type "list",data:=.seq ([]:List ae).toArray } }:=I2.lnew .nil (d9 _)
  generalize Co:({ s2 with heap:=s2.heap.push { cls:=.type "list",data:=.seq ([]:List ae).toArray } }:aj)=s3 at I3
  have k3:∀b o,s2.heap.get? b=some o->s3.heap.get? b=some o:=λb o e=>by rw[←Co];exact aw _ e
  have z3:s3.heap.objs.size=s2.heap.objs.size+1:=by rw[←Co];exact dU _ _
  have pj:∀b∈fp,b<s2.heap.objs.size:=λb hb=>by
    obtain⟨o,e,_⟩:=T.obj _ _ qM b hb
    exact aF e
  have kB:∀b∈fp,b≠s2.heap.objs.size:=λb hb=>aY (pj b hb)
  have f3:∀b∈fp,kj X af (upd H2 s2.heap.objs.size (.lst [])) b:=λb hb=>⟨by rw[zh (kB b hb)];exact(f2 b hb).1,(f2 b hb).2⟩
  have FH:tn 0 s3.heap:=T.keep _ _ _ qM λb _ o e=>k3 b o e
  show aN _ _ (kz scope X.env.globals cl [] X.env.qual none .none (some X.env)) _ _ _
  refine MZ λh₁ kk xV xN=>?_
  have IB:=Nh (t':=s3.toks) B I3 c1 c2 f3 (λb hb=>by rw[z3];exact eF (pj b hb)) xV kk xN
  generalize cellsFrom (s3.heap.objs.size+1) scope.names cl=cl at IB ⊢
  generalize IQ:({ s3 with heap:=h₁,toks:=s3.toks }:aj)=s4 at IB
  have Ee:tn 0 s4.heap:=T.keep _ _ _ FH λb _ o e=>by rw[←IQ];exact kk b o e
  show eW (aG X.prog X.w) X.A (.compStart (.ListComp iX [⟨tg,iter,ifs,0⟩] scope pos) 0 (.ref it) (.ref s2.heap.objs.size) (oz scope cl s3.heap.objs.size X.env))
      (oA (aG X.prog X.w) X.A X.xe none (EP X af σ Q) (.ref s2.heap.objs.size) s3.heap.objs.size) s4
  have lZ:∀{H':Hp},(∀b∈fp,H' b=none)->∀b∈fp,kj (hV X scope cl N s3.heap.objs.size fp s3 (upd H2 s2.heap.objs.size (.lst []))) [] H' b:=λhn b hb=>
    ⟨hn b hb,aY (by show b<s3.heap.objs.size;rw[z3];exact eF (pj b hb)),IB.ok.exfs b hb,.inl hb,λx c e=>(IB.ok.exf b hb).2 x c e,λp hp=>(nomatch hp)⟩
  have loop:eW (aG X.prog X.w) X.A (.compLoop (.ListComp iX [⟨tg,iter,ifs,0⟩] scope pos) 0 (.ref it) (.ref s2.heap.objs.size) (oz scope cl s3.heap.objs.size X.env))
      (oA (aG X.prog X.w) X.A X.xe none (EP X af σ Q) (.ref s2.heap.objs.size) s3.heap.objs.size) s4:=by
    refine MY (λn s'=>∃i ys H',Inv (hV X scope cl N s3.heap.objs.size fp s3 (upd H2 s2.heap.objs.size (.lst []))) [] (aD own none++fO σ cap) H' s'/\tn i s'.heap/\(∀b∈fp,H' b=none)/\W i n ys H') ?_ m0
      ⟨0,[],_,IB,Ee,λb hb=>(f3 b hb).1,w0⟩
    rintro n s5 ⟨i,ys,H5,I5,t6,xE,w5⟩
    obtain⟨hD,zR⟩:=ce i n ys H5 w5
    rcases zR with⟨stop,qn⟩|⟨go,lT,step⟩
    · refine cW (T.done (hV X scope cl N s3.heap.objs.size fp s3 (upd H2 s2.heap.objs.size (.lst []))) rfl rfl rfl hc i [] s5 _ H5 (λ_ _=>False) I5 (lZ xE) t6 stop) λr s6 dh=>?_
      obtain⟨hr,I6⟩:=dh
      subst hr
      obtain⟨m,hm,_⟩:=id I6.loc
      refine⟨m,hm,λh' sb=>⟨.ref s2.heap.objs.size,H5,?_,rfl,qn⟩⟩
      have U:=I6.base
      have nC:∀b o,s3.heap.get? b=some o->b≠s3.heap.objs.size:=λb o e=>aY (aF e)
      have nT:∀b o,H5 b=some o->b≠s3.heap.objs.size:=λb o e z=>by
        have q:H5 s3.heap.objs.size=none:=I6.free
        rw[z,q]at e
        cases e
      refine I3.call' (ch:=fp) I6.os ?_ (λa o e=>(I6.hok a o e).stay (λb u hb q=>sb.extBut b u ?_ q) (λ_ q=>q) λ_ _ q=>q) I6.bare (λb hb=>⟨(f3 b hb).2.2.2.1,(f3 b hb).2.1,(f3 b hb).2.2.2.2.1,(f3 b hb).2.2.2.2.2⟩)
      · exact{
          keep:=λb o e z hb he=>sb.extBut b o (nC b o e) (U.keep b o e z hb he)
          slot:=λb o e z hb he=>by
            obtain⟨sl,q⟩:=U.slot b o e z hb he
            exact⟨sl,sb.extBut b _ (nC b o e) q⟩
          free:=U.free
          there:=λb o e he=>by
            obtain⟨o',q⟩:=U.there b o e he
            exact⟨o',sb.extBut b o' (nC b o e) q⟩
          tups:=U.tups
          frzs:=U.frzs
          tbls:=U.tbls }
      · rcases hb with rfl|hb
        · exact nT _ _ e
        · exact nT _ _ hb
    · refine cW (T.item (hV X scope cl N s3.heap.objs.size fp s3 (upd H2 s2.heap.objs.size (.lst []))) rfl rfl rfl hc i [] s5 _ H5 (λ_ _=>False) I5 (lZ xE) t6 go) λr s6 dh=>?_
      obtain⟨u,hr,h6⟩:=dh
      subst hr
      refine cW h6 λ_ s7 dh=>?_
      obtain⟨x,H7,I7,r7,y7,yO,HG⟩:=dh
      have GJ:=I7.pinned (lZ HG) (T.obj _ _ yO)
      refine cW (hg cl s3.heap.objs.size fp s3 _ _ s7 _ H7 x u _ GJ r7 (kg _ _ _ _ (step x H7 y7))) λ_ s8 dh=>?_
      obtain⟨σ8,H8,I8,q8,l8,p8⟩:=dh
      have back:∀{H9:Hp} {s9:aj},Inv (hV X scope cl N s3.heap.objs.size fp s3 (upd H2 s2.heap.objs.size (.lst []))) ([]++kL fp s7.heap) σ8 H9 s9 ->
          Inv (hV X scope cl N s3.heap.objs.size fp s3 (upd H2 s2.heap.objs.size (.lst []))) [] (aD own none++fO σ cap) H9 s9/\tn (i+1) s9.heap/\∀b∈fp,H9 b=none:=λ{H9 s9} I9=>by
        refine⟨(I9.unpinned).weak l8.symm (λj v e=>?_),T.keep _ _ _ yO λb hb o e=>(I9.pin (b,o) (az _ (az _ (uz hb e)))).1,λb hb=>?_⟩
        · by_cases hj:j<own
          · rw[cx (by rw[cU];exact hj),fv,if_pos hj]at e
            cases e
          · rw[p8 j (by omega)];exact e
        · obtain⟨o,e,d⟩:=T.obj _ _ yO b hb
          exact(I9.pin (b,o) (az _ (az _ (uz hb e)))).2.1
      refine cW (ht cl s3.heap.objs.size fp s3 _ _ s8 σ8 H8 _ I8 q8) λok s9 dh=>?_
      obtain⟨H9,I9,q9⟩:=dh
      cases ok with
      |false=>
        rw[if_neg aH]
        rw[if_neg aH]at q9
        obtain⟨m',xS,w'⟩:=q9
        obtain⟨b1,b2,b3⟩:=back I9
        exact⟨m',xS,i+1,ys,H9,b1,b2,b3,w'⟩
      |true=>
        rw[if_pos rfl]
        rw[if_pos rfl]at q9
        refine cW (he cl s3.heap.objs.size fp s3 _ _ s9 σ8 H9 _ I9 q9) λuy Jw dh=>?_
        obtain⟨y,Ao,GH,r10,xG,m',xS,w'⟩:=dh
        refine cW (FV _ Jw σ8 Ao (.ref s2.heap.objs.size) [y] (.ref s2.heap.objs.size) [uy] (λ_ Ap=>Ap=upd Ao s2.heap.objs.size (.lst (ys++[y]))) GH rfl (.cons r10 .nil) ⟨_,ys,y,rfl,rfl,xG,lT,rfl⟩) λ_ Tv dh=>?_
        obtain⟨_,Ap,GI,_,He⟩:=dh
        subst He
        obtain⟨b1,b2,b3⟩:=back GI
        exact⟨m',xS,i+1,ys++[y],_,b1,b2,b3,w'⟩
  exact codeAny_compStart_list loop (T.self X.A 0 s4 _ _ Ee loop)
end L2
namespace L2
open PySem PySem.Spec PyProof.Rows
section
variable {X:Cx}{af:List (ah×cN)}{σ:St}{H:Hp}{s:aj}{h':aI}
theorem Inv.turnLay {ch:List ah}{a:ah}{o:HO}{t':Nat}(I:Inv X af σ H s)(lA:∀b∈ch,kj X af H b)(k:∀b o,b∉ch->s.heap.get? b=some o->h'.get? b=some o)(hp:s.heap.objs.size<=a)
  (new:dF X.prog X.w (upd H a o) h' a o):Inv X af σ (upd H a o) { s with heap:=h',toks:=t' }:=by
 have hn:H a=none:=I.hok.fresh hp
 have C9:∀b u,H b=some u->b∉ch:=λb u e z=>by rw[(lA b z).1]at e;cases e
 refine I.step (g':=s.gens) (d':=s.drawn) (ch:=ch) (λb hb=>⟨(lA b hb).2.2.2.1,(lA b hb).2.1,(lA b hb).2.2.2.2.1,(lA b hb).2.2.2.2.2⟩) (λb o _ _ hc e _=>k b o hc e) (λb o _ _ hc e _=>⟨o.slots,k b o hc e⟩)
  (λb o _ e n=>by rw[zh (aY (aX (aF e) hp))];exact n) (λb o hc e=>⟨o,k b o hc e⟩) (λb xs q=>by rw[zh (zj q hn)];exact q) (λb u xs q=>by rw[zh (zj q hn)];exact q)
  (λb ps q=>⟨#[],by rw[zh (zj q hn),q];simp⟩) (λm hm=>?_) (λb u e=>?_) I.bare
 ·obtain⟨o',es,ep,ho,r⟩:=hm
  exact⟨o',es,ep,k _ o' (λz=>(lA _ z).2.1 rfl) ho,r⟩
 ·by_cases hb:b=a
  ·subst hb
   rw[zk]at e
   cases e
   exact new
  ·rw[zh hb]at e
   refine(I.hok b u e).stay (λc v hc q=>k c v ?_ q) (λc q=>by rw[zh (zj q hn)];exact q) λc xs q=>by rw[zh (zj q hn)];exact q
   rcases hc with z|z
   ·rw[z];exact C9 b u e
   ·exact C9 c _ z
theorem Inv.turnedL {ch:List ah}{t':Nat}(I:Inv X af σ H s)(lA:∀b∈ch,kj X af H b)(k:∀b o,b∉ch->s.heap.get? b=some o->h'.get? b=some o):Inv X af σ H { s with heap:=h',toks:=t' }:=by
 have C9:∀b u,H b=some u->b∉ch:=λb u e z=>by rw[(lA b z).1]at e;cases e
 refine I.step (g':=s.gens) (d':=s.drawn) (ch:=ch) (λb hb=>⟨(lA b hb).2.2.2.1,(lA b hb).2.1,(lA b hb).2.2.2.2.1,(lA b hb).2.2.2.2.2⟩) (λb o _ _ hc e _=>k b o hc e) (λb o _ _ hc e _=>⟨o.slots,k b o hc e⟩)
  (λ_ _ _ _ n=>n) (λb o hc e=>⟨o,k b o hc e⟩) (λ_ _ e=>e) (λ_ _ _ e=>e) (λb ps e=>⟨#[],by rw[e];simp⟩) (λm hm=>?_) (λb u e=>?_) I.bare
 ·obtain⟨o',es,ep,ho,r⟩:=hm
  exact⟨o',es,ep,k _ o' (λz=>(lA _ z).2.1 rfl) ho,r⟩
 ·refine(I.hok b u e).stay (λc v hc q=>k c v ?_ q) (λ_ q=>q) λ_ _ q=>q
  rcases hc with z|z
  ·rw[z];exact C9 b u e
  ·exact C9 c _ z
end
def GL (K:aa)(a:ah):It :=
 ⟨λi H=>∃xs x,eE K H a xs/\xs[i]?=some x,λi H x H'=>∃p y,H p=none/\x=.ref p/\H'=upd H p (.tup [.int i,y])/\∀xs,eE K H a xs->xs[i]?=some y,λi H=>∃xs,eE K H a xs/\xs.length<=i⟩
theorem Wb {P:bg}{w:bN}{K:aa}{kJ:List Expr}{kt:Nat}{pt:cE}(a e it:ah)(LH:e≠it) :
    Turn P w K (.Tuple kJ kt pt) (GL K a) [e,it] e (λi h=>(∃old,IsEnum h e it i old)/\h.IsListIter it a i) where
  mem:=by simp
  obj:=λi h st b hb=>by
    obtain⟨⟨old,he⟩,o,e1,c,d⟩:=st
    rcases aB.mp hb with rfl|hb
    · exact⟨_,he,λv z=>by cases z⟩
    · have e2:b=it:=by simpa using hb
      subst e2
      exact⟨o,e1,λv z=>by rw[d]at z;cases z⟩
  keep:=λi h h' st k=>by
    obtain⟨⟨old,he⟩,hit⟩:=st
    exact⟨⟨old,k e (by simp) _ he⟩,hit.at λo x=>k it (by simp) o x⟩
  item:=by
    intro X hP hw hK hc i af s σ H E I hf st hg
    subst hP hw hK
    obtain⟨xs,x,hq,hx⟩:=hg
    obtain⟨cj,rv,p,hz⟩:=I.list hq
    obtain⟨u,hu,ru⟩:=rv.get hx
    obtain⟨⟨old,he⟩,hit⟩:=st
    refine wpAny_pyNext_enum_item he hit p.isList (x:=u) (by simpa using hu) LH λh1 ho IE hT hsz hk=>?_
    refine⟨_,rfl,wpAny_letOwnedTupleGo_enum (s:={ s with heap:=h1,toks:=s.toks+1 }) ho λh2 Ip sP=>?_⟩
    have iX:e<s.heap.objs.size:=aF he
    have Jf:it<s.heap.objs.size:=by obtain⟨_,q,_⟩:=hit;exact aF q
    have HV:h2.get? s.heap.objs.size=some { cls:=.type "tuple",data:=.seq #[.int i s.toks,u] }:=(sP.2 _ (iF iX)).trans hT
    have xP:H s.heap.objs.size=none:=I.hok.fresh (aC _)
    have I1:Inv X af σ (upd H s.heap.objs.size (.tup [.int i,x])) { s with heap:=h2,toks:=s.toks+1 }:=by
      refine I.turnLay (ch:=[e,it]) hf (λb o hb q=>?_) (aC _) ⟨by show 2<=sizeLine;decide,[.int i s.toks,u],.cons ⟨_,rfl⟩ (.cons ru .nil),_,HV,rfl,_,rfl⟩
      have E7:b≠e:=λz=>hb (by simp[z])
      have HQ:b≠it:=λz=>hb (by simp[z])
      exact(sP.2 b E7).trans (hk b o E7 HQ q)
    refine⟨.ref s.heap.objs.size,_,I1,rfl,⟨_,x,xP,rfl,rfl,λys hy=>by rw[I.list_inj hy hq];exact hx⟩,⟨⟨u,by simpa using Ip⟩,IE.at λo q=>(sP.2 it LH.symm).trans q⟩,λb hb=>?_⟩
    rw[zh ?_]
    · exact(hf b hb).1
    · rcases aB.mp hb with rfl|hb
      · exact aY iX
      · have e2:b=it:=by simpa using hb
        rw[e2];exact aY Jf
  done:=by
    intro X hP hw hK hc i af s σ H E I hf st hg
    subst hP hw hK
    obtain⟨xs,hq,hx⟩:=hg
    obtain⟨cj,rv,p,hz⟩:=I.list hq
    obtain⟨⟨old,he⟩,hit⟩:=st
    have hl:=rv.length
    exact wpAny_pyNext_enum_end (I.ok.hd hc) he hit p.isList (by simp;omega) λh' eb=>⟨rfl,I.turnedL (ch:=[e,it]) (t':=s.toks) hf λb o hb q=>eb b o (λz=>hb (by simp[z])) q⟩
  self:=λ_ _ _ _ _ st h=>wpAny_pyIter_enum st.1.choose_spec h
section
variable {X:Cx}{kJ:List Expr}{kt:Nat}{pt:cE}
def Cr (K:aa)(ta:TA):TI:=λσ H R=>ta σ H λvs H1=>∃a,vs=[.ref a]/\(∃xs,eE K H1 a xs)/\R (GL K a) H1
theorem Oz {l:Expr}{ta:TA}{p pos:cE}(hg:Gl X "enumerate")(hm:X.mg "enumerate"=none)(ha:PA X [l] ta)(hs:ak [l] X.env=[(false,br l X.env)]:=by rfl) :
  PI X (.Tuple kJ kt pt) (.Call (.Name "enumerate" p) [l] [] pos) (Cr X.K ta):=by
 intro af s σ H R I h
 refine Call_ (sQ I hg hm PyProof.Rows.boot_enumerate (bT (cW (ha pos af s σ H _ I h) λus s1 ⟨vs,H1,I1,r1,q1⟩=>?_) hs rfl))
 obtain⟨a,e,⟨xs,hq⟩,q⟩:=q1
 subst e
 cases r1 with
 |cons r rr=>
  cases rr
  cases r
  obtain⟨cj,rv,pl,hz⟩:=I1.list hq
  refine call_enumerate_list pl.isList λh' he hit hsz hk=>?_
  refine wpAny_pyIter_enum (s:={ s1 with heap:=h' }) he ?_
  refine⟨s1.heap.objs.size+1,[s1.heap.objs.size+1,s1.heap.objs.size],_,_,H1,rfl,I1.kept (t':=s1.toks) hk,Wb a _ _ (Nat.succ_ne_self _),⟨⟨_,he⟩,hit⟩,λb hb=>?_,q⟩
  rcases aB.mp hb with rfl|hb
  ·exact I1.fpOk (jG _) (I1.hok.fresh (jG _))
  ·have e:b=s1.heap.objs.size:=by simpa using hb
   subst e
   exact I1.fpOk (aC _) (I1.hok.fresh (aC _))
end
end L2
namespace L3
open PySem PySem.Spec L2
open PyProof.Rows hiding St
inductive D where
 |non|bl (b:Bool)|int (i:Int)|str (x:aJ)
 |lst (xs:List D)|tup (xs:List D)|dK (ks:List eO) (ds:List D)|dT (ks:List (List eO)) (ds:List D)
 |obj (c:Nat) (ns:List aJ) (ds:List D)
 |exc (c:Nat) (ns:List aJ) (ds:List D)
 deriving Inhabited
inductive Pr (R:D->V->Prop):List D->List V->Prop
 |nil:Pr R [] []
 |cons {d:D} {v:V} {ds:List D} {vs:List V}:R d v->Pr R ds vs->Pr R (d::ds) (v::vs)
theorem Pr.mono {R R':D->V->Prop}(f:∀d v,R d v->R' d v){ds:List D}{vs:List V}(h:Pr R ds vs):Pr R' ds vs:=by
 induction h with
 |nil=>exact .nil
 |cons h t ih=>exact .cons (f _ _ h) ih
theorem Pr.length {R:D->V->Prop}{ds:List D}{vs:List V}(h:Pr R ds vs):ds.length=vs.length:=by
 induction h with
 |nil=>rfl
 |cons h t ih=>rw[aV,aV,ih]
theorem Pr.get' {R:D->V->Prop}{ds:List D}{vs:List V}{i:Nat}{d:D}(h:Pr R ds vs)(e:ds[i]?=some d):∃v,vs[i]?=some v/\R d v:=by
 induction h generalizing i with
 |nil=>cases e
 |cons h t ih=>
  cases i with
  |zero=>cases e;exact⟨_,rfl,h⟩
  |succ i=>exact ih e
theorem Pr.append {R:D->V->Prop}{ds es:List D}{vs us:List V}(h:Pr R ds vs)(s:Pr R es us):Pr R (ds++es) (vs++us):=by
 induction h with
 |nil=>exact s
 |cons h t ih=>exact .cons h ih
theorem Pr.take {R:D->V->Prop}{ds:List D}{vs:List V}(n:Nat)(h:Pr R ds vs):Pr R (ds.take n) (vs.take n):=by
 induction h generalizing n with
 |nil=>cases n<;>exact .nil
 |cons h t ih=>cases n with
  |zero=>exact .nil
  |succ n=>exact .cons h (ih n)
theorem Pr.drop {R:D->V->Prop}{ds:List D}{vs:List V}(n:Nat)(h:Pr R ds vs):Pr R (ds.drop n) (vs.drop n):=by
 induction h generalizing n with
 |nil=>cases n<;>exact .nil
 |cons h t ih=>cases n with
  |zero=>exact .cons h t
  |succ n=>exact ih n
theorem Pr.rep {R:D->V->Prop}{ds:List D}{vs:List V}(h:Pr R ds vs)(k:Nat):Pr R (aD k ds).flatten (aD k vs).flatten:=by
 induction k with
 |zero=>exact .nil
 |succ k ih=>rw[cz,dJ,cz,dJ];exact h.append ih
mutual
inductive Dt (K:aa)(ct:Nat->ah)(F:Hp):D->V->Prop
 |non:Dt K ct F .non .non
 |bl (b:Bool):Dt K ct F (.bl b) (.bl b)
 |int (i:Int):Dt K ct F (.int i) (.int i)
 |str (x:aJ):Dt K ct F (.str x) (.str x)
 |lst {a:ah} {vs:List V} {ds:List D}:eE K F a vs->Dts K ct F ds vs->Dt K ct F (.lst ds) (.ref a)
 |tup {a:ah} {vs:List V} {ds:List D}:F a=some (.tup vs)->Dts K ct F ds vs->Dt K ct F (.tup ds) (.ref a)
 |dK {a:ah} {ks:List eO} {vs:List V} {ds:List D}:F a=some (.dK (ks.zip vs))->ks.length=vs.length->Dts K ct F ds vs->Dt K ct F (.dK ks ds) (.ref a)
 |dT {a:ah} {ks:List (List eO)} {vs:List V} {ds:List D}:F a=some (.dT (ks.zip vs))->ks.length=vs.length->Dts K ct F ds vs->Dt K ct F (.dT ks ds) (.ref a)
 |obj {a dx:ah} {c:Nat} {ns:List aJ} {vs:List V} {ds:List D}:F a=some (.ins (ct c) dx (ns.zip vs))->ns.length=vs.length->Dts K ct F ds vs->Dt K ct F (.obj c ns ds) (.ref a)
 |exc0 {a:ah} {c:Nat} {tb:Option ah}:F a=some (li a (ct c) none tb)->Dt K ct F (.exc c [] []) (.ref a)
 |exc {a dx:ah} {c:Nat} {tb:Option ah} {ns:List aJ} {vs:List V} {ds:List D}:F a=some (li a (ct c) (some dx) tb)->F dx=some (.xd (ns.zip vs))->ns.length=vs.length->Dts K ct F ds vs->Dt K ct F (.exc c ns ds) (.ref a)
inductive Dts (K:aa)(ct:Nat->ah)(F:Hp):List D->List V->Prop
 |nil:Dts K ct F [] []
 |cons {d:D} {v:V} {ds:List D} {vs:List V}:Dt K ct F d v->Dts K ct F ds vs->Dts K ct F (d::ds) (v::vs)
end
section
variable {K:aa}{ct:Nat->ah}{F F' G G' H H' B B':Hp}
theorem Dts.pr {ds:List D}{vs:List V}(h:Dts K ct F ds vs):Pr (Dt K ct F) ds vs:=by
 induction ds generalizing vs with
 |nil=>cases h;exact .nil
 |cons d ds ih=>cases h with|cons h t=>exact .cons h (ih t)
theorem Dts.of {ds:List D}{vs:List V}(h:Pr (Dt K ct F) ds vs):Dts K ct F ds vs:=by
 induction h with
 |nil=>exact .nil
 |cons h t ih=>exact .cons h ih
theorem Dt.mono (s:bI F F'){d:D}{v:V}(h:Dt K ct F d v):Dt K ct F' d v :=
 Dt.rec (motive_1:=λd v _=>Dt K ct F' d v) (motive_2:=λd v _=>Dts K ct F' d v) .non .bl .int .str (λh _ t=>.lst (s.seq h) t) (λh _ t=>.tup (s _ _ h) t) (λh l _ t=>.dK (s _ _ h) l t) (λh l _ t=>.dT (s _ _ h) l t) (λh l _ t=>.obj (s _ _ h) l t) (λh=>.exc0 (s _ _ h)) (λh h' l _ t=>.exc (s _ _ h) (s _ _ h') l t) .nil (λ_ _ h t=>.cons h t) h
theorem Dts.mono (s:bI F F'){ds:List D}{vs:List V}(h:Dts K ct F ds vs):Dts K ct F' ds vs:=Dts.of (h.pr.mono λ_ _ q=>q.mono s)
end
def D.sc:D->Bool
 |.non=>true|.bl _=>true|.int _=>true|.str _=>true|_=>false
inductive zF (K:aa)(ct:Nat->ah)(F G:Hp)(R:D->V->Prop):D->V->Prop
 |lst {a:ah} {vs:List V} {ds:List D}:G a=some (.lst vs)->Pr R ds vs->zF K ct F G R (.lst ds) (.ref a)
 |tup {a:ah} {vs:List V} {ds:List D}:F a=some (.tup vs)->Pr R ds vs->zF K ct F G R (.tup ds) (.ref a)
 |dK {a:ah} {ks:List eO} {vs:List V} {ds:List D}:G a=some (.dK (ks.zip vs))->ks.length=vs.length->Pr R ds vs->zF K ct F G R (.dK ks ds) (.ref a)
 |dT {a:ah} {ks:List (List eO)} {vs:List V} {ds:List D}:G a=some (.dT (ks.zip vs))->ks.length=vs.length->Pr R ds vs->zF K ct F G R (.dT ks ds) (.ref a)
 |obj {a dx:ah} {c:Nat} {ns:List aJ} {vs:List V} {ds:List D}:G a=some (.ins (ct c) dx (ns.zip vs))->ns.length=vs.length->Pr R ds vs->zF K ct F G R (.obj c ns ds) (.ref a)
def Al (K:aa)(ct:Nat->ah)(F G:Hp):Nat->D->V->Prop
 |0,d,v=>Dt K ct F d v
 |n+1,d,v=>Dt K ct F d v\/zF K ct F G (Al K ct F G n) d v
inductive eT (R:D->V->List ah->Prop):List D->List V->List ah->Prop
 |nil:eT R [] [] []
 |cons {d:D} {v:V} {ds:List D} {vs:List V} {f g:List ah}:R d v f->eT R ds vs g->eT R (d::ds) (v::vs) (f++g)
inductive sL (K:aa)(ct:Nat->ah)(F H:Hp)(R:D->V->List ah->Prop):D->V->List ah->Prop
 |lst {a:ah} {vs:List V} {ds:List D} {fp:List ah}:F a=none->H a=some (.lst vs)->eT R ds vs fp->sL K ct F H R (.lst ds) (.ref a) (a::fp)
 |tup {a:ah} {vs:List V} {ds:List D} {fp:List ah}:F a=some (.tup vs)->eT R ds vs fp->sL K ct F H R (.tup ds) (.ref a) fp
 |dK {a:ah} {ks:List eO} {vs:List V} {ds:List D} {fp:List ah}:F a=none->H a=some (.dK (ks.zip vs))->ks.length=vs.length->eT R ds vs fp->sL K ct F H R (.dK ks ds) (.ref a) (a::fp)
 |dT {a:ah} {ks:List (List eO)} {vs:List V} {ds:List D} {fp:List ah}:F a=none->H a=some (.dT (ks.zip vs))->ks.length=vs.length->eT R ds vs fp->sL K ct F H R (.dT ks ds) (.ref a) (a::fp)
 |obj {a dx:ah} {c:Nat} {ns:List aJ} {vs:List V} {ds:List D} {fp:List ah}:F a=none->H a=some (.ins (ct c) dx (ns.zip vs))->ns.length=vs.length->eT R ds vs fp->sL K ct F H R (.obj c ns ds) (.ref a) (a::fp)
def Ow (K:aa)(ct:Nat->ah)(F H:Hp):Nat->D->V->List ah->Prop
 |0,d,v,fp=>Dt K ct F d v/\fp=[]
 |n+1,d,v,fp=>(d.sc=true/\Dt K ct F d v/\fp=[])\/sL K ct F H (Ow K ct F H n) d v fp
structure eS (F H F' H':Hp):Prop where
 ff:bI F F'
 hh:bI H H'
 fh:bI F' H'
 nf:∀a o,H a=some o->F a=none->F' a=none
theorem eS.refl {F H:Hp}(h:bI F H):eS F H F H:=⟨.refl _,.refl _,h,λ_ _ _ h=>h⟩
theorem eS.trans {F H F1 H1 F2 H2:Hp}(a:eS F H F1 H1)(b:eS F1 H1 F2 H2):eS F H F2 H2 :=
 ⟨a.ff.trans b.ff,a.hh.trans b.hh,b.fh,λc o h n=>b.nf c o (a.hh _ _ h) (a.nf c o h n)⟩
theorem eS.newO {F H:Hp}{p:ah}(s:bI F H)(h:H p=none)(o:HO):eS F H F (upd H p o) :=
 ⟨.refl _,uf h o,s.trans (uf h o),λ_ _ _ h=>h⟩
theorem eS.newS {F H:Hp}{p:ah}(s:bI F H)(h:H p=none)(o:HO):eS F H (upd F p o) (upd H p o) :=
  ⟨uf (s.free h) o,uf h o,λb u q=>by
    by_cases e:b=p
    · subst e;rw[zk]at q ⊢;exact q
    · rw[zh e]at q ⊢;exact s _ _ q,
   λb u q n=>by rw[zh (zj q h)];exact n⟩
section
variable {K:aa}{ct:Nat->ah}{F F' G G' H H' B B':Hp}
theorem Al.mono (sF:bI F F')(sG:bI G G'){n:Nat}:∀{d:D} {v:V},Al K ct F G n d v->Al K ct F' G' n d v:=by
 induction n with
 |zero=>exactλh=>Dt.mono sF h
 |succ n ih=>
  intro d v h
  rcases h with h|h
  ·exact .inl (Dt.mono sF h)
  ·cases h with
   |lst h p=>exact .inr (.lst (sG _ _ h) (p.mono λ_ _ q=>ih q))
   |tup h p=>exact .inr (.tup (sF _ _ h) (p.mono λ_ _ q=>ih q))
   |dK h l p=>exact .inr (.dK (sG _ _ h) l (p.mono λ_ _ q=>ih q))
   |dT h l p=>exact .inr (.dT (sG _ _ h) l (p.mono λ_ _ q=>ih q))
   |obj h l p=>exact .inr (.obj (sG _ _ h) l (p.mono λ_ _ q=>ih q))
theorem Al.of:∀{n:Nat} {d:D} {v:V},Dt K ct F d v->Al K ct F G n d v
 |0,_,_,h=>h
 |_+1,_,_,h=>.inl h
theorem Dt.scal {d:D}{v:V}(h:Dt K ct F d v)(hs:d.sc=true):Dt K ct F' d v:=by
 cases h with
 |non=>exact .non
 |bl b=>exact .bl b
 |int i=>exact .int i
 |str x=>exact .str x
 |lst _ _=>cases hs
 |tup _ _=>cases hs
 |dK _ _ _=>cases hs
 |dT _ _ _=>cases hs
 |obj _ _ _=>cases hs
 |exc0 _=>cases hs
 |exc _ _ _ _=>cases hs
theorem Al.scal {n:Nat}{d:D}{v:V}(h:Al K ct F G n d v)(hs:d.sc=true):Dt K ct F' d v:=by
 cases n with
 |zero=>exact Dt.scal h hs
 |succ n=>
  rcases h with h|h
  ·exact h.scal hs
  ·cases h<;>cases hs
theorem Al.int {n:Nat}{i:Int}{v:V}(h:Al K ct F G n (.int i) v):v=.int i:=by
 have q:=Al.scal (F':=F) h rfl
 cases q;rfl
theorem Al.bl {n:Nat}{b:Bool}{v:V}(h:Al K ct F G n (.bl b) v):v=.bl b:=by
 have q:=Al.scal (F':=F) h rfl
 cases q;rfl
theorem Al.str {n:Nat}{x:aJ}{v:V}(h:Al K ct F G n (.str x) v):v=.str x:=by
 have q:=Al.scal (F':=F) h rfl
 cases q;rfl
theorem Al.non {n:Nat}{v:V}(h:Al K ct F G n .non v):v=.non:=by
 have q:=Al.scal (F':=F) h rfl
 cases q;rfl
theorem Al.lst {n:Nat}{ds:List D}{v:V}(h:Al K ct F G n (.lst ds) v)(s:bI F G):∃a vs,v=.ref a/\eE K G a vs/\Pr (Al K ct F G (n-1)) ds vs:=by
 cases n with
 |zero=>
  have h:Dt K ct F (.lst ds) v:=h
  cases h with
  |lst q t=>exact⟨_,_,rfl,s.seq q,t.pr⟩
 |succ n=>
  rcases h with h|h
  ·cases h with
   |lst q t=>exact⟨_,_,rfl,s.seq q,t.pr.mono λ_ _=>Al.of⟩
  ·cases h with
   |lst q t=>exact⟨_,_,rfl,eE.of q,t⟩
theorem Al.tup {n:Nat}{ds:List D}{v:V}(h:Al K ct F G n (.tup ds) v)(s:bI F G):∃a vs,v=.ref a/\G a=some (.tup vs)/\Pr (Al K ct F G (n-1)) ds vs:=by
 cases n with
 |zero=>
  have h:Dt K ct F (.tup ds) v:=h
  cases h with
  |tup q t=>exact⟨_,_,rfl,s _ _ q,t.pr⟩
 |succ n=>
  rcases h with h|h
  ·cases h with
   |tup q t=>exact⟨_,_,rfl,s _ _ q,t.pr.mono λ_ _=>Al.of⟩
  ·cases h with
   |tup q t=>exact⟨_,_,rfl,s _ _ q,t⟩
theorem Al.dK {n:Nat}{ks:List eO}{ds:List D}{v:V}(h:Al K ct F G n (.dK ks ds) v)(s:bI F G):∃a vs,v=.ref a/\G a=some (.dK (ks.zip vs))/\ks.length=vs.length/\Pr (Al K ct F G (n-1)) ds vs:=by
 cases n with
 |zero=>
  have h:Dt K ct F (.dK ks ds) v:=h
  cases h with
  |dK q l t=>exact⟨_,_,rfl,s _ _ q,l,t.pr⟩
 |succ n=>
  rcases h with h|h
  ·cases h with
   |dK q l t=>exact⟨_,_,rfl,s _ _ q,l,t.pr.mono λ_ _=>Al.of⟩
  ·cases h with
   |dK q l t=>exact⟨_,_,rfl,q,l,t⟩
theorem Al.dT {n:Nat}{ks:List (List eO)}{ds:List D}{v:V}(h:Al K ct F G n (.dT ks ds) v)(s:bI F G):∃a vs,v=.ref a/\G a=some (.dT (ks.zip vs))/\ks.length=vs.length/\Pr (Al K ct F G (n-1)) ds vs:=by
 cases n with
 |zero=>
  have h:Dt K ct F (.dT ks ds) v:=h
  cases h with
  |dT q l t=>exact⟨_,_,rfl,s _ _ q,l,t.pr⟩
 |succ n=>
  rcases h with h|h
  ·cases h with
   |dT q l t=>exact⟨_,_,rfl,s _ _ q,l,t.pr.mono λ_ _=>Al.of⟩
  ·cases h with
   |dT q l t=>exact⟨_,_,rfl,q,l,t⟩
theorem Al.obj {n:Nat}{c:Nat}{ns:List aJ}{ds:List D}{v:V}(h:Al K ct F G n (.obj c ns ds) v)(s:bI F G):∃a dx vs,v=.ref a/\G a=some (.ins (ct c) dx (ns.zip vs))/\ns.length=vs.length/\Pr (Al K ct F G (n-1)) ds vs:=by
 cases n with
 |zero=>
  have h:Dt K ct F (.obj c ns ds) v:=h
  cases h with
  |obj q l t=>exact⟨_,_,_,rfl,s _ _ q,l,t.pr⟩
 |succ n=>
  rcases h with h|h
  ·cases h with
   |obj q l t=>exact⟨_,_,_,rfl,s _ _ q,l,t.pr.mono λ_ _=>Al.of⟩
  ·cases h with
   |obj q l t=>exact⟨_,_,_,rfl,q,l,t⟩
theorem eT.mono {R R':D->V->List ah->Prop}{ds:List D}{vs:List V}{fp:List ah}(h:eT R ds vs fp):(∀d v f,(∀a∈f,a∈fp)->R d v f->R' d v f)->eT R' ds vs fp:=by
 induction h with
 |nil=>exactλ_=>.nil
 |cons h t ih=>exactλq=>.cons (q _ _ _ (λa z=>bq _ z) h) (ih λd v f i r=>q d v f (λa z=>az _ (i a z)) r)
theorem eT.pr {R:D->V->List ah->Prop}{R':D->V->Prop}{ds:List D}{vs:List V}{fp:List ah}(h:eT R ds vs fp):(∀d v f,(∀a∈f,a∈fp)->R d v f->R' d v)->Pr R' ds vs:=by
 induction h with
 |nil=>exactλ_=>.nil
 |cons h t ih=>exactλq=>.cons (q _ _ _ (λa z=>bq _ z) h) (ih λd v f i r=>q d v f (λa z=>az _ (i a z)) r)
theorem eT.ofPr {R:D->V->List ah->Prop}{ds:List D}{vs:List V}(h:Pr (λd v=>R d v []) ds vs):eT R ds vs []:=by
 induction h with
 |nil=>exact .nil
 |cons h t ih=>exact eT.cons (f:=[]) (g:=[]) h ih
theorem eT.append {R:D->V->List ah->Prop}{ds es:List D}{vs us:List V}{f g:List ah}(h:eT R ds vs f)(s:eT R es us g):eT R (ds++es) (vs++us) (f++g):=by
 induction h with
 |nil=>exact s
 |cons h t ih=>rw[fD];exact .cons h ih
theorem eT.length {R:D->V->List ah->Prop}{ds:List D}{vs:List V}{fp:List ah}(h:eT R ds vs fp):ds.length=vs.length:=by
 induction h with
 |nil=>rfl
 |cons _ t ih=>simp[ih]
theorem Ow.frame (sF:bI F F'){n:Nat}:∀{d:D} {v:V} {fp:List ah},Ow K ct F H n d v fp->(∀a∈fp,H' a=H a/\F' a=none)->Ow K ct F' H' n d v fp:=by
 induction n with
 |zero=>exactλh _=>⟨h.1.mono sF,h.2⟩
 |succ n ih=>
  intro d v fp h k
  rcases h with h|h
  ·exact .inl ⟨h.1,h.2.1.mono sF,h.2.2⟩
  ·cases h with
   |lst hn h p=>exact .inr (.lst (k _ ai).2 ((k _ ai).1.trans h) (p.mono λ_ _ _ i q=>ih q λa z=>k a (ao _ (i a z))))
   |tup h p=>exact .inr (.tup (sF _ _ h) (p.mono λ_ _ _ i q=>ih q λa z=>k a (i a z)))
   |dK hn h l p=>exact .inr (.dK (k _ ai).2 ((k _ ai).1.trans h) l (p.mono λ_ _ _ i q=>ih q λa z=>k a (ao _ (i a z))))
   |dT hn h l p=>exact .inr (.dT (k _ ai).2 ((k _ ai).1.trans h) l (p.mono λ_ _ _ i q=>ih q λa z=>k a (ao _ (i a z))))
   |obj hn h l p=>exact .inr (.obj (k _ ai).2 ((k _ ai).1.trans h) l (p.mono λ_ _ _ i q=>ih q λa z=>k a (ao _ (i a z))))
theorem eT.cells0 {R:D->V->List ah->Prop}(k:∀d v f,R d v f->∀a∈f,F a=none/\∃o,H a=some o){ds:List D}{vs:List V}{fp:List ah}(h:eT R ds vs fp):∀a∈fp,F a=none/\∃o,H a=some o:=by
 induction h with
 |nil=>exactλa z=>by cases z
 |cons h t ih=>exactλa z=>(bC.mp z).elim (λz=>k _ _ _ h a z) (ih a)
theorem Ow.cells {n:Nat}:∀{d:D} {v:V} {fp:List ah},Ow K ct F H n d v fp->∀a∈fp,F a=none/\∃o,H a=some o:=by
 induction n with
 |zero=>exactλh a z=>by rw[h.2]at z;cases z
 |succ n ih=>
  intro d v fp h a z
  rcases h with h|h
  ·rw[h.2.2]at z;cases z
  ·cases h with
   |lst hn h p=>exact(aB.mp z).elim (λe=>by rw[e];exact⟨hn,_,h⟩) (eT.cells0 (λd v f q=>ih q) p a)
   |tup h p=>exact eT.cells0 (λd v f q=>ih q) p a z
   |dK hn h l p=>exact(aB.mp z).elim (λe=>by rw[e];exact⟨hn,_,h⟩) (eT.cells0 (λd v f q=>ih q) p a)
   |dT hn h l p=>exact(aB.mp z).elim (λe=>by rw[e];exact⟨hn,_,h⟩) (eT.cells0 (λd v f q=>ih q) p a)
   |obj hn h l p=>exact(aB.mp z).elim (λe=>by rw[e];exact⟨hn,_,h⟩) (eT.cells0 (λd v f q=>ih q) p a)
theorem Ow.ext {n:Nat}{d:D}{v:V}{fp:List ah}(h:Ow K ct F H n d v fp)(e:eS F H F' H'):Ow K ct F' H' n d v fp :=
 h.frame e.ff λa z=>by
  obtain⟨hn,o,ho⟩:=h.cells a z
  exact⟨(e.hh _ _ ho).trans ho.symm,e.nf a o ho hn⟩
theorem Ow.al (s:bI F H){n:Nat}:∀{d:D} {v:V} {fp:List ah},Ow K ct F H n d v fp->Al K ct F H n d v:=by
 induction n with
 |zero=>exactλh=>h.1
 |succ n ih=>
  intro d v fp h
  rcases h with h|h
  ·exact .inl h.2.1
  ·cases h with
   |lst hn h p=>exact .inr (.lst h (p.pr λ_ _ _ _ q=>ih q))
   |tup h p=>exact .inr (.tup h (p.pr λ_ _ _ _ q=>ih q))
   |dK hn h l p=>exact .inr (.dK h l (p.pr λ_ _ _ _ q=>ih q))
   |dT hn h l p=>exact .inr (.dT h l (p.pr λ_ _ _ _ q=>ih q))
   |obj hn h l p=>exact .inr (.obj h l (p.pr λ_ _ _ _ q=>ih q))
theorem Ow.dt (sF:bI F F'){n:Nat}:∀{d:D} {v:V} {fp:List ah},Ow K ct F H n d v fp->(∀a∈fp,F' a=H a)->Dt K ct F' d v:=by
 induction n with
 |zero=>exactλh _=>h.1.mono sF
 |succ n ih=>
  intro d v fp h k
  rcases h with h|h
  ·exact h.2.1.mono sF
  ·cases h with
   |lst hn h p=>exact .lst (eE.of ((k _ ai).trans h)) (.of (p.pr λ_ _ _ i q=>ih q λa z=>k a (ao _ (i a z))))
   |tup h p=>exact .tup (sF _ _ h) (.of (p.pr λ_ _ _ i q=>ih q λa z=>k a (i a z)))
   |dK hn h l p=>exact .dK ((k _ ai).trans h) l (.of (p.pr λ_ _ _ i q=>ih q λa z=>k a (ao _ (i a z))))
   |dT hn h l p=>exact .dT ((k _ ai).trans h) l (.of (p.pr λ_ _ _ i q=>ih q λa z=>k a (ao _ (i a z))))
   |obj hn h l p=>exact .obj ((k _ ai).trans h) l (.of (p.pr λ_ _ _ i q=>ih q λa z=>k a (ao _ (i a z))))
def ma (F H:Hp)(fp:List ah):Hp:=λa=>if a∈fp then H a else F a
theorem Wc {fp:List ah}(s:bI F H)(hf:∀a∈fp,F a=none):bI F (ma F H fp)/\bI (ma F H fp) H/\∀a∈fp,ma F H fp a=H a:=by
 refine⟨λa o h=>?_,λa o h=>?_,λa z=>if_pos z⟩
 ·have:¬a∈fp:=λz=>by rw[hf a z]at h;cases h
  unfold ma;rw[if_neg this];exact h
 ·unfold ma at h
  by_cases z:a∈fp
  ·rw[if_pos z]at h;exact h
  ·rw[if_neg z]at h;exact s _ _ h
theorem Ow.freeze {n:Nat}{d:D}{v:V}{fp:List ah}{F0 H0:Hp}(h:Ow K ct F H n d v fp)(e:eS F0 H0 F H)(hf:∀a∈fp,H0 a=none):∃F',eS F0 H0 F' H/\Dt K ct F' d v:=by
 obtain⟨w1,w2,w3⟩:=Wc (fp:=fp) e.fh (λa z=>(h.cells a z).1)
 refine⟨ma F H fp,⟨e.ff.trans w1,e.hh,w2,λa o ho hn=>?_⟩,h.dt w1 w3⟩
 have:¬a∈fp:=λz=>by rw[hf a z]at ho;cases ho
 unfold ma;rw[if_neg this];exact e.nf a o ho hn
theorem Ow.zero {d:D}{v:V}(h:Dt K ct F d v):Ow K ct F H 0 d v []:=⟨h,rfl⟩
theorem Ow.scal {n:Nat}{d:D}{v:V}(h:Dt K ct F d v)(hs:d.sc=true):Ow K ct F H n d v []:=by
 cases n with
 |zero=>exact⟨h,rfl⟩
 |succ n=>exact .inl ⟨hs,h,rfl⟩
end
end L3
namespace L3
open PySem PySem.Spec L2
open PyProof.Rows hiding St
abbrev Env:=List (Option D)
inductive Mo where
 |al (n:Nat)|ow (n:Nat)|px (v:V)|so (x:ah)
def Mo.lv:Mo->Nat
 |.al n=>n
 |.ow n=>n
 |.px _=>1
 |.so _=>1
section
variable (K:aa)(ct:Nat->ah)
inductive SL (F B H:Hp):List Mo->Env->St->List ah->Prop
 |nil:SL F B H [] [] [] []
 |no {m:Mo} {o:Option V} {ms:List Mo} {ρ:Env} {σ:St} {fp:List ah}:SL F B H ms ρ σ fp->SL F B H (m::ms) (none::ρ) (o::σ) fp
 |al {n:Nat} {d:D} {v:V} {ms:List Mo} {ρ:Env} {σ:St} {fp:List ah}:Al K ct F B n d v->SL F B H ms ρ σ fp->SL F B H (.al n::ms) (some d::ρ) (some v::σ) fp
 |px {d:D} {v:V} {ms:List Mo} {ρ:Env} {σ:St} {fp:List ah}:Al K ct F B 1 d v->SL F B H ms ρ σ fp->SL F B H (.px v::ms) (some d::ρ) (some v::σ) fp
 |so {d:D} {x:ah} {ms:List Mo} {ρ:Env} {σ:St} {fp:List ah}:Ow K ct F H 1 d (.ref x) [x]->SL F B H ms ρ σ fp->SL F B H (.so x::ms) (some d::ρ) (some (.ref x)::σ) (x::fp)
 |ow {n:Nat} {d:D} {v:V} {ms:List Mo} {ρ:Env} {σ:St} {f fp:List ah}:Ow K ct F H n d v f->SL F B H ms ρ σ fp->SL F B H (.ow n::ms) (some d::ρ) (some v::σ) (f++fp)
structure RS (F0 B:Hp)(ms:List Mo)(F H:Hp)(ρ:Env)(σ:St):Prop where
 f0:bI F0 F
 bh:bI B H
 fh:bI F H
 nf:∀a o,B a=some o->F0 a=none->F a=none
 sl:∃fp,SL K ct F B H ms ρ σ fp/\fp.Nodup/\∀a∈fp,B a=none
end
section
variable {K:aa}{ct:Nat->ah}{F F' G G' H H' B B' F0:Hp}{ms:List Mo}{ρ:Env}{σ:St}
theorem SL.cells {ms:List Mo}{ρ:Env}{σ:St}{fp:List ah}(h:SL K ct F B H ms ρ σ fp):∀a∈fp,F a=none/\∃o,H a=some o:=by
 induction h with
 |nil=>intro a z;cases z
 |no t ih=>exact ih
 |al _ t ih=>exact ih
 |px _ t ih=>exact ih
 |so h t ih=>exactλa z=>(aB.mp z).elim (λz=>h.cells a (by rw[z];exact ai)) (ih a)
 |ow h t ih=>exactλa z=>(bC.mp z).elim (h.cells a) (ih a)
theorem SL.frame (sF:bI F F'){ms:List Mo}{ρ:Env}{σ:St}{fp:List ah}(h:SL K ct F B H ms ρ σ fp):(∀a∈fp,H' a=H a/\F' a=none)->SL K ct F' B H' ms ρ σ fp:=by
 induction h with
 |nil=>exactλ_=>.nil
 |no t ih=>exactλk=>.no (ih k)
 |al h t ih=>exactλk=>.al (h.mono sF (.refl _)) (ih k)
 |px h t ih=>exactλk=>.px (h.mono sF (.refl _)) (ih k)
 |so h t ih=>exactλk=>.so (h.frame sF λa z=>k a (by rw[aW]at z;rw[z];exact ai)) (ih λa z=>k a (ao _ z))
 |ow h t ih=>exactλk=>.ow (h.frame sF λa z=>k a (bq _ z)) (ih λa z=>k a (az _ z))
theorem RS.ext (r:RS K ct F0 B ms F H ρ σ)(e:eS F H F' H'):RS K ct F0 B ms F' H' ρ σ:=by
 obtain⟨fp,s,nd,hb⟩:=r.sl
 refine⟨r.f0.trans e.ff,r.bh.trans e.hh,e.fh,λa o h n=>e.nf a o (r.bh _ _ h) (r.nf a o h n),fp,s.frame e.ff λa z=>?_,nd,hb⟩
 obtain⟨hn,o,ho⟩:=s.cells a z
 exact⟨(e.hh _ _ ho).trans ho.symm,e.nf a o ho hn⟩
theorem SL.get {ms:List Mo}{ρ:Env}{σ:St}{fp:List ah}{i:Nat}{m:Mo}{d:D}(h:SL K ct F B H ms ρ σ fp)(s:bI F H)(s':bI B H):ms[i]?=some m->ρ[i]?=some (some d)->∃v,σ[i]?=some (some v)/\Al K ct F H m.lv d v:=by
 induction h generalizing i with
 |nil=>intro e;simp at e
 |no t ih=>
  intro e e'
  cases i with
  |zero=>simp at e'
  |succ i=>simpa using ih (by simpa using e) (by simpa using e')
 |al h t ih=>
  intro e e'
  cases i with
  |zero=>
   simp at e e';subst e;subst e'
   exact⟨_,rfl,h.mono (.refl _) s'⟩
  |succ i=>simpa using ih (by simpa using e) (by simpa using e')
 |px h t ih=>
  intro e e'
  cases i with
  |zero=>
   simp at e e';subst e;subst e'
   exact⟨_,rfl,h.mono (.refl _) s'⟩
  |succ i=>simpa using ih (by simpa using e) (by simpa using e')
 |so h t ih=>
  intro e e'
  cases i with
  |zero=>
   simp at e e';subst e;subst e'
   exact⟨_,rfl,h.al s⟩
  |succ i=>simpa using ih (by simpa using e) (by simpa using e')
 |ow h t ih=>
  intro e e'
  cases i with
  |zero=>
   simp at e e';subst e;subst e'
   exact⟨_,rfl,h.al s⟩
  |succ i=>simpa using ih (by simpa using e) (by simpa using e')
theorem RS.get (r:RS K ct F0 B ms F H ρ σ){i:Nat}{m:Mo}{d:D}(hm:ms[i]?=some m)(e:ρ[i]?=some (some d)):∃v,σ[i]?=some (some v)/\Al K ct F H m.lv d v:=by
 obtain⟨fp,s,_,_⟩:=r.sl
 exact s.get r.fh r.bh hm e
theorem SL.put {ms:List Mo}{ρ:Env}{σ:St}{fp:List ah}{i k:Nat}(h0:SL K ct F B H ms ρ σ fp):ms[i]?=some (.ow k) ->
  ∃f1 fr:List ah,(∀a∈f1,a∈fp)/\(∀a∈fr,a∈fp)/\(fp.Nodup->f1.Nodup/\fr.Nodup/\∀a∈f1,a∉fr)/\(∀d,ρ[i]?=some (some d)->∃v,σ[i]?=some (some v)/\Ow K ct F H k d v f1) /\
   ∀(F' H':Hp) (d':D) (v':V) (f':List ah),bI F F'->(∀a∈fr,H' a=H a/\F' a=none)->Ow K ct F' H' k d' v' f' ->
    ∃ko,SL K ct F' B H' ms (ρ.set i (some d')) (σ.set i (some v')) ko/\(∀a∈ko,a∈f'\/a∈fr)/\(f'.Nodup->fr.Nodup->(∀a∈f',a∉fr)->ko.Nodup):=by
 induction h0 generalizing i with
 |nil=>
  intro e
  simp at e
 |@no m0 o0 ms ρ σ fp t ih=>
  intro e
  cases i with
  |zero=>
   simp at e;subst e
   refine⟨[],fp,λa z=>(by cases z),λa z=>z,λn=>⟨bG,n,λa z=>(by cases z)⟩,λd q=>(by simp at q),λF' H' d' v' f' s kf h=>⟨f'++fp,.ow h (t.frame s kf),λa z=>bC.mp z,λn1 n2 dj=>?_⟩⟩
   exact bo.mpr ⟨n1,n2,λa z b zb e=>dj a z (e▸zb)⟩
  |succ i=>
   obtain⟨f1,fr,h1,h2,h3,h4,h5⟩:=ih (i:=i) (by simpa using e)
   refine⟨f1,fr,h1,h2,h3,λd q=>by simpa using h4 d (by simpa using q),λF' H' d' v' f' s kf h=>?_⟩
   obtain⟨ko,q1,q2,q3⟩:=h5 F' H' d' v' f' s kf h
   exact⟨ko,.no q1,q2,q3⟩
 |@al n0 d0 v0 ms ρ σ fp h t ih=>
  intro e
  cases i with
  |zero=>
   simp at e
  |succ i=>
   obtain⟨f1,fr,h1,h2,h3,h4,h5⟩:=ih (i:=i) (by simpa using e)
   refine⟨f1,fr,h1,h2,h3,λd q=>by simpa using h4 d (by simpa using q),λF' H' d' v' f' s kf h'=>?_⟩
   obtain⟨ko,q1,q2,q3⟩:=h5 F' H' d' v' f' s kf h'
   exact⟨ko,.al (h.mono s (.refl _)) q1,q2,q3⟩
 |@px d0 v0 ms ρ σ fp h t ih=>
  intro e
  cases i with
  |zero=>
   simp at e
  |succ i=>
   obtain⟨f1,fr,h1,h2,h3,h4,h5⟩:=ih (i:=i) (by simpa using e)
   refine⟨f1,fr,h1,h2,h3,λd q=>by simpa using h4 d (by simpa using q),λF' H' d' v' f' s kf h'=>?_⟩
   obtain⟨ko,q1,q2,q3⟩:=h5 F' H' d' v' f' s kf h'
   exact⟨ko,.px (h.mono s (.refl _)) q1,q2,q3⟩
 |@so d0 x ms ρ σ fp h t ih=>
  intro e
  cases i with
  |zero=>
   simp at e
  |succ i=>
   obtain⟨f1,fr,h1,h2,h3,h4,h5⟩:=ih (i:=i) (by simpa using e)
   refine⟨f1,x::fr,λa z=>ao _ (h1 a z),λa z=>(aB.mp z).elim (λz=>by rw[z];exact ai) λz=>ao _ (h2 a z),λn=>?_,λd q=>by simpa using h4 d (by simpa using q),λF' H' d' v' f' s kf h'=>?_⟩
   ·obtain⟨n1,n2⟩:=bR.mp n
    obtain⟨m1,m2,m3⟩:=h3 n2
    refine⟨m1,bR.mpr ⟨λz=>n1 (h2 x z),m2⟩,λa z zb=>?_⟩
    rcases aB.mp zb with zb|zb
    ·rw[zb]at z;exact n1 (h1 x z)
    ·exact m3 a z zb
   ·obtain⟨ko,q1,q2,q3⟩:=h5 F' H' d' v' f' s (λa z=>kf a (ao _ z)) h'
    refine⟨x::ko,.so (h.frame s λa z=>kf a (by rw[aW]at z;rw[z];exact ai)) q1,λa z=>?_,λn1 n2 dj=>?_⟩
    ·rcases aB.mp z with z|z
     ·exact .inr (by rw[z];exact ai)
     ·exact(q2 a z).imp id λz=>ao _ z
    ·obtain⟨m1,m2⟩:=bR.mp n2
     refine bR.mpr ⟨λz=>?_,q3 n1 m2 λa z zb=>dj a z (ao _ zb)⟩
     rcases q2 x z with z|z
     ·exact dj x z ai
     ·exact m1 z
 |@ow n0 d0 v0 ms ρ σ f fp h t ih=>
  intro e
  cases i with
  |zero=>
   simp at e;subst e
   refine⟨f,fp,λa z=>bq _ z,λa z=>az _ z,λn=>?_,λd q=>?_,λF' H' d' v' f' s kf h=>⟨f'++fp,.ow h (t.frame s kf),λa z=>bC.mp z,λn1 n2 dj=>?_⟩⟩
   ·obtain⟨n1,n2,n3⟩:=bo.mp n
    exact⟨n1,n2,λa z zb=>n3 a z a zb rfl⟩
   ·simp at q;subst q;exact⟨_,rfl,h⟩
   ·exact bo.mpr ⟨n1,n2,λa z b zb e=>dj a z (e▸zb)⟩
  |succ i=>
   obtain⟨f1,fr,h1,h2,h3,h4,h5⟩:=ih (i:=i) (by simpa using e)
   refine⟨f1,f++fr,λa z=>az _ (h1 a z),λa z=>(bC.mp z).elim (λz=>bq _ z) λz=>az _ (h2 a z),λn=>?_,λd q=>by simpa using h4 d (by simpa using q),λF' H' d' v' f' s kf h'=>?_⟩
   ·obtain⟨n1,n2,n3⟩:=bo.mp n
    obtain⟨m1,m2,m3⟩:=h3 n2
    refine⟨m1,bo.mpr ⟨n1,m2,λa z b zb=>n3 a z b (h2 b zb)⟩,λa z zb=>?_⟩
    rcases bC.mp zb with zb|zb
    ·exact n3 a zb a (h1 a z) rfl
    ·exact m3 a z zb
   ·obtain⟨ko,q1,q2,q3⟩:=h5 F' H' d' v' f' s (λa z=>kf a (az _ z)) h'
    refine⟨f++ko,.ow (h.frame s λa z=>kf a (bq _ z)) q1,λa z=>?_,λn1 n2 dj=>?_⟩
    ·rcases bC.mp z with z|z
     ·exact .inr (bq _ z)
     ·exact(q2 a z).imp id λz=>az _ z
    ·obtain⟨m1,m2,m3⟩:=bo.mp n2
     refine bo.mpr ⟨m1,q3 n1 m2 λa z zb=>dj a z (az _ zb),λa z b zb e=>?_⟩
     subst e
     rcases q2 a zb with zb|zb
     ·exact dj a zb (bq _ z)
     ·exact m3 a z a zb rfl
end
abbrev EF:=Env->Option D
inductive iL (K:aa)(ct:Nat->ah)(F G:Hp):List Nat->List D->List V->Prop
 |nil:iL K ct F G [] [] []
 |cons {n:Nat} {d:D} {v:V} {ns:List Nat} {ds:List D} {vs:List V}:Al K ct F G n d v->iL K ct F G ns ds vs->iL K ct F G (n::ns) (d::ds) (v::vs)
theorem iL.mono {K:aa}{ct:Nat->ah}{F F' G G':Hp}(sF:bI F F')(sG:bI G G'){ns:List Nat}{ds:List D}{vs:List V}(h:iL K ct F G ns ds vs):iL K ct F' G' ns ds vs:=by
 induction h with
 |nil=>exact .nil
 |cons h t ih=>exact .cons (h.mono sF sG) ih
theorem iL.length {K:aa}{ct:Nat->ah}{F G:Hp}{ns:List Nat}{ds:List D}{vs:List V}(h:iL K ct F G ns ds vs):vs.length=ns.length:=by
 induction h with
 |nil=>rfl
 |cons h t ih=>rw[aV,aV,ih]
theorem iL.length' {K:aa}{ct:Nat->ah}{F G:Hp}{ns:List Nat}{ds:List D}{vs:List V}(h:iL K ct F G ns ds vs):ds.length=vs.length:=by
 induction h with
 |nil=>rfl
 |cons h t ih=>rw[aV,aV,ih]
theorem iL.append {K:aa}{ct:Nat->ah}{F G:Hp}{Fy:List Nat}{o8:List D}{FL:List V}(q:iL K ct F G Fy o8 FL){ns:List Nat}{ds:List D}{vs:List V}(h:iL K ct F G ns ds vs):iL K ct F G (ns++Fy) (ds++o8) (vs++FL):=by
 induction h with
 |nil=>exact q
 |cons h t ih=>exact .cons h ih
section
variable (X:Cx)(ct:Nat->ah)(ms:List Mo)
def XE (n:Nat)(e:Expr)(f:EF):Prop:=∃t,PE X e t/\∀(F0 B F H:Hp) (ρ:Env) (σ:St) (d:D) (Q:VK),RS X.K ct F0 B ms F H ρ σ->f ρ=some d ->
 (∀v F' H',eS F H F' H'->Al X.K ct F' H' n d v->Q v H')->t σ H Q
def XO (k:Nat)(e:Expr)(f:EF):Prop:=∃t,PE X e t/\∀(F0 B F H:Hp) (ρ:Env) (σ:St) (d:D) (Q:VK),RS X.K ct F0 B ms F H ρ σ->f ρ=some d ->
 (∀v F' H' fp,eS F H F' H'->Ow X.K ct F' H' k d v fp->fp.Nodup->(∀a∈fp,H a=none)->Q v H')->t σ H Q
def XT (e:Expr)(f:Env->Option Bool):Prop:=∃t,PT X e t/\∀(F0 B F H:Hp) (ρ:Env) (σ:St) (b:Bool) (Q:Bool->Hp->Prop),RS X.K ct F0 B ms F H ρ σ->f ρ=some b ->
 (∀F' H',eS F H F' H'->Q b H')->t σ H Q
def XW (e:Expr)(f:Env->Option Bool):Prop:=∃t,PW X e t/\∀(F0 B F H:Hp) (ρ:Env) (σ:St) (b:Bool) (Q:Bool->Hp->Prop),RS X.K ct F0 B ms F H ρ σ->f ρ=some b ->
 (∀F' H',eS F H F' H'->Q b H')->t σ H Q
def XA (es:List Expr)(ns:List Nat)(f:Env->Option (List D)):Prop:=∃t,PA X es t/\(∀ρ ds,f ρ=some ds->ds.length=es.length)/\∀(F0 B F H:Hp) (ρ:Env) (σ:St) (ds:List D) (Q:List V->Hp->Prop),RS X.K ct F0 B ms F H ρ σ->f ρ=some ds ->
 (∀vs F' H',eS F H F' H'->iL X.K ct F' H' ns ds vs->Q vs H')->t σ H Q
end
def e2 (op:D->D->Option D)(f g:EF):EF:=λρ=>(f ρ).bind λx=>(g ρ).bind λy=>op x y
def e1 (op:D->Option D)(f:EF):EF:=λρ=>(f ρ).bind op
def eN (op:List D->Option D)(f:Env->Option (List D)):EF:=λρ=>(f ρ).bind op
def eC (d:D):EF:=λ_=>some d
def eV (i:Nat):EF:=λρ=>(ρ[i]?).join
def aNil:Env->Option (List D):=λ_=>some []
def aCons (f:EF)(g:Env->Option (List D)):Env->Option (List D):=λρ=>(f ρ).bind λx=>(g ρ).bind λxs=>some (x::xs)
theorem dX {α β γ:Type}{o:Option α}{p:Option β}{op:α->β->Option γ}{r:γ}(h:(o.bind λx=>p.bind λy=>op x y)=some r):∃x y,o=some x/\p=some y/\op x y=some r:=by
 cases o with
 |none=>cases h
 |some x=>
  cases p with
  |none=>cases h
  |some y=>exact⟨x,y,rfl,rfl,h⟩
theorem aR {α β:Type}{o:Option α}{op:α->Option β}{r:β}(h:o.bind op=some r):∃x,o=some x/\op x=some r:=by
 cases o with
 |none=>cases h
 |some x=>exact⟨x,rfl,h⟩
theorem we {α:Type}{o:Option (Option α)}{x:α}(h:o.join=some x):o=some (some x):=by
 cases o with
 |none=>cases h
 |some y=>exact congrArg some h
def mm (K:aa)(ct:Nat->ah)(n m k:Nat)(r:R2)(op:D->D->Option D):Prop :=
 ∀(F H:Hp) (x y:V) (d1 d2 d:D) (Q:VK),bI F H->Al K ct F H n d1 x->Al K ct F H m d2 y->op d1 d2=some d->(∀v F' H',eS F H F' H'->Al K ct F' H' k d v->Q v H')->r x y H Q
def Au (K:aa)(ct:Nat->ah)(n m k:Nat)(r:R2)(op:D->D->Option D):Prop :=
 ∀(F H:Hp) (x y:V) (d1 d2 d:D) (Q:VK),bI F H->Al K ct F H n d1 x->Al K ct F H m d2 y->op d1 d2=some d ->
  (∀v F' H' fp,eS F H F' H'->Ow K ct F' H' k d v fp->fp.Nodup->(∀a∈fp,H a=none)->Q v H')->r x y H Q
def uG (K:aa)(ct:Nat->ah)(ns:List Nat)(k:Nat)(r:List V->Hp->VK->Prop)(op:List D->Option D):Prop :=
 ∀(F H:Hp) (vs:List V) (ds:List D) (d:D) (Q:VK),bI F H->iL K ct F H ns ds vs->op ds=some d->(∀v F' H',eS F H F' H'->Al K ct F' H' k d v->Q v H')->r vs H Q
def vP (K:aa)(ct:Nat->ah)(ns:List Nat)(k:Nat)(r:List V->Hp->VK->Prop)(op:List D->Option D):Prop :=
 ∀(F H:Hp) (vs:List V) (ds:List D) (d:D) (Q:VK),bI F H->iL K ct F H ns ds vs->op ds=some d ->
  (∀v F' H' fp,eS F H F' H'->Ow K ct F' H' k d v fp->fp.Nodup->(∀a∈fp,H a=none)->Q v H')->r vs H Q
section
variable {X:Cx}{ct:Nat->ah}{ms:List Mo}{n m k:Nat}{a b c e:Expr}{f g h:EF}{pos:cE}
theorem XO.sh (he:XO X ct ms k e f):XE X ct ms n e f:=by
 obtain⟨t,p,q⟩:=he
 refine⟨t,p,λF0 B F H ρ σ d Q r e w=>q F0 B F H ρ σ d Q r e λv F' H' fp x o nd hf=>?_⟩
 obtain⟨F2,x2,h2⟩:=o.freeze x hf
 exact w v F2 H' x2 (Al.of h2)
theorem XE.ow (he:XE X ct ms 0 e f):XO X ct ms 0 e f:=by
 obtain⟨t,p,q⟩:=he
 exact⟨t,p,λF0 B F H ρ σ d Q r e w=>q F0 B F H ρ σ d Q r e λv F' H' x l=>w v F' H' [] x ⟨l,rfl⟩ bG λa z=>(by cases z)⟩
theorem za (i n:Nat){x:aJ}{m:Mo}(hm:ms[i]?=some m:=by rfl)(hl:m.lv=n:=by rfl)(hN:X.N[i]?=some x:=by rfl)(hv:qC X.env.scope x:=by first|exact Or.inl rfl|exact Or.inr (Or.inl rfl)|exact Or.inr (Or.inr rfl))(hd:(x==("__debug__":aJ))=false:=by decide)
  (jB:(x==("__classdict__":aJ))=false:=by decide):XE X ct ms n (.Name x pos) (eV i):=by
 subst hl
 refine⟨_,u9 hN hv hd jB,λF0 B F H ρ σ d Q r e w=>?_⟩
 obtain⟨v,hv,l⟩:=r.get hm (we e)
 exact⟨v,hv,w v F H (.refl r.fh) l⟩
theorem ZP {i:Int}{j}:XE X ct ms n (.Constant (.int i) j pos) (eC (.int i)):=⟨_,Zb,λF0 B F H ρ σ d Q r e w=>by cases e;exact w _ F H (.refl r.fh) (Al.of (.int i))⟩
theorem qj {i:Bool}{j}:XE X ct ms n (.Constant (.bool i) j pos) (eC (.bl i)):=⟨_,Z3,λF0 B F H ρ σ d Q r e w=>by cases e;exact w _ F H (.refl r.fh) (Al.of (.bl i))⟩
theorem Ew {i:aJ}{j}:XE X ct ms n (.Constant (.str i) j pos) (eC (.str i)):=⟨_,Zd,λF0 B F H ρ σ d Q r e w=>by cases e;exact w _ F H (.refl r.fh) (Al.of (.str i))⟩
theorem ZQ {j}:XE X ct ms n (.Constant .none j pos) (eC .non):=⟨_,Zc,λF0 B F H ρ σ d Q r e w=>by cases e;exact w _ F H (.refl r.fh) (Al.of .non)⟩
theorem XE.bin (ha:XE X ct ms n a f)(hb:XE X ct ms m b g):∃ta tb,PE X a ta/\PE X b tb/\∀(F0 B F H:Hp) (ρ:Env) (σ:St) (d1 d2:D) (R:V->V->Hp->Prop),RS X.K ct F0 B ms F H ρ σ->f ρ=some d1->g ρ=some d2 ->
  (∀x y F' H',eS F H F' H'->Al X.K ct F' H' n d1 x->Al X.K ct F' H' m d2 y->R x y H')->ta σ H λx H1=>tb σ H1 λy H2=>R x y H2:=by
 obtain⟨ta,pa,qa⟩:=ha
 obtain⟨tb,pb,qb⟩:=hb
 refine⟨ta,tb,pa,pb,λF0 B F H ρ σ d1 d2 R r e1 e2 w=>qa F0 B F H ρ σ d1 _ r e1 λx F1 H1 x1 l1=>?_⟩
 exact qb F0 B F1 H1 ρ σ d2 _ (r.ext x1) e2 λy F2 H2 x2 l2=>w x y F2 H2 (x1.trans x2) (l1.mono x2.ff x2.hh) l2
theorem yy {op:iS}{r:R2}{o:D->D->Option D}(ho:gA X (dI op) r)(hs:mm X.K ct n m k r o)(ha:XE X ct ms n a f)(hb:XE X ct ms m b g):XE X ct ms k (.BinOp a op b pos) (e2 o f g):=by
 obtain⟨ta,tb,pa,pb,q⟩:=ha.bin hb
 refine⟨_,KO ho pa pb,λF0 B F H ρ σ d Q rs e w=>?_⟩
 obtain⟨d1,d2,h1,h2,h3⟩:=dX e
 exact q F0 B F H ρ σ d1 d2 _ rs h1 h2 λx y F' H' x1 l1 l2=>hs F' H' x y d1 d2 d Q x1.fh l1 l2 h3 λv F2 H2 x2 l=>w v F2 H2 (x1.trans x2) l
theorem ztc {op:iS}{r:R2}{o:D->D->Option D}(ho:gA X (dI op) r)(hs:Au X.K ct n m k r o)(ha:XE X ct ms n a f)(hb:XE X ct ms m b g):XO X ct ms k (.BinOp a op b pos) (e2 o f g):=by
 obtain⟨ta,tb,pa,pb,q⟩:=ha.bin hb
 refine⟨_,KO ho pa pb,λF0 B F H ρ σ d Q rs e w=>?_⟩
 obtain⟨d1,d2,h1,h2,h3⟩:=dX e
 exact q F0 B F H ρ σ d1 d2 _ rs h1 h2 λx y F' H' x1 l1 l2=>hs F' H' x y d1 d2 d Q x1.fh l1 l2 h3 λv F2 H2 fp x2 l nd hf=>w v F2 H2 fp (x1.trans x2) l nd λz hz=>x1.hh.free (hf z hz)
theorem jj {op:la}{r:R2}{o:D->D->Option D}(ho:gA X (cV op) r)(hs:mm X.K ct n m k r o)(ha:XE X ct ms n a f)(hb:XE X ct ms m b g)(hm:dz op b=false):XE X ct ms k (.Compare a [op] [b] pos) (e2 o f g):=by
 obtain⟨ta,tb,pa,pb,q⟩:=ha.bin hb
 refine⟨_,XY ho pa pb hm,λF0 B F H ρ σ d Q rs e w=>?_⟩
 obtain⟨d1,d2,h1,h2,h3⟩:=dX e
 exact q F0 B F H ρ σ d1 d2 _ rs h1 h2 λx y F' H' x1 l1 l2=>hs F' H' x y d1 d2 d Q x1.fh l1 l2 h3 λv F2 H2 x2 l=>w v F2 H2 (x1.trans x2) l
theorem Ak {r:R2}{o:D->D->Option D}(hr:sK X r)(hs:mm X.K ct n m k r o)(ha:XE X ct ms n a f)(hb:XE X ct ms m b g)(hp:lx b):XE X ct ms k (.Subscript a b pos) (e2 o f g):=by
 obtain⟨ta,tb,pa,pb,q⟩:=ha.bin hb
 refine⟨_,Pu hr pa pb hp,λF0 B F H ρ σ d Q rs e w=>?_⟩
 obtain⟨d1,d2,h1,h2,h3⟩:=dX e
 exact q F0 B F H ρ σ d1 d2 _ rs h1 h2 λx y F' H' x1 l1 l2=>hs F' H' x y d1 d2 d Q x1.fh l1 l2 h3 λv F2 H2 x2 l=>w v F2 H2 (x1.trans x2) l
theorem ztd {op:UnaryOp}{r:V->Hp->VK->Prop}{o:D->Option D}(ho:EL X (unaryOp op) r)
  (hs:∀(F H:Hp) (x:V) (d1 d:D) (Q:VK),bI F H->Al X.K ct F H n d1 x->o d1=some d->(∀v F' H',eS F H F' H'->Al X.K ct F' H' k d v->Q v H')->r x H Q) (ha:XE X ct ms n a f):XE X ct ms k (.UnaryOp op a pos) (e1 o f):=by
 obtain⟨ta,pa,qa⟩:=ha
 refine⟨_,Z6 ho pa,λF0 B F H ρ σ d Q rs e w=>?_⟩
 obtain⟨d1,h1,h2⟩:=aR e
 exact qa F0 B F H ρ σ d1 _ rs h1 λx F' H' x1 l1=>hs F' H' x d1 d Q x1.fh l1 h2 λv F2 H2 x2 l=>w v F2 H2 (x1.trans x2) l
theorem zf:XA X ct ms [] [] aNil:=⟨_,ji,λρ ds e=>(by cases e;rfl),λF0 B F H ρ σ ds Q r e w=>by cases e;exact w [] F H (.refl r.fh) .nil⟩
theorem zc {es:List Expr}{ns:List Nat}{fs:Env->Option (List D)}(ha:XE X ct ms n a f)(hr:XA X ct ms es ns fs)(hs:ak (a::es) X.env=(false,br a X.env)::ak es X.env:=by rfl):XA X ct ms (a::es) (n::ns) (aCons f fs):=by
 obtain⟨ta,pa,qa⟩:=ha
 obtain⟨tb,pb,lb,qb⟩:=hr
 refine⟨_,wt pa pb hs,λρ ds e=>(by obtain⟨x,xs,h1,h2,h3⟩:=dX e;cases h3;rw[aV,aV,lb _ _ h2]),λF0 B F H ρ σ ds Q r e w=>?_⟩
 obtain⟨x,xs,h1,h2,h3⟩:=dX e
 cases h3
 refine qa F0 B F H ρ σ x _ r h1 λv F1 H1 x1 l1=>?_
 exact qb F0 B F1 H1 ρ σ xs _ (r.ext x1) h2 λvs F2 H2 x2 l2=>w (v::vs) F2 H2 (x1.trans x2) (.cons (l1.mono x2.ff x2.hh) l2)
def Ax (X:Cx)(ct:Nat->ah)(ms:List Mo)(k:Nat)(es:List Expr)(f:Env->Option (List D)):Prop:=∃t,PA X es t/\(∀ρ ds,f ρ=some ds->ds.length=es.length)/\∀(F0 B F H:Hp) (ρ:Env) (σ:St) (ds:List D) (Q:List V->Hp->Prop),RS X.K ct F0 B ms F H ρ σ->f ρ=some ds ->
 (∀vs F' H' fp,eS F H F' H'->eT (Ow X.K ct F' H' k) ds vs fp->fp.Nodup->(∀a∈fp,H a=none)->Q vs H')->t σ H Q
theorem xt:Ax X ct ms k [] aNil:=⟨_,ji,λρ ds e=>(by cases e;rfl),λF0 B F H ρ σ ds Q r e w=>by cases e;exact w [] F H [] (.refl r.fh) .nil bG λa z=>(by cases z)⟩
theorem zx {es:List Expr}{fs:Env->Option (List D)}(ha:XO X ct ms k a f)(hr:Ax X ct ms k es fs)(hs:ak (a::es) X.env=(false,br a X.env)::ak es X.env:=by rfl):Ax X ct ms k (a::es) (aCons f fs):=by
 obtain⟨ta,pa,qa⟩:=ha
 obtain⟨tb,pb,lb,qb⟩:=hr
 refine⟨_,wt pa pb hs,λρ ds e=>(by obtain⟨x,xs,h1,h2,h3⟩:=dX e;cases h3;rw[aV,aV,lb _ _ h2]),λF0 B F H ρ σ ds Q r e w=>?_⟩
 obtain⟨x,xs,h1,h2,h3⟩:=dX e
 cases h3
 refine qa F0 B F H ρ σ x _ r h1 λv F1 H1 f1 x1 l1 n1 a1=>?_
 refine qb F0 B F1 H1 ρ σ xs _ (r.ext x1) h2 λvs F2 H2 f2 x2 l2 n2 a2=>w (v::vs) F2 H2 (f1++f2) (x1.trans x2) (.cons (l1.ext x2) l2) (bo.mpr ⟨n1,n2,λz hz y hy e=>?_⟩) λz hz=>?_
 ·subst e
  obtain⟨_,o,ho⟩:=l1.cells z hz
  rw[a2 z hy]at ho
  cases ho
 ·rcases bC.mp hz with hz|hz
  ·exact a1 z hz
  ·exact x1.hh.free (a2 z hz)
end
end L3
namespace L3
open PySem PySem.Spec L2
open PyProof.Rows hiding St
def EO:D->Option Bool
 |.bl b=>some b
 |_=>none
theorem En {d:D}{b:Bool}(h:EO d=some b):d=.bl b:=by cases d<;>simp[EO]at h;subst h;rfl
abbrev BF:=Env->Option Bool
def tb (f:EF):BF:=λρ=>(f ρ).bind EO
def bNot (f:BF):BF:=λρ=>(f ρ).bind λb=>some (!b)
def bAnd (f g:BF):BF:=λρ=>(f ρ).bind λb=>if b=true then g ρ else some false
def bOr (f g:BF):BF:=λρ=>(f ρ).bind λb=>if b=true then some true else g ρ
def eB (f:BF):EF:=λρ=>(f ρ).bind λb=>some (.bl b)
def eIf (c:BF)(f g:EF):EF:=λρ=>(c ρ).bind λb=>if b=true then f ρ else g ρ
section
variable {X:Cx}{ct:Nat->ah}{ms:List Mo}{n m k:Nat}{a b c e:Expr}{f g h:EF}{p q:BF}{pos:cE}
theorem v9 (he:XE X ct ms n e f)(hi:∀whole,qT e X.env whole=(do let v ← whole;fF e.pos;dP [v] (truthy v)):=by intro _;rfl):XT X ct ms e (tb f):=by
 obtain⟨t,pt,qt⟩:=he
 refine⟨_,Zf pt hi,λF0 B F H ρ σ b Q r e w=>?_⟩
 obtain⟨d,h1,h2⟩:=aR e
 rw[En h2]at h1
 exact qt F0 B F H ρ σ _ _ r h1 λv F' H' x l=>⟨b,l.bl,w F' H' x⟩
theorem yk {op:la}{r:R2}{o:D->D->Option D}(ho:gA X (cV op) r)(hs:mm X.K ct n m k r o)(ha:XE X ct ms n a f)(hb:XE X ct ms m b g)(hm:dz op b=false):XT X ct ms (.Compare a [op] [b] pos) (tb (e2 o f g)):=by
 obtain⟨ta,tb,pa,pb,q⟩:=ha.bin hb
 refine⟨_,XZ ho pa pb hm,λF0 B F H ρ σ b Q rs e w=>?_⟩
 obtain⟨d,h0,h4⟩:=aR e
 rw[En h4]at h0
 obtain⟨d1,d2,h1,h2,h3⟩:=dX h0
 exact q F0 B F H ρ σ d1 d2 _ rs h1 h2 λx y F' H' x1 l1 l2=>hs F' H' x y d1 d2 _ _ x1.fh l1 l2 h3 λv F2 H2 x2 l=>⟨b,l.bl,w F2 H2 (x1.trans x2)⟩
theorem XW.t (h:XW X ct ms e p):XT X ct ms e p:=by
 obtain⟨t,pt,qt⟩:=h
 exact⟨t,pt.pt,qt⟩
theorem Es (ha:XT X ct ms a p):XW X ct ms (.BoolOp .And [a] pos) p:=by
 obtain⟨t,pt,qt⟩:=ha
 exact⟨t,Xv pt,qt⟩
theorem sR (ha:XT X ct ms a p):XW X ct ms (.BoolOp .Or [a] pos) p:=by
 obtain⟨t,pt,qt⟩:=ha
 exact⟨t,Zg pt,qt⟩
theorem Ex {rest:List Expr}(ha:XT X ct ms a p)(hb:XW X ct ms (.BoolOp .And (b::rest) pos) q):XW X ct ms (.BoolOp .And (a::b::rest) pos) (bAnd p q):=by
 obtain⟨t,pt,qt⟩:=ha
 obtain⟨u,pu,qu⟩:=hb
 refine⟨_,Zh pt pu,λF0 B F H ρ σ r Q rs e w=>?_⟩
 obtain⟨x,h1,h2⟩:=aR e
 refine qt F0 B F H ρ σ x _ rs h1 λF1 H1 x1=>?_
 cases x with
 |true=>rw[if_pos rfl];exact qu F0 B F1 H1 ρ σ r _ (rs.ext x1) h2 λF2 H2 x2=>w F2 H2 (x1.trans x2)
 |false=>cases h2;rw[if_neg aH];exact w F1 H1 x1
theorem pV {rest:List Expr}(ha:XT X ct ms a p)(hb:XW X ct ms (.BoolOp .Or (b::rest) pos) q):XW X ct ms (.BoolOp .Or (a::b::rest) pos) (bOr p q):=by
 obtain⟨t,pt,qt⟩:=ha
 obtain⟨u,pu,qu⟩:=hb
 refine⟨_,Z4 pt pu,λF0 B F H ρ σ r Q rs e w=>?_⟩
 obtain⟨x,h1,h2⟩:=aR e
 refine qt F0 B F H ρ σ x _ rs h1 λF1 H1 x1=>?_
 cases x with
 |true=>cases h2;rw[if_pos rfl];exact w F1 H1 x1
 |false=>rw[if_neg aH];exact qu F0 B F1 H1 ρ σ r _ (rs.ext x1) h2 λF2 H2 x2=>w F2 H2 (x1.trans x2)
theorem j6 (ha:XT X ct ms a p):XT X ct ms (.UnaryOp .Not a pos) (bNot p):=by
 obtain⟨t,pt,qt⟩:=ha
 refine⟨_,Zi pt,λF0 B F H ρ σ r Q rs e w=>?_⟩
 obtain⟨x,h1,h2⟩:=aR e
 cases h2
 exact qt F0 B F H ρ σ x _ rs h1 λF1 H1 x1=>w F1 H1 x1
theorem vK {op}(ha:XE X ct ms n a f):XE X ct ms k (.BoolOp op [a] pos) (eB (tb f)):=by
 obtain⟨t,pt,qt⟩:=ha
 refine⟨_,Zj pt,λF0 B F H ρ σ r Q rs e w=>?_⟩
 obtain⟨y,h3,h4⟩:=aR e
 obtain⟨z,h5,h6⟩:=aR h3
 cases h4
 rw[En h6]at h5
 exact qt F0 B F H ρ σ _ _ rs h5 λv F1 H1 x1 l=>w _ F1 H1 x1 (by rw[l.bl];exact Al.of (.bl _))
theorem zC {rest:List Expr}(ha:XE X ct ms n a f)(hb:XE X ct ms k (.BoolOp .And (b::rest) pos) (eB q)):XE X ct ms k (.BoolOp .And (a::b::rest) pos) (eB (bAnd (tb f) q)):=by
 obtain⟨t,pt,qt⟩:=ha
 obtain⟨u,pu,qu⟩:=hb
 refine⟨_,Zk pt pu,λF0 B F H ρ σ r Q rs e w=>?_⟩
 obtain⟨y,h3,h4⟩:=aR e
 obtain⟨x,h1,h2⟩:=aR h3
 obtain⟨z,h5,h6⟩:=aR h1
 cases h4
 rw[En h6]at h5
 refine qt F0 B F H ρ σ _ _ rs h5 λv F1 H1 x1 l=>⟨x,l.bl,?_⟩
 cases x with
 |true=>rw[if_pos rfl];exact qu F0 B F1 H1 ρ σ _ _ (rs.ext x1) (show(q ρ).bind _=_ by rw[if_pos rfl]at h2;rw[h2];rfl) λv F2 H2 x2 l=>w v F2 H2 (x1.trans x2) l
 |false=>rw[if_neg aH]at h2 ⊢;cases h2;exact w _ F1 H1 x1 (Al.of (.bl _))
theorem zte {rest:List Expr}(ha:XE X ct ms n a f)(hb:XE X ct ms k (.BoolOp .Or (b::rest) pos) (eB q)):XE X ct ms k (.BoolOp .Or (a::b::rest) pos) (eB (bOr (tb f) q)):=by
 obtain⟨t,pt,qt⟩:=ha
 obtain⟨u,pu,qu⟩:=hb
 refine⟨_,Z5 pt pu,λF0 B F H ρ σ r Q rs e w=>?_⟩
 obtain⟨y,h3,h4⟩:=aR e
 obtain⟨x,h1,h2⟩:=aR h3
 obtain⟨z,h5,h6⟩:=aR h1
 cases h4
 rw[En h6]at h5
 refine qt F0 B F H ρ σ _ _ rs h5 λv F1 H1 x1 l=>⟨x,l.bl,?_⟩
 cases x with
 |true=>rw[if_pos rfl]at h2 ⊢;cases h2;exact w _ F1 H1 x1 (Al.of (.bl _))
 |false=>rw[if_neg aH];exact qu F0 B F1 H1 ρ σ _ _ (rs.ext x1) (show(q ρ).bind _=_ by rw[if_neg aH]at h2;rw[h2];rfl) λv F2 H2 x2 l=>w v F2 H2 (x1.trans x2) l
theorem KR (hc:XT X ct ms c p)(ha:XE X ct ms k a f)(hb:XE X ct ms k b g):XE X ct ms k (.IfExp c a b pos) (eIf p f g):=by
 obtain⟨s,ps,qs⟩:=hc
 obtain⟨t,pt,qt⟩:=ha
 obtain⟨u,pu,qu⟩:=hb
 refine⟨_,WD ps pt pu,λF0 B F H ρ σ r Q rs e w=>?_⟩
 obtain⟨x,h1,h2⟩:=aR e
 refine qs F0 B F H ρ σ x _ rs h1 λF1 H1 x1=>?_
 cases x with
 |true=>rw[if_pos rfl]at h2 ⊢;exact qt F0 B F1 H1 ρ σ _ _ (rs.ext x1) h2 λv F2 H2 x2 l=>w v F2 H2 (x1.trans x2) l
 |false=>rw[if_neg aH]at h2 ⊢;exact qu F0 B F1 H1 ρ σ _ _ (rs.ext x1) h2 λv F2 H2 x2 l=>w v F2 H2 (x1.trans x2) l
theorem Ad {es:List Expr}{fs:Env->Option (List D)}{x1}(h:Ax X ct ms k es fs)(hl:es.length<=1000:=by decide):XO X ct ms (k+1) (.Tuple es x1 pos) (λρ=>(fs ρ).bind λds=>some (.tup ds)):=by
 obtain⟨t,pt,lt,qt⟩:=h
 refine⟨_,YX pt,λF0 B F H ρ σ r Q rs e w=>?_⟩
 obtain⟨ds,h1,h2⟩:=aR e
 cases h2
 refine qt F0 B F H ρ σ ds _ rs h1 λvs F1 H1 fp x1 l nd hf=>⟨?_,λp hp=>?_⟩
 ·rw[←l.length,lt _ _ h1];exact small hl
 ·have x2:=eS.newS x1.fh hp (.tup vs)
  exact w _ _ _ fp (x1.trans x2) (.inr (.tup zk (l.mono λ_ _ _ _ o=>o.ext x2))) nd hf
theorem eT.cellsOf {K:aa}{F H:Hp}{ds:List D}{vs:List V}{fp:List ah}(l:eT (Ow K ct F H k) ds vs fp):∀a∈fp,F a=none/\∃o,H a=some o:=eT.cells0 (λd v f q=>Ow.cells q) l
theorem OA {K:aa}{F H:Hp}{ds:List D}{vs:List V}{fp:List ah}{p:ah}(s:bI F H)(l:eT (Ow K ct F H k) ds vs fp)(hp:H p=none):Ow K ct F (upd H p (.lst vs)) (k+1) (.lst ds) (.ref p) (p::fp)/\(fp.Nodup->(p::fp).Nodup) :=
 ⟨.inr (.lst (s.free hp) zk (l.mono λ_ _ _ _ o=>o.ext (eS.newO s hp _))),λnd=>bR.mpr ⟨λz=>(by
  obtain⟨_,o,ho⟩:=eT.cellsOf l p z
  rw[hp]at ho
  cases ho),nd⟩⟩
theorem uk {es:List Expr}{fs:Env->Option (List D)}(h:Ax X ct ms k es fs)(hl:es.length<=1000:=by decide):XO X ct ms (k+1) (.List es pos) (λρ=>(fs ρ).bind λds=>some (.lst ds)):=by
 obtain⟨t,pt,lt,qt⟩:=h
 refine⟨_,YY pt,λF0 B F H ρ σ r Q rs e w=>?_⟩
 obtain⟨ds,h1,h2⟩:=aR e
 cases h2
 refine qt F0 B F H ρ σ ds _ rs h1 λvs F1 H1 fp x1 l nd hf=>⟨?_,λp hp=>?_⟩
 ·rw[←l.length,lt _ _ h1];exact small hl
 ·obtain⟨o,n2⟩:=OA x1.fh l hp
  refine w _ _ _ (p::fp) (x1.trans (eS.newO x1.fh hp _)) o (n2 nd) λz hz=>?_
  rcases aB.mp hz with rfl|hz
  ·exact x1.hh.free hp
  ·exact hf z hz
theorem Wy:XO X ct ms (k+1) (.Dict [] [] pos) (eC (.dK [] [])):=by
 refine⟨_,Wu,λF0 B F H ρ σ r Q rs e w p hp=>?_⟩
 cases e
 refine w _ F _ [p] (eS.newO rs.fh hp _) (.inr (sL.dK (vs:=[]) (rs.fh.free hp) zk rfl .nil)) (by simp) λz hz=>?_
 rw[aW]at hz;subst hz;exact hp
theorem W5:XO X ct ms (k+1) (.Dict [] [] pos) (eC (.dT [] [])):=by
 refine⟨_,Wv,λF0 B F H ρ σ r Q rs e w p hp=>?_⟩
 cases e
 refine w _ F _ [p] (eS.newO rs.fh hp _) (.inr (sL.dT (vs:=[]) (rs.fh.free hp) zk rfl .nil)) (by simp) λz hz=>?_
 rw[aW]at hz;subst hz;exact hp
def gM (K:aa)(ct:Nat->ah)(pm:List Nat)(rk:Nat)(m:List D->Option D):Sp:=λvs H Q _=>∃(F:Hp) (ds:List D) (d:D),bI F H/\iL K ct F H pm ds vs/\m ds=some d /\
 ∀v F' H' fp,eS F H F' H'->Ow K ct F' H' rk d v fp->fp.Nodup->(∀a∈fp,H a=none)->Q v H'
theorem gM.len {K:aa}{ct:Nat->ah}{pm:List Nat}{rk:Nat}{m:List D->Option D}{ps:List aJ}(h:pm.length=ps.length):∀vs H Q E,gM K ct pm rk m vs H Q E->vs.length=ps.length:=by
 rintro vs H Q E ⟨F,ds,d,_,l,_⟩
 rw[l.length,h]
variable {kk:Nat}{fa:ah}{fd:aL}{ps:List aJ}{pm:List Nat}{rk:Nat}{mf:List D->Option D}{x:aJ}{pp:cE}
theorem Kt {es:List Expr}{ns nd:List Nat}{fs:Env->Option (List D)}{gC:List V}{iP:List D}{kn:List ae}(Fn:cp X.prog X.w X.K X.mg X.base eQ kk fa fd ps (gM X.K ct (ns++nd) rk mf))(hr:dG kk X.A)(hg:Gl X x)(hm:X.mg x=some (.ref fa))(hk:ar X.K (.ref fa)=true)
  (hb:bz X.K fd ps kn) (hd:bM gC kn) (rL:∀F G,iL X.K ct F G nd iP gC) (ha:XA X ct ms (e::es) ns fs)
  (iC:(x==("__debug__":aJ))=false:=by decide) (he:ak (e::es) X.env=(false,br e X.env)::ak es X.env:=by rfl) (gq:(bU pos (ak es X.env)).any (·.1)=false:=by rfl) :
  XO X ct ms rk (.Call (.Name x pp) (e::es) [] pos) (λρ=>(fs ρ).bind λds=>mf (ds++iP)):=by
 obtain⟨t,pt,_,qt⟩:=ha
 refine⟨_,X2 Fn hr hg hm hk hb hd og pt iC he gq,λF0 B F H ρ σ r Q rs e w=>?_⟩
 obtain⟨ds,h1,h2⟩:=aR e
 refine qt F0 B F H ρ σ ds _ rs h1 λvs F1 H1 x1 l=>⟨F1,ds++iP,r,x1.fh,iL.append (rL F1 H1) l,h2,λv F2 H2 fp x2 o nd hf=>?_⟩
 exact w v F2 H2 fp (x1.trans x2) o nd λz hz=>x1.hh.free (hf z hz)
theorem ju {es:List Expr}{ns:List Nat}{fs:Env->Option (List D)}{id:String}{r:List V->Hp->VK->Prop}{op:List D->Option D}(hc:eR X (.builtin id) r)(hs:uG X.K ct ns k r op)(hg:Gl X x)(hm:X.mg x=none)(hv:bZ x=some (.builtin id))(ha:XA X ct ms (e::es) ns fs)
  (hn:x≠"__name__":=by decide) (iC:(x==("__debug__":aJ))=false:=by decide) (he:ak (e::es) X.env=(false,br e X.env)::ak es X.env:=by rfl) (gq:(bU pos (ak es X.env)).any (·.1)=false:=by rfl) :
  XE X ct ms k (.Call (.Name x pp) (e::es) [] pos) (eN op fs):=by
 obtain⟨t,pt,_,qt⟩:=ha
 refine⟨_,Em hc hg hm hv pt hn iC he gq,λF0 B F H ρ σ r Q rs e w=>?_⟩
 obtain⟨ds,h1,h2⟩:=aR e
 exact qt F0 B F H ρ σ ds _ rs h1 λvs F1 H1 x1 l=>hs F1 H1 vs ds r Q x1.fh l h2 λv F2 H2 x2 l2=>w v F2 H2 (x1.trans x2) l2
theorem Wd {es:List Expr}{ns:List Nat}{fs:Env->Option (List D)}{id:String}{r:List V->Hp->VK->Prop}{op:List D->Option D}(hc:eR X (.type id) r)(hs:uG X.K ct ns k r op)(hg:Gl X x)(hm:X.mg x=none)(hv:bZ x=some (.type id))(ha:XA X ct ms (e::es) ns fs)
  (hn:x≠"__name__":=by decide) (iC:(x==("__debug__":aJ))=false:=by decide) (he:ak (e::es) X.env=(false,br e X.env)::ak es X.env:=by rfl) (gq:(bU pos (ak es X.env)).any (·.1)=false:=by rfl) :
  XE X ct ms k (.Call (.Name x pp) (e::es) [] pos) (eN op fs):=by
 obtain⟨t,pt,_,qt⟩:=ha
 refine⟨_,Nv hc hg hm hv pt hn iC he gq,λF0 B F H ρ σ r Q rs e w=>?_⟩
 obtain⟨ds,h1,h2⟩:=aR e
 exact qt F0 B F H ρ σ ds _ rs h1 λvs F1 H1 x1 l=>hs F1 H1 vs ds r Q x1.fh l h2 λv F2 H2 x2 l2=>w v F2 H2 (x1.trans x2) l2
theorem J0 {es:List Expr}{ns:List Nat}{fs:Env->Option (List D)}{id:String}{r:List V->Hp->VK->Prop}{op:List D->Option D}(hc:eR X (.type id) r)(hs:vP X.K ct ns k r op)(hg:Gl X x)(hm:X.mg x=none)(hv:bZ x=some (.type id))(ha:XA X ct ms (e::es) ns fs)
  (hn:x≠"__name__":=by decide) (iC:(x==("__debug__":aJ))=false:=by decide) (he:ak (e::es) X.env=(false,br e X.env)::ak es X.env:=by rfl) (gq:(bU pos (ak es X.env)).any (·.1)=false:=by rfl) :
  XO X ct ms k (.Call (.Name x pp) (e::es) [] pos) (eN op fs):=by
 obtain⟨t,pt,_,qt⟩:=ha
 refine⟨_,Nv hc hg hm hv pt hn iC he gq,λF0 B F H ρ σ r Q rs e w=>?_⟩
 obtain⟨ds,h1,h2⟩:=aR e
 exact qt F0 B F H ρ σ ds _ rs h1 λvs F1 H1 x1 l=>hs F1 H1 vs ds r Q x1.fh l h2 λv F2 H2 fp x2 l2 nd hf=>w v F2 H2 fp (x1.trans x2) l2 nd λz hz=>x1.hh.free (hf z hz)
def dc (cs:List Nat)(x:aJ):D->Option D
 |.obj c ns ds=>if cs.contains c=true then(ns.zip ds).lookup x else none
 |_=>none
theorem JW {R:D->V->Prop}{x:aJ}{d:D}:∀{ns:List aJ} {ds:List D} {vs:List V},Pr R ds vs->(ns.zip ds).lookup x=some d->∃v,(ns.zip vs).lookup x=some v/\R d v
 |[],_,_,_,e=>by simp at e
 |_::_,_,_,.nil,e=>by simp at e
 |y::ns,_,_,.cons h t,e=>by
  rw[e9,aZ]at e
  rw[e9,aZ]
  cases q:x==y with
  |true=>rw[q]at e;cases e;exact⟨_,rfl,h⟩
  |false=>rw[q]at e;exact JW t e
theorem Kf {vs:List V}{x:aJ}:∀{ns:List aJ} {vs:List V},ns.contains x=false->(ns.zip vs).lookup x=none
 |[],_,_=>by simp
 |_::_,[],_=>by simp
 |y::ns,_::vs,h=>by
  rw[ke,oK]at h
  rw[e9,aZ,h.1]
  exact Kf (vs:=vs) h.2
theorem xg {x:aJ}{cs:List Nat}(he:XE X ct ms n e f)(hc:∀c∈cs,lF X.K (ct c)/\fz X.K (ct c) x)(hb:df e x X.env (br e X.env)=br e X.env):XE X ct ms (n-1) (.Attribute e x pos) (e1 (dc cs x) f):=by
 obtain⟨t,pt,qt⟩:=he
 refine⟨_,Zs pt hb,λF0 B F H ρ σ r Q rs e w=>?_⟩
 obtain⟨o,h1,h2⟩:=aR e
 refine qt F0 B F H ρ σ o _ rs h1 λv F1 H1 x1 l=>?_
 cases o with
 |obj c ns ds=>
  obtain⟨a,dx,vs,rfl,ha,hl,Im⟩:=l.obj x1.fh
  unfold dc at h2
  dsimp only at h2
  by_cases rK:cs.contains c=true
  ·rw[if_pos rK]at h2
   obtain⟨u,hu,du⟩:=JW Im h2
   have hh:=hc c (by simpa using rK)
   exact⟨a,_,dx,_,u,rfl,ha,hh.1,hh.2,hu,w u F1 H1 x1 du⟩
  ·rw[if_neg rK]at h2;cases h2
 |_=>cases h2
def iq (c0:Nat)(m:aJ)(mf:List D->Option D)(o:D)(ds:List D):Option D:=match o with
 |.obj c ns _=>if c=c0/\ns.contains m=false then mf (o::ds)else none
 |_=>none
theorem Gq {o:Expr}{x:aJ}{cP:cE}{pl:ng Bool}{es:List Expr}{ns nd:List Nat}{fs:Env->Option (List D)}{gC:List V}{iP:List D}{kn:List ae}{c0:Nat}(ho:XE X ct ms n o f)(c:lF X.K (ct c0))(hm:oZ X.K (ct c0) x fa)(Fn:cp X.prog X.w X.K X.mg X.base eQ kk fa fd ps (gM X.K ct (n::(ns++nd)) rk mf))(hr:dG kk X.A)
  (hb:bz X.K fd ps kn) (hd:bM gC kn) (rL:∀F G,iL X.K ct F G nd iP gC) (ha:XA X ct ms (e::es) ns fs)
  (ie:ak (e::es) X.env=(false,br e X.env)::ak es X.env:=by rfl) (gq:(bU pos (ak es X.env)).any (·.1)=false:=by rfl)
  (ht:br (.Call (.Attribute o x cP) (e::es) [] pos) X.env=(do
   let ov ← br o X.env
   fF cP.atName
   let(f,first) ← dP [ov] (fK ov x pl)
   hJ pos f first (bU pos (ak (e::es) X.env)) (eh pos (cJ [] X.env))):=by rfl) :
  XO X ct ms rk (.Call (.Attribute o x cP) (e::es) [] pos) (λρ=>(f ρ).bind λo=>(fs ρ).bind λds=>iq c0 x mf o (ds++iP)):=by
 obtain⟨u,pu,qu⟩:=ho
 obtain⟨t,pt,_,qt⟩:=ha
 refine⟨_,X3 pu c hm Fn hr hb hd og pt ie gq ht,λF0 B F H ρ σ r Q rs e w=>?_⟩
 obtain⟨o,ds,h1,h2,h3⟩:=dX e
 refine qu F0 B F H ρ σ o _ rs h1 λv F1 H1 x1 l=>?_
 cases o with
 |obj c1 Fy o8=>
  unfold iq at h3
  dsimp only at h3
  split at h3
  ·rename_i hc
   obtain⟨rfl,oG⟩:=hc
   obtain⟨a,dx,vs,rfl,ha,hl,Im⟩:=l.obj x1.fh
   refine⟨a,dx,_,rfl,ha,Kf (vs:=vs) oG,?_⟩
   refine qt F0 B F1 H1 ρ σ ds _ (rs.ext x1) h2 λus F2 H2 x2 l2=>⟨F2,_,r,x2.fh,.cons (l.mono x2.ff x2.hh) (iL.append (rL F2 H2) l2),h3,λv F3 H3 fp x3 o nd hf=>?_⟩
   exact w v F3 H3 fp ((x1.trans x2).trans x3) o nd λz hz=>(x1.trans x2).hh.free (hf z hz)
  ·cases h3
 |_=>cases h3
theorem Ep {o:Expr}{x:aJ}{cP:cE}{pl:ng Bool}{nd:List Nat}{gC:List V}{iP:List D}{kn:List ae}{c0:Nat}(ho:XE X ct ms n o f)(c:lF X.K (ct c0))(hm:oZ X.K (ct c0) x fa)(Fn:cp X.prog X.w X.K X.mg X.base eQ kk fa fd ps (gM X.K ct (n::nd) rk mf))(hr:dG kk X.A)
  (hb:bz X.K fd ps kn) (hd:bM gC kn) (rL:∀F G,iL X.K ct F G nd iP gC)
  (ht:br (.Call (.Attribute o x cP) [] [] pos) X.env=(do
   let ov ← br o X.env
   fF cP.atName
   let(f,first) ← dP [ov] (fK ov x pl)
   hJ pos f first (bU pos (ak [] X.env)) (eh pos (cJ [] X.env))):=by rfl) :
  XO X ct ms rk (.Call (.Attribute o x cP) [] [] pos) (λρ=>(f ρ).bind λo=>iq c0 x mf o iP):=by
 obtain⟨u,pu,qu⟩:=ho
 refine⟨_,WI pu c hm Fn hr hb hd og ht,λF0 B F H ρ σ r Q rs e w=>?_⟩
 obtain⟨o,h1,h3⟩:=aR e
 refine qu F0 B F H ρ σ o _ rs h1 λv F1 H1 x1 l=>?_
 cases o with
 |obj c1 Fy o8=>
  unfold iq at h3
  dsimp only at h3
  split at h3
  ·rename_i hc
   obtain⟨rfl,oG⟩:=hc
   obtain⟨a,dx,vs,rfl,ha,hl,Im⟩:=l.obj x1.fh
   refine⟨a,dx,_,rfl,ha,Kf (vs:=vs) oG,F1,_,r,x1.fh,.cons l (rL F1 H1),h3,λv F3 H3 fp x3 o nd hf=>?_⟩
   exact w v F3 H3 fp (x1.trans x3) o nd λz hz=>x1.hh.free (hf z hz)
  ·cases h3
 |_=>cases h3
end
end L3
namespace L3
open PySem PySem.Spec L2
open PyProof.Rows hiding St
inductive Out where
 |nx (ρ:Env)|rt (d:D)|bk (ρ:Env)|ct (ρ:Env)
abbrev SF:=Env->Option Out
def jJ (K:aa)(cl:Nat->ah)(F0 B:Hp)(ms:List Mo)(rk:Nat)(E:gU):Out->Prop
 |.nx ρ=>∀σ F H,RS K cl F0 B ms F H ρ σ->E.nx σ H
 |.bk ρ=>∀σ F H,RS K cl F0 B ms F H ρ σ->E.bk σ H
 |.ct ρ=>∀σ F H,RS K cl F0 B ms F H ρ σ->E.ct σ H
 |.rt d=>∀v F H fp,bI F0 F->bI B H->bI F H->(∀a o,B a=some o->F0 a=none->F a=none)->Ow K cl F H rk d v fp->fp.Nodup->(∀a∈fp,B a=none)->E.rt v H
section
variable (X:Cx)(ct:Nat->ah)(ms:List Mo)(rk:Nat)
def XS (st:bL)(f:SF):Prop:=∃t,PS X st t/\∀(F0 B F H:Hp) (ρ:Env) (σ:St) (o:Out) (E:gU),RS X.K ct F0 B ms F H ρ σ->f ρ=some o->jJ X.K ct F0 B ms rk E o->t E σ H
def pL (st:List bL)(f:SF):Prop:=∃t,nr X st t/\∀(F0 B F H:Hp) (ρ:Env) (σ:St) (o:Out) (E:gU),RS X.K ct F0 B ms F H ρ σ->f ρ=some o->jJ X.K ct F0 B ms rk E o->t E σ H
end
def sSkip:SF:=λρ=>some (.nx ρ)
def sSeq (f g:SF):SF:=λρ=>(f ρ).bind λo=>match o with
 |.nx ρ'=>g ρ'
 |o=>some o
def sIf (c:BF)(f g:SF):SF:=λρ=>(c ρ).bind λb=>if b=true then f ρ else g ρ
def sSet (i:Nat)(f:EF):SF:=λρ=>(f ρ).bind λd=>some (.nx (ρ.set i (some d)))
def sRet (f:EF):SF:=λρ=>(f ρ).bind λd=>some (.rt d)
def sRetN:SF:=λ_=>some (.rt .non)
def sDrop (f:EF):SF:=λρ=>(f ρ).bind λ_=>some (.nx ρ)
def jY:SF:=λ_=>none
def nQ:Nat:=2 ^ 9000
def kM (c:BF)(b:SF):Nat->SF
 |0,_=>none
 |n+1,ρ=>(c ρ).bind λt=>if t=true then(b ρ).bind λo=>match o with
   |.nx ρ'=>kM c b n ρ'
   |.ct ρ'=>kM c b n ρ'
   |.bk ρ'=>some (.nx ρ')
   |.rt d=>some (.rt d)
  else some (.nx ρ)
def lX (c:BF)(b:SF):SF:=kM c b nQ
def fk (g:D->Env->Option Env)(b:SF):List D->SF
 |[],ρ=>some (.nx ρ)
 |d::ds,ρ=>(g d ρ).bind λρ1=>(b ρ1).bind λo=>match o with
   |.nx ρ'=>fk g b ds ρ'
   |.ct ρ'=>fk g b ds ρ'
   |.bk ρ'=>some (.nx ρ')
   |.rt d=>some (.rt d)
def sFor (f:Env->Option (List D))(g:D->Env->Option Env)(b:SF):SF:=λρ=>(f ρ).bind λds=>fk g b ds ρ
section
variable {X:Cx}{ct:Nat->ah}{ms:List Mo}{rk n m k:Nat}{st:bL}{rest:List bL}{a b c e:Expr}{f g h:EF}{p q:BF}{u w:SF}{pos:cE}
theorem ym:pL X ct ms rk [] sSkip:=⟨_,Xw,λF0 B F H ρ σ o E rs e w=>by cases e;exact w σ F H rs⟩
theorem ze (h1:XS X ct ms rk st u)(h2:pL X ct ms rk rest w):pL X ct ms rk (st::rest) (sSeq u w):=by
 obtain⟨t,pt,qt⟩:=h1
 obtain⟨t2,pw,pz⟩:=h2
 refine⟨_,Kb pt pw,λF0 B F H ρ σ o E rs e z=>?_⟩
 obtain⟨o1,e1,e2⟩:=aR e
 refine qt F0 B F H ρ σ o1 _ rs e1 ?_
 cases o1 with
 |nx ρ'=>exactλσ' F' H' DW=>pz F0 B F' H' ρ' σ' o E DW e2 z
 |rt d=>cases e2;exact z
 |bk ρ'=>cases e2;exact z
 |ct ρ'=>cases e2;exact z
theorem zg (h1:XS X ct ms rk st u):pL X ct ms rk [st] u:=by
 obtain⟨t,pt,qt⟩:=h1
 exact⟨_,Ko pt,qt⟩
theorem Gc:XS X ct ms rk st jY:=⟨_,WE,λF0 B F H ρ σ o E rs e w=>by cases e⟩
theorem We {Jz:List bL}:pL X ct ms rk Jz jY:=⟨_,V3,λF0 B F H ρ σ o E rs e w=>by cases e⟩
theorem Yk (he:XE X ct ms n e f)(hs:di e none pos.line X.env=pure false:=by rfl):XS X ct ms rk (.Expr e pos) (sDrop f):=by
 obtain⟨t,pt,qt⟩:=he
 refine⟨_,Aa pt hs,λF0 B F H ρ σ o E rs e w=>?_⟩
 obtain⟨d,h1,h2⟩:=aR e
 cases h2
 exact qt F0 B F H ρ σ d _ rs h1 λv F' H' x l=>w σ F' H' (rs.ext x)
theorem yb (he:XO X ct ms rk e f):XS X ct ms rk (.Return (some e) pos) (sRet f):=by
 obtain⟨t,pt,qt⟩:=he
 refine⟨_,O7 pt,λF0 B F H ρ σ o E rs e w=>?_⟩
 obtain⟨d,h1,h2⟩:=aR e
 cases h2
 refine qt F0 B F H ρ σ d _ rs h1 λv F' H' fp x l nd hf=>?_
 have r:=rs.ext x
 exact w v F' H' fp r.f0 r.bh r.fh r.nf l nd λz hz=>rs.bh.free (hf z hz)
theorem vo {D0 qM:List bL}(hc:XT X ct ms c p)(h1:pL X ct ms rk D0 u)(h2:pL X ct ms rk qM w):XS X ct ms rk (.If c D0 qM pos) (sIf p u w):=by
 obtain⟨t,pt,qt⟩:=hc
 obtain⟨t1,sg,si⟩:=h1
 obtain⟨t2,pw,pz⟩:=h2
 refine⟨_,Pv pt sg pw,λF0 B F H ρ σ o E rs e z=>?_⟩
 obtain⟨x,h1,h2⟩:=aR e
 refine qt F0 B F H ρ σ x _ rs h1 λF1 H1 x1=>?_
 cases x with
 |true=>rw[if_pos rfl]at h2 ⊢;exact si F0 B F1 H1 ρ σ o E (rs.ext x1) h2 z
 |false=>rw[if_neg aH]at h2 ⊢;exact pz F0 B F1 H1 ρ σ o E (rs.ext x1) h2 z
theorem RS.put {K:aa}{F0 B F H F' H':Hp}{ρ:Env}{σ:St}{i:Nat}(rs:RS K ct F0 B ms F H ρ σ)(hm:ms[i]?=some (.ow k)) :
  ∃f1 fr:List ah,f1.Nodup/\(∀a∈f1,B a=none)/\(∀a∈f1,a∉fr)/\(∀d,ρ[i]?=some (some d)->∃v,σ[i]?=some (some v)/\Ow K ct F H k d v f1)/\(∀a∈fr,F a=none/\∃o,H a=some o) /\
   ∀(F' H':Hp) (d':D) (v':V) (f':List ah),bI F F'->bI B H'->bI F' H'->(∀a o,B a=some o->F0 a=none->F' a=none)->(∀a∈fr,H' a=H a/\F' a=none)->Ow K ct F' H' k d' v' f'->f'.Nodup->(∀a∈f',a∉fr)->(∀a∈f',B a=none) ->
    RS K ct F0 B ms F' H' (ρ.set i (some d')) (σ.set i (some v')):=by
 obtain⟨fp,sl,nd,hb⟩:=rs.sl
 obtain⟨f1,fr,i1,i2,i3,i4,i5⟩:=sl.put hm
 obtain⟨n1,n2,n3⟩:=i3 nd
 refine⟨f1,fr,n1,λa z=>hb a (i1 a z),n3,i4,λa z=>sl.cells a (i2 a z),λF' H' d' v' f' s1 s2 s3 s4 kf o R9 dj Rh=>?_⟩
 obtain⟨ko,q1,q2,q3⟩:=i5 F' H' d' v' f' s1 kf o
 exact⟨rs.f0.trans s1,s2,s3,s4,ko,q1,q3 R9 n2 dj,λa z=>(q2 a z).elim (Rh a) λz=>hb a (i2 a z)⟩
theorem RS.set {K:aa}{F0 B F H F' H':Hp}{ρ:Env}{σ:St}{i:Nat}{d:D}{v:V}{fp:List ah}(rs:RS K ct F0 B ms F H ρ σ)(hm:ms[i]?=some (.ow k))(x:eS F H F' H')(o:Ow K ct F' H' k d v fp)(nd:fp.Nodup)(hf:∀a∈fp,H a=none) :
  RS K ct F0 B ms F' H' (ρ.set i (some d)) (σ.set i (some v)):=by
 have r:=rs.ext x
 obtain⟨f1,fr,n1,b1,n3,i4,cf,put⟩:=rs.put (F':=F') (H':=H') hm
 refine put F' H' d v fp x.ff r.bh x.fh r.nf (λa z=>?_) o nd (λa z zb=>?_) λa z=>rs.bh.free (hf a z)
 ·obtain⟨hn,o,ho⟩:=cf a z
  exact⟨(x.hh _ _ ho).trans ho.symm,x.nf a o ho hn⟩
 ·obtain⟨hn,o,ho⟩:=cf a zb
  rw[hf a z]at ho
  cases ho
theorem ZR {i:Nat}{x:aJ}{pos':cE}(hm:ms[i]?=some (.ow k))(hN:X.N.Nodup)(hi:X.N[i]?=some x)(hx:Loc X.env.scope x)(he:XO X ct ms k e f)(hs:di e (some (.Name x pos')) pos.line X.env=pure false:=by rfl)
  (hf:X.fn x=true\/X.env.scope.names.lookup x=some .local:=by first|exact .inl rfl|exact .inr rfl|assumption):XS X ct ms rk (.Assign [.Name x pos'] e pos) (sSet i f):=by
 obtain⟨t,pt,qt⟩:=he
 refine⟨_,Zm hN hi hx pt hs hf,λF0 B F H ρ σ o E rs e w=>?_⟩
 obtain⟨d,h1,h2⟩:=aR e
 cases h2
 exact qt F0 B F H ρ σ d _ rs h1 λv F' H' fp x l nd hf=>w _ F' H' (rs.set hm x l nd hf)
theorem NO (hc:XT X ct ms c p)(hb:pL X ct ms rk rest u)(hp:bW (aG X.prog X.w) X.A X.env X.xe):XS X ct ms rk (.While c rest [] pos) (lX p u):=by
 obtain⟨t,pt,qt⟩:=hc
 obtain⟨t1,sg,si⟩:=hb
 refine⟨_,WF hp pt sg,λF0 B F H ρ σ o E rs e z=>?_⟩
 refine⟨λm σ H=>∃F ρ,RS X.K ct F0 B ms F H ρ σ/\kM p u m ρ=some o,⟨nQ,F,ρ,rs,e⟩,?_⟩
 rintro m σ H ⟨F,ρ,rs,e⟩
 cases m with
 |zero=>cases e
 |succ m=>
  obtain⟨x,h1,h2⟩:=aR e
  refine qt F0 B F H ρ σ x _ rs h1 λF1 H1 x1=>?_
  cases x with
  |true=>
   rw[if_pos rfl]at h2 ⊢
   obtain⟨o1,h3,h4⟩:=aR h2
   refine⟨λσ H=>∃F ρ,RS X.K ct F0 B ms F H ρ σ/\kM p u m ρ=some o,λσ' H' h=>⟨m,iu m,h⟩,?_⟩
   refine si F0 B F1 H1 ρ σ o1 _ (rs.ext x1) h3 ?_
   cases o1 with
   |nx ρ'=>exactλσ' F' H' r=>⟨F',ρ',r,h4⟩
   |ct ρ'=>exactλσ' F' H' r=>⟨F',ρ',r,h4⟩
   |bk ρ'=>cases h4;exact z
   |rt d=>cases h4;exact z
  |false=>
   rw[if_neg aH]at h2 ⊢
   cases h2
   exact z σ F1 H1 (rs.ext x1)
theorem RS.re {K:aa}{F0 B F H:Hp}{ρ:Env}{σ:St}(r:RS K ct F0 B ms F H ρ σ):RS K ct F B ms F H ρ σ:=⟨.refl _,r.bh,r.fh,λ_ _ _ h=>h,r.sl⟩
theorem RS.back {K:aa}{F0 B F H F' H':Hp}{ρ ρ':Env}{σ σ':St}(r:RS K ct F0 B ms F H ρ σ)(q:RS K ct F B ms F' H' ρ' σ'):RS K ct F0 B ms F' H' ρ' σ' :=
 ⟨r.f0.trans q.f0,q.bh,q.fh,λa o h n=>q.nf a o h (r.nf a o h n),q.sl⟩
theorem jJ.re {K:aa}{F0 B F H:Hp}{ρ:Env}{σ:St}{E:gU}{o:Out}(r:RS K ct F0 B ms F H ρ σ)(z:jJ K ct F0 B ms rk E o):jJ K ct F B ms rk E o:=by
 cases o with
 |nx ρ=>exactλσ' F' H' q=>z σ' F' H' (r.back q)
 |bk ρ=>exactλσ' F' H' q=>z σ' F' H' (r.back q)
 |ct ρ=>exactλσ' F' H' q=>z σ' F' H' (r.back q)
 |rt d=>exactλv F' H' fp s1 s2 s3 s4=>z v F' H' fp (r.f0.trans s1) s2 s3 λa o h n=>s4 a o h (r.nf a o h n)
def oX (K:aa)(ct:Nat->ah)(F B:Hp)(n:Nat)(J:It)(ds:List D):Prop :=
 ∀(i:Nat) (F' H':Hp),bI F F'->bI B H'->bI F' H'->(∀d,ds[i]?=some d->J.go i H'/\∀x H2,J.yld i H' x H2->∃F2,eS F' H' F2 H2/\Al K ct F2 B n d x)/\(ds.length<=i->J.stop i H')
def XI (X:Cx)(ct:Nat->ah)(ms:List Mo)(n:Nat)(tg iter:Expr)(f:Env->Option (List D)):Prop:=∃wi,PI X tg iter wi/\∀(F0 B F H:Hp) (ρ:Env) (σ:St) (ds:List D) (R:It->Hp->Prop),RS X.K ct F0 B ms F H ρ σ->f ρ=some ds ->
 (∀J F' H',eS F H F' H'->oX X.K ct F' B n J ds->R J H')->wi σ H R
def XIc (X:Cx)(ct:Nat->ah)(ms:List Mo)(n:Nat)(tg iter:Expr)(f:Env->Option (List D)):Prop:=∃wi,PI X tg iter wi/\∀(F0 B F H:Hp) (ρ:Env) (σ:St) (ds:List D) (R:It->Hp->Prop),RS X.K ct F0 B ms F H ρ σ->f ρ=some ds ->
 (∀J F' H',eS F H F' H'->oX X.K ct F' H' n J ds->R J H')->wi σ H R
def XG (X:Cx)(ct:Nat->ah)(ms:List Mo)(n:Nat)(tg:Expr)(g:D->Env->Option Env):Prop:=∃t,PG X tg t/\∀(F0 B F H:Hp) (ρ ρ':Env) (σ:St) (d:D) (v:V) (Q:St->Hp->Prop),RS X.K ct F0 B ms F H ρ σ->Al X.K ct F B n d v->g d ρ=some ρ' ->
 (∀σ',RS X.K ct F0 B ms F H ρ' σ'->Q σ' H)->t v σ H Q
theorem ja {tg iter:Expr}{fi:Env->Option (List D)}{gg:D->Env->Option Env}(hi:XI X ct ms n tg iter fi)(hg:XG X ct ms n tg gg)(hb:pL X ct ms rk rest u)(hp:bW (aG X.prog X.w) X.A X.env X.xe)(hc:X.calm=true)
  (hs:∀x,cR iter X.env x=pure x:=by intro _;rfl):XS X ct ms rk (.For tg iter rest [] pos) (sFor fi gg u):=by
 obtain⟨wi,pi,qi⟩:=hi
 obtain⟨JM,pg,qg⟩:=hg
 obtain⟨t1,sg,si⟩:=hb
 refine⟨_,Pc hp hc pi pg sg hs,λF0 B F H ρ σ o E rs e z=>?_⟩
 obtain⟨ds,h1,h2⟩:=aR e
 refine qi F0 B F H ρ σ ds _ rs h1 λJ F1 H1 x1 ok=>?_
 refine⟨λi m σ H=>m=ds.length-i/\i<=ds.length/\∃F ρ,bI F1 F/\RS X.K ct F0 B ms F H ρ σ/\fk gg u (ds.drop i) ρ=some o,⟨ds.length,rfl,d9 _,F1,ρ,.refl _,rs.ext x1,h2⟩,?_⟩
 rintro i m σ H ⟨rfl,LL,F,ρ,s1,rs,e⟩
 obtain⟨k1,k2⟩:=ok i F H s1 rs.bh rs.fh
 by_cases lT:i<ds.length
 ·right
  have hd:ds[i]?=some ds[i]:=by simp[lT]
  obtain⟨go,yl⟩:=k1 _ hd
  rw[gQ lT]at e
  obtain⟨ρ1,h3,h4⟩:=aR e
  obtain⟨o1,h5,h6⟩:=aR h4
  refine⟨go,λσ H=>i+1<=ds.length/\∃F ρ,bI F1 F/\RS X.K ct F0 B ms F H ρ σ/\fk gg u (ds.drop (i+1)) ρ=some o,λσ' H' h=>⟨ds.length-(i+1),by omega,rfl,h⟩,λx H2 y=>?_⟩
  obtain⟨F2,x2,l⟩:=yl x H2 y
  refine qg F0 B F2 H2 ρ ρ1 σ _ x _ (rs.ext x2) l h3 λσ' r=>?_
  have s2:=s1.trans x2.ff
  refine si F2 B F2 H2 ρ1 σ' o1 _ r.re h5 ?_
  cases o1 with
  |nx ρ'=>exactλσ' F' H' q=>⟨lT,F',ρ',s2.trans q.f0,r.back q,h6⟩
  |ct ρ'=>exactλσ' F' H' q=>⟨lT,F',ρ',s2.trans q.f0,r.back q,h6⟩
  |bk ρ'=>cases h6;exactλσ' F' H' q=>z σ' F' H' (r.back q)
  |rt d=>cases h6;exact jJ.re (o:=.rt d) r z
 ·left
  refine⟨k2 (by omega),?_⟩
  have:ds.drop i=[]:=iy (by omega)
  rw[this]at e
  cases e
  exact z σ F H rs
def gV (i:Nat):D->Env->Option Env:=λd ρ=>some (ρ.set i (some d))
theorem XD {i:Nat}{x:aJ}(hm:ms[i]?=some (.ow 0))(hN:X.N.Nodup)(hi:X.N[i]?=some x)(hx:Loc X.env.scope x)
  (hf:X.fn x=true\/X.env.scope.names.lookup x=some .local:=by first|exact .inl rfl|exact .inr rfl|assumption):XG X ct ms 0 (.Name x pos) (gV i):=by
 refine⟨_,Om hN hi hx hf,λF0 B F H ρ ρ' σ d v Q rs l e w=>?_⟩
 cases e
 exact w _ (rs.set hm (.refl rs.fh) (Ow.zero l) bG λa z=>(by cases z))
def EM (X:Cx)(ct:Nat->ah)(ms:List Mo)(n:Nat)(kx:List Expr)(g:List D->Env->Option Env):Prop:=∃t,zG X kx t/\(∀ds ρ ρ',g ds ρ=some ρ'->ds.length=kx.length)/\∀(F0 B F H:Hp) (ρ ρ':Env) (σ:St) (ds:List D) (vs:List V) (Q:St->Hp->Prop),RS X.K ct F0 B ms F H ρ σ->Pr (Al X.K ct F B n) ds vs->g ds ρ=some ρ' ->
 (∀σ',RS X.K ct F0 B ms F H ρ' σ'->Q σ' H)->t vs σ H Q
def gsNil:List D->Env->Option Env:=λds ρ=>match ds with
 |[]=>some ρ
 |_=>none
def gsCons (g:D->Env->Option Env)(gs:List D->Env->Option Env):List D->Env->Option Env:=λds ρ=>match ds with
 |d::ds=>(g d ρ).bind λρ'=>gs ds ρ'
 |[]=>none
theorem Ku:EM X ct ms n [] gsNil:=by
 refine⟨_,On,λds ρ ρ' e=>?_,λF0 B F H ρ ρ' σ ds vs Q rs l e w=>?_⟩
 ·cases ds with
  |nil=>rfl
  |cons d ds=>cases e
 ·cases l with
  |nil=>cases e;exact⟨rfl,w σ rs⟩
  |cons _ _=>cases e
theorem ut {tg:Expr}{kx:List Expr}{gg:D->Env->Option Env}{gs:List D->Env->Option Env}(h1:XG X ct ms n tg gg)(h2:EM X ct ms n kx gs)
  (hs:(cQ (tg::kx) X.env).map (·.2)=hG tg X.env::(cQ kx X.env).map (·.2):=by rfl):EM X ct ms n (tg::kx) (gsCons gg gs):=by
 obtain⟨t,pt,qt⟩:=h1
 obtain⟨t2,pw,C5,pz⟩:=h2
 refine⟨_,NS pt pw hs,λds ρ ρ' e=>?_,λF0 B F H ρ ρ' σ ds vs Q rs l e w=>?_⟩
 ·cases ds with
  |nil=>cases e
  |cons d ds=>
   obtain⟨ρ1,h3,h4⟩:=aR e
   rw[aV,aV,C5 _ _ _ h4]
 ·cases l with
  |nil=>cases e
  |cons h t=>
   obtain⟨ρ1,h3,h4⟩:=aR e
   exact⟨_,_,rfl,qt F0 B F H ρ ρ1 σ _ _ _ rs h h3 λσ1 r1=>pz F0 B F H ρ1 ρ' σ1 _ _ _ r1 t h4 w⟩
def gT (gs:List D->Env->Option Env):D->Env->Option Env:=λd ρ=>match d with
 |.tup ds=>gs ds ρ
 |_=>none
theorem KJ {kx:List Expr}{j:Nat}{gs:List D->Env->Option Env}(hc:X.calm=true)(h:EM X ct ms (n-1) kx gs)(hl:(cQ kx X.env).length=kx.length:=by rfl)(ie:(cQ kx X.env).findIdx? (·.1)=none:=by rfl):XG X ct ms n (.Tuple kx j pos) (gT gs):=by
 obtain⟨t,pt,lt,qt⟩:=h
 refine⟨_,O8 (n:=kx.length) hc pt hl ie,λF0 B F H ρ ρ' σ d v Q rs l e w=>?_⟩
 cases d with
 |tup ds=>
  have l':Al X.K ct F H n (.tup ds) v:=l.mono (.refl _) rs.bh
  have:∃a vs,v=.ref a/\kl X.K H a vs/\Pr (Al X.K ct F B (n-1)) ds vs:=by
   cases n with
   |zero=>
    have l:Dt X.K ct F (.tup ds) v:=l
    cases l with
    |tup q t=>exact⟨_,_,rfl,kl.of (rs.fh _ _ q),t.pr⟩
   |succ n=>
    rcases l with l|l
    ·cases l with
     |tup q t=>exact⟨_,_,rfl,kl.of (rs.fh _ _ q),t.pr.mono λ_ _=>Al.of⟩
    ·cases l with
     |tup q t=>exact⟨_,_,rfl,kl.of (rs.fh _ _ q),t⟩
  obtain⟨a,vs,rfl,ha,hp⟩:=this
  exact⟨a,vs,rfl,ha,hp.length.symm.trans (lt _ _ _ e),qt F0 B F H ρ ρ' σ ds vs Q rs hp e w⟩
 |_=>cases e
def startD (N:List aJ)(ds:List D):Env:=ds.map some++aD (N.length-ds.length) none
def mOf (N:List aJ)(b:SF)(ds:List D):Option D:=(b (startD N ds)).bind λo=>match o with
 |.rt d=>some d
 |.nx _=>some .non
 |_=>none
theorem SL.start {K:aa}{F B H:Hp}:∀{pm:List Nat} {ds:List D} {vs:List V} {ms:List Mo} (j:Nat),iL K ct F B pm ds vs->(∀(i n:Nat),pm[i]?=some n->ms[i]?=some (Mo.al n)\/(n=0/\ms[i]?=some (Mo.ow 0)))->ms.length=pm.length+j ->
  SL K ct F B H ms (ds.map some++aD j none) (vs.map some++aD j none) []
 |_,_,_,ms,j,.nil,_,hl=>by
  have:∀(j:Nat) (ms:List Mo),ms.length=j->SL K ct F B H ms (aD j none) (aD j none) []:=by
   intro j
   induction j with
   |zero=>intro ms h;cases ms with
    |nil=>exact .nil
    |cons _ _=>simp at h
   |succ j ih=>intro ms h;cases ms with
    |nil=>simp at h
    |cons m ms=>exact .no (ih ms (by simpa using h))
  simpa using this j ms (by simpa using hl)
 |_,_,_,[],j,.cons h t,_,hl=>by simp at hl;omega
 |_,_,_,m::ms,j,.cons (n:=n) h t,hm,hl=>by
  have ih:=SL.start (ms:=ms) (H:=H) j t (λi n e=>by simpa using hm (i+1) n (by simpa using e)) (by simp at hl;omega)
  rcases hm 0 n rfl with e|⟨rfl,e⟩
  ·simp at e;subst e;exact .al h ih
  ·simp at e;subst e;exact SL.ow (f:=[]) (Ow.zero h) ih
structure Fun2 (K:aa)(x qual:aJ)(st:bL)(f:ah)(fd:aL):Prop where
 ex:∃(oc:ae) (od:Option ah) (dV kV doc pm:ae) (an:Option ah) (gB ct:ae) (vA:Array (Option ae)),
  fd=gp x qual (lz st) (fU st) (aQ st) dV kV doc pm an gB ct/\K.lookup f=some ⟨oc,od,.func fd,vA⟩/\aA K gB qual=true
 kp:ar K (.ref f)=true
theorem Fun2.ok {P:bg}{w:bN}{K:aa}{mg:aJ->Option ae}{base:aI}{x qual:aJ}{st:bL}{f:ah}{fd:aL}{N ps:List aJ}{k:Nat}{sp:Sp}(F:Fun2 K x qual st f fd)(S:bt N ps (aQ st))(len:∀vs H Q E,sp vs H Q E->vs.length=ps.length)
    (rH:∀(gB:ae) (A:bx) (outer:List PySem.Env) (s:aj) (H:Hp) (vs:List V) (Q:VK) (E:XK),dG k (A.deeper (envOfC qual (aQ st) s.heap.objs.size f gB))->sp vs H Q E ->
      ∃t,nr (lg eQ P w K mg base N qual (aQ st) f gB A outer s H E).nox (fU st) t/\t { nx:=λ_ H'=>Q .non H',rt:=Q } (L2.start N vs) H):cp P w K mg base eQ (k+1) f fd ps sp:=by
  obtain⟨oc,od,dV,kV,doc,pm,an,gB,ct,vA,rfl,lk,jB⟩:=F.ex
  refine Pt lk jB S len λA outer s H vs Q E hr uU=>?_
  obtain⟨t,h,q⟩:=rH gB A outer s H vs Q E hr uU
  exact⟨t,h.nox,q⟩
theorem lift {P:bg}{w:bN}{K:aa}{mg:aJ->Option ae}{base:aI}{x qual:aJ}{st:bL}{fa:ah}{fd:aL}{N ps:List aJ}{kk:Nat}{pm:List Nat}{bf:SF}(Fn:Fun2 K x qual st fa fd)(S:bt N ps (aQ st))(xZ:pm.length=ps.length)(Fh:ms.length=N.length)(oF:ps.length<=N.length)
  (xT:∀(i n:Nat),pm[i]?=some n->ms[i]?=some (Mo.al n)\/(n=0/\ms[i]?=some (Mo.ow 0)))
  (body:∀(gB:ae) (A:bx) (outer:List PySem.Env) (s:aj) (H:Hp) (E:XK),dG kk (A.deeper (envOfC qual (aQ st) s.heap.objs.size fa gB))->pL (lg eQ P w K mg base N qual (aQ st) fa gB A outer s H E).nox ct ms rk (fU st) bf) :
  cp P w K mg base eQ (kk+1) fa fd ps (gM K ct pm rk (mOf N bf)):=by
 refine Fn.ok S (gM.len xZ) λgB A outer s H vs Q E hr h=>?_
 obtain⟨F,ds,d,sF,l,hm,q⟩:=h
 obtain⟨t,pt,qt⟩:=body gB A outer s H E hr
 refine⟨t,pt,?_⟩
 obtain⟨o,h1,h2⟩:=aR hm
 have RV:vs.length=pm.length:=l.length
 have hdl:ds.length=vs.length:=l.length'
 refine qt F H F H (startD N ds) (L2.start N vs) o _ ⟨.refl _,.refl _,sF,λ_ _ _ h=>h,[],?_,bG,λa z=>(by cases z)⟩ h1 ?_
 ·unfold startD L2.start
  rw[hdl]
  exact SL.start _ l xT (by omega)
 ·cases o with
  |nx ρ=>
   cases h2
   exactλσ F' H' r=>q .non F' H' [] ⟨r.f0,r.bh,r.fh,r.nf⟩ (Ow.scal .non rfl) bG λa z=>(by cases z)
  |rt d'=>
   cases h2
   exactλv F' H' fp s1 s2 s3 s4 o nd hf=>q v F' H' fp ⟨s1,s2,s3,s4⟩ o nd hf
  |bk ρ=>cases h2
  |ct ρ=>cases h2
end
end L3
namespace L3
open PySem PySem.Spec L2
open PyProof.Rows hiding St
theorem gA.or {X:Cx}{f:ae->ae->ng ae}{r r':R2}(h:gA X f r)(h':gA X f r'):gA X f (λx y H Q=>r x y H Q\/r' x y H Q) :=
 λaf s σ H x y v u Q I rx ry q=>q.elim (h af s σ H x y v u Q I rx ry) (h' af s σ H x y v u Q I rx ry)
section
variable {K:aa}{ct:Nat->ah}{n m k:Nat}
def i2 (g:Int->Int->D):D->D->Option D
 |.int i,.int j=>some (g i j)
 |_,_=>none
def rT (C:Int->Int->Prop)[∀i j,Decidable (C i j)](g:Int->Int->D):D->D->Option D
 |.int i,.int j=>if C i j then some (g i j)else none
 |_,_=>none
theorem GF {g:Int->Int->D}{gv:Int->Int->V}(hg:∀i j F,Dt K ct F (g i j) (gv i j)):mm K ct n m k (oI gv) (i2 g):=by
 intro F H x y d1 d2 d Q s l1 l2 e w
 cases d1 with
 |int i=>
  cases d2 with
  |int j=>cases e;exact⟨i,j,l1.int,l2.int,w _ F H (.refl s) (Al.of (hg i j F))⟩
  |_=>cases e
 |_=>cases e
theorem Gv {C C':Int->Int->Prop}[∀i j,Decidable (C i j)]{g:Int->Int->D}{gv:Int->Int->V}(hC:∀i j,C i j->C' i j)(hg:∀i j F,Dt K ct F (g i j) (gv i j)):mm K ct n m k (rI C' gv) (rT C g):=by
 intro F H x y d1 d2 d Q s l1 l2 e w
 cases d1 with
 |int i=>
  cases d2 with
  |int j=>
   unfold rT at e
   dsimp only at e
   by_cases h:C i j
   ·rw[if_pos h]at e;cases e;exact⟨i,j,l1.int,l2.int,hC i j h,w _ F H (.refl s) (Al.of (hg i j F))⟩
   ·rw[if_neg h]at e;cases e
  |_=>cases e
 |_=>cases e
def KS:Nat:=2 ^ 9000
def Aq:Nat:=2 ^ 100000
def jE:D->D->Option D:=i2 λi j=>.int (i-j)
theorem u5:mm K ct n m k (oI λi j=>.int (i-j)) jE:=GF λ_ _ _=>.int _
def kW (i j:Int):Prop:=(-18446744073709551616<i/\i<18446744073709551616)\/(-18446744073709551616<j/\j<18446744073709551616)\/(i.natAbs<Aq/\j.natAbs<Aq)
instance (i j:Int):Decidable (kW i j):=by unfold kW;infer_instance
def gN:D->D->Option D:=rT kW λi j=>.int (i*j)
theorem kW.ok {i j:Int}(h:kW i j):mQ i j:=by
 rcases h with h|h|h
 ·exact .inl (.inl ⟨by have:=h.1;omega,by have:=h.2;omega⟩)
 ·exact .inl (.inr ⟨by have:=h.1;omega,by have:=h.2;omega⟩)
 ·exact .inr h
theorem XF:mm K ct n m k (rI mQ λi j=>.int (i*j)) gN:=Gv (λ_ _=>kW.ok) λ_ _ _=>.int _
def D.v:D->V
 |.bl b=>.bl b
 |.int i=>.int i
 |.str x=>.str x
 |_=>.non
theorem Dt.v {F:Hp}{d:D}{v:V}(h:Dt K ct F d v)(hs:d.sc=true):v=d.v:=by
 cases h<;>first|rfl|cases hs
theorem Al.v {F G:Hp}{d:D}{v:V}(h:Al K ct F G n d v)(hs:d.sc=true):v=d.v:=Dt.v (Al.scal (F':=F) h hs) hs
theorem D.flat {d:D}(hs:d.sc=true):gY d.v=true:=by cases d<;>first|rfl|cases hs
theorem Pr.vs {F G:Hp}:∀{ds:List D} {vs:List V},Pr (Al K ct F G n) ds vs->ds.all D.sc=true->vs=ds.map D.v
 |_,_,.nil,_=>rfl
 |d::ds,v::vs,.cons h t,e=>by
  rw[cZ,bJ]at e
  rw[bn,Al.v h e.1,Pr.vs t e.2]
def gI:D->D->Option D
 |.int i,.int j=>if 0<j/\j<4611686018427387904 then some (.int (i/j))else if j≠0/\j.natAbs<KS then some (.int (i.fdiv j))else none
 |_,_=>none
theorem vq:mm K ct n m k (rI (λ_ j=>j≠0/\Sz 9000 j) λi j=>.int (i.fdiv j)) gI:=by
 intro F H x y d1 d2 d Q s l1 l2 e w
 cases d1 with
 |int i=>
  cases d2 with
  |int j=>
   unfold gI at e
   dsimp only at e
   by_cases h:0<j/\j<4611686018427387904
   ·rw[if_pos h]at e
    cases e
    refine⟨i,j,l1.int,l2.int,⟨by omega,?_⟩,?_⟩
    ·have:Sz 62 j:=by unfold Sz;omega
     exact this.mono (by decide)
    ·show Q (.int (i.fdiv j)) H
     rw[mL i (by omega)]
     exact w _ F H (.refl s) (Al.of (.int _))
   ·rw[if_neg h]at e
    by_cases h:j≠0/\j.natAbs<KS
    ·rw[if_pos h]at e
     cases e
     exact⟨i,j,l1.int,l2.int,h,w _ F H (.refl s) (Al.of (.int _))⟩
    ·rw[if_neg h]at e;cases e
  |_=>cases e
 |_=>cases e
def eI:D->D->Option D
 |.int i,.int j=>if 0<j then some (.int (i%j))else if j≠0 then some (.int (i.fmod j))else none
 |_,_=>none
theorem xu:mm K ct n m k (rI (λ_ j=>j≠0) λi j=>.int (i.fmod j)) eI:=by
 intro F H x y d1 d2 d Q s l1 l2 e w
 cases d1 with
 |int i=>
  cases d2 with
  |int j=>
   unfold eI at e
   dsimp only at e
   by_cases h:0<j
   ·rw[if_pos h]at e
    cases e
    refine⟨i,j,l1.int,l2.int,by omega,?_⟩
    show Q (.int (i.fmod j)) H
    rw[Int.fmod_eq_emod_of_nonneg i (by omega)]
    exact w _ F H (.refl s) (Al.of (.int _))
   ·rw[if_neg h]at e
    by_cases h:j≠0
    ·rw[if_pos h]at e
     cases e
     exact⟨i,j,l1.int,l2.int,h,w _ F H (.refl s) (Al.of (.int _))⟩
    ·rw[if_neg h]at e;cases e
  |_=>cases e
 |_=>cases e
def m5 (i j:Int):Prop:=0<=j/\j<=1000000/\i.natAbs<18446744073709551616
instance (i j:Int):Decidable (m5 i j):=by unfold m5;infer_instance
def sf:D->D->Option D:=rT m5 λi j=>.int (i ^ j.toNat)
theorem OB:mm K ct n m k (rI sZ λi j=>.int (i ^ j.toNat)) sf:=Gv (λ_ _ h=>⟨h.1,h.2.1,by have:=h.2.2;omega⟩) λ_ _ _=>.int _
def t5:D->D->Option D:=rT m5 λi j=>.int (i*2 ^ j.toNat)
theorem XH:mm K ct n m k (rI sZ λi j=>.int (i*2 ^ j.toNat)) t5:=Gv (λ_ _ h=>⟨h.1,h.2.1,by have:=h.2.2;omega⟩) λ_ _ _=>.int _
def qK:D->D->Option D:=rT (λ_ j=>0<=j) λi j=>.int (i/2 ^ j.toNat)
theorem OC:mm K ct n m k (rI (λ_ j=>0<=j) λi j=>.int (i/2 ^ j.toNat)) qK:=Gv (λ_ _ h=>h) λ_ _ _=>.int _
def rh:D->D->Option D:=i2 λi j=>.bl (decide (i<j))
def rF:D->D->Option D:=i2 λi j=>.bl (decide (j<i))
def xF:D->D->Option D:=i2 λi j=>.bl (decide (j<=i))
theorem vL:mm K ct n m k (oI λi j=>.bl (decide (i<j))) rh:=GF λ_ _ _=>.bl _
theorem Ae:mm K ct n m k (oI λi j=>.bl (decide (j<i))) rF:=GF λ_ _ _=>.bl _
theorem KL:mm K ct n m k (oI λi j=>.bl (decide (j<=i))) xF:=GF λ_ _ _=>.bl _
def yM:R2:=λx y H Q=>∃i j,x=.str i/\y=.str j/\Q (.bl (!(decide (j.cps.toList<i.cps.toList)))) H
theorem ZS {X:Cx}:gA X (cV .LtE) yM:=by
 intro af s σ H x y v u Q I rx ry h
 obtain⟨i,j,rfl,rfl,q⟩:=h
 obtain⟨t,rfl⟩:=rx
 obtain⟨t',rfl⟩:=ry
 exact PySem.P.le_str ⟨.bl _,H,I,rfl,q⟩
def tV:D->D->Option D
 |.int i,.int j=>some (.bl (decide (i<=j)))
 |.str i,.str j=>some (.bl (!(decide (j.cps.toList<i.cps.toList))))
 |_,_=>none
theorem yY:mm K ct n m k (λx y H Q=>oI (λi j=>.bl (decide (i<=j))) x y H Q\/yM x y H Q) tV:=by
 intro F H x y d1 d2 d Q s l1 l2 e w
 cases d1 with
 |int i=>
  cases d2 with
  |int j=>cases e;exact .inl ⟨i,j,l1.int,l2.int,w _ F H (.refl s) (Al.of (.bl _))⟩
  |_=>cases e
 |str i=>
  cases d2 with
  |str j=>cases e;exact .inr ⟨i,j,l1.str,l2.str,w _ F H (.refl s) (Al.of (.bl _))⟩
  |_=>cases e
 |_=>cases e
theorem zD {X:Cx}:gA X (cV .LtE) (λx y H Q=>oI (λi j=>.bl (decide (i<=j))) x y H Q\/yM x y H Q):=gA.or Z7 ZS
def D.isN:D->Bool
 |.non=>true
 |_=>false
def D.isB (b:Bool):D->Bool
 |.bl c=>c==b
 |_=>false
def uW (neg:Bool):D->D->Option D
 |d,.non=>some (.bl (if neg then !d.isN else d.isN))
 |d,.bl b=>some (.bl (if neg then !d.isB b else d.isB b))
 |_,_=>none
theorem Al.ref {F G:Hp}{d:D}{v:V}(h:Al K ct F G n d v)(hs:d.sc=false):∃a,v=.ref a:=by
 cases n with
 |zero=>cases(show Dt K ct F d v from h)<;>first|cases hs;done|exact⟨_,rfl⟩
 |succ n=>rcases h with h|h<;>cases h<;>first|cases hs;done|exact⟨_,rfl⟩
theorem Al.isn {F G:Hp}{d:D}{v:V}(h:Al K ct F G n d v):decide (v=.non)=d.isN:=by
 cases hs:d.sc with
 |true=>
  have:=Al.v h hs
  subst this
  cases d<;>first|rfl|cases hs
 |false=>
  obtain⟨a,rfl⟩:=h.ref hs
  cases d<;>first|rfl|cases hs
theorem Al.isb {F G:Hp}{d:D}{v:V}{b:Bool}(h:Al K ct F G n d v):decide (v=.bl b)=d.isB b:=by
 cases hs:d.sc with
 |true=>
  have:=Al.v h hs
  subst this
  cases d<;>first|rfl|(cases hs;done)|(rename_i c;cases b<;>cases c<;>rfl)
 |false=>
  obtain⟨a,rfl⟩:=h.ref hs
  cases d<;>first|rfl|cases hs
def Mz:R2:=λx y H Q=>(y=.non/\Q (.bl (decide (x=.non))) H)\/∃b,y=.bl b/\Q (.bl (decide (x=.bl b))) H
theorem EH {X:Cx}:gA X (cV .Is) Mz:=gA.or Zr ZM
theorem Ey:mm K ct n m k Mz (uW false):=by
 intro F H x y d1 d2 d Q s l1 l2 e w
 cases d2 with
 |non=>
  cases e
  refine .inl ⟨l2.non,?_⟩
  rw[l1.isn]
  exact w _ F H (.refl s) (Al.of (.bl _))
 |bl b=>
  cases e
  refine .inr ⟨b,l2.bl,?_⟩
  rw[l1.isb]
  exact w _ F H (.refl s) (Al.of (.bl _))
 |_=>cases e
mutual
def D.py:D->Option bD
 |.non=>some .none
 |.bl b=>some (.bool b)
 |.int i=>some (.int i)
 |.str x=>some (.str x)
 |.lst xs=>(D.pys xs).bind λys=>some (.list ys)
 |.tup xs=>(D.pys xs).bind λys=>some (.tuple ys)
 |_=>none
def D.pys:List D->Option (List bD)
 |[]=>some []
 |d::ds=>(D.py d).bind λx=>(D.pys ds).bind λxs=>some (x::xs)
end
theorem Dt.toPy {F H:Hp}(s:bI F H){d:D}{v:V}{e:bD}(h:Dt K ct F d v)(q:d.py=some e):L2.Dt K H v e:=by
 refine Dt.rec (motive_1:=λd v _=>∀e,d.py=some e->L2.Dt K H v e) (motive_2:=λds vs _=>∀es,D.pys ds=some es->L2.Dts K H vs es) ?_ ?_ ?_ ?_ ?_ ?_ ?_ ?_ ?_ ?_ ?_ ?_ ?_ h e q
 ·intro e h;rw[D.py]at h;cases h;exact .non
 ·intro b e h;rw[D.py]at h;cases h;exact .bl b
 ·intro b e h;rw[D.py]at h;cases h;exact .int b
 ·intro b e h;rw[D.py]at h;cases h;exact .str b
 ·intro _ _ _ q _ t e h
  rw[D.py]at h
  obtain⟨ys,h1,h2⟩:=aR h
  cases h2
  exact .lst (s.seq q) (t _ h1)
 ·intro _ _ _ q _ t e h
  rw[D.py]at h
  obtain⟨ys,h1,h2⟩:=aR h
  cases h2
  exact .tup (kl.of (s _ _ q)) (t _ h1)
 ·intro _ _ _ _ _ _ _ _ e h;simp only[D.py]at h;cases h
 ·intro _ _ _ _ _ _ _ _ e h;simp only[D.py]at h;cases h
 ·intro _ _ _ _ _ _ _ _ _ _ e h;simp only[D.py]at h;cases h
 ·intro _ _ _ _ e h;simp only[D.py]at h;cases h
 ·intro _ _ _ _ _ _ _ _ _ _ _ _ e h;simp only[D.py]at h;cases h
 ·intro e h;rw[D.pys]at h;cases h;exact .nil
 ·intro _ _ _ _ _ _ p t e h
  rw[D.pys]at h
  obtain⟨y,ys,h1,h2,h3⟩:=dX h
  cases h3
  exact .cons (p _ h1) (t _ h2)
theorem Pr.toPy {H:Hp}{R:D->V->Prop}(f:∀d v e,R d v->d.py=some e->L2.Dt K H v e){ds:List D}{vs:List V}{es:List bD}(h:Pr R ds vs)(e:D.pys ds=some es):L2.Dts K H vs es:=by
 induction h generalizing es with
 |nil=>rw[D.pys]at e;cases e;exact .nil
 |cons h t ih=>
  rw[D.pys]at e
  obtain⟨y,ys,h1,h2,h3⟩:=dX e
  cases h3
  exact .cons (f _ _ _ h h1) (ih h2)
theorem Al.toPy {F H:Hp}(s:bI F H){n:Nat}{d:D}{v:V}{e:bD}(h:Al K ct F H n d v)(q:d.py=some e):L2.Dt K H v e:=by
 induction n generalizing d v e with
 |zero=>exact Dt.toPy s h q
 |succ n ih=>
  cases h with
  |inl h=>exact Dt.toPy s h q
  |inr h=>
   cases h with
   |lst h t=>
    rw[D.py]at q
    obtain⟨ys,h1,h2⟩:=aR q
    cases h2
    exact .lst (eE.of h) (Pr.toPy (λ_ _ _=>ih) t h1)
   |tup h t=>
    rw[D.py]at q
    obtain⟨ys,h1,h2⟩:=aR q
    cases h2
    exact .tup (kl.of (s _ _ h)) (Pr.toPy (λ_ _ _=>ih) t h1)
   |_=>simp only[D.py]at q;cases q
def nB (a:bD):Bool:=a.canLay0&&decide (a.depth<=60)
def gH (neg:Bool)(x y:D):Option D:=x.py.bind λa=>y.py.bind λb=>if nB a=true/\nB b=true then some (.bl (if neg then !bD.eqv a b else bD.eqv a b))else none
theorem wl {neg:Bool}:mm K ct n m k (yK K neg) (gH neg):=by
 intro F H x y d1 d2 d Q s l1 l2 e w
 obtain⟨a,b,h1,h2,h3⟩:=dX e
 by_cases h:nB a=true/\nB b=true
 ·rw[if_pos h]at h3
  cases h3
  have o1:=h.1
  have o2:=h.2
  unfold nB at o1 o2
  rw[bJ,decide_eq_true_iff]at o1 o2
  exact⟨a,b,Al.toPy s l1 h1,Al.toPy s l2 h2,o1.1,o2.1,bX (Nat.min_le_left _ _) o1.2,w _ F H (.refl s) (Al.of (.bl _))⟩
 ·rw[if_neg h]at h3;cases h3
end
end L3
namespace L3
open PySem PySem.Spec L2
open PyProof.Rows hiding St
section
variable {K:aa}{ct:Nat->ah}{n m k:Nat}{X:Cx}
theorem Pr.atI {R:D->V->Prop}{ds:List D}{vs:List V}{i:Int}{d:D}(h:Pr R ds vs)(e:atI ds i=some d):∃v,atI vs i=some v/\R d v:=by
 unfold L2.atI at e ⊢
 rw[←h.length]
 obtain⟨j,h1,h2⟩:=aR e
 obtain⟨v,h3,h4⟩:=h.get' h2
 exact⟨v,by rw[h1];exact h3,h4⟩
def tT:D->Option eO
 |.int i=>some (.inl i)
 |.str x=>some (.inr x)
 |_=>none
def mY:List D->Option (List eO)
 |[]=>some []
 |d::ds=>(tT d).bind λk=>(mY ds).bind λks=>some (k::ks)
def jA {κ:Type}[DecidableEq κ](ks:List κ)(ds:List D)(k:κ):Option D:=((ks.zip ds).find? λp=>decide (p.1=k)).map (·.2)
def RO (R:D->V->Prop):Option D->Option V->Prop
 |some d,some u=>R d u
 |none,none=>True
 |_,_=>False
theorem RO.some_of {R:D->V->Prop}{d:D}{q:Option V}(h:RO R (some d) q):∃u,q=some u/\R d u:=by
 cases q with
 |none=>exact h.elim
 |some u=>exact⟨u,rfl,h⟩
theorem RO.none_of {R:D->V->Prop}{q:Option V}(h:RO R none q):q=none:=by
 cases q with
 |none=>rfl
 |some u=>exact h.elim
theorem Kg {κ:Type}[DecidableEq κ]{R:D->V->Prop}{k:κ}:∀{ks:List κ} {ds:List D} {vs:List V},Pr R ds vs->RO R (jA ks ds k) (hE (ks.zip vs) k)
 |[],_,_,_=>by simp[jA,hE,RO]
 |_::_,_,_,.nil=>by simp[jA,hE,RO]
 |y::ks,d::ds,v::vs,.cons h t=>by
  by_cases e:y=k
  ·have h1:jA (y::ks) (d::ds) k=some d:=by simp[jA,cM,e]
   have h2:hE ((y::ks).zip (v::vs)) k=some v:=by simp[hE,cM,e]
   rw[h1,h2]
   exact h
  ·have h1:jA (y::ks) (d::ds) k=jA ks ds k:=by simp[jA,cM,e]
   have h2:hE ((y::ks).zip (v::vs)) k=hE (ks.zip vs) k:=by simp[hE,cM,e]
   rw[h1,h2]
   exact Kg t
theorem KM {F G:Hp}{d:D}{v:V}{k:eO}(e:tT d=some k)(h:Al K ct F G n d v):v=kV k:=by
 cases d with
 |int i=>cases e;exact h.int
 |str i=>cases e;exact h.str
 |_=>cases e
theorem OD {F G:Hp}{ds:List D}{vs:List V}{ks:List eO}(e:mY ds=some ks)(h:Pr (Al K ct F G n) ds vs):vs=ks.map kV:=by
 induction h generalizing ks with
 |nil=>cases e;rfl
 |cons h t ih=>
  unfold mY at e
  obtain⟨k,ks,h1,h2,h3⟩:=dX e
  cases h3
  rw[KM h1 h,ih h2];rfl
def lO (o y:D):Option (Option D):=match o with
 |.dK ks ds=>(tT y).bind λk=>some (jA ks ds k)
 |.dT ks ds=>(match y with|.tup ys=>(mY ys).bind λk=>some (jA ks ds k)|_=>none)
 |_=>none
theorem OE {F G:Hp}{o y:D}{x v:V}(s:bI F G)(l1:Al K ct F G n o x)(l2:Al K ct F G m y v){r:Option D}(e:lO o y=some r) :
  ∃a q,x=.ref a/\lG G a v q/\EI G a/\RO (Al K ct F G (n-1)) r q:=by
 cases o with
 |dK ks ds=>
  obtain⟨a,vs,rfl,ha,hl,hp⟩:=l1.dK s
  obtain⟨k,h1,h2⟩:=aR e
  cases h2
  have hv:=KM h1 l2
  subst hv
  exact⟨a,_,rfl,lG.k ha,.inl ⟨_,.inl ha⟩,Kg hp⟩
 |dT ks ds=>
  obtain⟨a,vs,rfl,ha,hl,hp⟩:=l1.dT s
  cases y with
  |tup ys=>
   obtain⟨k,h1,h2⟩:=aR e
   cases h2
   obtain⟨b,us,rfl,hb,IM⟩:=l2.tup s
   have hv:=OD h1 IM
   subst hv
   exact⟨a,_,rfl,lG.t ha hb,.inr ⟨_,.inl ha⟩,Kg hp⟩
  |_=>cases e
 |_=>cases e
def fJ:D->D->Option D
 |.lst ds,.int i=>atI ds i
 |.tup ds,.int i=>atI ds i
 |.str x,.int i=>if x.length<=16777216 then(atI x.cps.toList i).bind λc=>some (.str ⟨#[c]⟩)else none
 |_,_=>none
theorem Af:mm K ct n m (n-1) (MA K) fJ:=by
 intro F H x y d1 d2 d Q s l1 l2 e w
 cases d1 with
 |lst ds=>
  cases d2 with
  |int i=>
   obtain⟨a,vs,rfl,ha,hp⟩:=l1.lst s
   obtain⟨v,h1,h2⟩:=hp.atI e
   exact .inl ⟨a,vs,i,v,rfl,l2.int,ha,h1,w v F H (.refl s) h2⟩
  |_=>cases e
 |tup ds=>
  cases d2 with
  |int i=>
   obtain⟨a,vs,rfl,ha,hp⟩:=l1.tup s
   obtain⟨v,h1,h2⟩:=hp.atI e
   exact .inr (.inl ⟨a,vs,i,v,rfl,l2.int,kl.of ha,h1,w v F H (.refl s) h2⟩)
  |_=>cases e
 |str z=>
  cases d2 with
  |int i=>
   unfold fJ at e
   dsimp only at e
   by_cases h:z.length<=16777216
   ·rw[if_pos h]at e
    obtain⟨c,h1,h2⟩:=aR e
    cases h2
    exact .inr (.inr ⟨z,i,c,l1.str,l2.int,by rw[bY];exact h,h1,w _ F H (.refl s) (Al.of (.str _))⟩)
   ·rw[if_neg h]at e;cases e
  |_=>cases e
 |_=>cases e
theorem Oq {ms:List Mo}{o e:Expr}{f g:EF}{cP dq:cE}(hu:X.A.units+1<iT)(ho:XE X ct ms n o f)(he:XE X ct ms m e g)(h1:M1 X o "get" cP e dq):XE X ct ms (n-1) (.Call (.Attribute o "get" cP) [e] [] dq) (λρ=>(f ρ).bind λx=>(g ρ).bind λy=>(lO x y).bind λr=>some (r.getD .non)):=by
 obtain⟨ta,pa,qa⟩:=ho
 obtain⟨tb,pb,qb⟩:=he
 refine⟨_,Ww hu pa pb h1,λF0 B F H ρ σ d Q rs e w=>?_⟩
 obtain⟨d1,d2,e1,e2,e3⟩:=dX e
 obtain⟨r,e4,e5⟩:=aR e3
 cases e5
 refine qa F0 B F H ρ σ d1 _ rs e1 λx F1 H1 x1 l1=>?_
 have:∃a,x=.ref a/\EI H1 a:=by
  cases d1 with
  |dK ks ds=>obtain⟨a,vs,rfl,ha,_⟩:=l1.dK x1.fh;exact⟨a,rfl,.inl ⟨_,.inl ha⟩⟩
  |dT ks ds=>obtain⟨a,vs,rfl,ha,_⟩:=l1.dT x1.fh;exact⟨a,rfl,.inr ⟨_,.inl ha⟩⟩
  |_=>cases e4
 obtain⟨a,rfl,R1⟩:=this
 refine⟨a,rfl,R1,qb F0 B F1 H1 ρ σ d2 _ (rs.ext x1) e2 λy F2 H2 x2 l2=>?_⟩
 obtain⟨a',o,ea,gg,_,h⟩:=OE (r:=r) x2.fh (l1.mono x2.ff x2.hh) l2 e4
 cases ea
 refine⟨o,gg,?_⟩
 cases r with
 |none=>rw[h.none_of];exact w _ F2 H2 (x1.trans x2) (Al.of .non)
 |some d=>obtain⟨u,rfl,Fo⟩:=h.some_of;exact w _ F2 H2 (x1.trans x2) Fo
def sM:D->D->Bool
 |.non,.non=>true
 |.bl a,.bl b=>a==b
 |.bl a,.int b=>(if a then 1 else 0)==b
 |.int a,.bl b=>a==(if b then 1 else 0)
 |.int a,.int b=>a==b
 |.str a,.str b=>a==b
 |_,_=>false
theorem Px {x y:D}(hx:x.sc=true)(hy:y.sc=true):qG x.v y.v=sM x y:=by
 cases x<;>first|cases hx;done|(cases y<;>first|cases hy;done|rfl)
def uV (x:D)(ds:List D):Bool:=ds.any λy=>sM y x
theorem KP {x:D}(hx:x.sc=true):∀{ds:List D},ds.all D.sc=true->Fu x.v (ds.map D.v)=uV x ds
 |[],_=>rfl
 |d::ds,h=>by
  rw[cZ,bJ]at h
  have ih:=KP hx h.2
  unfold Fu uV at ih ⊢
  rw[bn,dQ,dQ,ih,Px h.1 hx]
theorem Gd:∀{ds:List D},ds.all D.sc=true->(ds.map D.v).all gY=true
 |[],_=>rfl
 |d::ds,h=>by
  rw[cZ,bJ]at h
  rw[bn,cZ,D.flat h.1,Gd h.2];rfl
def inD (neg:Bool)(x y:D):Option D:=match y with
 |.lst ds=>if x.sc=true/\ds.all D.sc=true then some (.bl (if neg then !uV x ds else uV x ds))else none
 |.tup ds=>if x.sc=true/\ds.all D.sc=true then some (.bl (if neg then !uV x ds else uV x ds))else none
 |_=>none
theorem ZT {neg:Bool}:mm K ct n m k (Mw K neg) (inD neg):=by
 intro F H x y d1 d2 d Q s l1 l2 e w
 cases d2 with
 |lst ds=>
  unfold inD at e
  dsimp only at e
  by_cases h:d1.sc=true/\ds.all D.sc=true
  ·rw[if_pos h]at e
   cases e
   obtain⟨a,vs,rfl,ha,hp⟩:=l2.lst s
   have hv:=hp.vs h.2
   subst hv
   have hx:=Al.v l1 h.1
   subst hx
   refine⟨a,_,rfl,.inl ha,D.flat h.1,Gd h.2,?_⟩
   rw[KP h.1 h.2]
   exact w _ F H (.refl s) (Al.of (.bl _))
  ·rw[if_neg h]at e;cases e
 |tup ds=>
  unfold inD at e
  dsimp only at e
  by_cases h:d1.sc=true/\ds.all D.sc=true
  ·rw[if_pos h]at e
   cases e
   obtain⟨a,vs,rfl,ha,hp⟩:=l2.tup s
   have hv:=hp.vs h.2
   subst hv
   have hx:=Al.v l1 h.1
   subst hx
   refine⟨a,_,rfl,.inr (kl.of ha),D.flat h.1,Gd h.2,?_⟩
   rw[KP h.1 h.2]
   exact w _ F H (.refl s) (Al.of (.bl _))
  ·rw[if_neg h]at e;cases e
 |_=>cases e
def ef:List D->Option D
 |[.lst ds]=>some (.int ds.length)
 |[.tup ds]=>some (.int ds.length)
 |[.dK ks _]=>some (.int ks.length)
 |[.str x]=>if x.length<=16777216 then some (.int x.length)else none
 |_=>none
def DT (K:aa):List V->Hp->VK->Prop:=λxs H Q=>(∃p ys,xs=[.ref p]/\(eE K H p ys\/kl K H p ys)/\Q (.int ys.length) H)\/(∃z,xs=[.str z]/\z.length<=sizeLine/\Q (.int z.length) H)\/∃a cq,xs=[V.ref a]/\H a=some (.dK cq)/\Q (.int cq.length) H
theorem V5:eR X (.builtin "len") (DT X.K):=Vb.or (Vc.or V9)
theorem XJ:uG K ct [n] k (DT K) ef:=by
 intro F H vs ds d Q s l e w
 cases l with
 |cons h t=>
  cases t
  rename_i d1 v
  cases d1 with
  |lst xs=>
   cases e
   obtain⟨a,us,rfl,ha,hp⟩:=h.lst s
   refine .inl ⟨a,us,rfl,.inl ha,?_⟩
   rw[←hp.length]
   exact w _ F H (.refl s) (Al.of (.int _))
  |tup xs=>
   cases e
   obtain⟨a,us,rfl,ha,hp⟩:=h.tup s
   refine .inl ⟨a,us,rfl,.inr (kl.of ha),?_⟩
   rw[←hp.length]
   exact w _ F H (.refl s) (Al.of (.int _))
  |str x=>
   unfold ef at e
   dsimp only at e
   by_cases hz:x.length<=16777216
   ·rw[if_pos hz]at e
    cases e
    exact .inr (.inl ⟨x,by rw[h.str],by rw[bY];exact hz,w _ F H (.refl s) (Al.of (.int _))⟩)
   ·rw[if_neg hz]at e;cases e
  |dK ks xs=>
   cases e
   obtain⟨a,us,rfl,ha,hl,hp⟩:=h.dK s
   refine .inr (.inr ⟨a,_,rfl,ha,?_⟩)
   rw[gu,←hl,kP]
   exact w _ F H (.refl s) (Al.of (.int _))
  |_=>cases e
end
end L3
namespace L3
open PySem PySem.Spec L2
open PyProof.Rows hiding St
section
variable {ct:Nat->ah}{K:aa}
theorem ztf {ι:Type}{Xs:ι->Cx}{ms:List Mo}{n:Nat}{e:Expr}{f:EF}(hK:∀i,(Xs i).K=K)(h:∀i,XO (Xs i) ct ms n e f):∃t,(∀i,PE (Xs i) e t)/\∀(F0 B F H:Hp) (ρ:Env) (σ:St) (d:D) (Q:VK),RS K ct F0 B ms F H ρ σ->f ρ=some d ->
  (∀v F' H' fp,eS F H F' H'->Ow K ct F' H' n d v fp->fp.Nodup->(∀a∈fp,H a=none)->Q v H')->t σ H Q:=by
 refine⟨λσ H Q=>∀i,(h i).choose σ H Q,λi af s σ H Q I q=>(h i).choose_spec.1 af s σ H Q I (q i),λF0 B F H ρ σ d Q rs e w i=>?_⟩
 exact(h i).choose_spec.2 F0 B F H ρ σ d Q (by rw[hK i];exact rs) e λv F' H' fp x l=>w v F' H' fp x (by rw[←hK i];exact l)
def vR (X:Cx)(ct:Nat->ah)(ms:List Mo)(ifs:List Expr)(f:BF):Prop:=∃t,uH X ifs t/\∀(F0 B F H:Hp) (ρ:Env) (σ:St) (b:Bool) (Q:Bool->Hp->Prop),RS X.K ct F0 B ms F H ρ σ->f ρ=some b->(∀F' H',eS F H F' H'->Q b H')->t σ H Q
def eU:BF:=λ_=>some true
theorem wu {X:Cx}{ms:List Mo}:vR X ct ms [] eU:=⟨_,Yh,λF0 B F H ρ σ b Q rs e w=>by cases e;exact w F H (.refl rs.fh)⟩
theorem yZ {X:Cx}{ms:List Mo}{c:Expr}{p:BF}(h:XT X ct ms c p):vR X ct ms [c] p:=by
 obtain⟨t,pt,qt⟩:=h
 exact⟨t,Yi pt,qt⟩
theorem ztg {ι:Type}{Xs:ι->Cx}{ms:List Mo}{ifs:List Expr}{f:BF}(hK:∀i,(Xs i).K=K)(h:∀i,vR (Xs i) ct ms ifs f):∃t,(∀i,uH (Xs i) ifs t)/\∀(F0 B F H:Hp) (ρ:Env) (σ:St) (b:Bool) (Q:Bool->Hp->Prop),RS K ct F0 B ms F H ρ σ->f ρ=some b ->
  (∀F' H',eS F H F' H'->Q b H')->t σ H Q:=by
 refine⟨λσ H Q=>∀i,(h i).choose σ H Q,λi af s σ H Q I q=>(h i).choose_spec.1 af s σ H Q I (q i),λF0 B F H ρ σ d Q rs e w i=>?_⟩
 exact(h i).choose_spec.2 F0 B F H ρ σ d Q (by rw[hK i];exact rs) e w
def uZ {α:Type}(g:α->St->Hp->(St->Hp->Prop)->Prop):Prop:=∀v σ H Q Q',(∀σ' H',Q σ' H'->Q' σ' H')->g v σ H Q->g v σ H Q'
def tE (X:Cx)(ct:Nat->ah)(ms:List Mo)(own n:Nat)(tg:Expr)(g:D->Env->Option Env):Prop:=∃t,PG X tg t/\fP own t/\uZ t/\∀(F0 B F H:Hp) (ρ ρ':Env) (σ:St) (d:D) (v:V) (Q:St->Hp->Prop),RS X.K ct F0 B ms F H ρ σ->Al X.K ct F B n d v->g d ρ=some ρ' ->
 (∀σ',RS X.K ct F0 B ms F H ρ' σ'->Q σ' H)->t v σ H Q
theorem zth {ι:Type}{Xs:ι->Cx}{ms:List Mo}{own n:Nat}{tg:Expr}{g:D->Env->Option Env}(hK:∀i,(Xs i).K=K)(h:∀i,tE (Xs i) ct ms own n tg g):∃t,(∀i,PG (Xs i) tg t)/\fP own t/\∀(F0 B F H:Hp) (ρ ρ':Env) (σ:St) (d:D) (v:V) (Q:St->Hp->Prop),RS K ct F0 B ms F H ρ σ->Al K ct F B n d v->g d ρ=some ρ' ->
  (∀σ',RS K ct F0 B ms F H ρ' σ'->Q σ' H)->t v σ H Q:=by
 refine⟨λv σ H Q=>∀i,(h i).choose v σ H Q,λi af s σ H v u Q I r q=>(h i).choose_spec.1 af s σ H v u Q I r (q i),λv σ H Q q i=>(h i).choose_spec.2.1 v σ H Q (q i),λF0 B F H ρ ρ' σ d v Q rs l e w i=>?_⟩
 exact(h i).choose_spec.2.2.2 F0 B F H ρ ρ' σ d v Q (by rw[hK i];exact rs) (by rw[hK i];exact l) e λσ' r=>w σ' (by rw[←hK i];exact r)
theorem W6 {X:Cx}{ms:List Mo}{own i:Nat}{x:aJ}{pos:cE}(ho:i<own)(hm:ms[i]?=some (.ow 0))(hN:X.N.Nodup)(hi:X.N[i]?=some x)(hx:Loc X.env.scope x)
  (hf:X.fn x=true\/X.env.scope.names.lookup x=some .local:=by first|exact .inl rfl|exact .inr rfl|assumption):tE X ct ms own 0 (.Name x pos) (gV i):=by
 refine⟨_,Om hN hi hx hf,VS i own ho,λv σ H Q Q' m q=>m _ _ q,λF0 B F H ρ ρ' σ d v Q rs l e w=>?_⟩
 cases e
 exact w _ (rs.set hm (.refl rs.fh) (Ow.zero l) bG λa z=>(by cases z))
def yE (own:Nat)(g:uI):Prop:=∀v σ H Q,g v σ H Q->g v σ H λσ' H'=>Q σ' H'/\σ'.length = σ.length/\∀i,own<=i->σ'[i]? = σ[i]?
def tF (X:Cx)(ct:Nat->ah)(ms:List Mo)(own n:Nat)(kx:List Expr)(g:List D->Env->Option Env):Prop:=∃t,zG X kx t/\yE own t/\uZ t/\(∀ds ρ ρ',g ds ρ=some ρ'->ds.length=kx.length)/\∀(F0 B F H:Hp) (ρ ρ':Env) (σ:St) (ds:List D) (vs:List V) (Q:St->Hp->Prop),RS X.K ct F0 B ms F H ρ σ->Pr (Al X.K ct F B n) ds vs->g ds ρ=some ρ' ->
 (∀σ',RS X.K ct F0 B ms F H ρ' σ'->Q σ' H)->t vs σ H Q
theorem NP {X:Cx}{ms:List Mo}{own n:Nat}:tF X ct ms own n [] gsNil:=by
 refine⟨_,On,λv σ H Q q=>⟨q.1,q.2,rfl,λ_ _=>rfl⟩,λv σ H Q Q' m q=>⟨q.1,m _ _ q.2⟩,λds ρ ρ' e=>?_,λF0 B F H ρ ρ' σ ds vs Q rs l e w=>?_⟩
 ·cases ds with
  |nil=>rfl
  |cons d ds=>cases e
 ·cases l with
  |nil=>cases e;exact⟨rfl,w σ rs⟩
  |cons _ _=>cases e
theorem FN {X:Cx}{ms:List Mo}{own n:Nat}{tg:Expr}{kx:List Expr}{gg:D->Env->Option Env}{gs:List D->Env->Option Env}(h1:tE X ct ms own n tg gg)(h2:tF X ct ms own n kx gs)
  (hs:(cQ (tg::kx) X.env).map (·.2)=hG tg X.env::(cQ kx X.env).map (·.2):=by rfl):tF X ct ms own n (tg::kx) (gsCons gg gs):=by
 obtain⟨t,pt,kt,mt,qt⟩:=h1
 obtain⟨t2,pw,R4,Me,C5,pz⟩:=h2
 refine⟨_,NS pt pw hs,λvs σ H Q q=>?_,λvs σ H Q Q' m q=>?_,λds ρ ρ' e=>?_,λF0 B F H ρ ρ' σ ds vs Q rs l e w=>?_⟩
 ·obtain⟨v,r,e,q⟩:=q
  refine⟨v,r,e,mt _ _ _ _ _ (λσ' H' z=>?_) (kt v σ H _ q)⟩
  obtain⟨z1,z2,z3⟩:=z
  refine Me _ _ _ _ _ (λσ2 H2 y=>?_) (R4 r σ' H' Q z1)
  exact⟨y.1,y.2.1.trans z2,λi hi=>(y.2.2 i hi).trans (z3 i hi)⟩
 ·obtain⟨v,r,e,q⟩:=q
  exact⟨v,r,e,mt _ _ _ _ _ (λσ' H' z=>Me _ _ _ _ _ m z) q⟩
 ·cases ds with
  |nil=>cases e
  |cons d ds=>
   obtain⟨ρ1,h3,h4⟩:=aR e
   rw[aV,aV,C5 _ _ _ h4]
 ·cases l with
  |nil=>cases e
  |cons h t'=>
   obtain⟨ρ1,h3,h4⟩:=aR e
   exact⟨_,_,rfl,qt F0 B F H ρ ρ1 σ _ _ _ rs h h3 λσ1 r1=>pz F0 B F H ρ1 ρ' σ1 _ _ _ r1 t' h4 w⟩
theorem Ot {X:Cx}{ms:List Mo}{own n:Nat}{kx:List Expr}{j:Nat}{pos:cE}{gs:List D->Env->Option Env}(hc:X.calm=true)(h:tF X ct ms own (n-1) kx gs)(hl:(cQ kx X.env).length=kx.length:=by rfl)(ie:(cQ kx X.env).findIdx? (·.1)=none:=by rfl):tE X ct ms own n (.Tuple kx j pos) (gT gs):=by
 obtain⟨t,pt,kt,mt,lt,qt⟩:=h
 refine⟨_,O8 (n:=kx.length) hc pt hl ie,λv σ H Q q=>?_,λv σ H Q Q' m q=>?_,λF0 B F H ρ ρ' σ d v Q rs l e w=>?_⟩
 ·obtain⟨a,xs,e,h1,h2,q⟩:=q
  exact⟨a,xs,e,h1,h2,kt _ _ _ _ q⟩
 ·obtain⟨a,xs,e,h1,h2,q⟩:=q
  exact⟨a,xs,e,h1,h2,mt _ _ _ _ _ m q⟩
 cases d with
 |tup ds=>
  have:∃a vs,v=.ref a/\kl X.K H a vs/\Pr (Al X.K ct F B (n-1)) ds vs:=by
   cases n with
   |zero=>
    have l:Dt X.K ct F (.tup ds) v:=l
    cases l with
    |tup q t=>exact⟨_,_,rfl,kl.of (rs.fh _ _ q),t.pr⟩
   |succ n=>
    rcases l with l|l
    ·cases l with
     |tup q t=>exact⟨_,_,rfl,kl.of (rs.fh _ _ q),t.pr.mono λ_ _=>Al.of⟩
    ·cases l with
     |tup q t=>exact⟨_,_,rfl,kl.of (rs.fh _ _ q),t⟩
  obtain⟨a,vs,rfl,ha,hp⟩:=this
  exact⟨a,vs,rfl,ha,hp.length.symm.trans (lt _ _ _ e),qt F0 B F H ρ ρ' σ ds vs Q rs hp e w⟩
 |_=>cases e
def cI (ρ:Env)(cap:List Nat):Env:=cap.map λi=>(ρ[i]?).join
def gG (ms:List Mo)(cap:List Nat):List Mo:=cap.map λi=>.al (((ms[i]?).map Mo.lv).getD 0)
def mU (g:D->Env->Option Env)(p:BF)(f:EF)(ρ0:Env):List D->Option (List D)
 |[]=>some []
 |d::ds=>(g d ρ0).bind λρ1=>(p ρ1).bind λb=>if b=true then(f ρ1).bind λy=>(mU g p f ρ0 ds).bind λys=>some (y::ys)else mU g p f ρ0 ds
def dg (fi:Env->Option (List D))(own:Nat)(cap:List Nat)(g:D->Env->Option Env)(p:BF)(f:EF):EF:=λρ=>(fi ρ).bind λds=>if ds.length<=16777216 then(mU g p f (aD own none++cI ρ cap) ds).bind λys=>some (.lst ys)else none
theorem SL.caps {F B H:Hp}{ms:List Mo}{ρ:Env}{σ:St}(rs:RS K ct F0 B ms F H ρ σ):∀{cap:List Nat},(∀i∈cap,i<ms.length)->SL K ct F H H (gG ms cap) (cI ρ cap) (fO σ cap) []
 |[],_=>.nil
 |i::cap,h=>by
  have ih:=SL.caps rs (cap:=cap) λj hj=>h j (ao _ hj)
  have hi:i<ms.length:=h i ai
  have hm:ms[i]?=some ms[i]:=by simp[hi]
  show SL K ct F H H (.al (((ms[i]?).map Mo.lv).getD 0)::gG ms cap) ((ρ[i]?).join::cI ρ cap) ((σ[i]?).join::fO σ cap) []
  cases e:(ρ[i]?).join with
  |none=>exact .no ih
  |some d=>
   obtain⟨v,hv,l⟩:=rs.get hm (we e)
   rw[hv,hm]
   exact .al l ih
theorem SL.nones {F B H:Hp}{ms Jm:List Mo}{ρ:Env}{σ:St}{fp:List ah}(t:SL K ct F B H ms ρ σ fp):∀{om:List Mo},SL K ct F B H (om++ms) (aD om.length none ++ ρ) (aD om.length none ++ σ) fp
 |[]=>t
 |m::om=>.no (SL.nones (Jm:=Jm) t)
theorem NQ {X:Cx}{ms om:List Mo}{n k:Nat}{iX iter tg:Expr}{ifs:List Expr}{scope:fC}{pos:cE}{N:List aJ}{own:Nat}{cap:List Nat}{fi:Env->Option (List D)}{gg:D->Env->Option Env}{p:BF}{f:EF}
  (B:ki X scope N own cap) (hc:X.calm=true) (ho:om.length=own) (dD:∀i∈cap,i<ms.length) (hi:XIc X ct ms n tg iter fi)
  (hg:∀cl C fp s₀ H₀,tE (hV X scope cl N C fp s₀ H₀) ct (om++gG ms cap) own n tg gg) (ht:∀cl C fp s₀ H₀,vR (hV X scope cl N C fp s₀ H₀) ct (om++gG ms cap) ifs p) (he:∀cl C fp s₀ H₀,XO (hV X scope cl N C fp s₀ H₀) ct (om++gG ms cap) k iX f)
  :
  ∃wi g tt te,PI X tg iter wi/\fP own g/\(∀cl C fp s₀ H₀,PG (hV X scope cl N C fp s₀ H₀) tg g)/\(∀cl C fp s₀ H₀,uH (hV X scope cl N C fp s₀ H₀) ifs tt)/\(∀cl C fp s₀ H₀,PE (hV X scope cl N C fp s₀ H₀) iX te) /\
   ∀(F0 B F H:Hp) (ρ:Env) (σ:St) (d:D) (Q:VK),RS X.K ct F0 B ms F H ρ σ->dg fi own cap gg p f ρ=some d->(∀v F' H' fp,eS F H F' H'->Ow X.K ct F' H' (k+1) d v fp->fp.Nodup->(∀a∈fp,H a=none)->Q v H')->pU wi own cap g tt te σ H Q:=by
 obtain⟨wi,pi,qi⟩:=hi
 obtain⟨JM,pg,kg,qg⟩:=zth (K:=X.K) (Xs:=λz:List (aJ×ah)×ah×List ah×aj×Hp=>hV X scope z.1 N z.2.1 z.2.2.1 z.2.2.2.1 z.2.2.2.2) (λ_=>rfl) (λz=>hg z.1 z.2.1 z.2.2.1 z.2.2.2.1 z.2.2.2.2)
 obtain⟨tt,pt,qt⟩:=ztg (K:=X.K) (Xs:=λz:List (aJ×ah)×ah×List ah×aj×Hp=>hV X scope z.1 N z.2.1 z.2.2.1 z.2.2.2.1 z.2.2.2.2) (λ_=>rfl) (λz=>ht z.1 z.2.1 z.2.2.1 z.2.2.2.1 z.2.2.2.2)
 obtain⟨te,pe,qe⟩:=ztf (K:=X.K) (Xs:=λz:List (aJ×ah)×ah×List ah×aj×Hp=>hV X scope z.1 N z.2.1 z.2.2.1 z.2.2.2.1 z.2.2.2.2) (λ_=>rfl) (λz=>he z.1 z.2.1 z.2.2.1 z.2.2.2.1 z.2.2.2.2)
 refine⟨wi,JM,tt,te,pi,kg,(λcl C fp s₀ H₀=>pg (cl,C,fp,s₀,H₀)),(λcl C fp s₀ H₀=>pt (cl,C,fp,s₀,H₀)),(λcl C fp s₀ H₀=>pe (cl,C,fp,s₀,H₀)),λF0 B F H ρ σ r Q rs e w=>?_⟩
 obtain⟨ds,h1,h2⟩:=aR e
 by_cases hz:ds.length<=16777216
 case neg=>rw[if_neg hz]at h2;cases h2
 rw[if_pos hz]at h2
 obtain⟨ys,h3,h4⟩:=aR h2
 cases h4
 refine qi F0 B F H ρ σ ds _ rs h1 λJ F1 H1 x1 ok A hA=>?_
 have lB:=rs.ext x1
 refine⟨λi m us H2=>m=ds.length-i/\i<=ds.length/\us.length<=i/\H2 A=some (.lst us)/\∃F2 yd zd fp,eS F1 H1 F2 H2/\F2 A=none/\eT (Ow X.K ct F2 H2 k) yd us fp/\fp.Nodup/\(∀a∈fp,H1 a=none/\a≠A)/\mU gg p f (aD own none++cI ρ cap) (ds.drop i)=some zd/\yd++zd=ys,
  ⟨ds.length,rfl,d9 _,aC _,zk,F1,[],ys,[],eS.newO x1.fh hA _,x1.fh.free hA,.nil,bG,λa z=>(by cases z),h3,rfl⟩,?_⟩
 rintro i m us H2 ⟨rfl,LL,RQ,E8,F2,yd,zd,fp,x2,fA,ol,nd,hf,jB,Fp⟩
 refine⟨E8,?_⟩
 have Tr:=lB.ext x2
 obtain⟨k1,k2⟩:=ok i F2 H2 x2.ff x2.hh x2.fh
 by_cases lT:i<ds.length
 ·right
  have hd:ds[i]?=some ds[i]:=by simp[lT]
  obtain⟨go,yl⟩:=k1 _ hd
  rw[gQ lT]at jB
  obtain⟨ρ1,h5,h6⟩:=aR jB
  obtain⟨b,h7,h8⟩:=aR h6
  refine⟨go,by rw[bY];omega,λx H3 y=>?_⟩
  obtain⟨F3,x3,l⟩:=yl x H3 y
  have Ts:=Tr.ext x3
  have sl:=SL.nones (Jm:=[]) (SL.caps Ts dD) (om:=om)
  rw[ho]at sl
  have Tt:RS X.K ct F3 H3 (om++gG ms cap) F3 H3 (aD own none++cI ρ cap) (aD own none++fO σ cap):=⟨.refl _,.refl _,x3.fh,λ_ _ _ h=>h,[],sl,bG,λa z=>(by cases z)⟩
  have A3:H3 A=some (.lst us):=x3.hh _ _ E8
  have Lu:F3 A=none:=x3.nf A _ E8 fA
  refine qg F3 H3 F3 H3 _ ρ1 _ _ x _ Tt (l.mono (.refl _) (x2.trans x3).hh) h5 λσ1 r1=>?_
  refine qt F3 H3 F3 H3 ρ1 σ1 b _ r1 h7 λF4 H4 x4=>?_
  cases b with
  |false=>
   rw[if_neg aH]at h8 ⊢
   have MM:=x3.trans x4
   refine⟨ds.length-(i+1),by omega,rfl,lT,by omega,x4.hh _ _ A3,F4,yd,zd,fp,x2.trans MM,x4.nf A _ A3 Lu,ol.mono λ_ _ _ _ o=>o.ext MM,nd,hf,h8,Fp⟩
  |true=>
   rw[if_pos rfl]at h8 ⊢
   obtain⟨yv,h9,Q6⟩:=aR h8
   obtain⟨zs,Q7,HP⟩:=aR Q6
   cases HP
   refine qe F3 H3 F4 H4 ρ1 σ1 yv _ (r1.ext x4) h9 λv F5 H5 f5 x5 o5 n5 Iv=>?_
   have JO:=(x3.trans x4).trans x5
   have MN:=x4.trans x5
   have A5:H5 A=some (.lst us):=MN.hh _ _ A3
   have Lv:F5 A=none:=MN.nf A _ A3 Lu
   have A4:H4 A=some (.lst us):=x4.hh _ _ A3
   have Lx:∀a∈f5,a≠A:=λa z e=>by rw[e]at z;rw[Iv A z]at A4;cases A4
   refine⟨A5,ds.length-(i+1),by omega,rfl,lT,by rw[bA,iK];omega,zk,F5,yd++[yv],zs,fp++(f5++[]),?_,Lv,?_,?_,?_,Q7,by rw[fD];exact Fp⟩
   ·have FM:=x2.trans JO
    refine⟨FM.ff,λa o h=>?_,λa o h=>?_,FM.nf⟩
    ·rw[zh (zj h hA)];exact FM.hh _ _ h
    ·rw[zh (λz=>by rw[z]at h;rw[Lv]at h;cases h)];exact FM.fh _ _ h
   ·refine(ol.mono λ_ _ f Rn o=>?_).append (.cons ?_ .nil)
    ·refine(o.ext JO).frame (.refl _) λa z=>⟨zh (hf a (Rn a z)).2,((o.ext JO).cells a z).1⟩
    ·exact o5.frame (.refl _) λa z=>⟨zh (Lx a z),(o5.cells a z).1⟩
   ·rw[bQ]
    refine bo.mpr ⟨nd,n5,λa z c hc e=>?_⟩
    subst e
    have:∃o,H2 a=some o:=(eT.cellsOf ol a z).2
    obtain⟨o,ho⟩:=this
    have:=x4.hh _ _ (x3.hh _ _ ho)
    rw[Iv a hc]at this
    cases this
   ·intro a z
    rw[bQ]at z
    rcases bC.mp z with z|z
    ·exact hf a z
    ·refine⟨?_,Lx a z⟩
     have UB:=x2.trans (x3.trans x4)
     exact UB.hh.free (Iv a z)
 ·left
  refine⟨k2 (by omega),?_⟩
  have:ds.drop i=[]:=iy (by omega)
  rw[this]at jB
  cases jB
  rw[bQ]at Fp
  subst Fp
  refine w _ F2 H2 (A::fp) (x1.trans x2) (.inr (.lst fA E8 ol)) (bR.mpr ⟨λz=>(hf A z).2 rfl,nd⟩) λa z=>?_
  rcases aB.mp z with rfl|z
  ·exact x1.hh.free hA
  ·exact x1.hh.free (hf a z).1
theorem XM {X:Cx}{ms om:List Mo}{n k:Nat}{iX iter tg:Expr}{ifs:List Expr}{scope:fC}{pos:cE}{N:List aJ}{own:Nat}{cap:List Nat}{fi:Env->Option (List D)}{gg:D->Env->Option Env}{p:BF}{f:EF}
  (B:ki X scope N own cap) (hc:X.calm=true) (ho:om.length=own) (dD:∀i∈cap,i<ms.length) (hi:XIc X ct ms n tg iter fi)
  (hg:∀cl C fp s₀ H₀,tE (hV X scope cl N C fp s₀ H₀) ct (om++gG ms cap) own n tg gg) (ht:∀cl C fp s₀ H₀,vR (hV X scope cl N C fp s₀ H₀) ct (om++gG ms cap) ifs p) (he:∀cl C fp s₀ H₀,XO (hV X scope cl N C fp s₀ H₀) ct (om++gG ms cap) k iX f)
  (hs:∀x,cR iter X.env x=pure x:=by intro _;rfl):XO X ct ms (k+1) (.ListComp iX [⟨tg,iter,ifs,0⟩] scope pos) (dg fi own cap gg p f):=by
 obtain⟨wi,g,tt,te,pi,kg,pg,pt,pe,q⟩:=NQ (k:=k) (pos:=pos) B hc ho dD hi hg ht he
 exact⟨_,Yj B hc pi kg pg pt pe hs,q⟩
end
end L3
namespace L3
open PySem PySem.Spec L2
open PyProof.Rows hiding St
section
variable {X:Cx}{ct:Nat->ah}{ms:List Mo}{rk n m k:Nat}{st:bL}{rest:List bL}{a b c e tg:Expr}{f g h:EF}{p q:BF}{u w:SF}{pos:cE}
def EQ:D->Option (List D)
 |.lst ds=>some ds
 |_=>none
theorem Kh {d:D}{ds:List D}(h:EQ d=some ds):d=.lst ds:=by cases d<;>simp[EQ]at h;subst h;rfl
def lsD (f:EF):Env->Option (List D):=λρ=>(f ρ).bind EQ
theorem Pj {K:aa}{F B G:Hp}{a:ah}{vs:List V}{ds:List D}(hp:Pr (Al K ct F B n) ds vs)(keep:∀F' H',bI F F'->bI B H'->bI F' H'->eE K H' a vs):oX K ct F B n (GM K a) ds:=by
 intro i F' H' s1 s2 s3
 have hs:eE K H' a vs:=keep F' H' s1 s2 s3
 refine⟨λd hd=>?_,λhl=>⟨vs,hs,by rw[←hp.length];exact hl⟩⟩
 obtain⟨v,hv,l⟩:=hp.get' hd
 refine⟨⟨vs,v,hs,hv⟩,λx H2 y=>?_⟩
 obtain⟨e,y⟩:=y
 subst e
 have:=y vs hs
 rw[hv]at this
 cases this
 exact⟨F',.refl s3,l.mono s1 (.refl _)⟩
theorem Dt.lst_inv {K:aa}{F:Hp}{ds:List D}{v:V}(h:Dt K ct F (.lst ds) v):∃a vs,v=.ref a/\eE K F a vs/\Dts K ct F ds vs:=by
 cases h with
 |lst q t=>exact⟨_,_,rfl,q,t⟩
theorem zA (he:XE X ct ms 0 e f):XI X ct ms 0 tg e (lsD f):=by
 obtain⟨t,pt,qt⟩:=he
 refine⟨_,Oo pt,λF0 B F H ρ σ ds R rs e w=>?_⟩
 obtain⟨d,h1,h2⟩:=aR e
 rw[Kh h2]at h1
 refine qt F0 B F H ρ σ _ _ rs h1 λv F' H' x l=>?_
 obtain⟨a,vs,rfl,ha,hp⟩:=Dt.lst_inv l
 exact⟨a,rfl,⟨vs,x.fh.seq ha⟩,w _ F' H' x (Pj (G:=H') (n:=0) (hp.pr) λF2 H2 s1 s2 s3=>s3.seq (s1.seq ha))⟩
theorem vt (he:XE X ct ms n e f):XIc X ct ms (n-1) tg e (lsD f):=by
 obtain⟨t,pt,qt⟩:=he
 refine⟨_,Oo pt,λF0 B F H ρ σ ds R rs e w=>?_⟩
 obtain⟨d,h1,h2⟩:=aR e
 rw[Kh h2]at h1
 refine qt F0 B F H ρ σ _ _ rs h1 λv F' H' x l=>?_
 obtain⟨a,vs,rfl,ha,hp⟩:=l.lst x.fh
 exact⟨a,rfl,⟨vs,ha⟩,w _ F' H' x (Pj (G:=H') hp λF2 H2 s1 s2 s3=>s2.seq ha)⟩
theorem XI.cc {fi:Env->Option (List D)}(h:XI X ct ms n tg e fi):XIc X ct ms n tg e fi:=by
 obtain⟨t,pt,qt⟩:=h
 refine⟨t,pt,λF0 B F H ρ σ ds R rs e w=>qt F0 B F H ρ σ ds R rs e λJ F' H' x ok=>w J F' H' x λi F2 H2 s1 s2 s3=>?_⟩
 obtain⟨k1,k2⟩:=ok i F2 H2 s1 ((rs.ext x).bh.trans s2) s3
 refine⟨λd hd=>?_,k2⟩
 obtain⟨go,yl⟩:=k1 d hd
 refine⟨go,λv H3 y=>?_⟩
 obtain⟨F3,x3,l⟩:=yl v H3 y
 exact⟨F3,x3,l.mono (.refl _) (rs.ext x).bh⟩
def fu (lo:Int)(j:Nat):List D:=(av j).map λ(t:Nat)=>.int (lo+(t:Int))
def gk:List D->Option (List D)
 |[.int j]=>if -4611686018427387904<=j/\j<4611686018427387904 then some (fu 0 j.toNat)else none
 |_=>none
def mJ:List D->Option (List D)
 |[.int i,.int j]=>if -4611686018427387904<=i/\i<4611686018427387904/\-4611686018427387904<=j/\j<4611686018427387904 then some (fu i (j-i).toNat)else none
 |_=>none
theorem Pk {K:aa}{F B:Hp}{lo:Int}{j:Nat}:oX K ct F B n (Ar lo j) (fu lo j):=by
 intro i F' H' s1 s2 s3
 unfold fu
 refine⟨λd hd=>?_,λhl=>(show j<=i by simpa using hl)⟩
 rw[bK]at hd
 by_cases h:i<j
 ·rw[dS h]at hd
  cases hd
  refine⟨h,λx H2 y=>?_⟩
  obtain⟨e,y⟩:=y
  subst e
  subst y
  exact⟨F',.refl s3,Al.of (.int _)⟩
 ·rw[List.getElem?_eq_none (by simpa using h)]at hd
  cases hd
theorem xv {fs:Env->Option (List D)}{pp:cE}(hm:X.mg "range"=none)(ha:XA X ct ms [a] [m] fs)(hg:Gl X "range":=by rfl)(hs:ak [a] X.env=[(false,br a X.env)]:=by rfl):XI X ct ms n tg (.Call (.Name "range" pp) [a] [] pos) (λρ=>(fs ρ).bind gk):=by
 obtain⟨t,pt,_,qt⟩:=ha
 refine⟨_,VE hg hm pt hs,λF0 B F H ρ σ ds R rs e w=>?_⟩
 obtain⟨o8,h1,h2⟩:=aR e
 refine qt F0 B F H ρ σ _ _ rs h1 λvs F' H' x l=>?_
 cases l with
 |cons h t=>
  cases t
  rename_i d v
  cases d with
  |int j=>
   unfold gk at h2
   dsimp only at h2
   by_cases hj:-4611686018427387904<=j/\j<4611686018427387904
   ·rw[if_pos hj]at h2
    cases h2
    exact⟨j,by rw[h.int],by omega,by omega,w _ F' H' x Pk⟩
   ·rw[if_neg hj]at h2;cases h2
  |_=>cases h2
theorem J1 {fs:Env->Option (List D)}{pp:cE}{m':Nat}(hm:X.mg "range"=none)(ha:XA X ct ms [a,b] [m,m'] fs)(hg:Gl X "range":=by rfl)(hs:ak [a,b] X.env=[(false,br a X.env),(false,br b X.env)]:=by rfl)(lh:ak [b] X.env=[(false,br b X.env)]:=by rfl):XI X ct ms n tg (.Call (.Name "range" pp) [a,b] [] pos) (λρ=>(fs ρ).bind mJ):=by
 obtain⟨t,pt,_,qt⟩:=ha
 refine⟨_,VF hg hm pt hs lh,λF0 B F H ρ σ ds R rs e w=>?_⟩
 obtain⟨o8,h1,h2⟩:=aR e
 refine qt F0 B F H ρ σ _ _ rs h1 λvs F' H' x l=>?_
 cases l with
 |cons h t=>
  cases t with
  |cons h' t=>
   cases t
   rename_i d v d' v'
   cases d with
   |int i=>
    cases d' with
    |int j=>
     unfold mJ at h2
     dsimp only at h2
     by_cases hj:-4611686018427387904<=i/\i<4611686018427387904/\-4611686018427387904<=j/\j<4611686018427387904
     ·rw[if_pos hj]at h2
      cases h2
      exact⟨i,j,by rw[h.int,h'.int],⟨by omega,by omega,by omega,by omega⟩,w _ F' H' x Pk⟩
     ·rw[if_neg hj]at h2;cases h2
    |_=>cases h2
   |_=>cases h2
def fI (i:Nat):List D->List D
 |[]=>[]
 |d::ds=>.tup [.int i,d]::fI (i+1) ds
theorem J5:∀{ds:List D} {j i:Nat} {d:D},(fI j ds)[i]?=some d->∃x,ds[i]?=some x/\d=.tup [.int (j+i:Nat),x]
 |[],_,_,_,h=>by simp[fI]at h
 |x::ds,j,0,d,h=>by simp[fI]at h;subst h;exact⟨x,rfl,rfl⟩
 |x::ds,j,i+1,d,h=>by
  obtain⟨y,h1,h2⟩:=J5 (ds:=ds) (j:=j+1) (i:=i) (d:=d) (by simpa[fI]using h)
  exact⟨y,by simpa using h1,by rw[h2,Nat.add_assoc,Nat.add_comm 1 i]⟩
theorem Ni:∀{ds:List D} {j:Nat},(fI j ds).length=ds.length
 |[],_=>rfl
 |_::ds,j=>by simp[fI,Ni (ds:=ds)]
theorem Pl {K:aa}{F B:Hp}{a:ah}{vs:List V}{ds:List D}(hp:Pr (Al K ct F B n) ds vs)(keep:∀F' H',bI F F'->bI B H'->bI F' H'->eE K H' a vs):oX K ct F B (n+1) (GL K a) (fI 0 ds):=by
 intro i F' H' s1 s2 s3
 have hs:eE K H' a vs:=keep F' H' s1 s2 s3
 refine⟨λd hd=>?_,λhl=>⟨vs,hs,by rw[←hp.length];rw[Ni]at hl;exact hl⟩⟩
 obtain⟨x,hx,rfl⟩:=J5 hd
 obtain⟨v,hv,l⟩:=hp.get' hx
 refine⟨⟨vs,v,hs,hv⟩,λz H2 y=>?_⟩
 obtain⟨r,y',hr,rfl,rfl,y⟩:=y
 have:=y vs hs
 rw[hv]at this
 cases this
 refine⟨_,eS.newS s3 hr _,.inr (.tup zk (.cons (Al.of ?_) (.cons (l.mono (s1.trans (uf (s3.free hr) _)) (.refl _)) .nil)))⟩
 rw[Nat.zero_add]
 exact .int _
theorem XN {fs:Env->Option (List D)}{kJ:List Expr}{kt:Nat}{pt pp:cE}(hm:X.mg "enumerate"=none)(ha:XA X ct ms [a] [0] fs)(hg:Gl X "enumerate":=by rfl)(hs:ak [a] X.env=[(false,br a X.env)]:=by rfl) :
  XI X ct ms 1 (.Tuple kJ kt pt) (.Call (.Name "enumerate" pp) [a] [] pos) (λρ=>(fs ρ).bind λds=>match ds with|[.lst xs]=>some (fI 0 xs)|_=>none):=by
 obtain⟨t,pt,_,qt⟩:=ha
 refine⟨_,Oz hg hm pt hs,λF0 B F H ρ σ ds R rs e w=>?_⟩
 obtain⟨o8,h1,h2⟩:=aR e
 refine qt F0 B F H ρ σ _ _ rs h1 λvs F' H' x l=>?_
 cases l with
 |cons h t=>
  cases t
  rename_i d v
  cases d with
  |lst xs=>
   cases h2
   obtain⟨a,vs,rfl,ha,hp⟩:=Dt.lst_inv h
   exact⟨a,rfl,⟨vs,x.fh.seq ha⟩,w _ F' H' x (Pl (n:=0) hp.pr λF2 H2 s1 s2 s3=>s3.seq (s1.seq ha))⟩
  |_=>cases h2
theorem W7 {fs:Env->Option (List D)}{kJ:List Expr}{kt:Nat}{pt pp:cE}(hm:X.mg "enumerate"=none)(ha:XA X ct ms [a] [n] fs)(hg:Gl X "enumerate":=by rfl)(hs:ak [a] X.env=[(false,br a X.env)]:=by rfl) :
  XIc X ct ms (n-1+1) (.Tuple kJ kt pt) (.Call (.Name "enumerate" pp) [a] [] pos) (λρ=>(fs ρ).bind λds=>match ds with|[.lst xs]=>some (fI 0 xs)|_=>none):=by
 obtain⟨t,pt,_,qt⟩:=ha
 refine⟨_,Oz hg hm pt hs,λF0 B F H ρ σ ds R rs e w=>?_⟩
 obtain⟨o8,h1,h2⟩:=aR e
 refine qt F0 B F H ρ σ _ _ rs h1 λvs F' H' x l=>?_
 cases l with
 |cons h t=>
  cases t
  rename_i d v
  cases d with
  |lst xs=>
   cases h2
   obtain⟨a,vs,rfl,ha,hp⟩:=h.lst x.fh
   exact⟨a,rfl,⟨vs,ha⟩,w _ F' H' x (Pl hp λF2 H2 s1 s2 s3=>s2.seq ha)⟩
  |_=>cases h2
end
end L3
namespace L3
open PySem PySem.Spec L2
open PyProof.Rows hiding St
section
variable {X:Cx}{ct:Nat->ah}{ms:List Mo}{rk n m k:Nat}{st:bL}{rest:List bL}{a b c e tg:Expr}{f g h:EF}{p q:BF}{u w:SF}{pos:cE}
theorem Ow.lst_inv {K:aa}{F H:Hp}{ds:List D}{v:V}{fp:List ah}(h:Ow K ct F H (k+1) (.lst ds) v fp):∃a vs fr,v=.ref a/\fp=a::fr/\F a=none/\H a=some (.lst vs)/\eT (Ow K ct F H k) ds vs fr:=by
 rcases h with⟨h,_⟩|h
 ·cases h
 ·cases h with
  |lst h1 h2 h3=>exact⟨_,_,_,rfl,rfl,h1,h2,h3⟩
theorem Ow.dK_inv {K:aa}{F H:Hp}{ks:List eO}{ds:List D}{v:V}{fp:List ah}(h:Ow K ct F H (k+1) (.dK ks ds) v fp):∃a vs fr,v=.ref a/\fp=a::fr/\F a=none/\H a=some (.dK (ks.zip vs))/\ks.length=vs.length/\eT (Ow K ct F H k) ds vs fr:=by
 rcases h with⟨h,_⟩|h
 ·cases h
 ·cases h with
  |dK h1 h2 h3 h4=>exact⟨_,_,_,rfl,rfl,h1,h2,h3,h4⟩
theorem Ow.dT_inv {K:aa}{F H:Hp}{ks:List (List eO)}{ds:List D}{v:V}{fp:List ah}(h:Ow K ct F H (k+1) (.dT ks ds) v fp):∃a vs fr,v=.ref a/\fp=a::fr/\F a=none/\H a=some (.dT (ks.zip vs))/\ks.length=vs.length/\eT (Ow K ct F H k) ds vs fr:=by
 rcases h with⟨h,_⟩|h
 ·cases h
 ·cases h with
  |dT h1 h2 h3 h4=>exact⟨_,_,_,rfl,rfl,h1,h2,h3,h4⟩
theorem RS.change {K:aa}{F0 B F H F' H':Hp}{ρ:Env}{σ:St}{i:Nat}{d':D}{v:V}{f1 fr fn:List ah}{ad:ah}{o:HO}(rs:RS K ct F0 B ms F H ρ σ)(hm:ms[i]?=some (.ow k))(x:eS F H F' H')
  (hσ:σ[i]?=some (some v)) (b1:∀a∈f1,B a=none) (dj:∀a∈f1,a∉fr) (cf:∀a∈fr,F a=none/\∃o,H a=some o)
  (put:∀(F' H':Hp) (d':D) (v':V) (f':List ah),bI F F'->bI B H'->bI F' H'->(∀a o,B a=some o->F0 a=none->F' a=none)->(∀a∈fr,H' a=H a/\F' a=none)->Ow K ct F' H' k d' v' f'->f'.Nodup->(∀a∈f',a∉fr)->(∀a∈f',B a=none) ->
    RS K ct F0 B ms F' H' (ρ.set i (some d')) (σ.set i (some v')))
  (pO:ad∈f1) (QS:F' ad=none) (o':Ow K ct F' (upd H' ad o) k d' v fn) (nd:fn.Nodup) (rf:∀a∈fn,a∈f1\/H a=none):RS K ct F0 B ms F' (upd H' ad o) (ρ.set i (some d')) σ:=by
 have r:=rs.ext x
 have hB:B ad=none:=b1 ad pO
 have res:=put F' (upd H' ad o) d' v fn x.ff (λz u h=>by rw[zh (λe=>by rw[e,hB]at h;cases h)];exact r.bh _ _ h) (λz u h=>by rw[zh (λe=>by rw[e,QS]at h;cases h)];exact x.fh _ _ h) r.nf
  (λz hz=>by
   obtain⟨hn,o,ho⟩:=cf z hz
   refine⟨?_,x.nf z o ho hn⟩
   have ne:z≠ad:=λe=>dj ad pO (by rw[←e];exact hz)
   rw[zh ne]
   exact(x.hh _ _ ho).trans ho.symm) o' nd
  (λz hz zr=>by
   rcases rf z hz with h|h
   ·exact dj z h zr
   ·obtain⟨_,o,ho⟩:=cf z zr
    rw[h]at ho
    cases ho)
  (λz hz=>(rf z hz).elim (b1 z) λh=>rs.bh.free h)
 have e:σ.set i (some v) = σ:=by
  apply List.ext_getElem?
  intro j
  by_cases hj:i=j
  ·subst hj
   rw[d8 (by
    have:=aT.mp hσ
    exact this.1),hσ]
  ·rw[dL hj]
 rw[e]at res
 exact res
def sApp (i:Nat)(f:EF):SF:=λρ=>(eV i ρ).bind λo=>(f ρ).bind λd=>match o with
 |.lst ds=>if ds.length<16777216 then some (.nx (ρ.set i (some (.lst (ds++[d])))))else none
 |_=>none
theorem Nj (i:Nat){x:aJ}{p1 cP dq:cE}(hm:ms[i]?=some (.ow (k+1)))(he:XO X ct ms k e f)(hN:X.N[i]?=some x:=by rfl)(hv:qC X.env.scope x:=by first|exact Or.inl rfl|exact Or.inr (Or.inl rfl)|exact Or.inr (Or.inr rfl))(hd:(x==("__debug__":aJ))=false:=by decide)
  (jB:(x==("__classdict__":aJ))=false:=by decide) (ie:ak [e] X.env=(false,br e X.env)::ak [] X.env:=by rfl)
  (lQ:df (.Name x p1) "append" X.env (br (.Name x p1) X.env)=br (.Name x p1) X.env:=by rfl)
  (pf:((bU dq (ak [e] X.env)).all (λx=>!x.1)&&(eh dq (cJ [] X.env)).all (λx=>x.1.isSome)
   && decide ([e].length+([]:List fE).length+(if([]:List fE).isEmpty then 0 else 1)<30))=true:=by rfl)
  (lS:(cP.endLine==dq.line)=true:=by rfl) (jU:(bU dq (ak [] X.env)).any (·.1)=false:=by rfl)
  (tQ:di (.Call (.Attribute (.Name x p1) "append" cP) [e] [] dq) none pos.line X.env=pure false:=by rfl) :
  XS X ct ms rk (.Expr (.Call (.Attribute (.Name x p1) "append" cP) [e] [] dq) pos) (sApp i f):=by
 obtain⟨t,pt,qt⟩:=he
 refine⟨_,Aa (GD PySem.F.plainAttrs_list PySem.F.slot_list_append PySem.F.type_list_append FV (u9 hN hv hd jB) (wt pt ji ie) lQ pf lS ie jU) tQ,λF0 B F H ρ σ o E rs e z=>?_⟩
 obtain⟨d1,d2,h1,h2,h3⟩:=dX e
 obtain⟨f1,fr,n1,b1,dj,i4,cf,put⟩:=rs.put (F':=F) (H':=H) hm
 obtain⟨v,hσ,ow⟩:=i4 d1 (we h1)
 refine⟨v,hσ,?_⟩
 cases d1 with
 |lst ds=>
  dsimp only at h3
  by_cases hz:ds.length<16777216
  ·rw[if_pos hz]at h3
   cases h3
   obtain⟨ad,vs,uM,rfl,rfl,hF,hH,ol⟩:=ow.lst_inv
   refine⟨.inl ⟨rfl,_,eE.of hH⟩,qt F0 B F H ρ σ d2 _ rs h2 λv2 F' H' fp x1 o2 R8 xO=>?_⟩
   have hA:H' ad=some (.lst vs):=x1.hh _ _ hH
   have fA:F' ad=none:=x1.nf ad _ hH hF
   have nA:∀a∈fp,a≠ad:=λa hz e=>by rw[e]at hz;rw[xO ad hz]at hH;cases hH
   have zV:=bR.mp n1
   refine⟨ad,vs,v2,rfl,rfl,hA,by rw[←ol.length,bY];exact hz,?_⟩
   refine z σ F' _ (rs.change hm x1 hσ b1 dj cf put ai fA (.inr (.lst fA zk ((ol.mono λ_ _ f' hi o'=>?_).append (.cons (f:=fp) ?_ .nil)))) (fn:=ad::(uM++(fp++[]))) ?_ ?_)
   ·refine(o'.ext x1).frame (.refl _) λa ha=>⟨zh λe=>zV.1 (e▸hi a ha),((o'.ext x1).cells a ha).1⟩
   ·exact o2.frame (.refl _) λa ha=>⟨zh (nA a ha),(o2.cells a ha).1⟩
   ·rw[bQ]
    refine bR.mpr ⟨λhz=>?_,bo.mpr ⟨zV.2,R8,λa ha b hb e=>?_⟩⟩
    ·rcases bC.mp hz with hz|hz
     ·exact zV.1 hz
     ·exact nA ad hz rfl
    ·subst e
     obtain⟨_,o,ho⟩:=eT.cellsOf ol a ha
     rw[xO a hb]at ho
     cases ho
   ·intro a ha
    rw[bQ]at ha
    rcases aB.mp ha with rfl|ha
    ·exact .inl ai
    ·rcases bC.mp ha with ha|ha
     ·exact .inl (ao _ ha)
     ·exact .inr (xO a ha)
  ·rw[if_neg hz]at h3;cases h3
 |_=>cases h3
def lY (ds:List D)(i:Int)(d:D):Option (List D):=(ixN ds.length i).bind λj=>some (ds.set j d)
def fY {κ:Type}[DecidableEq κ](ks:List κ)(ds:List D)(k:κ)(d:D):List κ×List D:=if ks.contains k=true then(ks,(ks.zip ds).map λp=>if p.1=k then d else p.2)else(ks++[k],ds++[d])
theorem eT.set0 {R:D->V->List ah->Prop}{d:D}{v:V}(r:R d v [])(z:∀d v f,R d v f->f=[]):∀{ds:List D} {vs:List V} {fp:List ah} (i:Nat),eT R ds vs fp->eT R (ds.set i d) (vs.set i v) []
 |_,_,_,_,.nil=>.nil
 |_,_,_,0,.cons h t=>by
  have:=eT.cons (f:=[]) (g:=[]) r (eT.ofPr (t.pr λd v f _ q=>by have:=z _ _ _ q;subst this;exact q))
  exact this
 |_,_,_,i+1,.cons h t=>by
  have e:=z _ _ _ h
  subst e
  exact eT.cons (f:=[]) (g:=[]) h (eT.set0 r z i t)
theorem Ow.nil0 {K:aa}{F H:Hp}{d:D}{v:V}{fp:List ah}(h:Ow K ct F H 0 d v fp):fp=[]:=h.2
theorem eT.nil0 {K:aa}{F H:Hp}{ds:List D}{vs:List V}{fp:List ah}(h:eT (Ow K ct F H 0) ds vs fp):fp=[]:=by
 induction h with
 |nil=>rfl
 |cons h t ih=>rw[h.nil0,ih];rfl
end
end L3
namespace L3
open PySem PySem.Spec L2
open PyProof.Rows hiding St
section
variable {X:Cx}{ct:Nat->ah}{ms:List Mo}{rk n m k:Nat}{st:bL}{rest:List bL}{a b c e tg:Expr}{f g h:EF}{p q:BF}{u w:SF}{pos:cE}{K:aa}
theorem Jl {af:List (ah×cN)}{σ:St}{H:Hp}{s:aj}{l:ah}{xs:List V}(I:Inv X af σ H s)(hH:Rd H l (.lst xs)):xs.length<=sizeLine/\∃(cj:List ae) (n:Nat),bM xs cj/\xs.length=cj.length/\s.heap.get? l=some { cls:=.type "list",data:=.seq cj.toArray n }:=by
  obtain⟨z,cj,n,r,e⟩:=hH.ok I.hok
  exact⟨z,cj,n,r,r.length,e⟩
def vC (K:aa):R2:=λx y H Q=>∃l b xs zs,x=.ref l/\y=.ref b/\eE K H l xs/\eE K H b zs/\xs.length+zs.length<=sizeLine/\∀p,H p=none->Q (.ref p) (upd H p (.lst (xs++zs)))
theorem XQ:gA X (dI .Add) (vC X.K):=by
 intro af s σ H x y v u Q I rx ry h
 obtain⟨l,b,xs,zs,rfl,rfl,hH,hB,hz,q⟩:=h
 cases rx
 cases ry
 obtain⟨cj,r,⟨⟨cls,dd,data,sl⟩,n,e,c1,c2,c3⟩,z⟩:=I.list hH
 obtain⟨tR,r2,⟨⟨G5,EV,data2,DZ⟩,n2,e2,c4,c5,c6⟩,z2⟩:=I.list hB
 simp only at c1 c3 c4 c6
 subst c1 c3 c4 c6
 have hl:=r.length
 have rP:=r2.length
 refine qS ⟨_,e,rfl⟩ ⟨_,e2,rfl⟩ noFill_list_add seq_list_add PySem.F.slot_list_add PySem.F.entry_list_add (PySem.F.args_list_add_2 _ _) (list_addW l b cj.toArray tR.toArray n n2 dd EV sl DZ (by rw[aO,aO];omega)) ⟨e,e2,?_⟩
 have ea:cj.toArray++tR.toArray=(cj++tR).toArray:=by simp
 rw[ea]
 exact⟨.ref _,_,I.lnew (t':=s.toks) (r.append r2) (by rw[bA];omega),rfl,q _ I.fresh⟩
def DO:R2:=λx y H Q=>∃i j,x=.str i/\y=.str j/\i.length+j.length<=sizeLine/\Q (.str (i++j)) H
def yJ (K:aa):R2:=λx y H Q=>oI (λi j=>.int (i+j)) x y H Q\/DO x y H Q\/vC K x y H Q\/vD K x y H Q
theorem XU:gA X (dI .Add) (yJ X.K):=gA.or Zo (gA.or VC (gA.or XQ X7))
def dm:D->D->Option D
 |.int i,.int j=>some (.int (i+j))
 |.str x,.str y=>if x.length+y.length<=16777216 then some (.str (x++y))else none
 |.lst xs,.lst ys=>if xs.length+ys.length<=16777216 then some (.lst (xs++ys))else none
 |.tup xs,.tup ys=>if xs.isEmpty=false/\ys.isEmpty=false/\xs.length+ys.length<=1000000 then some (.tup (xs++ys))else none
 |_,_=>none
theorem Pr.ow0 {F G H:Hp}{ds:List D}{vs:List V}(h:Pr (Al K ct F G 0) ds vs):eT (Ow K ct F H 0) ds vs []:=eT.ofPr (h.mono λ_ _ q=>⟨q,rfl⟩)
theorem Al.lst1 {F G:Hp}{ds:List D}{v:V}(hn:n<=1)(h:Al K ct F G n (.lst ds) v)(s:bI F G):∃a vs,v=.ref a/\eE K G a vs/\Pr (Al K ct F G 0) ds vs:=by
 obtain⟨a,vs,e,h1,h2⟩:=h.lst s
 have:n-1=0:=by omega
 rw[this]at h2
 exact⟨a,vs,e,h1,h2⟩
theorem Al.tup1 {F G:Hp}{ds:List D}{v:V}(hn:n<=1)(h:Al K ct F G n (.tup ds) v)(s:bI F G):∃a vs,v=.ref a/\G a=some (.tup vs)/\Pr (Al K ct F G 0) ds vs:=by
 obtain⟨a,vs,e,h1,h2⟩:=h.tup s
 have:n-1=0:=by omega
 rw[this]at h2
 exact⟨a,vs,e,h1,h2⟩
theorem Ab {F H:Hp}{ds:List D}{vs:List V}{Q:VK}(s:bI F H)(hp:Pr (Al K ct F H 0) ds vs)(w:∀v F' H' fp,eS F H F' H'->Ow K ct F' H' 1 (.lst ds) v fp->fp.Nodup->(∀a∈fp,H a=none)->Q v H'):∀p,H p=none->Q (.ref p) (upd H p (.lst vs)):=λp h0=>by
 obtain⟨o,nd⟩:=OA s (hp.ow0 (H:=H)) h0
 exact w _ F _ [p] (eS.newO s h0 _) o (nd bG) λa z=>by rw[aW]at z;subst z;exact h0
theorem XX (hn:n<=1)(hm:m<=1):Au K ct n m 1 (yJ K) dm:=by
 intro F H x y d1 d2 d Q s l1 l2 e w
 have ws:∀d v,d.sc=true->Dt K ct F d v->(∀v F' H' fp,eS F H F' H'->Ow K ct F' H' 1 d v fp->fp.Nodup->(∀a∈fp,H a=none)->Q v H')->Q v H:=λd v hs hd w=>w v F H [] (.refl s) (Ow.scal hd hs) bG λa z=>(by cases z)
 cases d1 with
 |int i=>
  cases d2 with
  |int j=>cases e;exact .inl ⟨i,j,l1.int,l2.int,ws _ _ rfl (.int _) w⟩
  |_=>cases e
 |str i=>
  cases d2 with
  |str j=>
   unfold dm at e
   dsimp only at e
   by_cases hz:i.length+j.length<=16777216
   ·rw[if_pos hz]at e
    cases e
    exact .inr (.inl ⟨i,j,l1.str,l2.str,by rw[bY];exact hz,ws _ _ rfl (.str _) w⟩)
   ·rw[if_neg hz]at e;cases e
  |_=>cases e
 |lst xs=>
  cases d2 with
  |lst ys=>
   unfold dm at e
   dsimp only at e
   by_cases hz:xs.length+ys.length<=16777216
   ·rw[if_pos hz]at e
    cases e
    obtain⟨a,vs,rfl,ha,hp⟩:=Al.lst1 hn l1 s
    obtain⟨b,us,rfl,hb,hq⟩:=Al.lst1 hm l2 s
    exact .inr (.inr (.inl ⟨a,b,vs,us,rfl,rfl,ha,hb,by rw[←hp.length,←hq.length,bY];exact hz,Ab s (hp.append hq) w⟩))
   ·rw[if_neg hz]at e;cases e
  |_=>cases e
 |tup xs=>
  cases d2 with
  |tup ys=>
   unfold dm at e
   dsimp only at e
   by_cases hz:xs.isEmpty=false/\ys.isEmpty=false/\xs.length+ys.length<=1000000
   ·rw[if_pos hz]at e
    cases e
    obtain⟨a,vs,rfl,ha,hp⟩:=Al.tup1 hn l1 s
    obtain⟨b,us,rfl,hb,hq⟩:=Al.tup1 hm l2 s
    have hl:=hp.length
    have rP:=hq.length
    have e1:vs≠[]:=λz=>by
     rw[z]at hl
     have:=nI.mp hl
     rw[this]at hz
     exact absurd hz.1 (by decide)
    have e2:us≠[]:=λz=>by
     rw[z]at rP
     have:=nI.mp rP
     rw[this]at hz
     exact absurd hz.2.1 (by decide)
    refine .inr (.inr (.inr ⟨a,b,vs,us,rfl,rfl,kl.of ha,kl.of hb,e1,by rw[←hl,←rP,bY];omega,λz=>absurd z e2,λ_ p h0=>?_⟩))
    have x2:=eS.newS s h0 (.tup (vs++us))
    exact w _ _ _ [] x2 (.inr (.tup zk (eT.ofPr ((hp.append hq).mono λ_ _ q=>⟨Dt.mono x2.ff q,rfl⟩)))) bG λa z=>(by cases z)
   ·rw[if_neg hz]at e;cases e
  |_=>cases e
 |_=>cases e
def DU:R2:=λx y H Q=>∃l k xs,x=.ref l/\y=.int k/\Rd H l (.lst xs)/\-(2 ^ 63)<=k/\k<2 ^ 63/\xs.length*k.toNat<=sizeLine /\
 ∀p,H p=none->Q (.ref p) (upd H p (.lst (aD k.toNat xs).flatten))
theorem Yv:gA X (dI .Mult) DU:=by
 intro af s σ H x y v u Q I rx ry h
 obtain⟨l,k,xs,rfl,rfl,hH,h1,h2,hz,q⟩:=h
 cases rx
 obtain⟨t,rfl⟩:=ry
 obtain⟨z,cj,n,r,hl,e⟩:=Jl I hH
 have fq:cj.toArray.size*k.toNat<=sizeLine:=by rw[aO,←hl];exact hz
 have dD:¬cj.toArray.size*k.toNat > (2 ^ 63-1)/8:=by
  have:(sizeLine:Nat)<=(2 ^ 63-1)/8:=by decide
  omega
 have Iy:¬(!dO.List.listFitsIndex k)=true:=by
  rw[fitsIndex_both h1 h2]
  exact aH
 have Cg:¬dO.List.listTooLong (cj.toArray.size*k.toNat)=true:=by
  rw[sd fq]
  exact aH
 have II:pY (λx1 x2=>x1++x2) #[] (aD (if cj.toArray.isEmpty=true then 0 else k.toNat) cj.toArray)=(aD k.toNat cj).flatten.toArray:=by
  have f0:∀m:Nat,pY (λx1 x2=>x1++x2) #[] (aD m cj.toArray)=(aD m cj).flatten.toArray:=λm=>by
   have:=zev cj m []
   rw[List.nil_append]at this
   exact this
  rw[f0]
  cases cj with
  |nil=>simp
  |cons a r'=>rw[if_neg (by simp)]
 refine wpAny_binaryOp_repeat_ref (T:="list") (U:="int") (by decide) ⟨_,e,rfl⟩ (λs'=>uD s' k t) noFill_list_mul F.fills_int_mul F.slot_int_rmul repeat_list F.slot_int_index.lookup
  (lm F.slot_int_rmul (uD s k t) F.entry_int_rmul (F.args_int_rmul_2 _ _) (int___rmul___int_list k t l cj.toArray n)
   ⟨e,rfl,⟨_,e,rfl⟩,lm F.slot_list_mul ⟨_,e,rfl⟩ F.entry_list_mul (F.args_list_mul_2 _ _) (AutoListH.list___mul___list_int_3 l cj.toArray n k t Iy dD Cg) ⟨e,?_⟩⟩)
 rw[II]
 exact⟨.ref _,_,I.lnew (t':=s.toks) (r.rep k.toNat) (by rw[X9,Nat.mul_comm];exact hz),rfl,q _ I.fresh⟩
theorem uu:mm K ct n m k (rI mQ λi j=>.int (i*j)) gN:=XF
def jX:D->D->Option D
 |.lst xs,.int j=>if -1000000<j/\j<1000000/\xs.length<=16 then some (.lst (aD j.toNat xs).flatten)else none
 |_,_=>none
theorem Gw (ha:XO X ct ms 1 a f)(hb:XE X ct ms m b g):XO X ct ms 1 (.BinOp a .Mult b pos) (e2 jX f g):=by
 obtain⟨ta,pa,qa⟩:=ha
 obtain⟨tb,pb,qb⟩:=hb
 refine⟨_,KO Yv pa pb,λF0 B F H ρ σ d Q rs e w=>?_⟩
 obtain⟨d1,d2,h1,h2,h3⟩:=dX e
 refine qa F0 B F H ρ σ d1 _ rs h1 λv F1 H1 fp x1 o nd hf=>?_
 refine qb F0 B F1 H1 ρ σ d2 _ (rs.ext x1) h2 λv2 F2 H2 x2 l2=>?_
 cases d1 with
 |lst xs=>
  cases d2 with
  |int j=>
   unfold jX at h3
   dsimp only at h3
   by_cases hz:-1000000<j/\j<1000000/\xs.length<=16
   ·rw[if_pos hz]at h3
    cases h3
    obtain⟨ad,vs,fr,rfl,rfl,hF,hH,ol⟩:=(o.ext x2).lst_inv
    have hp:Pr (Al X.K ct F2 H2 0) xs vs:=ol.pr λ_ _ _ _ q=>q.1
    have MK:=x1.trans x2
    refine⟨ad,j,vs,rfl,l2.int,.inl hH,by omega,by omega,?_,Ab x2.fh (hp.rep _) λv F' H' fp x o nd hf=>w v F' H' fp (MK.trans x) o nd λz hz=>MK.hh.free (hf z hz)⟩
    rw[←hp.length,bY]
    have h1:j.toNat<=1000000:=by omega
    have h2:xs.length*j.toNat<=16*1000000:=Nat.mul_le_mul hz.2.2 h1
    omega
   ·rw[if_neg hz]at h3;cases h3
  |_=>cases h3
 |_=>cases h3
def tW:D->Option D
 |.int i=>some (.int (-i))
 |_=>none
theorem Pm (ha:XE X ct ms n a f):XE X ct ms k (.UnaryOp .USub a pos) (e1 tW f):=by
 refine ztd Zq (λF H x d1 d Q s l e w=>?_) ha
 cases d1 with
 |int i=>cases e;exact⟨i,l.int,w _ F H (.refl s) (Al.of (.int _))⟩
 |_=>cases e
theorem Et {x:aJ}{d:D}{u:ae}(hg:Gl X x)(hm:X.mg x=some u)(hs:d.sc=true)(r:RelV d.v u)(hd:(x==("__debug__":aJ))=false:=by decide):XE X ct ms n (.Name x pos) (eC d):=by
 refine⟨_,Kn hg hm r hd,λF0 B F H ρ σ d' Q rs e w=>?_⟩
 cases e
 refine w _ F H (.refl rs.fh) (Al.of ?_)
 cases d with
 |non=>exact .non
 |bl b=>exact .bl b
 |int b=>exact .int b
 |str b=>exact .str b
 |_=>cases hs
def lV:List D->Option D
 |[.lst ds]=>some (.lst ds)
 |[.tup ds]=>some (.lst ds)
 |_=>none
theorem Ki (hn:n<=1):vP K ct [n] 1 (λxs H Q=>∃p ys,xs=[.ref p]/\(eE K H p ys\/kl K H p ys)/\∀l,H l=none->Q (.ref l) (upd H l (.lst ys))) lV:=by
 intro F H vs ds d Q s l e w
 cases l with
 |cons h t=>
  cases t
  rename_i d1 v
  cases d1 with
  |lst xs=>
   cases e
   obtain⟨a,us,rfl,ha,hp⟩:=Al.lst1 hn h s
   exact⟨a,us,rfl,.inl ha,Ab s hp w⟩
  |tup xs=>
   cases e
   obtain⟨a,us,rfl,ha,hp⟩:=Al.tup1 hn h s
   exact⟨a,us,rfl,.inr (kl.of ha),Ab s hp w⟩
  |_=>cases e
abbrev PF:=Env->Option (Option Int)
def pNo:PF:=λ_=>some none
def pInt (f:EF):PF:=λρ=>(f ρ).bind λd=>match d with
 |.int i=>some (some i)
 |_=>none
def XP (X:Cx)(ct:Nat->ah)(ms:List Mo)(e:Option Expr)(f:PF):Prop:=∃t,PO X e t/\∀(F0 B F H:Hp) (ρ:Env) (σ:St) (o:Option Int) (Q:Option Int->Hp->Prop),RS X.K ct F0 B ms F H ρ σ->f ρ=some o->(∀F' H',eS F H F' H'->Q o H')->t σ H Q
theorem Py:XP X ct ms none pNo:=⟨_,X5,λF0 B F H ρ σ o Q rs e w=>by cases e;exact w F H (.refl rs.fh)⟩
theorem Ou (h:XE X ct ms n e f):XP X ct ms (some e) (pInt f):=by
 obtain⟨t,pt,qt⟩:=h
 refine⟨_,X6 pt,λF0 B F H ρ σ o Q rs e w=>?_⟩
 obtain⟨d,h1,h2⟩:=aR e
 refine qt F0 B F H ρ σ d _ rs h1 λv F' H' x l=>?_
 cases d with
 |int i=>cases h2;exact⟨i,l.int,w F' H' x⟩
 |_=>cases h2
def cutD (xs:List D)(lo hi:Option Int):List D:=(xs.drop (HT.sIx xs.length 0 lo)).take (HT.sIx xs.length xs.length hi-HT.sIx xs.length 0 lo)
theorem Yw {R:D->V->Prop}{ds:List D}{vs:List V}{lo hi:Option Int}(h:Pr R ds vs):Pr R (cutD ds lo hi) (qF vs lo hi):=by
 unfold cutD qF
 rw[h.length]
 exact(h.drop _).take _
def jZ (d:D)(lo hi:Option Int):Option D:=match d with
 |.lst xs=>some (.lst (cutD xs lo hi))
 |_=>none
theorem NR {lo hi:Option Expr}{pl ph:PF}{p1}(hn:n<=1)(he:XE X ct ms n e f)(hl:XP X ct ms lo pl)(hh:XP X ct ms hi ph):XO X ct ms 1 (.Subscript e (.Slice lo hi none p1) pos) (λρ=>(f ρ).bind λd=>(pl ρ).bind λl=>(ph ρ).bind λh=>jZ d l h):=by
 obtain⟨t,pt,qt⟩:=he
 obtain⟨t1,sg,si⟩:=hl
 obtain⟨t2,pw,pz⟩:=hh
 refine⟨_,WK X8 pt sg pw,λF0 B F H ρ σ r Q rs e w=>?_⟩
 obtain⟨d,l,h1,h2,h3⟩:=dX e
 obtain⟨hh,h4,h5⟩:=aR h3
 refine qt F0 B F H ρ σ d _ rs h1 λv F1 H1 x1 l1=>?_
 refine si F0 B F1 H1 ρ σ l _ (rs.ext x1) h2 λF2 H2 x2=>?_
 refine pz F0 B F2 H2 ρ σ hh _ ((rs.ext x1).ext x2) h4 λF3 H3 x3=>?_
 cases d with
 |lst xs=>
  cases h5
  have nc:=x2.trans x3
  obtain⟨a,vs,rfl,ha,hp⟩:=Al.lst1 hn (l1.mono nc.ff nc.hh) nc.fh
  exact⟨a,vs,rfl,ha,Ab nc.fh (Yw hp) λv F' H' fp x o nd hf=>w v F' H' fp ((x1.trans nc).trans x) o nd λz hz=>(x1.trans nc).hh.free (hf z hz)⟩
 |_=>cases h5
def GQ:List D->Option D
 |[.int i]=>some (.int (if i<0 then -i else i))
 |_=>none
def ii (g:Int->Int->D):List D->Option D
 |[.int i,.int j]=>some (g i j)
 |_=>none
theorem ZU {g:Int->Int->D}{gv:Int->Int->V}(hg:∀i j F,Dt K ct F (g i j) (gv i j)):uG K ct [n,m] k (λxs H Q=>∃i j,xs=[.int i,.int j]/\Q (gv i j) H) (ii g):=by
 intro F H vs ds d Q s l e w
 cases l with
 |cons h t=>
  cases t with
  |cons h' t=>
   cases t
   rename_i d1 v d2 v2
   cases d1 with
   |int i=>
    cases d2 with
    |int j=>cases e;exact⟨i,j,by rw[h.int,h'.int],w _ F H (.refl s) (Al.of (hg i j F))⟩
    |_=>cases e
   |_=>cases e
def rY:List D->Option D:=ii λi j=>.int (if j > i then j else i)
def C7:List D->Option D:=ii λi j=>.int (if j<i then j else i)
theorem W8:uG K ct [n,m] k (λxs H Q=>∃i j,xs=[.int i,.int j]/\Q (.int (if j > i then j else i)) H) rY:=ZU λ_ _ _=>.int _
def sj (i:Nat)(o:D->D->Option D)(f:EF):SF:=λρ=>(eV i ρ).bind λx=>(f ρ).bind λy=>(o x y).bind λd=>some (.nx (ρ.set i (some d)))
theorem Pn {op:iS}{i:Nat}{x:aJ}{pos':cE}{gi:Int->Int->Int}(ho:zH X op (Fv gi))(hm:ms[i]?=some (.ow k))(hN:X.N.Nodup)(hi:X.N[i]?=some x)(hx:Loc X.env.scope x)(he:XE X ct ms n e f)(hf:X.fn x=true\/X.env.scope.names.lookup x=some .local:=by first|exact .inl rfl|exact .inr rfl|assumption) :
  XS X ct ms rk (.AugAssign (.Name x pos') op e pos) (sj i (i2 λi j=>.int (gi i j)) f):=by
 obtain⟨t,pt,qt⟩:=he
 refine⟨_,Zn hN hi hx pt ho hf,λF0 B F H ρ σ o E rs e z=>?_⟩
 obtain⟨d1,d2,h1,h2,h3⟩:=dX e
 obtain⟨d,h4,h5⟩:=aR h3
 cases h5
 obtain⟨v,hv,l⟩:=rs.get hm (we h1)
 refine⟨v,hv,qt F0 B F H ρ σ d2 _ rs h2 λy F' H' x1 l2=>?_⟩
 cases d1 with
 |int i'=>
  cases d2 with
  |int j'=>
   cases h4
   exact⟨i',j',l.int,l2.int,z _ F' H' (rs.set hm x1 (Ow.scal (.int _) rfl) bG λa z=>(by cases z))⟩
  |_=>cases h4
 |_=>cases h4
def sPar (i j:Nat)(fs:Env->Option (List D)):SF:=λρ=>(fs ρ).bind λds=>match ds with
 |[x,y]=>some (.nx ((ρ.set i (some x)).set j (some y)))
 |_=>none
def sAsg (g:D->Env->Option Env)(f:EF):SF:=λρ=>(f ρ).bind λd=>(g d ρ).bind λρ'=>some (.nx ρ')
theorem ZV {gg:D->Env->Option Env}(he:XE X ct ms 0 e f)(hg:XG X ct ms 0 tg gg)(hs:pJ [tg] e pos.line X.env=pure false:=by rfl)(hw:pI [tg] e X.env=pure none:=by rfl)
  (h1:(cQ [tg] X.env).map (·.2)=[hG tg X.env]:=by rfl):XS X ct ms rk (.Assign [tg] e pos) (sAsg gg f):=by
 obtain⟨t,pt,qt⟩:=he
 obtain⟨t2,pw,pz⟩:=hg
 refine⟨_,O9 pt pw hs hw h1,λF0 B F H ρ σ o E rs e z=>?_⟩
 obtain⟨d,h1,h2⟩:=aR e
 obtain⟨ρ',h3,h4⟩:=aR h2
 cases h4
 exact qt F0 B F H ρ σ d _ rs h1 λv F' H' x l=>pz F0 B F' H' ρ ρ' σ d v _ (rs.ext x) l h3 λσ' r=>z σ' F' H' r
end
end L3
namespace L3
open PySem PySem.Spec L2
open PyProof.Rows hiding St
def gP:List Nat->List Mo->Bool
 |[],_=>true
 |n::ns,.al m::ms=>decide (n=m)&&gP ns ms
 |n::ns,.ow m::ms=>decide (n=0)&&decide (m=0)&&gP ns ms
 |_,_=>false
theorem ug:∀{pm:List Nat} {ms:List Mo},gP pm ms=true->∀(i n:Nat),pm[i]?=some n->ms[i]?=some (Mo.al n)\/(n=0/\ms[i]?=some (Mo.ow 0))
 |[],_,_,i,n,e=>by simp at e
 |x::ns,.al m::ms,h,i,n,e=>by
  simp only[gP,bJ,decide_eq_true_eq]at h
  cases i with
  |zero=>simp at e;subst e;rw[h.1];exact .inl rfl
  |succ i=>simpa using ug h.2 i n (by simpa using e)
 |x::ns,.ow m::ms,h,i,n,e=>by
  simp only[gP,bJ,decide_eq_true_eq]at h
  cases i with
  |zero=>simp at e;subst e;rw[h.1.1,h.1.2];exact .inr ⟨rfl,rfl⟩
  |succ i=>simpa using ug h.2 i n (by simpa using e)
 |_::_,[],h,_,_,_=>by simp[gP]at h
 |_::_,.px _::_,h,_,_,_=>by simp[gP]at h
 |_::_,.so _::_,h,_,_,_=>by simp[gP]at h
def uK (X:Cx)(scope:fC)(N:List aJ)(own:Nat)(cap:List Nat):Bool :=
 decide (scope.kind=.function)&&scope.names.all (λx=>(decide (x.2≠.cell) || decide (scope.names.lookup x.1=some .cell))&&(decide (x.2≠.local) || decide (scope.names.lookup x.1=some .local))&&(decide (x.2≠.free) || (decide (X.env.kindOf x.1=some .cell) || decide (X.env.kindOf x.1=some .free)))) &&
 decide (N.length=own+cap.length)&&(av cap.length).all λj=>match N[own+j]?,cap[j]? with
  |some x,some i=>decide (X.N[i]?=some x)&&decide (scope.names.lookup x=some .free)
  |_,_=>false
theorem sS {X:Cx}{scope:fC}{N:List aJ}{own:Nat}{cap:List Nat}(h:uK X scope N own cap=true):ki X scope N own cap:=by
 unfold uK at h
 simp only[bJ,decide_eq_true_eq,cm,Bool.or_eq_true]at h
 obtain⟨⟨⟨h1,h2⟩,h3⟩,h4⟩:=h
 refine⟨h1,λx hx hl=>((h2 x hx).1.1).elim (λz=>absurd hl z) id,λx hx hl=>((h2 x hx).1.2).elim (λz=>absurd hl z) id,λx hx hf=>((h2 x hx).2).elim (λz=>absurd hf z) id,h3,λj x hj=>?_⟩
 have LN:j<cap.length:=by
  have:=(aT.mp hj).1
  omega
 have q:=h4 j (aP.mpr LN)
 rw[hj]at q
 have hc:cap[j]?=some cap[j]:=by simp[LN]
 rw[hc]at q
 simp only[bJ,decide_eq_true_eq]at q
 exact⟨_,hc,q.1,q.2⟩
def FK:D->Option String
 |.non=>some "NoneType"
 |.bl _=>some "bool"
 |.int _=>some "int"
 |.str _=>some "str"
 |.lst _=>some "list"
 |.tup _=>some "tuple"
 |.dK _ _=>some "dict"
 |_=>none
def MI (K:aa)(H:Hp)(v:V)(t:String):Prop:=jT K H v (.type t)\/(t = "list"/\∃a xs,v=.ref a/\eE K H a xs)
theorem Al.ty {K:aa}{ct:Nat->ah}{F H:Hp}{n:Nat}{d:D}{v:V}{t:String}(s:bI F H)(h:Al K ct F H n d v)(e:FK d=some t):MI K H v t:=by
 cases d with
 |non=>cases e;rw[h.non];exact .inl .non
 |bl b=>cases e;rw[h.bl];exact .inl (.bl b)
 |int b=>cases e;rw[h.int];exact .inl (.int b)
 |str b=>cases e;rw[h.str];exact .inl (.str b)
 |lst xs=>
  cases e
  obtain⟨a,vs,rfl,ha,_⟩:=h.lst s
  exact .inr ⟨rfl,a,vs,rfl,ha⟩
 |tup xs=>
  cases e
  obtain⟨a,vs,rfl,ha,_⟩:=h.tup s
  exact .inl (.tup ha)
 |dK ks xs=>
  cases e
  obtain⟨a,vs,rfl,ha,_⟩:=h.dK s
  exact .inl (.dK ha)
 |_=>cases e
theorem V6 {X:Cx}:eR X (.builtin "isinstance") (λxs H Q=>∃x c t b,xs=[x,.ty c]/\MI X.K H x t/\aK X.K (.type t) (.type c)=some b/\Q (.bl b) H):=by
 intro af s σ H xs us Q I r h
 obtain⟨x,c,t,b,rfl,ty,e,q⟩:=h
 rcases ty with ty|⟨rfl,a,ys,rfl,hq⟩
 ·exact Wx af s σ H _ us Q I r ⟨x,c,_,b,rfl,ty,e,q⟩
 ·obtain⟨u,w',rfl,ru,pA⟩:=vals2 r
  cases(show w'=ae.type c from pA)
  cases(show u=ae.ref a from ru)
  obtain⟨cj,rv,⟨o,n,h1,h2,_⟩,_⟩:=I.list hq
  exact bV kb I.kIn ⟨o,h1,h2⟩ e (λz=>nomatch z) λtk=>⟨.bl b,H,I.tok tk,rfl,q⟩
def Cv (t c:String):Bool:=t==c || (t == "bool" && c == "int")
theorem Yx {K:aa}:∀t∈(["NoneType","bool","int","str","list","tuple","dict"]:List String),∀c∈(["bool","int","str","list","tuple","dict"]:List String),aK K (.type t) (.type c)=some (Cv t c):=by
 intro t ht c hc
 simp only[aB,cn,or_false]at ht hc
 rcases ht with rfl|rfl|rfl|rfl|rfl|rfl|rfl<;>rcases hc with rfl|rfl|rfl|rfl|rfl|rfl<;>rfl
theorem Yy {d:D}{t:String}(e:FK d=some t):t∈(["NoneType","bool","int","str","list","tuple","dict"]:List String):=by
 cases d<;>simp[FK]at e<;>subst e<;>decide
section
variable {X:Cx}{ct:Nat->ah}{ms:List Mo}{rk n m k:Nat}{a b c e tg:Expr}{f g h:EF}{pos:cE}
def nz (c:String)(d:D):Option D:=(FK d).bind λt=>some (.bl (Cv t c))
theorem Ez {c:String}{pp p2:cE}(hc:c∈(["bool","int","str","list","tuple","dict"]:List String))(hm:X.mg "isinstance"=none)(iH:X.mg c=none)(hb:bZ c=some (.type c))(he:XE X ct ms n e f)(hg:Gl X "isinstance":=by rfl)(nJ:Gl X c:=by rfl)(rQ:aJ.ofString c≠"__name__":=by decide)(hd2:(aJ.ofString c==("__debug__":aJ))=false:=by decide)
  (rR:ak [e,.Name c p2] X.env=(false,br e X.env)::ak [.Name c p2] X.env:=by rfl) (lh:ak [.Name c p2] X.env=(false,br (.Name c p2) X.env)::ak [] X.env:=by rfl) (gq:(bU pos (ak [.Name c p2] X.env)).any (·.1)=false:=by rfl) :
  XE X ct ms k (.Call (.Name "isinstance" pp) [e,.Name c p2] [] pos) (e1 (nz c) f):=by
 obtain⟨t,pt,qt⟩:=he
 refine⟨_,Em V6 hg hm ur (wt pt (wt (Ol (v:=.ty c) nJ iH hb rfl rQ hd2) ji lh) rR) (by decide) (by decide) rR gq,λF0 B F H ρ σ d Q rs e w=>?_⟩
 obtain⟨d1,h1,h2⟩:=aR e
 obtain⟨ty,h3,h4⟩:=aR h2
 cases h4
 exact qt F0 B F H ρ σ d1 _ rs h1 λv F' H' x l=>⟨v,c,ty,_,rfl,l.ty x.fh h3,Yx _ (Yy h3) _ hc,w _ F' H' x (Al.of (.bl _))⟩
end
end L3
namespace L3
open PySem PySem.Spec L2
open PyProof.Rows hiding St
def m6 (K:aa):Sp:=λvs H Q _=>∃(a:ah) (ns:List Int),vs=[.ref a]/\eE K H a (ns.map V.int)/\ns.length<=63/\∀H',Q (.bl true) H'
theorem Dts.ints {K:aa}{ct:Nat->ah}{F:Hp}:∀ns:List Int,Dts K ct F (ns.map D.int) (ns.map V.int)
 |[]=>.nil
 |n::ns=>.cons (.int n) (Dts.ints ns)
theorem ZW {P:bg}{w:bN}{K:aa}{mg:aJ->Option ae}{base:aI}{k:Nat}{f:ah}{fd:aL}{ps:List aJ}{ct:Nat->ah}{m:List D->Option D}(Fn:cp P w K mg base eQ k f fd ps (gM K ct [0] 0 m))
  (h:∀ns:List Int,ns.length<=63->m [.lst (ns.map .int)]=some (.bl true)):cp P w K mg base eQ k f fd ps (m6 K):=by
 have to:∀vs H Q E,m6 K vs H Q E->gM K ct [0] 0 m vs H Q E:=by
  rintro vs H Q E ⟨a,ns,rfl,hS,hl,q⟩
  refine⟨H,[.lst (ns.map .int)],.bl true,.refl _,.cons (Dt.lst hS (Dts.ints ns)) .nil,h ns hl,λv F' H' fp x o nd hf=>?_⟩
  have hv:v=.bl true:=by
   have o:Dt K ct F' (.bl true) v/\fp=[]:=o
   cases o.1
   rfl
  subst hv
  exact q H'
 exact⟨λvs H Q E z=>Fn.len vs H Q E (to vs H Q E z),λA outer s H args us vs Q E hr e0 hb hv z=>Fn.run A outer s H args us vs Q E hr e0 hb hv (to vs H Q E z)⟩
theorem Nk {g:D->Env->Option Env}{b:SF}(I:List D->Env->Prop)(all:List D)(st:∀pre d post ρ,all=pre++d::post->I pre ρ->∃ρ1 ρ2,g d ρ=some ρ1/\(b ρ1=some (.nx ρ2)\/b ρ1=some (.ct ρ2))/\I (pre++[d]) ρ2):∀(ds pre:List D) (ρ:Env),all=pre++ds->I pre ρ ->
  ∃ρ',fk g b ds ρ=some (.nx ρ')/\I all ρ'
 |[],pre,ρ,e,h=>⟨ρ,rfl,by rw[e,bQ];exact h⟩
 |d::ds,pre,ρ,e,h=>by
  obtain⟨ρ1,ρ2,h1,h2,h3⟩:=st pre d ds ρ e h
  obtain⟨ρ',h4,h5⟩:=Nk I all st ds (pre++[d]) ρ2 (by rw[e];simp) h3
  refine⟨ρ',?_,h5⟩
  show(g d ρ).bind _=_
  rw[h1]
  show(b ρ1).bind _=_
  rcases h2 with h2|h2<;>(rw[h2];exact h4)
theorem Ge {g:D->Env->Option Env}{b:SF}(I:List D->Env->Prop){ds:List D}{ρ:Env}(h:I [] ρ)(st:∀pre d post ρ,ds=pre++d::post->I pre ρ->∃ρ1 ρ2,g d ρ=some ρ1/\(b ρ1=some (.nx ρ2)\/b ρ1=some (.ct ρ2))/\I (pre++[d]) ρ2) :
  ∃ρ',fk g b ds ρ=some (.nx ρ')/\I ds ρ':=Nk I ds st ds [] ρ rfl h
theorem Po {α:Type}{all pre post:List α}{d:α}(h:all=pre++d::post):all[pre.length]?=some d:=by subst h;simp
theorem J6 {α S:Type}{g:D->Env->Option Env}{b:SF}(enc:α->D)(st:S->Env)(f:S->α->S)(P:S->Prop):∀(xs:List α) (s:S),P s ->
  (∀s x,x∈xs->P s->∃ρ1,g (enc x) (st s)=some ρ1/\(b ρ1=some (.nx (st (f s x)))\/b ρ1=some (.ct (st (f s x))))/\P (f s x))->fk g b (xs.map enc) (st s)=some (.nx (st (xs.foldl f s)))/\P (xs.foldl f s)
 |[],s,hp,_=>⟨rfl,hp⟩
 |x::xs,s,hp,h=>by
  obtain⟨ρ1,h1,h2,h3⟩:=h s x ai hp
  have ih:=J6 enc st f P xs (f s x) h3 λs y hy=>h s y (ao _ hy)
  refine⟨?_,ih.2⟩
  show(g (enc x) (st s)).bind _=_
  rw[h1]
  show(b ρ1).bind _=_
  rcases h2 with h2|h2<;>(rw[h2];exact ih.1)
theorem NC {g:D->Env->Option Env}{b:SF}(I:Nat->Env->Prop)(lo:Int):∀(n k:Nat) (ρ:Env),I k ρ ->
  (∀j ρ,k<=j->j<k+n->I j ρ->∃ρ1 ρ2,g (.int (lo+(j:Int))) ρ=some ρ1/\(b ρ1=some (.nx ρ2)\/b ρ1=some (.ct ρ2))/\I (j+1) ρ2) ->
  ∃ρ',fk g b ((List.range' k n).map λ(t:Nat)=>D.int (lo+(t:Int))) ρ=some (.nx ρ')/\I (k+n) ρ'
 |0,k,ρ,h,_=>⟨ρ,rfl,h⟩
 |n+1,k,ρ,h,st=>by
  obtain⟨ρ1,ρ2,h1,h2,h3⟩:=st k ρ (aC _) (by omega) h
  obtain⟨ρ',h4,h5⟩:=NC I lo n (k+1) ρ2 h3 λj ρ hj hl hI=>st j ρ (by omega) (by omega) hI
  refine⟨ρ',?_,by rw[show k+(n+1)=k+1+n by omega];exact h5⟩
  rw[List.range'_succ,bn]
  show(g _ ρ).bind _=_
  rw[h1]
  show(b ρ1).bind _=_
  rcases h2 with h2|h2<;>(rw[h2];exact h4)
theorem M3 {g:D->Env->Option Env}{b:SF}(I:Nat->Env->Prop){lo:Int}{n:Nat}{ρ:Env}(h:I 0 ρ)
  (st:∀j ρ,j<n->I j ρ->∃ρ1 ρ2,g (.int (lo+(j:Int))) ρ=some ρ1/\(b ρ1=some (.nx ρ2)\/b ρ1=some (.ct ρ2))/\I (j+1) ρ2):∃ρ',fk g b (fu lo n) ρ=some (.nx ρ')/\I n ρ':=by
 obtain⟨ρ',h1,h2⟩:=NC (g:=g) (b:=b) I lo n 0 ρ h λj ρ _ hj hI=>st j ρ (by omega) hI
 rw[Nat.zero_add]at h2
 exact⟨ρ',by unfold fu;rw[List.range_eq_range'];exact h1,h2⟩
theorem JX {c:BF}{b:SF}(I:Env->Prop)(μ:Env->Nat)(st:∀ρ,I ρ->∃t,c ρ=some t/\(t=true->∃ρ',(b ρ=some (.nx ρ')\/b ρ=some (.ct ρ'))/\I ρ'/\μ ρ' < μ ρ)) :
  ∀(n:Nat) (ρ:Env),I ρ->μ ρ<n->∃ρ',kM c b n ρ=some (.nx ρ')/\I ρ'/\c ρ'=some false
 |0,_,_,h=>absurd h (by omega)
 |n+1,ρ,hI,h=>by
  obtain⟨t,h1,h2⟩:=st ρ hI
  cases t with
  |false=>exact⟨ρ,by show(c ρ).bind _=_;rw[h1];rfl,hI,h1⟩
  |true=>
   obtain⟨ρ',h3,h4,h5⟩:=h2 rfl
   obtain⟨ρ2,h6,h7,h8⟩:=JX I μ st n ρ' h4 (by omega)
   refine⟨ρ2,?_,h7,h8⟩
   show(c ρ).bind _=_
   rw[h1]
   show(b ρ).bind _=_
   rcases h3 with h3|h3<;>(rw[h3];exact h6)
theorem Yz {n k:Nat}(h:n<2 ^ k)(hk:k<=9000):n<nQ:=aX h (eP (by decide) hk)
theorem Ov {n:Nat}(h:n<1048576):n<nQ:=Yz (k:=20) h (by decide)
theorem zfb {i j:Int}(h1:0<j)(h2:j<4611686018427387904):gI (.int i) (.int j)=some (.int (i/j)):=by unfold gI;simp[h1,h2]
theorem uv {i j:Int}(h:0<j):eI (.int i) (.int j)=some (.int (i%j)):=by unfold eI;simp[h]
theorem zj6 {i j:Int}(h1:-18446744073709551616<j)(h2:j<18446744073709551616):gN (.int i) (.int j)=some (.int (i*j)):=by simp[gN,rT,kW,h1,h2]
theorem zbq {i j:Int}(h1:-18446744073709551616<i)(h2:i<18446744073709551616):gN (.int i) (.int j)=some (.int (i*j)):=by simp[gN,rT,kW,h1,h2]
theorem zha {i j:Int}(h1:0<=j)(h2:j<=1000000)(h3:i.natAbs<18446744073709551616):sf (.int i) (.int j)=some (.int (i ^ j.toNat)):=by simp[sf,rT,m5,h1,h2,h3]
theorem zhb {i j:Int}(h1:0<=j)(h2:j<=1000000)(h3:i.natAbs<18446744073709551616):t5 (.int i) (.int j)=some (.int (i*2 ^ j.toNat)):=by simp[t5,rT,m5,h1,h2,h3]
theorem zdz {i j:Int}(h1:0<=j):qK (.int i) (.int j)=some (.int (i/2 ^ j.toNat)):=by simp[qK,rT,h1]
theorem zhc (i j:Int):dm (.int i) (.int j)=some (.int (i+j)):=rfl
theorem J9 {xs ys:List D}(h:xs.length+ys.length<=16777216):dm (.lst xs) (.lst ys)=some (.lst (xs++ys)):=by simp[dm,h]
theorem W9 {x y:aJ}(h:x.length+y.length<=16777216):dm (.str x) (.str y)=some (.str (x++y)):=by simp[dm,h]
theorem zhd (i j:Int):jE (.int i) (.int j)=some (.int (i-j)):=rfl
theorem zj7 (i j:Int):rh (.int i) (.int j)=some (.bl (decide (i<j))):=rfl
theorem zj8 (i j:Int):tV (.int i) (.int j)=some (.bl (decide (i<=j))):=rfl
theorem zj9 (i j:Int):rF (.int i) (.int j)=some (.bl (decide (j<i))):=rfl
theorem zka (i j:Int):xF (.int i) (.int j)=some (.bl (decide (j<=i))):=rfl
theorem zhe (i:Int):tW (.int i)=some (.int (-i)):=rfl
theorem jb (ds:List D):ef [.lst ds]=some (.int ds.length):=rfl
theorem zhf (ds:List D):ef [.tup ds]=some (.int ds.length):=rfl
theorem zhg (i:Int):GQ [.int i]=some (.int (if i<0 then -i else i)):=rfl
theorem zfc (i j:Int):rY [.int i,.int j]=some (.int (if j > i then j else i)):=rfl
theorem zfd (i j:Int):C7 [.int i,.int j]=some (.int (if j<i then j else i)):=rfl
theorem zkb (neg:Bool)(d:D):uW neg d .non=some (.bl (if neg then !d.isN else d.isN)):=by cases d<;>rfl
theorem znv (neg b:Bool)(d:D):uW neg d (.bl b)=some (.bl (if neg then !d.isB b else d.isB b)):=by cases d<;>rfl
theorem zkc (b:Bool):EO (.bl b)=some b:=rfl
theorem zkd (ds:List D):EQ (.lst ds)=some ds:=rfl
theorem u4 (ds:List D)(l h:Option Int):jZ (.lst ds) l h=some (.lst (cutD ds l h)):=rfl
theorem q0 {j:Int}(h1:-4611686018427387904<=j)(h2:j<4611686018427387904):gk [.int j]=some (fu 0 j.toNat):=by simp[gk,h1,h2]
theorem Gf {i j:Int}(h1:-4611686018427387904<=i)(h2:i<4611686018427387904)(h3:-4611686018427387904<=j)(h4:j<4611686018427387904):mJ [.int i,.int j]=some (fu i (j-i).toNat):=by simp[mJ,h1,h2,h3,h4]
theorem YA {α:Type}(enc:α->D){xs:List α}{i:Int}{j:Nat}{x:α}(hi:i=(j:Int)\/i=(j:Int)-xs.length)(h:xs[j]?=some x):atI (xs.map enc) i=some (enc x):=by
 have hj:=(aT.mp h).1
 unfold L2.atI L2.ixN
 rw[bi]
 rcases hi with rfl|rfl
 ·rw[if_pos (by omega),if_pos (by omega)]
  simp[h]
 ·rw[if_neg (by omega),if_pos (by omega)]
  have:((j:Int)-(xs.length:Int)+(xs.length:Int)).toNat=j:=by omega
  simp[this,h]
theorem Wi (xs:List D)(k:Nat):cutD xs none (some (k:Int))=xs.take k:=by
 unfold cutD
 rw[HT.sIx_none,HT.sIx_nat,oq,List.drop_zero]
 rcases Nat.le_total k xs.length with h|h
 ·rw[mh h]
 ·rw[sJ h,iA (aC _),iA h]
theorem Wj (xs:List D)(k:Nat):cutD xs (some (k:Int)) none=xs.drop k:=by
 unfold cutD
 rw[HT.sIx_none,HT.sIx_nat]
 rcases Nat.le_total k xs.length with h|h
 ·rw[mh h,iA (by rw[rl];omega)]
 ·rw[sJ h,nK (aC _),nK h]
  simp
theorem ND {α:Type}{g:D->Env->Option Env}{p:BF}{f:EF}{ρ0:Env}(enc:α->D)(q:α->Bool)(h:α->D):∀(xs:List α),(∀x∈xs,∃ρ1,g (enc x) ρ0=some ρ1/\p ρ1=some (q x)/\(q x=true->f ρ1=some (h x)))->mU g p f ρ0 (xs.map enc)=some ((xs.filter q).map h)
 |[],_=>rfl
 |x::xs,H=>by
  obtain⟨ρ1,h1,h2,h3⟩:=H x ai
  have ih:=ND enc q h xs λy hy=>H y (ao _ hy)
  show(g (enc x) ρ0).bind _=_
  rw[h1]
  show(p ρ1).bind _=_
  rw[h2]
  cases hq:q x with
  |false=>
   rw[bj,if_neg aH,nG (by rw[hq];exact aH)]
   exact ih
  |true=>
   rw[bj,if_pos rfl,h3 hq,nH hq]
   show(mU g p f ρ0 (xs.map enc)).bind _=_
   rw[ih]
   rfl
end L3
namespace L3
open PySem PySem.Spec L2
structure gF (α:Type)[DecidableEq α] where
 enc:α->D
 py:α->bD
 dep:Nat
 is:∀x,(enc x).py=some (py x)
 lay:∀x,(py x).canLay0=true
 dp:∀x,(py x).depth<=dep
 eqv:∀x y,bD.eqv (py x) (py y)=decide (x=y)
section
variable {α β γ δ ε:Type}[DecidableEq α][DecidableEq β][DecidableEq γ][DecidableEq δ][DecidableEq ε]
theorem gF.eq (E:gF α)(h:E.dep<=60){neg:Bool}(x y:α):gH neg (E.enc x) (E.enc y)=some (.bl (if neg then !decide (x=y)else decide (x=y))):=by
 have h1:nB (E.py x)=true:=by unfold nB;rw[E.lay x,decide_eq_true (bX (E.dp x) h)];rfl
 have h2:nB (E.py y)=true:=by unfold nB;rw[E.lay y,decide_eq_true (bX (E.dp y) h)];rfl
 unfold gH
 rw[E.is x,E.is y]
 simp only[bj]
 rw[if_pos ⟨h1,h2⟩,E.eqv]
def Ei:gF Int:=⟨.int,.int,0,λ_=>by simp[D.py],λ_=>rfl,λ_=>by simp[bD.depth],λx y=>by show(x==y)=_;by_cases h:x=y<;>simp[h]⟩
def Eb:gF Bool:=⟨.bl,.bool,0,λ_=>by simp[D.py],λ_=>rfl,λ_=>by simp[bD.depth],λx y=>by cases x<;>cases y<;>rfl⟩
def eY:Option Int->D
 |none=>.non
 |some i=>.int i
def Ju:Option Int->bD
 |none=>.none
 |some i=>.int i
def Eo:gF (Option Int):=⟨eY,Ju,0,λx=>by cases x<;>simp[eY,Ju,D.py],λx=>by cases x<;>rfl,λx=>by cases x<;>simp[Ju,bD.depth],λx y=>by
 cases x<;>cases y
 ·rfl
 ·rfl
 ·rfl
 ·rename_i a b;show(a==b)=_;by_cases h:a=b<;>simp[h]⟩
theorem OM (E:gF α):∀xs:List α,D.pys (xs.map E.enc)=some (xs.map E.py)
 |[]=>by simp[D.pys]
 |x::xs=>by simp[D.pys,E.is x,OM E xs]
theorem M4 (E:gF α):∀xs:List α,bD.canLayAll0 (xs.map E.py)=true
 |[]=>by simp[bD.canLayAll0]
 |x::xs=>by simp[bD.canLayAll0,E.lay x,M4 E xs]
theorem M7 (E:gF α):∀xs:List α,bD.depthAll (xs.map E.py)<=E.dep
 |[]=>by simp[bD.depthAll]
 |x::xs=>by
  have:=M7 E xs
  have:=E.dp x
  simp only[bn,bD.depthAll]
  omega
theorem M8 (E:gF α):∀xs ys:List α,bD.eqvAll (xs.map E.py) (ys.map E.py)=decide (xs=ys)
 |[],[]=>by simp[bD.eqvAll]
 |[],_::_=>by simp[bD.eqvAll]
 |_::_,[]=>by simp[bD.eqvAll]
 |x::xs,y::ys=>by
  simp only[bn,bD.eqvAll,E.eqv,M8 E xs ys]
  by_cases h:x=y<;>by_cases g:xs=ys<;>simp[h,g]
def El (E:gF α):gF (List α):=⟨λxs=>.lst (xs.map E.enc),λxs=>.list (xs.map E.py),E.dep+1,λxs=>by simp[D.py,OM],λxs=>by simp[bD.canLay0,M4],λxs=>by have:=M7 E xs;simp only[bD.depth];omega,λxs ys=>by simp only[bD.eqv,M8]⟩
def E2 (A:gF α)(B:gF β):gF (α×β):=⟨λp=>.tup [A.enc p.1,B.enc p.2],λp=>.tuple [A.py p.1,B.py p.2],max A.dep B.dep+1,λp=>by simp[D.py,D.pys,A.is,B.is],λp=>by simp[bD.canLay0,bD.canLayAll0,A.lay,B.lay],
 λp=>by have:=A.dp p.1;have:=B.dp p.2;simp only[bD.depth,bD.depthAll];omega,λp q=>by
  simp only[bD.eqv,bD.eqvAll,A.eqv,B.eqv]
  obtain⟨a,b⟩:=p
  obtain⟨c,d⟩:=q
  by_cases h:a=c<;>by_cases g:b=d<;>simp[h,g]⟩
def E3 (A:gF α)(B:gF β)(C:gF γ):gF (α×β×γ):=⟨λp=>.tup [A.enc p.1,B.enc p.2.1,C.enc p.2.2],λp=>.tuple [A.py p.1,B.py p.2.1,C.py p.2.2],max (max A.dep B.dep) C.dep+1,λp=>by simp[D.py,D.pys,A.is,B.is,C.is],λp=>by simp[bD.canLay0,bD.canLayAll0,A.lay,B.lay,C.lay],
 λp=>by have:=A.dp p.1;have:=B.dp p.2.1;have:=C.dp p.2.2;simp only[bD.depth,bD.depthAll];omega,λp q=>by
  simp only[bD.eqv,bD.eqvAll,A.eqv,B.eqv,C.eqv]
  obtain⟨a,b,c⟩:=p
  obtain⟨a',b',c'⟩:=q
  by_cases h:a=a'<;>by_cases g:b=b'<;>by_cases k:c=c'<;>simp[h,g,k]⟩
def E4 (A:gF α)(B:gF β)(C:gF γ)(M:gF δ):gF (α×β×γ×δ):=⟨λp=>.tup [A.enc p.1,B.enc p.2.1,C.enc p.2.2.1,M.enc p.2.2.2],λp=>.tuple [A.py p.1,B.py p.2.1,C.py p.2.2.1,M.py p.2.2.2],max (max A.dep B.dep) (max C.dep M.dep)+1,λp=>by simp[D.py,D.pys,A.is,B.is,C.is,M.is],λp=>by simp[bD.canLay0,bD.canLayAll0,A.lay,B.lay,C.lay,M.lay],
 λp=>by have:=A.dp p.1;have:=B.dp p.2.1;have:=C.dp p.2.2.1;have:=M.dp p.2.2.2;simp only[bD.depth,bD.depthAll];omega,λp q=>by
  simp only[bD.eqv,bD.eqvAll,A.eqv,B.eqv,C.eqv,M.eqv]
  obtain⟨a,b,c,d⟩:=p
  obtain⟨a',b',c',d'⟩:=q
  by_cases h:a=a'<;>by_cases g:b=b'<;>by_cases k:c=c'<;>by_cases l:d=d'<;>simp[h,g,k,l]⟩
end
theorem zci {neg:Bool}(a b:Int):gH neg (.int a) (.int b)=some (.bl (if neg then !decide (a=b)else decide (a=b))):=Ei.eq (by decide) a b
theorem znw {neg:Bool}(a b:Bool):gH neg (.bl a) (.bl b)=some (.bl (if neg then !decide (a=b)else decide (a=b))):=Eb.eq (by decide) a b
theorem YB {neg:Bool}(a b:Option Int):gH neg (eY a) (eY b)=some (.bl (if neg then !decide (a=b)else decide (a=b))):=Eo.eq (by decide) a b
end L3
namespace L3
open PySem PySem.Spec L2
open PyProof.Rows hiding St
section
variable {X:Cx}{ct:Nat->ah}{K:aa}{n m k:Nat}
theorem IntsAre.of {ns:List Int}{us:List ae}(h:bM (ns.map V.int) us):IntsAre us ns:=VP h
theorem NE (hc:X.calm=true):eR X (.builtin "max") (λxs H Q=>∃(a:ah) (ns:List Int),xs=[.ref a]/\eE X.K H a (ns.map V.int)/\ns≠[]/\∀M,M∈ns->(∀z∈ns,z<=M)->Q (.int M) H):=by
 intro af s σ H xs us Q I r h
 obtain⟨a,ns,rfl,hq,kB,q⟩:=h
 obtain⟨u,rfl,ru⟩:=r.one
 cases(show u=ae.ref a from ru)
 obtain⟨cj,rv,pl,hz⟩:=I.list hq
 have hi:=IntsAre.of rv
 obtain⟨ys,e⟩:=hi.allInts.items
 have oG:ns=ys.toList.map (·.1):=by rw[←hi.numsOf,←nums_intItems,←e]
 have hsz:0<ys.size:=by
  have h3:0<ns.length:=List.length_pos_iff.mpr kB
  rw[oG,bi,dR]at h3;exact h3
 have Ff:s.heap.IsList a (intItems ys):=e▸pl.isList
 refine max_intList (I.ok.hd hc) Ff hsz λv h' tk hv hk=>?_
 obtain⟨t,rfl⟩:=intItems_at hv
 obtain⟨h1,h2⟩:=argBest_gt (numAt ys) (ys.size-1)
 refine⟨.int (numAt ys (argBest (λi j=>decide (numAt ys i > numAt ys j)) (ys.size-1))),H,I.kept (t':=tk) hk,⟨_,rfl⟩,q _ ?_ λz hz=>?_⟩
 ·rw[oG,numAt_eq];exact getD_mem (by rw[bi,dR];omega)
 ·rw[oG]at hz
  obtain⟨j,hj,rfl⟩:=mem_getD hz
  rw[bi,dR]at hj
  rw[←numAt_eq];exact h2 j (by omega)
theorem NF:∀{bs:List Bool} {us:List ae},bM (bs.map V.bl) us->us=bs.map ae.bool
 |[],_,.nil=>rfl
 |b::bs,_,.cons r t=>by rw[NF t];cases(show _=ae.bool b from r);rfl
theorem J7 (hc:X.calm=true):eR X (.builtin "all") (λxs H Q=>∃(a:ah) (bs:List Bool),xs=[.ref a]/\eE X.K H a (bs.map V.bl)/\Q (.bl (bs.all id)) H):=by
 intro af s σ H xs us Q I r h
 obtain⟨a,bs,rfl,hq,q⟩:=h
 obtain⟨u,rfl,ru⟩:=r.one
 cases(show u=ae.ref a from ru)
 obtain⟨cj,rv,pl,hz⟩:=I.list hq
 have hb:=NF rv
 subst hb
 have hl:=pl.isList
 have lT:a<s.heap.objs.size:=by obtain⟨_,e,_⟩:=hl;exact aF e
 refine PySem.call_all_walk (wpAny_pyIter_list hl ?_)
 refine⟨s.heap.objs.size,[s.heap.objs.size,a],[s.heap.objs.size],(bs.map ae.bool).toArray.size,_,_,λi=>(bs[i]?).getD true,rfl,Walks.list (A:=X.A.in1) (I.ok.hd hc) _ a (aY lT) (bs.map ae.bool).toArray,
  ⟨⟨_,bB _ rfl,rfl,rfl⟩,hl.push _⟩,λi v s' Q' E' hP hQ=>?_,λh' tk hk=>?_⟩
 ·have hP:(bs.map ae.bool)[i]?=some v:=by simpa using hP
  rw[bK]at hP
  obtain⟨b,hb,rfl⟩:=cu.mp hP
  simp only[hb,Option.getD_some]at hQ
  exact eX hQ
 ·have e:((av (bs.map ae.bool).toArray.size).all λi=>(bs[i]?).getD true)=bs.all id:=by
   rw[aO,bi];exact PyProof.Rows.LSm.range_all bs
  rw[e]
  refine⟨.bl (bs.all id),H,I.kept (t':=tk) λb o HZ=>hk b o (λhm=>?_) (aw _ HZ),rfl,q⟩
  rw[aW.mp hm]at HZ
  exact eu _ (aF HZ)
def gZ:List D->Option (List Int)
 |[]=>some []
 |.int i::ds=>(gZ ds).bind λns=>some (i::ns)
 |_=>none
theorem M9:∀{ds:List D} {ns:List Int},gZ ds=some ns->ds=ns.map .int
 |[],_,e=>by cases e;rfl
 |d::ds,ns,e=>by
  cases d with
  |int i=>
   obtain⟨ms,h1,h2⟩:=aR (show(gZ ds).bind _=_ from e)
   cases h2
   rw[M9 h1];rfl
  |_=>cases e
theorem Pr.intV {F G:Hp}:∀{ns:List Int} {vs:List V},Pr (Al K ct F G n) (ns.map .int) vs->vs=ns.map V.int
 |[],_,.nil=>rfl
 |i::ns,_,.cons h t=>by rw[Pr.intV t,h.int];rfl
def iO:List D->Option (List Bool)
 |[]=>some []
 |.bl i::ds=>(iO ds).bind λns=>some (i::ns)
 |_=>none
theorem M5:∀{ds:List D} {ns:List Bool},iO ds=some ns->ds=ns.map .bl
 |[],_,e=>by cases e;rfl
 |d::ds,ns,e=>by
  cases d with
  |bl i=>
   obtain⟨ms,h1,h2⟩:=aR (show(iO ds).bind _=_ from e)
   cases h2
   rw[M5 h1];rfl
  |_=>cases e
theorem Pr.blV {F G:Hp}:∀{ns:List Bool} {vs:List V},Pr (Al K ct F G n) (ns.map .bl) vs->vs=ns.map V.bl
 |[],_,.nil=>rfl
 |i::ns,_,.cons h t=>by rw[Pr.blV t,h.bl];rfl
def C6:List Int->Option Int
 |[]=>none
 |x::xs=>some (xs.foldl max x)
theorem NG:∀(xs:List Int) (x:Int),(xs.foldl max x=x\/xs.foldl max x∈xs)/\x<=xs.foldl max x/\∀z∈xs,z<=xs.foldl max x
 |[],x=>⟨.inl rfl,pE _,λz h=>by cases h⟩
 |y::xs,x=>by
  obtain⟨h1,h2,h3⟩:=NG xs (max x y)
  refine⟨?_,by show x<=xs.foldl max (max x y);omega,λz hz=>?_⟩
  ·rcases h1 with h1|h1
   ·show xs.foldl max (max x y)=x\/xs.foldl max (max x y)∈y::xs
    rw[h1]
    rcases Int.le_total x y with h|h
    ·rw[Int.max_eq_right h];exact .inr ai
    ·rw[Int.max_eq_left h];exact .inl rfl
   ·exact .inr (ao _ h1)
  ·rcases aB.mp hz with rfl|hz
   ·show z<=xs.foldl max (max x z);omega
   ·exact h3 z hz
theorem Xa {ns:List Int}{M:Int}(h:C6 ns=some M):M∈ns/\∀z∈ns,z<=M:=by
 cases ns with
 |nil=>cases h
 |cons x xs=>
  cases h
  obtain⟨h1,h2,h3⟩:=NG xs x
  refine⟨?_,λz hz=>?_⟩
  ·rcases h1 with h1|h1
   ·rw[h1];exact ai
   ·exact ao _ h1
  ·rcases aB.mp hz with rfl|hz
   ·exact h2
   ·exact h3 z hz
def Ui:List D->Option D
 |[.lst ds]=>(gZ ds).bind λns=>some (.int ns.sum)
 |_=>none
def pv:List D->Option D
 |[.lst ds]=>(gZ ds).bind λns=>(C6 ns).bind λM=>some (.int M)
 |_=>none
def rC:List D->Option D
 |[.lst ds]=>(iO ds).bind λbs=>some (.bl (bs.all id))
 |_=>none
theorem Xb {F H:Hp}{vs:List V}{ds:List D}{ns:List Int}(s:bI F H)(l:iL K ct F H [n] [.lst ds] vs)(e:gZ ds=some ns):∃a,vs=[.ref a]/\eE K H a (ns.map V.int):=by
 cases l with
 |cons h t=>
  cases t
  obtain⟨a,us,rfl,ha,hp⟩:=h.lst s
  have:=M9 e
  subst this
  have:=hp.intV
  subst this
  exact⟨a,rfl,ha⟩
theorem ON:uG K ct [n] k (λxs H Q=>∃(a:ah) (ns:List Int),xs=[.ref a]/\eE K H a (ns.map V.int)/\ns≠[]/\∀M,M∈ns->(∀z∈ns,z<=M)->Q (.int M) H) pv:=by
 intro F H vs ds d Q s l e w
 match ds,l,e with
 |[.lst xs],l,e=>
  obtain⟨ns,h1,h2⟩:=aR (show(gZ xs).bind _=_ from e)
  obtain⟨M,h3,h4⟩:=aR h2
  cases h4
  obtain⟨a,rfl,ha⟩:=Xb s l h1
  obtain⟨m1,m2⟩:=Xa h3
  refine⟨a,ns,rfl,ha,(λz=>by rw[z]at m1;cases m1),λM' h5 h6=>?_⟩
  have:M'=M:=Int.le_antisymm (m2 M' h5) (h6 M m1)
  subst this
  exact w _ F H (.refl s) (Al.of (.int _))
theorem Kv:uG K ct [n] k (λxs H Q=>∃(a:ah) (bs:List Bool),xs=[.ref a]/\eE K H a (bs.map V.bl)/\Q (.bl (bs.all id)) H) rC:=by
 intro F H vs ds d Q s l e w
 match ds,l,e with
 |[.lst xs],l,e=>
  obtain⟨bs,h1,h2⟩:=aR (show(iO xs).bind _=_ from e)
  cases h2
  cases l with
  |cons h t=>
   cases t
   obtain⟨a,us,rfl,ha,hp⟩:=h.lst s
   have:=M5 h1
   subst this
   have:=hp.blV
   subst this
   exact⟨a,bs,rfl,ha,w _ F H (.refl s) (Al.of (.bl _))⟩
end
end L3
namespace L3
open PySem PySem.Spec L2
open PyProof.Rows hiding St
def rN (H:Hp)(x:ah):Hp:=λb=>if b=x then none else H b
theorem N2 (H:Hp)(x:ah):bI (rN H x) H:=λb o h=>by
 unfold rN at h
 by_cases e:b=x
 ·rw[if_pos e]at h;cases h
 ·rw[if_neg e]at h;exact h
theorem ZX (H:Hp)(x:ah):rN H x x=none:=if_pos rfl
theorem EA {H:Hp}{x b:ah}(h:b≠x):rN H x b=H b:=if_neg h
def rq (K:aa)(ct:Nat->ah)(cs:List Nat)(pm:List Nat)(mi:Nat->List D->Option D):Sp:=λvs H Q _=>∃(F:Hp) (c:Nat) (ds:List D) (d:D) (x dx:ah) (us:List V),c∈cs/\vs=.ref x::us/\H x=some (.ins (ct c) dx [])/\F x=none/\bI F H/\iL K ct F (rN H x) pm ds us/\mi c ds=some d /\
 ∀F' H',bI F F'->bI (rN H x) H'->bI F' H'->(∀a o,rN H x a=some o->F a=none->F' a=none)->F' x=none->Ow K ct F' H' 1 d (.ref x) [x]->Q .non H'
theorem rq.len {K:aa}{ct:Nat->ah}{cs pm:List Nat}{mi:Nat->List D->Option D}{ps:List aJ}(h:pm.length+1=ps.length):∀vs H Q E,rq K ct cs pm mi vs H Q E->vs.length=ps.length:=by
 rintro vs H Q E ⟨F,c,ds,d,x,dx,us,_,rfl,_,_,_,l,_⟩
 rw[aV,l.length,h]
def yB (N:List aJ)(b:SF)(c:Nat)(ds:List D):Option D:=(b (some (.obj c [] [])::startD N.tail ds)).bind λo=>match o with
 |.nx ρ=>(ρ[0]?).join
 |_=>none
section
variable {X:Cx}{ct:Nat->ah}{ms:List Mo}{rk n m k:Nat}{a b c e tg:Expr}{f g h:EF}{u w:SF}{pos:cE}
theorem qk {P:bg}{w:bN}{K:aa}{mg:aJ->Option ae}{base:aI}{x qual:aJ}{st:bL}{fa:ah}{fd:aL}{N0:aJ}{N ps:List aJ}{kk:Nat}{cs pm:List Nat}{bf:SF}(Fn:Fun2 K x qual st fa fd)(S:bt (N0::N) ps (aQ st))(xZ:pm.length+1=ps.length)(Fh:ms.length=N.length)(oF:pm.length<=N.length)
  (xT:∀(i n:Nat),pm[i]?=some n->ms[i]?=some (Mo.al n)\/(n=0/\ms[i]?=some (Mo.ow 0)))
  (body:∀(x:ah) (gB:ae) (A:bx) (outer:List PySem.Env) (s:aj) (H:Hp) (E:XK),dG kk (A.deeper (envOfC qual (aQ st) s.heap.objs.size fa gB))->pL (lg eQ P w K mg base (N0::N) qual (aQ st) fa gB A outer s H E).nox ct (.so x::ms) rk (fU st) bf) :
  cp P w K mg base eQ (kk+1) fa fd ps (rq K ct cs pm (yB (N0::N) bf)):=by
 refine Fn.ok S (rq.len xZ) λgB A outer s H vs Q E hr h=>?_
 obtain⟨F,c,ds,d,x,dx,us,hc,rfl,hx,hF,sF,l,hm,q⟩:=h
 obtain⟨t,pt,qt⟩:=body x gB A outer s H E hr
 refine⟨t,pt,?_⟩
 obtain⟨o,h1,h2⟩:=aR hm
 have hdl:ds.length=us.length:=l.length'
 have RQ:us.length=pm.length:=l.length
 have ow:Ow K ct F H 1 (.obj c [] []) (.ref x) [x]:=.inr (sL.obj (vs:=[]) hF hx rfl .nil)
 have sFB:bI F (rN H x):=λb o hb=>by
  rw[EA (λe=>by rw[e,hF]at hb;cases hb)]
  exact sF _ _ hb
 refine qt F (rN H x) F H (some (.obj c [] [])::startD N ds) (L2.start (N0::N) (.ref x::us)) o _ ⟨.refl _,N2 H x,sF,λ_ _ _ h=>h,[x],?_,by simp,λa z=>by rw[aW]at z;subst z;exact ZX H _⟩ h1 ?_
 ·have e:L2.start (N0::N) (.ref x::us)=some (.ref x)::(us.map some++aD (N.length-us.length) none):=by
   unfold L2.start
   simp
  rw[e]
  unfold startD
  rw[hdl]
  exact SL.so (fp:=[]) ow (SL.start _ l xT (by omega))
 ·cases o with
  |nx ρ=>
   intro σ F' H' r
   obtain⟨fp,sl,nd,hb⟩:=r.sl
   cases sl with
   |no _=>cases h2
   |so FA _=>
    cases h2
    exact q F' H' r.f0 r.bh r.fh r.nf (FA.cells x ai).1 FA
  |rt d'=>cases h2
  |bk ρ=>cases h2
  |ct ρ=>cases h2
end
end L3
namespace L3
open PySem PySem.Spec L2
open PyProof.Rows hiding St
theorem N3 {f:aJ}{y:V}:∀{ns:List aJ} {vs:List V},ns.length=vs.length->ns.contains f=false->iD f y (ns.zip vs)=(ns++[f]).zip (vs++[y])
 |[],[],_,_=>rfl
 |[],_::_,h,_=>by simp at h
 |_::_,[],h,_=>by simp at h
 |n::ns,v::vs,h,hc=>by
  rw[ke,oK]at hc
  have hn:¬n=f:=λe=>by rw[e]at hc;simp at hc
  have ih:=N3 (f:=f) (y:=y) (ns:=ns) (vs:=vs) (by simpa using h) hc.2
  show iD f y ((n,v)::ns.zip vs)=(n,v)::(ns++[f]).zip (vs++[y])
  rw[←ih]
  show(if n=f then _ else _)=_
  rw[if_neg hn]
theorem Ow.obj_inv {ct:Nat->ah}{K:aa}{F H:Hp}{c k:Nat}{ns:List aJ}{ds:List D}{v:V}{fp:List ah}(h:Ow K ct F H (k+1) (.obj c ns ds) v fp):∃a dx vs fr,v=.ref a/\fp=a::fr/\F a=none/\H a=some (.ins (ct c) dx (ns.zip vs))/\ns.length=vs.length/\eT (Ow K ct F H k) ds vs fr:=by
 rcases h with⟨h,_⟩|h
 ·cases h
 ·cases h with
  |obj h1 h2 h3 h4=>exact⟨_,_,_,_,rfl,rfl,h1,h2,h3,h4⟩
section
variable {X:Cx}{ct:Nat->ah}{ms:List Mo}{rk n m k:Nat}{a b c e tg:Expr}{f g h:EF}{u w:SF}{pos:cE}{x0:ah}
def ku (cs:List Nat)(x:aJ)(f:EF):SF:=λρ=>(f ρ).bind λd=>(eV 0 ρ).bind λo=>match o with
 |.obj c ns ds=>if cs.contains c=true/\ns.contains x=false/\ns.length<900 then some (.nx (ρ.set 0 (some (.obj c (ns++[x]) (ds++[d])))))else none
 |_=>none
theorem RS.self {K:aa}{F0 B F H F' H':Hp}{ρ:Env}{σ:St}{d:D}(rs:RS K ct F0 B (.so x0::ms) F H ρ σ)(hd:ρ[0]?=some (some d)):σ[0]?=some (some (.ref x0))/\Ow K ct F H 1 d (.ref x0) [x0]/\B x0=none /\
  ∀(F' H':Hp) (d':D),bI F F'->bI B H'->bI F' H'->(∀a o,B a=some o->F0 a=none->F' a=none)->(∀a o,H a=some o->a≠x0->H' a=some o)->(∀a o,H a=some o->a≠x0->F a=none->F' a=none)->Ow K ct F' H' 1 d' (.ref x0) [x0]->RS K ct F0 B (.so x0::ms) F' H' (ρ.set 0 (some d')) σ:=by
 obtain⟨fp,sl,nd,hb⟩:=rs.sl
 cases sl with
 |no _=>simp at hd
 |so ow t=>
  simp at hd
  subst hd
  refine⟨rfl,ow,hb _ ai,λF' H' d' s1 s2 s3 s4 k1 k2 o'=>⟨rs.f0.trans s1,s2,s3,s4,_,.so o' (t.frame s1 λa z=>?_),nd,hb⟩⟩
  obtain⟨hn,o,ho⟩:=t.cells a z
  have ne:a≠x0:=λe=>(bR.mp nd).1 (by rw[←e];exact z)
  exact⟨(k1 a o ho ne).trans ho.symm,k2 a o ho ne hn⟩
theorem Ag {x s:aJ}{cs:List Nat}{p1 pos':cE}(hc:∀c∈cs,lF X.K (ct c)/\fz X.K (ct c) x)(he:XE X ct (.so x0::ms) 0 e f)(hN:X.N[0]?=some s:=by rfl)(hv:qC X.env.scope s:=by first|exact Or.inl rfl|exact Or.inr (Or.inl rfl)|exact Or.inr (Or.inr rfl))(hd:(s==("__debug__":aJ))=false:=by decide)
  (jB:(s==("__classdict__":aJ))=false:=by decide) (hs:di e (some (.Attribute (.Name s p1) x pos')) pos.line X.env=pure false:=by rfl):XS X ct (.so x0::ms) rk (.Assign [.Attribute (.Name s p1) x pos'] e pos) (ku cs x f):=by
 obtain⟨t,pt,qt⟩:=he
 refine⟨_,YW (u9 hN hv hd jB) pt hs,λF0 B F H ρ σ o E rs e z=>?_⟩
 obtain⟨d,h1,h2⟩:=aR e
 obtain⟨ob,h3,h4⟩:=aR h2
 refine qt F0 B F H ρ σ d _ rs h1 λy F1 H1 x1 l=>?_
 have lB:=rs.ext x1
 obtain⟨hσ,ow,hB,put⟩:=lB.self (F':=F) (H':=H) (we h3)
 refine⟨_,hσ,?_⟩
 cases ob with
 |obj c ns ds=>
  dsimp only at h4
  by_cases hz:cs.contains c=true/\ns.contains x=false/\ns.length<900
  ·rw[if_pos hz]at h4
   cases h4
   obtain⟨a,dx,vs,fr,e1,e2,hF,hH,hl,ol⟩:=ow.obj_inv
   cases e1
   cases e2
   have hh:=hc c (by simpa using hz.1)
   refine⟨x0,_,dx,_,rfl,hH,hh.1,hh.2,by rw[gu,←hl,kP];omega,?_⟩
   rw[N3 hl hz.2.1]
   refine z σ F1 _ (put F1 _ _ (.refl _) (λb o h=>?_) (λb o h=>?_) lB.nf (λb o h ne=>by rw[zh ne];exact h) (λb o h ne hn=>hn) (.inr (sL.obj (vs:=vs++[y]) hF zk (by simp[hl]) ?_)))
   ·rw[zh (λe=>by rw[e,hB]at h;cases h)];exact lB.bh _ _ h
   ·rw[zh (λe=>by rw[e,hF]at h;cases h)];exact lB.fh _ _ h
   ·have o1:eT (Ow X.K ct F1 (upd H1 x0 (.ins (ct c) dx ((ns++[x]).zip (vs++[y])))) 0) ds vs []:=ol.mono λ_ _ _ _ q=>⟨q.1,q.2⟩
    have:=o1.append (eT.cons (f:=[]) (g:=[]) (R:=Ow X.K ct F1 (upd H1 x0 (.ins (ct c) dx ((ns++[x]).zip (vs++[y])))) 0) ⟨l,rfl⟩ .nil)
    exact this
  ·rw[if_neg hz]at h4;cases h4
 |_=>cases h4
variable {kk:Nat}{fa:ah}{fd:aL}{ps:List aJ}{pm cs:List Nat}{mi:Nat->List D->Option D}{x:aJ}{pp:cE}
theorem Gh {c0:Nat}{es:List Expr}{ns nd:List Nat}{fs:Env->Option (List D)}{gC:List V}{iP:List D}{kn:List ae}(M:Mk X.K (ct c0) fa)(rK:c0∈cs)(Fn:cp X.prog X.w X.K X.mg X.base eQ kk fa fd ps (rq X.K ct cs (ns++nd) mi))(hr:dG (kk+1) X.A)(hg:Gl X x)(hm:X.mg x=some (.ref (ct c0)))
  (hb:bz X.K fd ps kn) (hd:bM gC kn) (rL:∀F G,iL X.K ct F G nd iP gC) (ha:XA X ct ms (e::es) ns fs)
  (iC:(x==("__debug__":aJ))=false:=by decide) (he:ak (e::es) X.env=(false,br e X.env)::ak es X.env:=by rfl) (gq:(bU pos (ak es X.env)).any (·.1)=false:=by rfl) :
  XO X ct ms 1 (.Call (.Name x pp) (e::es) [] pos) (λρ=>(fs ρ).bind λds=>mi c0 (ds++iP)):=by
 obtain⟨t,pt,_,qt⟩:=ha
 refine⟨_,X4 M Fn hr hg hm hb hd og pt iC he gq,λF0 B F H ρ σ r Q rs e w=>?_⟩
 obtain⟨ds,h1,h2⟩:=aR e
 refine qt F0 B F H ρ σ ds _ rs h1 λvs F1 H1 x1 l y dy hy Rk kB=>?_
 have sH:bI H1 (rN (upd (upd H1 dy (.own y)) y (.ins (ct c0) dy [])) y):=λb o h=>by
  have n1:b≠y:=zj h hy
  rw[EA n1,zh n1,zh (zj h Rk)]
  exact h
 have Tw:bI H1 (upd (upd H1 dy (.own y)) y (.ins (ct c0) dy [])):=sH.trans (N2 _ _)
 refine⟨F1,c0,ds++iP,r,y,dy,vs++gC,rK,rfl,zk,x1.fh.free hy,x1.fh.trans Tw,iL.mono (.refl _) sH (iL.append (rL F1 H1) l),h2,λF' H' s1 s2 s3 s4 hn ow=>⟨rfl,?_⟩⟩
 refine w _ F' H' [y] ⟨x1.ff.trans s1,(x1.hh.trans sH).trans s2,s3,λb o h n=>s4 b o (sH _ _ (x1.hh _ _ h)) (x1.nf b o h n)⟩ ow (by simp) λb z=>?_
 rw[aW]at z
 subst z
 exact x1.hh.free hy
theorem Xc {C:ah}{sp:Sp}{gC:List V}{ds:List ae}{E:XK}{m:aJ}{p cP:cE}{es:List Expr}{t:TA}{pl:ng Bool}{mc:ae}(Fn:cp X.prog X.w X.K X.mg X.base eQ kk fa fd ps sp)(hr:dG kk X.A)(hg:Gl X x)(hm:X.mg x=some (.ref C))
  (h1:bO X.K (.ref C) "__getattribute__"=some (some (.builtin "type.__getattribute__"))) (h2:d7 X.K C mc=true) (h3:d6 X.K (.ref C) mc m=some (.val (.ref fa))) (hk:ar X.K (.ref fa)=true) (hb:bz X.K fd ps ds) (hd:bM gC ds) (hx:iN eQ X E) (ha:PA X (e::es) t)
  (iC:(x==("__debug__":aJ))=false:=by decide) (ie:ak (e::es) X.env=(false,br e X.env)::ak es X.env:=by rfl) (gq:(bU pos (ak es X.env)).any (·.1)=false:=by rfl)
  (ht:br (.Call (.Attribute (.Name x p) m cP) (e::es) [] pos) X.env=(do
   let ov ← br (.Name x p) X.env
   fF cP.atName
   let(f,first) ← dP [ov] (fK ov m pl)
   hJ pos f first (bU pos (ak (e::es) X.env)) (eh pos (cJ [] X.env))):=by rfl) :
  PE X (.Call (.Attribute (.Name x p) m cP) (e::es) [] pos) (vG sp gC E t):=by
 intro af s σ H Q I h
 refine ej (pl:=pl) (j9 I hg hm ?_ iC) ht
 refine oC I.kIn h1 (oP I.kIn h2 h3 rfl ?_)
 have I1:Inv X af σ H { s with toks:=s.toks+1 }:=I.tok _
 refine dW (first:=[]) (h₀:=X.base) I.ok.mod.kin hk (cW (ha pos af _ σ H _ I1 h) λus s2 ⟨vs,H2,I2,r,q2⟩=>⟨I2.kIn,?_⟩) ie gq
 exact Gx (us:=us) (vs:=vs) Fn hr hb hd hx I2 r q2
theorem iL.flat {K:aa}{F G G':Hp}{ns:List Nat}{ds:List D}{vs:List V}(h:iL K ct F G ns ds vs)(e:ns.all (· == 0)=true):iL K ct F G' ns ds vs:=by
 induction h with
 |nil=>exact .nil
 |cons h t ih=>
  rw[cZ,bJ]at e
  cases eq_of_beq e.1
  exact .cons h (ih e.2)
def nE (cs:List Nat)(fs:Env->Option (List D))(mi:Nat->List D->Option D):SF:=λρ=>(eV 0 ρ).bind λo=>(fs ρ).bind λds=>match o with
 |.obj c [] []=>if cs.contains c=true then(mi c ds).bind λd=>some (.nx (ρ.set 0 (some d)))else none
 |_=>none
theorem Kw {C:ah}{s m:aJ}{p p1 dq cP:cE}{es:List Expr}{ns:List Nat}{fs:Env->Option (List D)}{pl:ng Bool}{mc:ae}(Fn:cp X.prog X.w X.K X.mg X.base eQ kk fa fd ps (rq X.K ct cs ns mi))(hr:dG kk X.A)(hm:X.mg x=some (.ref C))
  (h1:bO X.K (.ref C) "__getattribute__"=some (some (.builtin "type.__getattribute__"))) (h2:d7 X.K C mc=true) (h3:d6 X.K (.ref C) mc m=some (.val (.ref fa))) (hk:ar X.K (.ref fa)=true) (hb:bz X.K fd ps []) (hz:ns.all (· == 0)=true) (ha:XA X ct (.so x0::ms) es ns fs)
  (hg:Gl X x:=by rfl) (hN:X.N[0]?=some s:=by rfl) (hv:qC X.env.scope s:=by first|exact Or.inl rfl|exact Or.inr (Or.inl rfl)|exact Or.inr (Or.inr rfl)) (hd:(s==("__debug__":aJ))=false:=by decide)
  (jB:(s==("__classdict__":aJ))=false:=by decide) (iC:(x==("__debug__":aJ))=false:=by decide) (ie:ak (.Name s p1::es) X.env=(false,br (.Name s p1) X.env)::ak es X.env:=by rfl) (gq:(bU dq (ak es X.env)).any (·.1)=false:=by rfl)
  (ht:br (.Call (.Attribute (.Name x p) m cP) (.Name s p1::es) [] dq) X.env=(do
   let ov ← br (.Name x p) X.env
   fF cP.atName
   let(f,first) ← dP [ov] (fK ov m pl)
   hJ dq f first (bU dq (ak (.Name s p1::es) X.env)) (eh dq (cJ [] X.env))):=by rfl)
  (tQ:di (.Call (.Attribute (.Name x p) m cP) (.Name s p1::es) [] dq) none pos.line X.env=pure false:=by rfl) :
  XS X ct (.so x0::ms) rk (.Expr (.Call (.Attribute (.Name x p) m cP) (.Name s p1::es) [] dq) pos) (nE cs fs mi):=by
 obtain⟨t,pt,_,qt⟩:=ha
 refine⟨_,Aa (Xc (E:=E0) Fn hr hg hm h1 h2 h3 hk hb .nil og (wt (u9 hN hv hd jB) pt ie) iC ie gq ht) tQ,λF0 B F H ρ σ o E rs e z=>?_⟩
 obtain⟨ob,ds,g1,g2,g3⟩:=dX e
 obtain⟨hσ,ow,hB,put⟩:=rs.self (F':=F) (H':=H) (we g1)
 refine⟨_,hσ,qt F0 B F H ρ σ ds _ rs g2 λvs F1 H1 x1 l=>?_⟩
 have lB:=rs.ext x1
 obtain⟨hσ,ow,hB,put⟩:=lB.self (F':=F) (H':=H) (we g1)
 match ob,g3,ow with
 |.obj c [] [],g3,ow=>
  dsimp only at g3
  by_cases hc:cs.contains c=true
  ·rw[if_pos hc]at g3
   obtain⟨d,g4,g5⟩:=aR g3
   cases g5
   obtain⟨a,dx,us,fr,e1,e2,hF,hH,hl,ol⟩:=ow.obj_inv
   cases e1
   cases e2
   refine⟨F1,c,ds,d,x0,dx,vs++[],by simpa using hc,rfl,hH,hF,x1.fh,?_,g4,λF' H' s1 s2 s3 s4 hn o'=>?_⟩
   ·rw[bQ];exact l.flat hz
   ·have sB:bI B (rN H1 x0):=λb o h=>by
     rw[EA (λe=>by rw[e,hB]at h;cases h)]
     exact lB.bh _ _ h
    exact z σ F' H' (put F' H' d s1 (sB.trans s2) s3 (λb o h n=>s4 b o (sB _ _ h) (lB.nf b o h n)) (λb o h ne=>s2 _ _ (by rw[EA ne];exact h)) (λb o h ne uQ=>s4 b o (by rw[EA ne];exact h) uQ) o')
  ·rw[if_neg hc]at g3;cases g3
end
end L3
namespace L3
open PySem PySem.Spec L2
open PyProof.Rows hiding St
structure jH (K:aa)(mg:aJ->Option ae)(x:aJ)(st:bL)(ps:List aJ)(f:ah)(fd:aL):Prop where
 fn:Fun2 K x x st f fd
 mgx:mg x=some (.ref f)
 bd:bz K fd ps []
structure Dm (K:aa)(C:ah)(m qual:aJ)(st:bL)(ps:List aJ)(f:ah)(fd:aL):Prop where
 fn:Fun2 K m qual st f fd
 me:oZ K C m f
 bd:bz K fd ps []
structure Dc (K:aa)(mg:aJ->Option ae)(x:aJ)(C:ah):Prop where
 cl:lF K C
 mgx:mg x=some (.ref C)
 mks:dB K C=true
 kp:ar K (.ref C)=true
structure Dq (K:aa)(C:ah)(m:aJ)(f:ah):Prop where
 sp:bO K (.ref C) "__getattribute__"=some (some (.builtin "type.__getattribute__"))
 rd:d7 K C (.type "type")=true
 fc:d6 K (.ref C) (.type "type") m=some (.val (.ref f))
theorem zw {K:aa}{x qual:aJ}{st:bL}{f:ah}{oc:ae}{od an:Option ah}{vA:Array (Option ae)}{dV kV doc pm gB ct:ae}(l:K.lookup f=some ⟨oc,od,.func (gp x qual (lz st) (fU st) (aQ st) dV kV doc pm an gB ct),vA⟩)
  (c:aA K gB qual=true) (k:ar K (.ref f)=true):Fun2 K x qual st f (gp x qual (lz st) (fU st) (aQ st) dV kV doc pm an gB ct):=⟨⟨oc,od,dV,kV,doc,pm,an,gB,ct,vA,rfl,l,c⟩,k⟩
theorem YC {K:aa}{fd:aL}{ps:List aJ}{ds:List ae}{T:ah}{o:cN}{items:Array ae}{n:Nat}(hd:fd.defaults=.ref T)(ho:K.lookup T=some o)(hs:o.data=.seq items n)
  (h:∀us:List ae,(us++ds).length=ps.length->∃k,bindArgs fd ⟨us,[]⟩=seqItems? fd.defaults >>= k/\k (some items)=pure (ps.zip (us++ds))):bz K fd ps ds:=λs us X hl=>by
 obtain⟨k,h1,h2⟩:=h us hl
 exact PySem.W.binds_K X hd ho hs h1 h2
theorem jv (m:Nat){K:aa}{fd:aL}{ps:List aJ}{ds:List ae}{T:ah}{o:cN}{items:Array ae}{n:Nat}(ho:K.lookup T=some o)(h:∀us:List ae,us.length=m->∃k,bindArgs fd ⟨us,[]⟩=seqItems? fd.defaults >>= k/\k (some items)=pure (ps.zip (us++ds)))(hd:fd.defaults=.ref T:=by rfl)(hs:o.data=.seq items n:=by rfl)(hm:m+ds.length=ps.length:=by rfl):bz K fd ps ds :=
 YC hd ho hs λus hl=>h us (by rw[bA]at hl;omega)
end L3
namespace L3
open PySem PySem.Spec L2
open PyProof.Rows hiding St
def GN (x:aJ):It:=⟨λi _=>∃c,x.cps[i]?=some c,λi H v H'=>H'=H/\∃c,x.cps[i]?=some c/\v=.str ⟨#[c]⟩,λi _=>x.cps[i]?=none⟩
theorem Xd {P:bg}{w:bN}{K:aa}{tg:Expr}(x:aJ)(t:Tok)(it:ah):Turn P w K tg (GN x) [it] it (λi h=>h.IsStrIter it (cA x) x t i) where
 mem:=by simp
 obj:=λi h st b hb=>by
  have e:b=it:=by simpa using hb
  subst e
  obtain⟨o,e,c,d⟩:=st
  exact⟨o,e,λv z=>by rw[d]at z;cases z⟩
 keep:=λi h h' st k=>by
  obtain⟨o,e,c,d⟩:=st
  exact⟨o,k it (by simp) o e,c,d⟩
 item:=by
  intro X hP hw hK hc i af s σ H E I hf st hg
  subst hP hw hK
  obtain⟨c,hx⟩:=hg
  obtain⟨f0,f1,f2,f3,f4,f5⟩:=hf it (by simp)
  have fin:∀h':aI,h'.IsStrIter it (cA x) x t (i+1)->gD it s.heap h'->aN (aG X.prog X.w) X.A (gO tg (.ref it) (.str ⟨#[c]⟩ s.toks)) (λ_ s2=>∃v H',Inv X af σ H' s2/\RelV v (.str ⟨#[c]⟩ s.toks)/\(GN x).yld i H v H'/\s2.heap.IsStrIter it (cA x) x t (i+1)/\∀b∈[it],H' b=none) E { s with heap:=h',toks:=s.toks+1 }:=λh' oJ sb=>by
   have I1:Inv X af σ H { s with heap:=h',toks:=s.toks+1 }:=I.turned (t':=s.toks+1) (λb o hb e=>(sb.2 b hb).trans e) f0 f1 f3 f4 f5
   obtain⟨o,e,cc,d⟩:=id oJ
   refine GC (s:={ s with heap:=h',toks:=s.toks+1 }) e cc d ?_ ⟨.str ⟨#[c]⟩,H,I1,⟨_,rfl⟩,⟨rfl,c,hx,rfl⟩,oJ,λb hb=>(hf b hb).1⟩
   unfold cA
   split<;>decide
  cases ha:x.cps.all (·<128)with
  |true=>
   have e:cA x = "str_ascii_iterator":=by unfold cA;rw[ha];rfl
   rw[e]at st fin
   exact wpAny_pyNext_ascii_item st hx λh' oJ sb=>⟨_,rfl,by rw[e];exact fin h' oJ sb⟩
  |false=>
   have e:cA x = "str_iterator":=by unfold cA;rw[ha];rfl
   rw[e]at st fin
   exact wpAny_pyNext_wide_item st hx λh' oJ sb=>⟨_,rfl,by rw[e];exact fin h' oJ sb⟩
 done:=by
  intro X hP hw hK hc i af s σ H E I hf st hg
  subst hP hw hK
  obtain⟨f0,f1,f2,f3,f4,f5⟩:=hf it (by simp)
  cases ha:x.cps.all (·<128)with
  |true=>
   have e:cA x = "str_ascii_iterator":=by unfold cA;rw[ha];rfl
   rw[e]at st
   exact wpAny_pyNext_ascii_end (I.ok.hd hc) st hg λh' eb=>⟨rfl,I.turned (t':=s.toks) (λb o hb e=>eb b o hb e) f0 f1 f3 f4 f5⟩
  |false=>
   have e:cA x = "str_iterator":=by unfold cA;rw[ha];rfl
   rw[e]at st
   exact wpAny_pyNext_wide_end (I.ok.hd hc) st hg λh' eb=>⟨rfl,I.turned (t':=s.toks) (λb o hb e=>eb b o hb e) f0 f1 f3 f4 f5⟩
 self:=λA i s Q E st h=>by
  cases ha:x.cps.all (·<128)with
  |true=>
   have e:cA x = "str_ascii_iterator":=by unfold cA;rw[ha];rfl
   rw[e]at st
   exact wpAny_pyIter_striter_ascii st h
  |false=>
   have e:cA x = "str_iterator":=by unfold cA;rw[ha];rfl
   rw[e]at st
   exact wpAny_pyIter_striter_wide st h
def Jc (tl:TE):TI:=λσ H R=>tl σ H λx H1=>∃z,x=.str z/\R (GN z) H1
section
variable {X:Cx}{ct:Nat->ah}{ms:List Mo}{rk n m k:Nat}{st:bL}{rest:List bL}{a b c e tg:Expr}{f g h:EF}{p q:BF}{u w:SF}{pos:cE}
theorem ZY {l:Expr}{tl:TE}(hl:PE X l tl):PI X tg l (Jc tl):=by
 intro af s σ H R I h
 refine cW (hl af s σ H _ I h) λv s1 dh=>?_
 obtain⟨x,H1,I1,r,z,e,q⟩:=dh
 subst e
 obtain⟨t,rfl⟩:=r
 refine wpAny_pyIter_strU ?_
 refine⟨s1.heap.objs.size,[s1.heap.objs.size],_,_,H1,rfl,I1.kept (t':=s1.toks) λb o e=>aw _ e,Xd z t _,⟨_,bB _ rfl,rfl,rfl⟩,λb hb=>?_,q⟩
 have e:b=s1.heap.objs.size:=by simpa using hb
 subst e
 exact I1.fpOk (aC _) (I1.hok.fresh (aC _))
def pC (x:aJ):List D:=x.cps.toList.map λc=>.str ⟨#[c]⟩
def K9:D->Option (List D)
 |.str x=>some (pC x)
 |_=>none
theorem ZZ (he:XE X ct ms m e f):XI X ct ms n tg e (λρ=>(f ρ).bind K9):=by
 obtain⟨t,pt,qt⟩:=he
 refine⟨_,ZY pt,λF0 B F H ρ σ ds R rs e w=>?_⟩
 obtain⟨d,h1,h2⟩:=aR e
 refine qt F0 B F H ρ σ _ _ rs h1 λv F' H' x l=>?_
 cases d with
 |str z=>
  cases h2
  refine⟨z,l.str,w _ F' H' x λi F2 H2 s1 s2 s3=>⟨λd hd=>?_,λhl=>?_⟩⟩
  ·unfold pC at hd
   rw[bK]at hd
   obtain⟨c,hc,rfl⟩:=cu.mp hd
   have uN:z.cps[i]?=some c:=by simpa using hc
   refine⟨⟨c,uN⟩,λy H3 hy=>?_⟩
   obtain⟨rfl,c2,h3,rfl⟩:=hy
   rw[uN]at h3
   cases h3
   exact⟨F2,.refl s3,Al.of (.str _)⟩
  ·unfold pC at hl
   rw[bi,dR]at hl
   exact Array.getElem?_eq_none hl
 |_=>cases h2
theorem Xe {κ:Type}[DecidableEq κ](k:κ)(v:V):∀{ks:List κ} {vs:List V},ks.length=vs.length->putK (ks.zip vs) k v=(if ks.contains k=true then ks.zip ((ks.zip vs).map λp=>if p.1=k then v else p.2)else(ks++[k]).zip (vs++[v])):=by
 intro ks vs hl
 unfold putK
 have e:((ks.zip vs).any λkv=>decide (kv.1=k))=ks.contains k:=by
  rw[Bool.eq_iff_iff,kX,List.contains_iff_mem]
  constructor
  ·rintro⟨p,hp,he⟩
   have:=decide_eq_true_iff.mp he
   rw[←this]
   exact(gx hp).1
  ·intro hk
   obtain⟨i,hi,rfl⟩:=List.getElem_of_mem hk
   exact⟨(ks[i],vs[i]'(by omega)),cD.mpr ⟨i,by simp;omega,by simp⟩,by simp⟩
 rw[e]
 by_cases h:ks.contains k=true
 ·rw[if_pos h,if_pos h]
  clear e h
  induction ks generalizing vs with
  |nil=>simp
  |cons y ks ih=>
   cases vs with
   |nil=>simp at hl
   |cons u vs=>
    simp only[e9,bn,ih (by simpa using hl)]
    by_cases hy:y=k<;>simp[hy]
 ·rw[if_neg h,if_neg h,sI hl]
  rfl
end
end L3
namespace L3
open PySem PySem.Spec L2
open PyProof.Rows hiding St
section
variable {X:Cx}{ct:Nat->ah}{ms:List Mo}{rk n m k:Nat}{st:bL}{rest:List bL}{a b c e tg:Expr}{f g h:EF}{p q:BF}{u w:SF}{pos:cE}
def pT (i:Nat)(fj f:EF):SF:=λρ=>(f ρ).bind λd=>(eV i ρ).bind λo=>(fj ρ).bind λj=>match o with
 |.dK ks ds=>(tT j).bind λk=>if ks.length<16777216 then some (.nx (ρ.set i (some (.dK (fY ks ds k d).1 (fY ks ds k d).2))))else none
 |.dT ks ds=>(match j with
  |.tup js=>(mY js).bind λk=>if ks.length<16777216 then some (.nx (ρ.set i (some (.dT (fY ks ds k d).1 (fY ks ds k d).2))))else none
  |_=>none)
 |_=>none
theorem N4 {κ:Type}[DecidableEq κ]{R:D->V->Prop}{d:D}{v:V}(r:R d v)(k:κ){ks:List κ}{ds:List D}{vs:List V}(hl:ks.length=vs.length)(hp:Pr R ds vs) :
  ∃us,putK (ks.zip vs) k v=(fY ks ds k d).1.zip us/\(fY ks ds k d).1.length=us.length/\Pr R (fY ks ds k d).2 us:=by
 rw[Xe k v hl]
 unfold fY
 by_cases h:ks.contains k=true
 ·rw[if_pos h,if_pos h]
  refine⟨_,rfl,by simp[hl],?_⟩
  clear h
  induction ks generalizing ds vs with
  |nil=>simp;exact .nil
  |cons y ks ih=>
   cases hp with
   |nil=>simp at hl
   |cons h t=>
    simp only[e9,bn]
    refine .cons ?_ (ih (by simpa using hl) t)
    by_cases hy:y=k
    ·rw[if_pos hy,if_pos hy];exact r
    ·rw[if_neg hy,if_neg hy];exact h
 ·rw[if_neg h,if_neg h]
  exact⟨_,rfl,by simp[hl],hp.append (.cons r .nil)⟩
theorem OO (i:Nat){x:aJ}{j:Expr}{p1 jF:cE}{fj:EF}(hm:ms[i]?=some (.ow 1))(hu:X.A.units+1<iT)(hj:XE X ct ms 0 j fj)(he:XE X ct ms 0 e f)(hN:X.N[i]?=some x:=by rfl)(hv:qC X.env.scope x:=by first|exact Or.inl rfl|exact Or.inr (Or.inl rfl)|exact Or.inr (Or.inr rfl))(hd:(x==("__debug__":aJ))=false:=by decide)
  (jB:(x==("__classdict__":aJ))=false:=by decide) (hs:di e (some (.Subscript (.Name x p1) j jF)) pos.line X.env=pure false:=by rfl) :
  XS X ct ms rk (.Assign [.Subscript (.Name x p1) j jF] e pos) (pT i fj f):=by
 obtain⟨t,pt,qt⟩:=he
 obtain⟨tj,DL,DM⟩:=hj
 refine⟨_,Yg hu (u9 hN hv hd jB) DL pt hs,λF0 B F H ρ σ o E rs e z=>?_⟩
 obtain⟨d,g1,g2⟩:=aR e
 obtain⟨d1,uL,g3,g4,g5⟩:=dX g2
 refine qt F0 B F H ρ σ d _ rs g1 λv0 F1 H1 x1 l0=>?_
 have lB:=rs.ext x1
 obtain⟨f1,fr,n1,b1,dj,i4,cf,put⟩:=lB.put (F':=F) (H':=H) hm
 obtain⟨v,hσ,ow⟩:=i4 d1 (we g3)
 refine⟨v,hσ,DM F0 B F1 H1 ρ σ uL _ lB g4 λvj F2 H2 x2 lj=>?_⟩
 have Md:Dt X.K ct F2 d v0:=Dt.mono x2.ff l0
 cases d1 with
 |dK ks ds=>
  dsimp only at g5
  obtain⟨key,g6,g7⟩:=aR g5
  by_cases hz:ks.length<16777216
  ·rw[if_pos hz]at g7
   cases g7
   obtain⟨ad,vs,uM,rfl,rfl,hF,hH,hl,ol⟩:=ow.dK_inv
   have hA:=x2.hh _ _ hH
   have fA:F2 ad=none:=x2.nf ad _ hH hF
   have e0:=ol.nil0
   subst e0
   have hp:Pr (Dt X.K ct F2) ds vs:=ol.pr λ_ _ _ _ q=>q.1.mono x2.ff
   obtain⟨us,IT,IU,IV⟩:=N4 Md key hl hp
   have hk:=KM g6 lj
   subst hk
   refine⟨ad,_,rfl,nP.k hA (by rw[gu,←hl,kP,bY];exact hz),?_⟩
   rw[IT]
   refine z σ F2 _ (lB.change hm x2 hσ b1 dj cf put ai fA (.inr (.dK fA zk IU (eT.ofPr (IV.mono λ_ _ q=>⟨q,rfl⟩)))) (fn:=[ad]) (by simp) ?_)
   intro a ha
   rw[aW]at ha
   subst ha
   exact .inl ai
  ·rw[if_neg hz]at g7;cases g7
 |dT ks ds=>
  cases uL with
  |tup js=>
   dsimp only at g5
   obtain⟨key,g6,g7⟩:=aR g5
   by_cases hz:ks.length<16777216
   ·rw[if_pos hz]at g7
    cases g7
    obtain⟨ad,vs,uM,rfl,rfl,hF,hH,hl,ol⟩:=ow.dT_inv
    have hA:=x2.hh _ _ hH
    have fA:F2 ad=none:=x2.nf ad _ hH hF
    have e0:=ol.nil0
    subst e0
    have hp:Pr (Dt X.K ct F2) ds vs:=ol.pr λ_ _ _ _ q=>q.1.mono x2.ff
    obtain⟨us,IT,IU,IV⟩:=N4 Md key hl hp
    obtain⟨bd,ws,rfl,hb,IM⟩:=lj.tup x2.fh
    have hk:=OD g6 IM
    subst hk
    refine⟨ad,_,rfl,nP.t hA hb (by rw[gu,←hl,kP,bY];exact hz),?_⟩
    rw[IT]
    refine z σ F2 _ (lB.change hm x2 hσ b1 dj cf put ai fA (.inr (.dT fA zk IU (eT.ofPr (IV.mono λ_ _ q=>⟨q,rfl⟩)))) (fn:=[ad]) (by simp) ?_)
    intro a ha
    rw[aW]at ha
    subst ha
    exact .inl ai
   ·rw[if_neg hz]at g7;cases g7
  |_=>cases g5
 |_=>cases g5
def DP (K:aa):V->V->Hp->VK->Prop:=λo i H Q=>∃p xs k v,o=.ref p/\i=.int k/\eE K H p xs/\atI xs k=some v/\Q v H
theorem Wk:Av X (DP X.K):=by
 intro af s σ H o i ov iv Q I ro ri h
 obtain⟨p,xs,k,z,rfl,rfl,hq,he,q⟩:=h
 cases ro
 obtain⟨t,rfl⟩:=ri
 obtain⟨cj,r,pl,hz⟩:=I.list hq
 obtain⟨j,h1,h2,h3,h4,h5⟩:=Gm he
 obtain⟨w,ew,pA⟩:=r.get h2
 have hl:=r.length
 have hn:=jV
 have fin:EP X af σ Q w s:=⟨z,H,I,pA,q⟩
 by_cases h0:0<=k
 ·have hj:k.toNat=j:=by
   rw[nh h0 h5]at h1
   exact Option.some.inj h1
  exact wpAny_getItem_list pl.isList h0 (by omega) (by rw[hj];simpa using ew) fin
 ·have hj:(k+(cj.toArray.size:Int)).toNat=j:=by
   rw[ml (by omega) h4]at h1
   rw[aO,←hl]
   exact Option.some.inj h1
  exact wpAny_getItem_list_neg pl.isList (by omega) (by rw[aO]<;>omega) (by omega) (by rw[hj];simpa using ew) fin
def oh (i:Nat)(fj:EF)(gi:Int->Int->Int)(f:EF):SF:=λρ=>(eV i ρ).bind λo=>(fj ρ).bind λj=>(f ρ).bind λy=>match o,j with
 |.lst ds,.int z=>(atI ds z).bind λx=>(match x,y with
  |.int a,.int b=>(lY ds z (.int (gi a b))).bind λo8=>some (.nx (ρ.set i (some (.lst o8))))
  |_,_=>none)
 |_,_=>none
theorem OP (i:Nat){x:aJ}{op:iS}{j:Expr}{p1 jF:cE}{fj:EF}{gi:Int->Int->Int}(ho:zH X op (Fv gi))(hm:ms[i]?=some (.ow 1))(hj:XE X ct ms n j fj)(he:XE X ct ms m e f)(hN:X.N[i]?=some x:=by rfl)(hv:qC X.env.scope x:=by first|exact Or.inl rfl|exact Or.inr (Or.inl rfl)|exact Or.inr (Or.inr rfl))(hd:(x==("__debug__":aJ))=false:=by decide)
  (jB:(x==("__classdict__":aJ))=false:=by decide) (ha:∀ov iv new,augStore j ov iv new=(do dP [new,ov,iv] (nM ov iv new);release [new,ov,iv] [];pure .next):=by intros;rfl) :
  XS X ct ms rk (.AugAssign (.Subscript (.Name x p1) j jF) op e pos) (oh i fj gi f):=by
 obtain⟨t,pt,qt⟩:=he
 obtain⟨tj,DL,DM⟩:=hj
 refine⟨_,Xx (u9 hN hv hd jB) DL Wk pt ho NV ha,λF0 B F H ρ σ o E rs e z=>?_⟩
 obtain⟨d1,uL,g3,g4,g5⟩:=dX e
 obtain⟨d2,g6,g7⟩:=aR g5
 obtain⟨f1,fr,n1,b1,dj,i4,cf,put⟩:=rs.put (F':=F) (H':=H) hm
 obtain⟨v,hσ,ow⟩:=i4 d1 (we g3)
 refine⟨v,hσ,DM F0 B F H ρ σ uL _ rs g4 λvj F2 H2 x2 lj=>?_⟩
 cases d1<;>try (cases g7;done)
 rename_i ds
 cases uL<;>try (cases g7;done)
 rename_i zi
 ·skip
  dsimp only at g7
  obtain⟨da,g8,g9⟩:=aR g7
  obtain⟨ad,vs,uM,rfl,rfl,hF,hH,ol⟩:=ow.lst_inv
  have hA:H2 ad=some (.lst vs):=x2.hh _ _ hH
  have hp:Pr (Al X.K ct F2 H2 0) ds vs:=ol.pr λ_ _ _ _ q=>q.1.mono x2.ff
  obtain⟨va,Rf,HX⟩:=hp.atI g8
  refine⟨ad,vs,zi,va,rfl,lj.int,eE.of hA,Rf,qt F0 B F2 H2 ρ σ d2 _ (rs.ext x2) g6 λvy F3 H3 x3 ly=>?_⟩
  have nc:=x2.trans x3
  cases da<;>try (cases g9;done)
  rename_i ia
  cases d2<;>try (cases g9;done)
  rename_i ib
  ·skip
   dsimp only at g9
   obtain⟨o8,QY,QZ⟩:=aR g9
   cases QZ
   obtain⟨jn,Q1,Q2⟩:=aR QY
   cases Q2
   have Q8:H3 ad=some (.lst vs):=x3.hh _ _ hA
   have fA:F3 ad=none:=nc.nf ad _ hH hF
   have e0:=ol.nil0
   subst e0
   refine⟨ia,ib,HX.int,ly.int,ad,vs,zi,jn,rfl,lj.int,Q8,by rw[←ol.length];exact Q1,?_⟩
   refine z σ F3 _ (rs.change hm nc hσ b1 dj cf put ai fA (.inr (.lst fA zk (eT.set0 ⟨.int _,rfl⟩ (λ_ _ _ q=>q.2) jn (ol.mono λ_ _ _ _ q=>⟨q.1.mono nc.ff,q.2⟩)))) (fn:=[ad]) (by simp) ?_)
   intro a ha
   rw[aW]at ha
   subst ha
   exact .inl ai
structure Ic (K:aa)(C:ah):Prop where
 cl:lF K C
 ha:am K (.ref C) "__class__"=some (some (.builtin "object.__class__"))
 hn:bO K (.builtin "object.__class__") "__get__"=some (some (.builtin "getset_descriptor.__get__"))
 ht:gb K (.builtin "object.__class__")=some true
 hm:bu K C (.type "object")=some true
def rW (all sub:List Nat):D->Option D
 |.obj c _ _=>if all.contains c=true then some (.bl (sub.contains c))else none
 |_=>none
theorem OQ {C:ah}{x:aJ}{all sub:List Nat}{pp p2:cE}(hI:∀c∈all,Ic X.K (ct c)/\aK X.K (.ref (ct c)) (.ref C)=some (sub.contains c))(hm:X.mg "isinstance"=none)(iH:X.mg x=some (.ref C))(he:XE X ct ms n e f)(hg:Gl X "isinstance":=by rfl)(nJ:Gl X x:=by rfl)(hd2:(x==("__debug__":aJ))=false:=by decide)
  (rR:ak [e,.Name x p2] X.env=(false,br e X.env)::ak [.Name x p2] X.env:=by rfl) (lh:ak [.Name x p2] X.env=(false,br (.Name x p2) X.env)::ak [] X.env:=by rfl) (gq:(bU pos (ak [.Name x p2] X.env)).any (·.1)=false:=by rfl) :
  XE X ct ms k (.Call (.Name "isinstance" pp) [e,.Name x p2] [] pos) (e1 (rW all sub) f):=by
 obtain⟨t,pt,qt⟩:=he
 refine⟨_,Em Wa hg hm ur (wt pt (wt (Kn (v:=.ref C) nJ iH rfl hd2) ji lh) rR) (by decide) (by decide) rR gq,λF0 B F H ρ σ d Q rs e w=>?_⟩
 obtain⟨d1,h1,h2⟩:=aR e
 refine qt F0 B F H ρ σ d1 _ rs h1 λv F' H' x l=>?_
 cases d1 with
 |obj c ns ds=>
  unfold rW at h2
  dsimp only at h2
  by_cases hc:all.contains c=true
  ·rw[if_pos hc]at h2
   cases h2
   obtain⟨a,dx,vs,rfl,ha,_⟩:=l.obj x.fh
   obtain⟨ic,C3⟩:=hI c (by simpa using hc)
   exact⟨_,C,_,_,rfl,.ins ha ic.cl ic.ha ic.hn ic.ht ic.hm,C3,w _ F' H' x (Al.of (.bl _))⟩
  ·rw[if_neg hc]at h2;cases h2
 |_=>cases h2
end
end L3
namespace L3
open PySem PySem.Spec L2
section
variable {K:aa}{ct:Nat->ah}{n m k:Nat}
def uX (i:Int):aJ:=((toString i:String):aJ)
def qN:List D->Option D
 |[.int i]=>if i.natAbs.log2<1920 then some (.str (uX i))else none
 |_=>none
theorem YD:uG K ct [n] k (λxs H Q=>∃i,xs=[.int i]/\i.natAbs.log2<1920/\Q (.str (toString i)) H) qN:=by
 intro F H vs ds d Q s l e w
 cases l with
 |cons h t=>
  cases t
  rename_i d1 v
  cases d1 with
  |int i=>
   unfold qN at e
   dsimp only at e
   by_cases hz:i.natAbs.log2<1920
   ·rw[if_pos hz]at e
    cases e
    exact⟨i,by rw[h.int],hz,w _ F H (.refl s) (Al.of (.str _))⟩
   ·rw[if_neg hz]at e;cases e
  |_=>cases e
end
theorem Xf {i:Int}(h:Sz 1900 i):qN [.int i]=some (.str (uX i)):=by
 unfold qN
 dsimp only
 rw[if_pos]
 by_cases h0:i.natAbs=0
 ·rw[h0];decide
 ·rw[lE h0]
  exact aX h (eP (by decide) (by decide))
theorem YE {i:Int}(h:Sz 1900 i):(uX i).length<=1921:=by
 refine PyProof.Rows.int_text_len_1921 ?_
 by_cases h0:i.natAbs=0
 ·rw[h0];decide
 ·rw[lE h0]
  exact aX h (eP (by decide) (by decide))
end L3
namespace PySem
section
variable {prog:bg}{w:bN}{A:bx}{R:Result->aj->Prop}{I:ah}{fp wr:List ah}{n:Nat}{P:Nat->ae->Prop}{St:Nat->aI->Prop}{kw:List (aJ×ae)}
end
section
variable {prog:bg}{w:bN}{A:bx}{E:ae->aj->Prop}{s:aj}
end
end PySem
namespace L3
open PySem PySem.Spec L2
section
variable {X:Cx}{ct:Nat->ah}{ms:List Mo}{e b:Expr}{f g:EF}{n m k:Nat}
end
end L3
namespace L3
open PySem PySem.Spec L2
open PyProof.Rows hiding St
section
variable {X:Cx}{ct:Nat->ah}{ms:List Mo}{rk n m k:Nat}{a b c e o:Expr}{f g h:EF}{pos:cE}
def yL (K:aa):V->List V->Hp->VK->Prop:=λx vs H Q=>∃p ys y j,x=.ref p/\vs=[y]/\eE K H p ys/\gY y=true/\ys.all gY=true/\ys.findIdx? (λz=>qG z y)=some j/\Q (.int (j:Nat)) H
theorem OR:∀{xs:List V} {us:List ae} {x:V},bM xs us->xs.all gY=true->us.map (qY x)=xs.map λy=>qG y x
 |_,_,_,.nil,_=>rfl
 |y::xs,u::us,x,.cons r t,f=>by
  rw[cZ,bJ]at f
  rw[bn,bn,KD r f.1,OR t f.2]
theorem Xg:KW X "list.index" (yL X.K):=by
 intro af s σ H x vs v us Q I rx rv h
 obtain⟨p,ys,y,j,rfl,rfl,hq,fy,fs,hj,q⟩:=h
 cases rx
 obtain⟨u,rfl,ru⟩:=rv.one
 obtain⟨cj,r,pl,hz⟩:=I.list hq
 obtain⟨⟨cls,dd,data,sl⟩,ho,hc,n,hd⟩:=pl.isList
 simp only at hc hd
 subst hc hd
 have hm:=OR (x:=y) r fs
 have fq:=r.length
 obtain⟨j1,j2,j3⟩:=List.findIdx?_eq_some_iff_getElem.mp hj
 have LC:∀i (hi:i<cj.length),qY y cj[i]=qG (ys[i]'(by omega)) y:=λi hi=>by
  have:=congrArg (λl=>l[i]?) hm
  simp only[bK]at this
  rw[eZ hi,eZ (by omega)]at this
  simpa using this
 have hzl:ys.length<=16777216:=hz
 refine lm PySem.F.slot_list_index ⟨_,ho,rfl⟩ PySem.F.entry_list_index (PySem.F.args_list_index_2 _ _)
  (SeqAt.list_indexAt p cj.toArray n dd sl u (qY y) j (by simp;omega) (by omega) ?_ ?_) ⟨ho,λw hw=>Gb ru fy r fs w (by simpa using hw),.int (j:Nat),H,I.tok _,⟨_,rfl⟩,q⟩
 ·simp only[oN];rw[LC j (by omega)];exact j2
 ·intro i hi lT
  simp only[oN]
  rw[LC i (by simpa using hi)]
  simpa using j3 i lT
def rV:D->D->Option D
 |.lst ds,x=>if x.sc=true/\ds.all D.sc=true then(ds.findIdx? λy=>sM y x).bind λj=>some (.int (j:Nat))else none
 |_,_=>none
theorem Pp {x:D}(hx:x.sc=true):∀{ds:List D},ds.all D.sc=true->(ds.map D.v).findIdx? (λz=>qG z x.v)=ds.findIdx? λy=>sM y x
 |[],_=>rfl
 |d::ds,h=>by
  rw[cZ,bJ]at h
  rw[bn,kh,kh,Px h.1 hx,Pp hx h.2]
theorem Xh {cP dq:cE}(ho:XE X ct ms n o f)(he:XE X ct ms m e g)(ie:ak [e] X.env=(false,br e X.env)::ak [] X.env:=by rfl)
  (lQ:df o "index" X.env (br o X.env)=br o X.env:=by rfl)
  (pf:((bU dq (ak [e] X.env)).all (λx=>!x.1)&&(eh dq (cJ [] X.env)).all (λx=>x.1.isSome)
   && decide ([e].length+([]:List fE).length+(if([]:List fE).isEmpty then 0 else 1)<30))=true:=by rfl)
  (lS:(cP.endLine==dq.line)=true:=by rfl) (jU:(bU dq (ak [] X.env)).any (·.1)=false:=by rfl) :
  XE X ct ms k (.Call (.Attribute o "index" cP) [e] [] dq) (e2 rV f g):=by
 obtain⟨ta,pa,qa⟩:=ho
 obtain⟨tb,pb,qb⟩:=he
 refine⟨_,GD PySem.F.plainAttrs_list PySem.F.slot_list_index PySem.F.type_list_index Xg pa (wt pb ji ie) lQ pf lS ie jU,λF0 B F H ρ σ d Q rs e w=>?_⟩
 obtain⟨d1,d2,h1,h2,h3⟩:=dX e
 refine qa F0 B F H ρ σ d1 _ rs h1 λv1 F1 H1 x1 l1=>?_
 cases d1 with
 |lst ds=>
  unfold rV at h3
  dsimp only at h3
  by_cases hz:d2.sc=true/\ds.all D.sc=true
  ·rw[if_pos hz]at h3
   obtain⟨j,hj,h4⟩:=aR h3
   cases h4
   obtain⟨p,vs,rfl,hp,RW⟩:=l1.lst x1.fh
   refine⟨.inl ⟨rfl,_,hp⟩,qb F0 B F1 H1 ρ σ d2 _ (rs.ext x1) h2 λv2 F2 H2 x2 l2=>?_⟩
   have hv:=RW.vs hz.2
   subst hv
   have hx:=Al.v l2 hz.1
   subst hx
   exact⟨p,_,_,j,rfl,rfl,x2.hh.seq hp,D.flat hz.1,Gd hz.2,by rw[Pp hz.1 hz.2];exact hj,w _ F2 H2 (x1.trans x2) (Al.of (.int _))⟩
  ·rw[if_neg hz]at h3;cases h3
 |_=>cases h3
theorem OS:∀{xs:List V} {us:List ae},xs.length=us.length->(∀(i:Nat) (x:V) (u:ae),xs[i]?=some x->us[i]?=some u->L2.RelV x u)->bM xs us
 |[],[],_,_=>.nil
 |[],_::_,h,_=>by cases h
 |_::_,[],h,_=>by cases h
 |x::xs,u::us,h,r=>.cons (r 0 x u rfl rfl) (OS (by simpa using h) λi y w hy hw=>r (i+1) y w (by simpa using hy) (by simpa using hw))
def vE:List V->Hp->VK->Prop:=λvs H Q=>∃j:Int,vs=[.int j]/\0<=j/\j<=16777216/\∀l,H l=none->Q (.ref l) (upd H l (.lst ((fu 0 j.toNat).map D.v)))
def mZ:List D->Option D
 |[.int j]=>if 0<=j/\j<=16777216 then some (.lst (fu 0 j.toNat))else none
 |_=>none
theorem Xi {lo:Int}{n i:Nat}{d:D}(h:(fu lo n)[i]?=some d):d=.int (lo+(i:Int)):=by
 unfold fu at h
 rw[bK]at h
 obtain⟨t,ht,rfl⟩:=cu.mp h
 have:=aT.mp ht
 obtain⟨h1,h2⟩:=this
 rw[e8]at h2
 rw[h2]
theorem YF {ta:TA}{p1 p2 lW:cE}(hc:X.calm=true)(hg:Gl X "list")(hm:X.mg "list"=none)(nJ:Gl X "range")(iH:X.mg "range"=none)(ha:PA X [a] ta)(hs:ak [a] X.env=[(false,br a X.env)]:=by rfl)
    (lh:ak [.Call (.Name "range" p2) [a] [] lW] X.env=[(false,br (.Call (.Name "range" p2) [a] [] lW) X.env)]:=by rfl) :
    PE X (.Call (.Name "list" p1) [.Call (.Name "range" p2) [a] [] lW] [] pos) (JC vE ta):=by
  intro af s σ H Q I h
  refine cF (sQ I hg hm Er ?_ (by decide) (by decide))
  refine bT ?_ lh rfl
  rw[lh]
  show aN _ _ (spliced ((false,br (.Call (.Name "range" p2) [a] [] lW) X.env)::[])) _ _ s
  refine Calls.spliced_cons ?_
  refine cF (sQ I nJ iH boot_range ?_ (by decide) (by decide))
  refine bT (cW (ha lW af s σ H _ I h) λus s1 ⟨vs,H1,I1,r1,q1⟩=>?_) hs rfl
  obtain⟨j,rfl,h1,h2,q⟩:=q1
  obtain⟨u,rfl,t,rfl⟩:=m9 r1
  refine call_range_1 (Calls.spliced_nil ?_)
  have I2:L2.Inv X af σ H1 { s1 with heap:=s1.heap.push { cls:=.type "range",data:=.fields #[.int 0 s1.toks,.int j t,.int 1 (s1.toks+1)] },toks:=s1.toks+1+1 }:=I1.kept λb o e=>aw _ e
  have hsz:dO.Range.rangeSize 0 j 1=(j.toNat:Int):=by rw[rangeSize_one];split<;>omega
  refine call_list_range (n:=j.toNat) (I2.ok.hd hc) (IsRange.new ..) (small_one (by omega) (by omega) (by omega) (by omega)) hsz (by omega) λh' tk Ay c' kp hS HY=>?_
  have hv:bM ((fu 0 j.toNat).map D.v) Ay.toList:=by
    obtain⟨e1,e2⟩:=HY
    refine OS (by simp[fu,e1]) λi x u hx hu=>?_
    obtain⟨t,rfl⟩:=e2 i u (by simpa using hu)
    rw[bK]at hx
    obtain⟨d,hd,rfl⟩:=cu.mp hx
    have hd:=Xi hd
    subst hd
    exact⟨t,by rw[Int.mul_one]⟩
  have hl:((fu 0 j.toNat).map D.v).length<=sizeLine:=by rw[bY];simp[fu];omega
  exact⟨.ref _,_,I2.laid (t':=tk) kp (aC _) (show dF X.prog X.w _ h' _ (.lst _)from⟨hl,Ay.toList,c',hv,hS⟩),rfl,q _ (I2.hok.fresh (aC _))⟩
theorem YG (lo:Int)(n:Nat):(fu lo n).all D.sc=true:=by
 rw[cm]
 intro d hd
 unfold fu at hd
 obtain⟨t,_,rfl⟩:=dN.mp hd
 rfl
theorem DK {K:aa}{F G:Hp}:∀{ds:List D},ds.all D.sc=true->Pr (Al K ct F G 0) ds (ds.map D.v)
 |[],_=>.nil
 |d::ds,h=>by
  rw[cZ,bJ]at h
  refine .cons ?_ (DK h.2)
  cases d with
  |non=>exact Al.of .non
  |bl b=>exact Al.of (.bl b)
  |int b=>exact Al.of (.int b)
  |str b=>exact Al.of (.str b)
  |_=>cases h.1
theorem Xj {K:aa}:vP K ct [n] 1 vE mZ:=by
 intro F H vs ds d Q s l e w
 cases l with
 |cons h t=>
  cases t
  rename_i d1 v
  cases d1 with
  |int j=>
   unfold mZ at e
   dsimp only at e
   by_cases hz:0<=j/\j<=16777216
   ·rw[if_pos hz]at e
    cases e
    exact⟨j,by rw[h.int],hz.1,hz.2,Ab s (DK (YG 0 j.toNat)) w⟩
   ·rw[if_neg hz]at e;cases e
  |_=>cases e
theorem YH {fs:Env->Option (List D)}{p1 p2 lW:cE}(hc:X.calm=true)(hg:Gl X "list")(hm:X.mg "list"=none)(nJ:Gl X "range")(iH:X.mg "range"=none)(ha:XA X ct ms [a] [n] fs)(hs:ak [a] X.env=[(false,br a X.env)]:=by rfl)
  (lh:ak [.Call (.Name "range" p2) [a] [] lW] X.env=[(false,br (.Call (.Name "range" p2) [a] [] lW) X.env)]:=by rfl) :
  XO X ct ms 1 (.Call (.Name "list" p1) [.Call (.Name "range" p2) [a] [] lW] [] pos) (eN mZ fs):=by
 obtain⟨t,pt,_,qt⟩:=ha
 refine⟨_,YF hc hg hm nJ iH pt hs lh,λF0 B F H ρ σ r Q rs e w=>?_⟩
 obtain⟨ds,h1,h2⟩:=aR e
 exact qt F0 B F H ρ σ ds _ rs h1 λvs F1 H1 x1 l=>Xj F1 H1 vs ds r Q x1.fh l h2 λv F2 H2 fp x2 l2 nd hf=>w v F2 H2 fp (x1.trans x2) l2 nd λz hz=>x1.hh.free (hf z hz)
def nD (i j:Nat)(f:EF):SF:=λρ=>(eV i ρ).bind λo=>(eV j ρ).bind λq=>(f ρ).bind λz=>match o,q,z with
 |.lst ds,.lst es,.int y=>if ds.length<16777216/\es.length<=16777216 then(ixN es.length y).bind λt=>es[t]?.bind λd=>some (.nx ((ρ.set j (some (.lst (es.eraseIdx t)))).set i (some (.lst (ds++[d])))))else none
 |_,_,_=>none
theorem Pr.erase {R:D->V->Prop}:∀{ds:List D} {vs:List V} (i:Nat),Pr R ds vs->Pr R (ds.eraseIdx i) (vs.eraseIdx i)
 |_,_,_,.nil=>.nil
 |_,_,0,.cons h t=>t
 |_,_,i+1,.cons h t=>.cons h (t.erase i)
theorem Wl (i j:Nat){x y:aJ}{p1 p2 cP dq lM jL:cE}(hm:ms[i]?=some (.ow 1))(iH:ms[j]?=some (.ow 1))(Rt:i≠j)(he:XE X ct ms n e f)
  (hN:X.N[i]?=some x:=by rfl) (hv:qC X.env.scope x:=by first|exact Or.inl rfl|exact Or.inr (Or.inl rfl)|exact Or.inr (Or.inr rfl)) (hd:(x==("__debug__":aJ))=false:=by decide) (jB:(x==("__classdict__":aJ))=false:=by decide)
  (Rb:X.N[j]?=some y:=by rfl) (RT:qC X.env.scope y:=by first|exact Or.inl rfl|exact Or.inr (Or.inl rfl)|exact Or.inr (Or.inr rfl)) (hd2:(y==("__debug__":aJ))=false:=by decide) (Ig:(y==("__classdict__":aJ))=false:=by decide)
  (ie:ak [e] X.env=(false,br e X.env)::ak [] X.env:=by rfl)
  (xJ:df (.Name y p2) "pop" X.env (br (.Name y p2) X.env)=br (.Name y p2) X.env:=by rfl)
  (Cb:((bU jL (ak [e] X.env)).all (λx=>!x.1)&&(eh jL (cJ [] X.env)).all (λx=>x.1.isSome)
   && decide ([e].length+([]:List fE).length+(if([]:List fE).isEmpty then 0 else 1)<30))=true:=by rfl)
  (xQ:(lM.endLine==jL.line)=true:=by rfl) (tO:(bU jL (ak [] X.env)).any (·.1)=false:=by rfl)
  (pq:ak [.Call (.Attribute (.Name y p2) "pop" lM) [e] [] jL] X.env=(false,br (.Call (.Attribute (.Name y p2) "pop" lM) [e] [] jL) X.env)::ak [] X.env:=by rfl)
  (lQ:df (.Name x p1) "append" X.env (br (.Name x p1) X.env)=br (.Name x p1) X.env:=by rfl)
  (pf:((bU dq (ak [.Call (.Attribute (.Name y p2) "pop" lM) [e] [] jL] X.env)).all (λx=>!x.1)&&(eh dq (cJ [] X.env)).all (λx=>x.1.isSome)
   && decide ([Expr.Call (.Attribute (.Name y p2) "pop" lM) [e] [] jL].length+([]:List fE).length+(if([]:List fE).isEmpty then 0 else 1)<30))=true:=by rfl)
  (lS:(cP.endLine==dq.line)=true:=by rfl) (jU:(bU dq (ak [] X.env)).any (·.1)=false:=by rfl)
  (tQ:di (.Call (.Attribute (.Name x p1) "append" cP) [.Call (.Attribute (.Name y p2) "pop" lM) [e] [] jL] [] dq) none pos.line X.env=pure false:=by rfl) :
  XS X ct ms rk (.Expr (.Call (.Attribute (.Name x p1) "append" cP) [.Call (.Attribute (.Name y p2) "pop" lM) [e] [] jL] [] dq) pos) (nD i j f):=by
 obtain⟨t,pt,qt⟩:=he
 refine⟨_,Aa (GD PySem.F.plainAttrs_list PySem.F.slot_list_append PySem.F.type_list_append FV (u9 hN hv hd jB)
  (wt (GD PySem.F.plainAttrs_list PySem.F.slot_list_pop PySem.F.type_list_pop WL (u9 Rb RT hd2 Ig) (wt pt ji ie) xJ Cb xQ ie tO) ji pq) lQ pf lS pq jU) tQ,λF0 B F H ρ σ o E rs e z=>?_⟩
 obtain⟨d1,d2,h1,h2,h3⟩:=dX e
 obtain⟨d3,h4,h5⟩:=aR h3
 cases d1 with
 |lst ds=>
  cases d2 with
  |lst es=>
   cases d3 with
   |int w=>
    dsimp only at h5
    by_cases hz:ds.length<16777216/\es.length<=16777216
    ·rw[if_pos hz]at h5
     obtain⟨t2,h6,h7⟩:=aR h5
     obtain⟨d,h8,h9⟩:=aR h7
     cases h9
     obtain⟨g1,gr,gn1,gb1,gdj,Q3,gcf,Q5⟩:=rs.put (F':=F) (H':=H) hm
     obtain⟨v,hσ,ow⟩:=Q3 _ (we h1)
     obtain⟨ad,vs,uM,rfl,rfl,hF,hH,ol⟩:=ow.lst_inv
     obtain⟨f1,fr,n1,b1,dj,i4,cf,put⟩:=rs.put (F':=F) (H':=H) iH
     obtain⟨v2,LZ,Tl⟩:=i4 _ (we h2)
     obtain⟨bd,us,QU,rfl,rfl,HS,xH,yG⟩:=Tl.lst_inv
     have z2:=eT.nil0 yG
     subst z2
     refine⟨_,hσ,.inl ⟨rfl,_,eE.of hH⟩,_,LZ,.inl ⟨rfl,_,eE.of xH⟩,qt F0 B F H ρ σ _ _ rs h4 λv3 F' H' x1 l3=>?_⟩
     have RU:=l3.int
     subst RU
     obtain⟨s1,s2,s3,s4⟩:=Kp h6
     have Q9:H' bd=some (.lst us):=x1.hh _ _ xH
     have fB:F' bd=none:=x1.nf bd _ xH HS
     have lu:=yG.length
     have Mu:Pr (λd v=>Dt X.K ct F' d v) es us:=yG.pr λd v f _ q=>q.1.mono x1.ff
     obtain⟨u,hu,ru⟩:=Mu.get' h8
     refine⟨bd,us,w,t2,u,rfl,rfl,Q9,by omega,by omega,by rw[←lu];exact s1,hu,?_⟩
     have lB:=rs.change iH x1 LZ b1 dj cf put ai fB (d':=.lst (es.eraseIdx t2)) (o:=.lst (us.eraseIdx t2)) (.inr (.lst fB zk (eT.ofPr ((Mu.erase t2).mono λ_ _ q=>Ow.zero q)))) (fn:=[bd]) (by simp) (λa ha=>by
      rw[aW]at ha;subst ha;exact .inl ai)
     obtain⟨g1',gr',Q4,HK,HM,HN,HL,B6⟩:=lB.put (F':=F') (H':=upd H' bd (.lst (us.eraseIdx t2))) hm
     have kB:(ρ.set j (some (D.lst (es.eraseIdx t2))))[i]? = ρ[i]?:=dL (λe=>Rt e.symm)
     obtain⟨v',Ft,FA⟩:=HN (.lst ds) (by rw[kB];exact we h1)
     rw[hσ]at Ft
     cases Ft
     obtain⟨ad',FL,QT,e1,rfl,Ly,Ra,Jo⟩:=FA.lst_inv
     cases e1
     have zn:=eT.nil0 Jo
     subst zn
     refine⟨ad,FL,u,rfl,rfl,Ra,by rw[←Jo.length,bY];exact hz.1,?_⟩
     refine z σ F' _ (lB.change hm (.refl lB.fh) hσ HK HM HL B6 ai Ly (.inr (.lst Ly zk ((Jo.mono λ_ _ f' hi o'=>?_).append (.cons (f:=[]) (Ow.zero ru) .nil)))) (fn:=[ad]) (by simp) λa ha=>by
      rw[aW]at ha;subst ha;exact .inl ai)
     exact o'
    ·rw[if_neg hz]at h5;cases h5
   |_=>cases h5
  |_=>cases h5
 |_=>cases h5
end
end L3
namespace L2
open PySem PyProof.Rows
theorem Xk {X:Cx}{af:List (ah×cN)}{σ:St}{H:Hp}{s:aj}{QV:VK}{use:Option (ae->ng Unit)}{Q0:ae->aj->Prop}{iX iter tg:Expr}{ifs:List Expr}{scope:fC}{pos lW:cE}{N:List aJ}{own:Nat}{cap:List Nat}{wi:TI}{g:TG}{tt:TT}{te:TE}(B:ki X scope N own cap)(hc:X.calm=true)(hi:PI X tg iter wi)
    (kg:fP own g)
    (hg:∀cl C fp s₀ H₀,PG (hV X scope cl N C fp s₀ H₀) tg g) (ht:∀cl C fp s₀ H₀,uH (hV X scope cl N C fp s₀ H₀) ifs tt) (he:∀cl C fp s₀ H₀,PE (hV X scope cl N C fp s₀ H₀) iX te)
    (hs:∀x,cR iter X.env x=pure x) (I:Inv X af σ H s) (h:pU wi own cap g tt te σ H QV)
    (fin:∀(D C:ah) (H5:Hp) (s6:aj) (r:Flow),QV (.ref D) H5->Inv X af σ H5 s6->kj X af H5 C->(∃m,s6.heap.Ns C m)->oA (aG X.prog X.w) X.A X.xe use Q0 (.ref D) C (.ok r) s6) :
    aN (aG X.prog X.w) X.A (comprehension (.ListComp iX [⟨tg,iter,ifs,0⟩] scope pos) scope X.env lW (newList []) false (br iter X.env) use) Q0 X.xe s:=by
  obtain⟨cl,Ih,c1,c2,_⟩:=qy (env:=X.env) scope.names [] (λx hx hf=>I.ok.has x.1 (B.free x hx hf)) (λy c e=>by simp at e)
  have rJ:oy scope X.env=pure cl:=by
    have e:oy scope X.env=(forIn scope.names ([]:List (aJ×ah)) (λ(x:aJ×ba) (cs:List (aJ×ah))=>if(x.2==ba.free)=true then do let a ← cellOf X.env x.1;pure (ForInStep.yield ((x.1,a)::cs))else pure (ForInStep.yield cs)) >>= pure:ng (List (aJ×ah))):=rfl
    rw[e,Ih]
    rfl
  refine wpAny_comprehension_free (use:=use) rfl hs rJ B.kind B.locs (cW (hi af s σ H _ I h) λv s1 h1=>cW h1 λFw s2 h2=>?_)
  obtain⟨it,fp,tn,J,H2,e,I2,T,qM,f2,W0⟩:=h2
  subst e
  obtain⟨W,⟨m0,w0⟩,ce⟩:=W0 s2.heap.objs.size (I2.hok.fresh (aC _))
  refine iB ?_
  have I3:Inv X af σ (upd H2 s2.heap.objs.size (.lst [])) { s2 with heap:=s2.heap.push { cls:=.type "list",data:=.seq ([]:List ae).toArray } }:=I2.lnew .nil (d9 _)
  generalize Co:({ s2 with heap:=s2.heap.push { cls:=.type "list",data:=.seq ([]:List ae).toArray } }:aj)=s3 at I3
  have k3:∀b o,s2.heap.get? b=some o->s3.heap.get? b=some o:=λb o e=>by rw[←Co];exact aw _ e
  have z3:s3.heap.objs.size=s2.heap.objs.size+1:=by rw[←Co];exact dU _ _
  have pj:∀b∈fp,b<s2.heap.objs.size:=λb hb=>by
    obtain⟨o,e,_⟩:=T.obj _ _ qM b hb
    exact aF e
  have kB:∀b∈fp,b≠s2.heap.objs.size:=λb hb=>aY (pj b hb)
  have f3:∀b∈fp,kj X af (upd H2 s2.heap.objs.size (.lst [])) b:=λb hb=>⟨by rw[zh (kB b hb)];exact(f2 b hb).1,(f2 b hb).2⟩
  have FH:tn 0 s3.heap:=T.keep _ _ _ qM λb _ o e=>k3 b o e
  show aN _ _ (kz scope X.env.globals cl [] X.env.qual none .none (some X.env)) _ _ _
  refine MZ λh₁ kk xV xN=>?_
  have IB:=Nh (t':=s3.toks) B I3 c1 c2 f3 (λb hb=>by rw[z3];exact eF (pj b hb)) xV kk xN
  generalize cellsFrom (s3.heap.objs.size+1) scope.names cl=cl at IB ⊢
  generalize IQ:({ s3 with heap:=h₁,toks:=s3.toks }:aj)=s4 at IB
  have Ee:tn 0 s4.heap:=T.keep _ _ _ FH λb _ o e=>by rw[←IQ];exact kk b o e
  show eW (aG X.prog X.w) X.A (.compStart (.ListComp iX [⟨tg,iter,ifs,0⟩] scope pos) 0 (.ref it) (.ref s2.heap.objs.size) (oz scope cl s3.heap.objs.size X.env))
      (oA (aG X.prog X.w) X.A X.xe use Q0 (.ref s2.heap.objs.size) s3.heap.objs.size) s4
  have lZ:∀{H':Hp},(∀b∈fp,H' b=none)->∀b∈fp,kj (hV X scope cl N s3.heap.objs.size fp s3 (upd H2 s2.heap.objs.size (.lst []))) [] H' b:=λhn b hb=>
    ⟨hn b hb,aY (by show b<s3.heap.objs.size;rw[z3];exact eF (pj b hb)),IB.ok.exfs b hb,.inl hb,λx c e=>(IB.ok.exf b hb).2 x c e,λp hp=>(nomatch hp)⟩
  have loop:eW (aG X.prog X.w) X.A (.compLoop (.ListComp iX [⟨tg,iter,ifs,0⟩] scope pos) 0 (.ref it) (.ref s2.heap.objs.size) (oz scope cl s3.heap.objs.size X.env))
      (oA (aG X.prog X.w) X.A X.xe use Q0 (.ref s2.heap.objs.size) s3.heap.objs.size) s4:=by
    refine MY (λn s'=>∃i ys H',Inv (hV X scope cl N s3.heap.objs.size fp s3 (upd H2 s2.heap.objs.size (.lst []))) [] (aD own none++fO σ cap) H' s'/\tn i s'.heap/\(∀b∈fp,H' b=none)/\W i n ys H') ?_ m0
      ⟨0,[],_,IB,Ee,λb hb=>(f3 b hb).1,w0⟩
    rintro n s5 ⟨i,ys,H5,I5,t6,xE,w5⟩
    obtain⟨hD,zR⟩:=ce i n ys H5 w5
    rcases zR with⟨stop,qn⟩|⟨go,lT,step⟩
    · refine cW (T.done (hV X scope cl N s3.heap.objs.size fp s3 (upd H2 s2.heap.objs.size (.lst []))) rfl rfl rfl hc i [] s5 _ H5 (λ_ _=>False) I5 (lZ xE) t6 stop) λr s6 dh=>?_
      obtain⟨hr,I6⟩:=dh
      subst hr
      obtain⟨m,hm,_⟩:=id I6.loc
      refine fin s2.heap.objs.size s3.heap.objs.size H5 s6 _ qn ?_ (I3.fpOk (aC _) I6.free) ⟨m,hm⟩
      have sb:gD s3.heap.objs.size s6.heap s6.heap:=⟨rfl,λ_ _=>rfl⟩
      have U:=I6.base
      have nC:∀b o,s3.heap.get? b=some o->b≠s3.heap.objs.size:=λb o e=>aY (aF e)
      have nT:∀b o,H5 b=some o->b≠s3.heap.objs.size:=λb o e z=>by
        have q:H5 s3.heap.objs.size=none:=I6.free
        rw[z,q]at e
        cases e
      refine I3.call' (ch:=fp) I6.os ?_ (λa o e=>(I6.hok a o e).stay (λb u hb q=>sb.extBut b u ?_ q) (λ_ q=>q) λ_ _ q=>q) I6.bare (λb hb=>⟨(f3 b hb).2.2.2.1,(f3 b hb).2.1,(f3 b hb).2.2.2.2.1,(f3 b hb).2.2.2.2.2⟩)
      · exact{
          keep:=λb o e z hb he=>sb.extBut b o (nC b o e) (U.keep b o e z hb he)
          slot:=λb o e z hb he=>by
            obtain⟨sl,q⟩:=U.slot b o e z hb he
            exact⟨sl,sb.extBut b _ (nC b o e) q⟩
          free:=U.free
          there:=λb o e he=>by
            obtain⟨o',q⟩:=U.there b o e he
            exact⟨o',sb.extBut b o' (nC b o e) q⟩
          tups:=U.tups
          frzs:=U.frzs
          tbls:=U.tbls }
      · rcases hb with rfl|hb
        · exact nT _ _ e
        · exact nT _ _ hb
    · refine cW (T.item (hV X scope cl N s3.heap.objs.size fp s3 (upd H2 s2.heap.objs.size (.lst []))) rfl rfl rfl hc i [] s5 _ H5 (λ_ _=>False) I5 (lZ xE) t6 go) λr s6 dh=>?_
      obtain⟨u,hr,h6⟩:=dh
      subst hr
      refine cW h6 λ_ s7 dh=>?_
      obtain⟨x,H7,I7,r7,y7,yO,HG⟩:=dh
      have GJ:=I7.pinned (lZ HG) (T.obj _ _ yO)
      refine cW (hg cl s3.heap.objs.size fp s3 _ _ s7 _ H7 x u _ GJ r7 (kg _ _ _ _ (step x H7 y7))) λ_ s8 dh=>?_
      obtain⟨σ8,H8,I8,q8,l8,p8⟩:=dh
      have back:∀{H9:Hp} {s9:aj},Inv (hV X scope cl N s3.heap.objs.size fp s3 (upd H2 s2.heap.objs.size (.lst []))) ([]++kL fp s7.heap) σ8 H9 s9 ->
          Inv (hV X scope cl N s3.heap.objs.size fp s3 (upd H2 s2.heap.objs.size (.lst []))) [] (aD own none++fO σ cap) H9 s9/\tn (i+1) s9.heap/\∀b∈fp,H9 b=none:=λ{H9 s9} I9=>by
        refine⟨(I9.unpinned).weak l8.symm (λj v e=>?_),T.keep _ _ _ yO λb hb o e=>(I9.pin (b,o) (az _ (az _ (uz hb e)))).1,λb hb=>?_⟩
        · by_cases hj:j<own
          · rw[cx (by rw[cU];exact hj),fv,if_pos hj]at e
            cases e
          · rw[p8 j (by omega)];exact e
        · obtain⟨o,e,d⟩:=T.obj _ _ yO b hb
          exact(I9.pin (b,o) (az _ (az _ (uz hb e)))).2.1
      refine cW (ht cl s3.heap.objs.size fp s3 _ _ s8 σ8 H8 _ I8 q8) λok s9 dh=>?_
      obtain⟨H9,I9,q9⟩:=dh
      cases ok with
      |false=>
        rw[if_neg aH]
        rw[if_neg aH]at q9
        obtain⟨m',xS,w'⟩:=q9
        obtain⟨b1,b2,b3⟩:=back I9
        exact⟨m',xS,i+1,ys,H9,b1,b2,b3,w'⟩
      |true=>
        rw[if_pos rfl]
        rw[if_pos rfl]at q9
        refine cW (he cl s3.heap.objs.size fp s3 _ _ s9 σ8 H9 _ I9 q9) λuy Jw dh=>?_
        obtain⟨y,Ao,GH,r10,xG,m',xS,w'⟩:=dh
        refine cW (FV _ Jw σ8 Ao (.ref s2.heap.objs.size) [y] (.ref s2.heap.objs.size) [uy] (λ_ Ap=>Ap=upd Ao s2.heap.objs.size (.lst (ys++[y]))) GH rfl (.cons r10 .nil) ⟨_,ys,y,rfl,rfl,xG,lT,rfl⟩) λ_ Tv dh=>?_
        obtain⟨_,Ap,GI,_,He⟩:=dh
        subst He
        obtain⟨b1,b2,b3⟩:=back GI
        exact⟨m',xS,i+1,ys++[y],_,b1,b2,b3,w'⟩
  exact codeAny_compStart_list loop (T.self X.A 0 s4 _ _ Ee loop)
theorem VT {X:Cx}{i:Nat}{x:aJ}{pos' sk:cE}{iX iter tg:Expr}{ifs:List Expr}{scope:fC}{pos:cE}{N:List aJ}{own:Nat}{cap:List Nat}{wi:TI}{g:TG}{tt:TT}{te:TE}(B:ki X scope N own cap)(hc:X.calm=true)(hi:PI X tg iter wi)
  (kg:fP own g)
  (hg:∀cl C fp s₀ H₀,PG (hV X scope cl N C fp s₀ H₀) tg g) (ht:∀cl C fp s₀ H₀,uH (hV X scope cl N C fp s₀ H₀) ifs tt) (he:∀cl C fp s₀ H₀,PE (hV X scope cl N C fp s₀ H₀) iX te)
  (hN:X.N.Nodup) (Fe:X.N[i]?=some x) (hx:Loc X.env.scope x) (tQ:di (.ListComp iX [⟨tg,iter,ifs,0⟩] scope pos) (some (.Name x pos')) sk.line X.env=pure true)
  (hs:∀x,cR iter X.env x=pure x:=by intro _;rfl) (hf:X.fn x=true\/X.env.scope.names.lookup x=some .local:=by first|exact .inl rfl|exact .inr rfl|assumption) :
  PS X (.Assign [.Name x pos'] (.ListComp iX [⟨tg,iter,ifs,0⟩] scope pos) sk) (yP (pU wi own cap g tt te) (pN i)):=by
 intro af s σ H D I h
 rw[exec_Assign_Name_used _ _ _ _ tQ]
 refine aq (gE (aq ?_))
 show aN _ X.A (do let _ ← comprehension (.ListComp iX [⟨tg,iter,ifs,0⟩] scope pos) scope X.env _ (newList []) false (br iter X.env) (some (hG (.Name x pos') X.env))) _ _ s
 refine aq (dk (Xk (use:=some (hG (.Name x pos') X.env)) (Q0:=λ_ s'=>∃σ' H',Inv X af σ' H' s'/\D.nx σ' H') B hc hi kg hg ht he hs I h λDa C H5 s6 r q I6 fo hm=>?_) (λ_ s' hq=>aS (aS hq)) λ_ _ e=>e)
 show aN _ X.A (hG (.Name x pos') X.env (.ref Da)) _ _ _
 refine wpAny_assign_Name (Nl (v:=.ref Da) I6 hN Fe hx rfl (λs7 I7 RH=>?_) hf)
 obtain⟨m,hm⟩:=hm
 obtain⟨a,sb,ha⟩:=RH
 obtain⟨f0,f1,f2,f3,f4,f5⟩:=fo
 have kB:C≠a:=by
  rcases ha with rfl|ha
  ·exact f1
  ·exactλz=>f4 x a ha z.symm
 refine⟨m,hm.sameBut sb kB,λh' Tx=>⟨_,H5,I7.turned (t':=s7.toks) (it:=C) (λb o hb e=>Tx.extBut b o hb e) f0 f1 f3 f4 f5,q⟩⟩
end L2
namespace L3
open PySem PySem.Spec L2
open PyProof.Rows hiding St
section
variable {X:Cx}{ct:Nat->ah}{ms:List Mo}{rk n m k:Nat}{a b c e o:Expr}{f g h:EF}{pos:cE}
theorem vb {om:List Mo}{iX iter tg:Expr}{ifs:List Expr}{scope:fC}{N:List aJ}{own:Nat}{cap:List Nat}{fi:Env->Option (List D)}{gg:D->Env->Option Env}{p:BF}{i:Nat}{x:aJ}{pos' sk:cE}
  (hm:ms[i]?=some (.ow k)) (hN:X.N.Nodup) (Fe:X.N[i]?=some x) (hx:Loc X.env.scope x)
  (B:ki X scope N own cap) (hc:X.calm=true) (ho:om.length=own) (dD:∀i∈cap,i<ms.length) (hi:XIc X ct ms n tg iter fi)
  (hg:∀cl C fp s₀ H₀,tE (hV X scope cl N C fp s₀ H₀) ct (om++gG ms cap) own n tg gg) (ht:∀cl C fp s₀ H₀,vR (hV X scope cl N C fp s₀ H₀) ct (om++gG ms cap) ifs p) (he:∀cl C fp s₀ H₀,XO (hV X scope cl N C fp s₀ H₀) ct (om++gG ms cap) (k-1) iX f)
  (tQ:di (.ListComp iX [⟨tg,iter,ifs,0⟩] scope pos) (some (.Name x pos')) sk.line X.env=pure true:=by rfl)
  (hs:∀x,cR iter X.env x=pure x:=by intro _;rfl) (hf:X.fn x=true\/X.env.scope.names.lookup x=some .local:=by first|exact .inl rfl|exact .inr rfl|assumption) :
  XS X ct ms rk (.Assign [.Name x pos'] (.ListComp iX [⟨tg,iter,ifs,0⟩] scope pos) sk) (sSet i (dg fi own cap gg p f)):=by
 obtain⟨wi,g,tt,te,pi,kg,pg,pt,pe,q⟩:=NQ (k:=k-1) (pos:=pos) B hc ho dD hi hg ht he
 refine⟨_,VT B hc pi kg pg pt pe hN Fe hx tQ hs hf,λF0 B F H ρ σ o E rs e w=>?_⟩
 obtain⟨d,h1,h2⟩:=aR e
 cases h2
 cases k with
 |succ k=>exact q F0 B F H ρ σ d _ rs h1 λv F' H' fp x l nd hf=>w _ F' H' (rs.set hm x l nd hf)
 |zero=>
  refine q F0 B F H ρ σ d _ rs h1 λv F' H' fp x l nd hf=>?_
  obtain⟨F2,x2,l2⟩:=l.freeze x hf
  exact w _ F2 H' (rs.set hm x2 (Ow.zero l2) bG λa z=>by cases z)
theorem Kx {i:Nat}{x:aJ}{pos':cE}(hm:ms[i]?=some (.ow k))(hN:X.N[i]?=some x:=by rfl)(hv:qC X.env.scope x:=by first|exact Or.inl rfl|exact Or.inr (Or.inl rfl)|exact Or.inr (Or.inr rfl))(hd:(x==("__debug__":aJ))=false:=by decide)
  (jB:(x==("__classdict__":aJ))=false:=by decide):XS X ct ms 0 (.Return (some (.Name x pos')) pos) (sRet (eV i)):=by
 refine⟨_,O7 (u9 hN hv hd jB),λF0 B F H ρ σ o E rs e w=>?_⟩
 obtain⟨d,h1,h2⟩:=aR e
 cases h2
 obtain⟨fp,sl,nd,hb⟩:=rs.sl
 obtain⟨f1,fr,i1,i2,i3,i4,i5⟩:=sl.put hm
 obtain⟨v,IW,l⟩:=i4 d (we h1)
 obtain⟨F',x,l2⟩:=l.freeze (⟨rs.f0,rs.bh,rs.fh,rs.nf⟩:eS F0 B F H) (λz hz=>hb z (i1 z hz))
 exact⟨v,IW,w v F' H [] x.ff x.hh x.fh x.nf (Ow.zero l2) bG λz hz=>by cases hz⟩
theorem Z0 (hu:X.A.units+1<iT)(ha:XE X ct ms n a f)(hb:XE X ct ms m b g)(hm:dz .In b=false):XT X ct ms (.Compare a [.In] [b] pos) (tb λρ=>(f ρ).bind λx=>(g ρ).bind λy=>(lO y x).bind λr=>some (.bl r.isSome)):=by
 obtain⟨ta,tb',pa,pb,q⟩:=ha.bin hb
 refine⟨_,Ze (ZJ hu pa pb) hm,λF0 B F H ρ σ t Q rs e w=>?_⟩
 obtain⟨d0,h0,h9⟩:=aR e
 obtain⟨d1,d2,h1,h2,h3⟩:=dX h0
 obtain⟨r,h4,h5⟩:=aR h3
 cases h5
 cases h9
 refine q F0 B F H ρ σ d1 d2 _ rs h1 h2 λx y F' H' x1 l1 l2=>?_
 obtain⟨a,o,rfl,g,_,h⟩:=OE (r:=r) x1.fh l2 l1 h4
 refine⟨a,o,rfl,g,?_⟩
 cases r with
 |none=>rw[h.none_of];exact⟨_,rfl,w F' H' x1⟩
 |some d=>obtain⟨u,rfl,Fo⟩:=h.some_of;exact⟨_,rfl,w F' H' x1⟩
end
end L3
namespace L2
open PySem PyProof.Rows
def EJ (K:aa)(a:ah)(n:Nat):It :=
 ⟨λi H=>i<n/\∃xs,eE K H a xs/\xs.length=n,λi H x H'=>H'=H/\∀xs,eE K H a xs->xs[n-1-i]?=some x,λi _=>n<=i⟩
theorem Xl {P:bg}{w:bN}{K:aa}{tg:Expr}(a it:ah)(n:Nat):Turn P w K tg (EJ K a n) [it] it (λi h=>i<=n/\h.IsRevIter it a ((n:Int)-1-(i:Int))) where
 mem:=by simp
 obj:=λi h st b hb=>by
  have e:b=it:=by simpa using hb
  subst e
  obtain⟨_,o,e,c,d⟩:=st
  exact⟨o,e,λv z=>by rw[d]at z;cases z⟩
 keep:=λi h h' st k=>⟨st.1,st.2.at λo e=>k it (by simp) o e⟩
 item:=by
  intro X hP hw hK hc i af s σ H E I hf st hg
  subst hP hw hK
  obtain⟨hi,xs,hq,hx⟩:=hg
  obtain⟨cj,rv,p,hz⟩:=I.list hq
  have hl:=rv.length
  have LX:xs[n-1-i]?=some (xs[n-1-i]'(by omega)):=by simp[show n-1-i<xs.length by omega]
  obtain⟨u,hu,ru⟩:=rv.get LX
  obtain⟨f0,f1,f2,f3,f4,f5⟩:=hf it (by simp)
  have e:(n:Int)-1-(i:Int)=((n-1-i:Nat):Int):=by omega
  have st:=st.2
  rw[e]at st
  refine wpAny_pyNext_rev_item st p.isList (x:=u) (by simpa using hu) λh' oJ sb=>?_
  have I1:Inv X af σ H { s with heap:=h' }:=I.turned (t':=s.toks) (λb o hb e=>(sb.2 b hb).trans e) f0 f1 f3 f4 f5
  obtain⟨o,e',c,d⟩:=id oJ
  have e2:((n-1-i:Nat):Int)-1=(n:Int)-1-((i+1:Nat):Int):=by omega
  rw[e2]at oJ
  exact⟨u,rfl,GC (s:={ s with heap:=h' }) e' c d (by decide) ⟨_,H,I1,ru,⟨rfl,λys hy=>by rw[I.list_inj hy hq];exact LX⟩,⟨hi,oJ⟩,λb hb=>(hf b hb).1⟩⟩
 done:=by
  intro X hP hw hK hc i af s σ H E I hf st hg
  subst hP hw hK
  obtain⟨f0,f1,f2,f3,f4,f5⟩:=hf it (by simp)
  have e:(n:Int)-1-(i:Int) = -1:=by have:=st.1;have h2:n<=i:=hg;omega
  have st:=st.2
  rw[e]at st
  exact wpAny_pyNext_rev_end (I.ok.hd hc) st λh' eb=>⟨rfl,I.turned (t':=s.toks) (λb o hb e=>eb b o hb e) f0 f1 f3 f4 f5⟩
 self:=λ_ _ _ _ _ st h=>wpAny_pyIter_revIter st.2 h
def Jb (K:aa)(ta:TE):TI:=λσ H R=>ta σ H λv H1=>∃a xs,v=.ref a/\eE K H1 a xs/\R (EJ K a xs.length) H1
theorem Zt {X:Cx}{tg e:Expr}{te:TE}{p pos:cE}(hg:Gl X "reversed")(hm:X.mg "reversed"=none)(he:PE X e te)(hs:ak [e] X.env=[(false,br e X.env)]:=by rfl):PI X tg (.Call (.Name "reversed" p) [e] [] pos) (Jb X.K te):=by
 intro af s σ H R I h
 refine cF (sQ (u:=.type "reversed") I hg hm (by rfl) ?_ (by decide) (by decide))
 refine bT (cW ((wt he ji hs) pos af s σ H (λvs H1=>match vs with|[x]=>∃a xs,x=.ref a/\eE X.K H1 a xs/\R (EJ X.K a xs.length) H1|_=>False) I h) λus s1 ⟨vs,H1,I1,r,q⟩=>?_) hs rfl
 match vs,q with
 |[x],q=>
  obtain⟨a,xs,rfl,hq,q⟩:=q
  obtain⟨u,rfl,ru⟩:=r.one
  cases ru
  obtain⟨cj,rv,pl,hz⟩:=I1.list hq
  have hl:=rv.length
  refine call_reversed_list pl.isList ?_
  have I2:Inv X af σ H1 { s1 with heap:=s1.heap.push (revObj a ((cj.toArray.size:Int)-1)) }:=I1.kept (t':=s1.toks) λb o e=>aw _ e
  have st:(s1.heap.push (revObj a ((cj.toArray.size:Int)-1))).IsRevIter s1.heap.objs.size a ((xs.length:Int)-1-((0:Nat):Int)):=⟨_,bB _ rfl,rfl,by simp[revObj,hl]⟩
  refine wpAny_pyIter_revIter st ⟨s1.heap.objs.size,[s1.heap.objs.size],_,_,H1,rfl,I2,Xl a _ xs.length,⟨d9 _,st⟩,λb hb=>?_,q⟩
  have e:b=s1.heap.objs.size:=by simpa using hb
  subst e
  exact I1.fpOk (aC _) (I1.hok.fresh (aC _))
end L2
namespace L3
open PySem PySem.Spec L2
open PyProof.Rows hiding St
section
variable {X:Cx}{ct:Nat->ah}{ms:List Mo}{rk n m k:Nat}{st:bL}{rest:List bL}{a b c e tg:Expr}{f g h:EF}{p q:BF}{u w:SF}{pos:cE}
theorem Zu {K:aa}{F B:Hp}{a:ah}{vs:List V}{ds:List D}(hp:Pr (Al K ct F B n) ds vs)(keep:∀F' H',bI F F'->bI B H'->bI F' H'->eE K H' a vs):oX K ct F B n (EJ K a vs.length) ds.reverse:=by
 intro i F' H' s1 s2 s3
 have hs:eE K H' a vs:=keep F' H' s1 s2 s3
 have hl:=hp.length
 refine⟨λd hd=>?_,λrP=>by show vs.length<=i;rw[pF]at rP;omega⟩
 have hi:i<ds.length:=by
  have:=(aT.mp hd).1
  rwa[pF]at this
 rw[List.getElem?_reverse hi]at hd
 obtain⟨v,hv,l⟩:=hp.get' hd
 refine⟨⟨by omega,vs,hs,rfl⟩,λx H2 y=>?_⟩
 obtain⟨e,y⟩:=y
 subst e
 have:=y vs hs
 rw[←hl,hv]at this
 cases this
 exact⟨F',.refl s3,l.mono s1 (.refl _)⟩
theorem YI {pp:cE}(hm:X.mg "reversed"=none)(he:XE X ct ms n e f)(hg:Gl X "reversed":=by rfl)(hs:ak [e] X.env=[(false,br e X.env)]:=by rfl):XIc X ct ms (n-1) tg (.Call (.Name "reversed" pp) [e] [] pos) (λρ=>(lsD f ρ).bind λds=>some ds.reverse):=by
 obtain⟨t,pt,qt⟩:=he
 refine⟨_,Zt hg hm pt hs,λF0 B F H ρ σ ds R rs e w=>?_⟩
 obtain⟨ds0,h0,h9⟩:=aR e
 cases h9
 obtain⟨d,h1,h2⟩:=aR h0
 rw[Kh h2]at h1
 refine qt F0 B F H ρ σ _ _ rs h1 λv F' H' x l=>?_
 obtain⟨a,vs,rfl,ha,hp⟩:=l.lst x.fh
 exact⟨a,vs,rfl,ha,w _ F' H' x (Zu hp λF2 H2 s1 s2 s3=>s2.seq ha)⟩
end
end L3
namespace L3
open PySem PySem.Spec L2
open PyProof.Rows hiding St
theorem eT.upd {R R':D->V->List ah->Prop}{d:D}{ds:List D}{vs:List V}{fp:List ah}{i:Nat}(h:eT R ds vs fp)(e:ds[i]?=some d):∃v f,vs[i]?=some v/\R d v f/\(∀a∈f,a∈fp) /\
  ∀d',R' d' v f->fp.Nodup->(∀d v f',(∀a∈f',a∈fp)->(∀a∈f',a∉f)->R d v f'->R' d v f')->eT R' (ds.set i d') vs fp:=by
 induction h generalizing i with
 |nil=>cases e
 |@cons _ _ _ _ f g h t ih=>
  cases i with
  |zero=>
   cases e
   refine⟨_,f,rfl,h,λa ha=>bq _ ha,λd' hd nd ot=>?_⟩
   rw[bo]at nd
   exact .cons hd (t.mono λd v f' hi r=>ot d v f' (λa ha=>az _ (hi a ha)) (λa ha hf=>nd.2.2 a hf a (hi a ha) rfl) r)
  |succ i=>
   obtain⟨v,f2,h1,h2,h3,h4⟩:=ih (i:=i) e
   refine⟨v,f2,h1,h2,λa ha=>az _ (h3 a ha),λd' hd nd ot=>?_⟩
   rw[bo]at nd
   exact .cons (ot _ _ f (λa ha=>bq _ ha) (λa ha hf=>nd.2.2 a ha a (h3 a hf) rfl) h) (h4 d' hd nd.2.1 λd v f' hi hn r=>ot d v f' (λa ha=>az _ (hi a ha)) hn r)
section
variable {X:Cx}{ct:Nat->ah}{ms:List Mo}{rk n m k:Nat}{st:bL}{rest:List bL}{a b c e tg:Expr}{f g h:EF}{p q:BF}{u w:SF}{pos:cE}
def pB (i:Nat)(fj fl f:EF):SF:=λρ=>(f ρ).bind λd=>(eV i ρ).bind λo=>(fj ρ).bind λj=>(fl ρ).bind λl=>match o,j,l with
 |.lst rs,.int y,.int z=>(ixN rs.length y).bind λy'=>(rs[y']?).bind λr=>(match r with
  |.lst ds=>(lY ds z d).bind λo8=>some (.nx (ρ.set i (some (.lst (rs.set y' (.lst o8))))))
  |_=>none)
 |_,_,_=>none
theorem Xm (i:Nat){x:aJ}{j l:Expr}{p1 p2 jF:cE}{fj fl:EF}(hm:ms[i]?=some (.ow 2))(hj:XE X ct ms n j fj)(hl:XE X ct ms m l fl)(hp:lx j)(he:XE X ct ms 0 e f)(hN:X.N[i]?=some x:=by rfl)(hv:qC X.env.scope x:=by first|exact Or.inl rfl|exact Or.inr (Or.inl rfl)|exact Or.inr (Or.inr rfl))(hd:(x==("__debug__":aJ))=false:=by decide)
  (jB:(x==("__classdict__":aJ))=false:=by decide)
  (ha:∀v,hG (.Subscript (.Subscript (.Name x p1) j p2) l jF) X.env v=(do
   let ov ← dP [v] (br (.Subscript (.Name x p1) j p2) X.env)
   let iv ← dP [v,ov] (br l X.env)
   fF jF
   dP [v,ov,iv] (nM ov iv v)
   release [v,ov,iv] []):=by intro _;rfl)
  (hs:pJ [.Subscript (.Subscript (.Name x p1) j p2) l jF] e pos.line X.env=pure false:=by rfl) (hw:pI [.Subscript (.Subscript (.Name x p1) j p2) l jF] e X.env=pure none:=by rfl)
  (h1:(cQ [.Subscript (.Subscript (.Name x p1) j p2) l jF] X.env).map (·.2)=[hG (.Subscript (.Subscript (.Name x p1) j p2) l jF) X.env]:=by rfl) :
  XS X ct ms rk (.Assign [.Subscript (.Subscript (.Name x p1) j p2) l jF] e pos) (pB i fj fl f):=by
 obtain⟨t,pt,qt⟩:=he
 obtain⟨tj,DL,DM⟩:=hj
 obtain⟨tl,Tn,Tq⟩:=hl
 refine⟨_,O9 pt (Zl (Pu Oj (u9 hN hv hd jB) DL hp) Tn NV ha) hs hw h1,λF0 B F H ρ σ o E rs e z=>?_⟩
 obtain⟨d,g1,g2⟩:=aR e
 obtain⟨d1,uL,g3,g4,g5⟩:=dX g2
 obtain⟨QO,g6,g7⟩:=aR g5
 refine qt F0 B F H ρ σ d _ rs g1 λv0 F1 H1 x1 l0=>?_
 have lB:=rs.ext x1
 obtain⟨f1,fr,n1,b1,dj,i4,cf,put⟩:=lB.put (F':=F) (H':=H) hm
 obtain⟨v,hσ,ow⟩:=i4 d1 (we g3)
 refine⟨v,hσ,DM F0 B F1 H1 ρ σ uL _ lB g4 λvj F2 H2 x2 lj=>?_⟩
 cases d1 with
 |lst rws=>
  cases uL with
  |int yi=>
   cases QO with
   |int zi=>
    obtain⟨y',k1,k2⟩:=aR g7
    obtain⟨r,k3,k4⟩:=aR k2
    cases r with
    |lst ds=>
     obtain⟨o8,k5,k6⟩:=aR k4
     cases k6
     obtain⟨jn,k8,k9⟩:=aR k5
     cases k9
     obtain⟨ad,vs,uM,rfl,rfl,hF,hH,ol⟩:=ow.lst_inv
     obtain⟨vr,f2,q1,q2,q3,q4⟩:=eT.upd (R':=Ow X.K ct F2 (upd H2 0 (.lst [])) 1) ol k3
     obtain⟨bd,us,QU,rfl,rfl,HS,xH,yG⟩:=q2.lst_inv
     clear q4
     have hA:H2 ad=some (.lst vs):=x2.hh _ _ hH
     refine⟨ad,vs,yi,.ref bd,rfl,lj.int,eE.of hA,?_,?_⟩
     ·unfold atI
      rw[←ol.length,k1]
      exact q1
     ·refine Tq F0 B F2 H2 ρ σ _ _ (lB.ext x2) g6 λvl F3 H3 x3 ll=>?_
      have nc:=x2.trans x3
      have hB:H3 bd=some (.lst us):=nc.hh _ _ xH
      have fB:F3 bd=none:=nc.nf bd _ xH HS
      have e0:=yG.nil0
      subst e0
      have zV:=bR.mp n1
      have LD:bd∈uM:=q3 bd ai
      have kB:ad≠bd:=λz=>zV.1 (z▸LD)
      refine⟨bd,us,zi,jn,rfl,ll.int,hB,by rw[←yG.length];exact k8,?_⟩
      obtain⟨vr',f2',Mv,To,q3',Tp⟩:=eT.upd (R':=Ow X.K ct F3 (upd H3 bd (.lst (us.set jn v0))) 1) ol k3
      rw[q1]at Mv
      cases Mv
      obtain⟨bd',us',QW,eb,rfl,_,Lz,Jp⟩:=To.lst_inv
      cases eb
      have e1:=Jp.nil0
      subst e1
      rw[xH]at Lz
      cases Lz
      refine z σ F3 _ (lB.change hm nc hσ b1 dj cf put (ao _ LD) fB (.inr (.lst (nc.nf ad _ hH hF) (by rw[zh kB];exact nc.hh _ _ hH) (Tp (.lst (ds.set jn d)) (.inr (.lst fB zk (eT.set0 ⟨Dt.mono nc.ff l0,rfl⟩ (λ_ _ _ q=>q.2) jn (yG.mono λ_ _ _ _ q=>⟨q.1.mono nc.ff,q.2⟩)))) zV.2 ?_))) (fn:=ad::uM) n1 λa ha=>.inl ha)
      intro d0 v1 f' RK Ik o'
      refine(o'.ext nc).frame (.refl _) λa' E9=>⟨zh λe=>Ik a' E9 (by rw[e];exact ai),((o'.ext nc).cells a' E9).1⟩
    |_=>cases k4
   |_=>cases g7
  |_=>cases g7
 |_=>cases g7
end
end L3
namespace L3
open PySem PySem.Spec L2
open PyProof.Rows hiding St
section
variable {K:aa}{ct:Nat->ah}{F F' H B F0:Hp}
end
def se (i:Nat):Out->Out
 |.nx ρ=>.nx (ρ.set i none)
 |.rt d=>.rt d
 |.bk ρ=>.bk (ρ.set i none)
 |.ct ρ=>.ct (ρ.set i none)
def sFz (i:Nat)(u:SF):SF:=λρ=>(u ρ).bind λo=>some (se i o)
section
variable {X:Cx}{ct:Nat->ah}{ms:List Mo}{rk k:Nat}
theorem zhk {i:Nat}{d:D}:se i (.rt d)=.rt d:=rfl
theorem zhl {i:Nat}{ρ:Env}:se i (.nx ρ)=.nx (ρ.set i none):=rfl
end
end L3
namespace L3
open PySem PySem.Spec L2
open PyProof.Rows hiding St
section
variable {X:Cx}{ct:Nat->ah}{ms:List Mo}{rk n m k:Nat}{a b c tg:Expr}{pos:cE}
end
end L3
namespace L2
open PySem PySem.Spec PyProof.Rows
def GO (K:aa)(a b:ah):It :=
 ⟨λi H=>∃xs ys x y,(eE K H a xs/\eE K H b ys)/\xs[i]?=some x/\ys[i]?=some y,λi H x H'=>∃p u v,H p=none/\x=.ref p/\H'=upd H p (.tup [u,v])/\(∀xs,eE K H a xs->xs[i]?=some u)/\∀ys,eE K H b ys->ys[i]?=some v,
  λi H=>∃xs ys,(eE K H a xs/\eE K H b ys)/\(xs.length<=i\/ys.length<=i)⟩
theorem Xn {P:bg}{w:bN}{K:aa}{kJ:List Expr}{kt:Nat}{pt:cE}(z TI TO i1 i2 l1 l2:ah)(ap:ZipApart z TI TO i1 i2 l1 l2) :
    Turn P w K (.Tuple kJ kt pt) (GO K l1 l2) [z,TI,TO,i1,i2] z (λi h=>IsZip h z TI TO .none/\IsPair h TI (.ref i1) (.ref i2)/\(∃a b,IsPair h TO a b)/\h.IsListIter i1 l1 i/\h.IsListIter i2 l2 i) where
  mem:=by simp
  obj:=λi h st b hb=>by
    obtain⟨q1,q2,⟨a,b',q3⟩,⟨o4,e4,_,d4⟩,⟨o5,e5,_,d5⟩⟩:=st
    simp only[aB,cn,or_false]at hb
    rcases hb with rfl|rfl|rfl|rfl|rfl
    · exact⟨_,q1,λv y=>by cases y⟩
    · exact⟨_,q2,λv y=>by cases y⟩
    · exact⟨_,q3,λv y=>by cases y⟩
    · exact⟨_,e4,λv y=>by rw[d4]at y;cases y⟩
    · exact⟨_,e5,λv y=>by rw[d5]at y;cases y⟩
  keep:=λi h h' st k=>by
    obtain⟨q1,q2,⟨a,b',q3⟩,q4,q5⟩:=st
    exact⟨k z (by simp) _ q1,k TI (by simp) _ q2,⟨a,b',k TO (by simp) _ q3⟩,q4.at λo x=>k i1 (by simp) o x,q5.at λo x=>k i2 (by simp) o x⟩
  item:=by
    intro X hP hw hK hc i af s σ H E I hf st hg
    subst hP hw hK
    obtain⟨xs,ys,x,y,⟨hq,oH⟩,hx,hy⟩:=hg
    obtain⟨cj,rv,p,hz⟩:=I.list hq
    obtain⟨its',FB,p',Fs⟩:=I.list oH
    obtain⟨u,hu,ru⟩:=rv.get hx
    obtain⟨u',Fo,Tu⟩:=FB.get hy
    obtain⟨q1,q2,⟨a,b',q3⟩,q4,q5⟩:=st
    refine wpAny_pyNext_zip_item ap q1 q2 q3 q4 q5 p.isList p'.isList (x:=u) (y:=u') (by simpa using hu) (by simpa using Fo) λh1 r1 r2 r3 r4 r5 hsz hk=>?_
    refine⟨_,rfl,wpAny_letOwnedTupleGo_zip (s:={ s with heap:=h1 }) r1 λh2 Ip sP=>?_⟩
    have O1:z<s.heap.objs.size:=aF q1
    have Uu:TI<s.heap.objs.size:=aF q2
    have Tj:TO<s.heap.objs.size:=aF q3
    have Jf:i1<s.heap.objs.size:=by obtain⟨_,q,_⟩:=q4;exact aF q
    have R3:i2<s.heap.objs.size:=by obtain⟨_,q,_⟩:=q5;exact aF q
    have HV:h2.get? s.heap.objs.size=some { cls:=.type "tuple",data:=.seq #[u,u'] }:=(sP.2 _ (iF O1)).trans r5
    have xP:H s.heap.objs.size=none:=I.hok.fresh (aC _)
    have I1:Inv X af σ (upd H s.heap.objs.size (.tup [x,y])) { s with heap:=h2,toks:=s.toks }:=by
      refine I.turnLay (ch:=[z,TI,TO,i1,i2]) hf (λb o hb q=>?_) (aC _) ⟨by show 2<=sizeLine;decide,[u,u'],.cons ru (.cons Tu .nil),_,HV,rfl,_,rfl⟩
      have b1:b≠z:=λe=>hb (by simp[e])
      have b3:b≠TO:=λe=>hb (by simp[e])
      have b4:b≠i1:=λe=>hb (by simp[e])
      have b5:b≠i2:=λe=>hb (by simp[e])
      exact(sP.2 b b1).trans (hk b o b1 b3 b4 b5 q)
    refine⟨.ref s.heap.objs.size,_,I1,rfl,⟨_,x,y,xP,rfl,rfl,λzs Ja=>by rw[I.list_inj Ja hq];exact hx,λzs Ja=>by rw[I.list_inj Ja oH];exact hy⟩,⟨Ip,(sP.2 TI ap.TIz).trans (hk TI _ ap.TIz ap.TITO ap.TIi1 ap.TIi2 q2),⟨_,_,(sP.2 TO ap.TOz).trans r2⟩,r3.at λo q=>(sP.2 i1 ap.i1z).trans q,r4.at λo q=>(sP.2 i2 ap.i2z).trans q⟩,λb hb=>?_⟩
    rw[zh ?_]
    · exact(hf b hb).1
    · simp only[aB,cn,or_false]at hb
      rcases hb with rfl|rfl|rfl|rfl|rfl
      · exact aY O1
      · exact aY Uu
      · exact aY Tj
      · exact aY Jf
      · exact aY R3
  done:=by
    intro X hP hw hK hc i af s σ H E I hf st hg
    subst hP hw hK
    obtain⟨xs,ys,⟨hq,oH⟩,hx⟩:=hg
    obtain⟨cj,rv,p,hz⟩:=I.list hq
    obtain⟨its',FB,p',Fs⟩:=I.list oH
    obtain⟨q1,q2,⟨a,b',q3⟩,q4,q5⟩:=st
    have hl:=rv.length
    have Ff:=FB.length
    refine wpAny_pyNext_zip_end (I.ok.hd hc) ap q1 q2 q3 q4 q5 p.isList p'.isList (hx.imp (λh=>by simp;omega) (λh=>by simp;omega)) λh' eb=>⟨rfl,I.turnedL (ch:=[z,TI,TO,i1,i2]) (t':=s.toks) hf λb o hb q=>?_⟩
    exact eb b o (λe=>hb (by simp[e])) (λe=>hb (by simp[e])) (λe=>hb (by simp[e])) (λe=>hb (by simp[e])) q
  self:=λ_ _ _ _ _ st h=>wpAny_pyIter_zip st.1 h
section
variable {X:Cx}{kJ:List Expr}{kt:Nat}{pt:cE}
def Jd (K:aa)(ta:TA):TI:=λσ H R=>ta σ H λvs H1=>∃a b,vs=[.ref a,.ref b]/\(∃xs ys,eE K H1 a xs/\eE K H1 b ys)/\R (GO K a b) H1
theorem Zv {l l':Expr}{ta:TA}{p pos:cE}(hg:Gl X "zip")(hm:X.mg "zip"=none)(ha:PA X [l,l'] ta)(hs:ak [l,l'] X.env=[(false,br l X.env),(false,br l' X.env)]:=by rfl)(lh:ak [l'] X.env=[(false,br l' X.env)]:=by rfl) :
  PI X (.Tuple kJ kt pt) (.Call (.Name "zip" p) [l,l'] [] pos) (Jd X.K ta):=by
 intro af s σ H R I h
 refine Call_ (sQ I hg hm PyProof.Rows.boot_zip (bT (cW (ha pos af s σ H _ I h) λus s1 ⟨vs,H1,I1,r1,q1⟩=>?_) (by rw[hs,lh]) (by rw[lh];rfl)))
 obtain⟨a,b,e,⟨xs,ys,hq,oH⟩,q⟩:=q1
 subst e
 cases r1 with
 |cons r rr=>
  cases rr with
  |cons r' rr=>
   cases rr
   cases r
   cases r'
   obtain⟨cj,rv,pl,hz⟩:=I1.list hq
   obtain⟨its',FB,Mj,Fs⟩:=I1.list oH
   have R6:a<s1.heap.objs.size:=by obtain⟨_,q,_⟩:=pl.isList;exact aF q
   have C5:b<s1.heap.objs.size:=by obtain⟨_,q,_⟩:=Mj.isList;exact aF q
   refine call_zip_2 pl.isList Mj.isList λh' r1 r2 r3 r4 r5 hsz hk=>?_
   refine wpAny_pyIter_zip (s:={ s1 with heap:=h' }) r1 ?_
   refine⟨_,[_,_,_,_,_],_,_,H1,rfl,I1.kept (t':=s1.toks) hk,Xn _ _ _ _ _ a b (zipApart_new R6 C5),⟨r1,r2,⟨_,_,r3⟩,r4,r5⟩,λc hb=>?_,q⟩
   have:s1.heap.objs.size<=c:=by
    simp only[aB,cn,or_false]at hb
    rcases hb with rfl|rfl|rfl|rfl|rfl<;>omega
   exact I1.fpOk this (I1.hok.fresh this)
end
end L2
namespace L3
open PySem PySem.Spec L2
open PyProof.Rows hiding St
def ka:List D->List D->List D
 |x::xs,y::ys=>.tup [x,y]::ka xs ys
 |_,_=>[]
theorem N5:∀{xs ys:List D} {i:Nat} {d:D},(ka xs ys)[i]?=some d->∃x y,xs[i]?=some x/\ys[i]?=some y/\d=.tup [x,y]
 |[],_,_,_,h=>by simp[ka]at h
 |_::_,[],_,_,h=>by simp[ka]at h
 |x::xs,y::ys,0,d,h=>by simp[ka]at h;subst h;exact⟨x,y,rfl,rfl,rfl⟩
 |x::xs,y::ys,i+1,d,h=>by
  obtain⟨u,v,h1,h2,h3⟩:=N5 (xs:=xs) (ys:=ys) (i:=i) (d:=d) (by simpa[ka]using h)
  exact⟨u,v,by simpa using h1,by simpa using h2,h3⟩
theorem N6:∀{xs ys:List D},(ka xs ys).length=min xs.length ys.length
 |[],_=>by simp[ka]
 |_::_,[]=>by simp[ka]
 |x::xs,y::ys=>by simp[ka,N6 (xs:=xs) (ys:=ys)]
section
variable {X:Cx}{ct:Nat->ah}{ms:List Mo}{n:Nat}{a b:Expr}{pos:cE}
theorem Zw {K:aa}{F B:Hp}{a b:ah}{vs us:List V}{ds es:List D}(hp:Pr (Al K ct F B n) ds vs)(zT:Pr (Al K ct F B n) es us)(keep:∀F' H',bI F F'->bI B H'->bI F' H'->eE K H' a vs)(C1:∀F' H',bI F F'->bI B H'->bI F' H'->eE K H' b us):oX K ct F B (n+1) (GO K a b) (ka ds es):=by
 intro i F' H' s1 s2 s3
 have hs:eE K H' a vs:=keep F' H' s1 s2 s3
 have uT:eE K H' b us:=C1 F' H' s1 s2 s3
 refine⟨λd hd=>?_,λhl=>⟨vs,us,⟨hs,uT⟩,by rw[←hp.length,←zT.length];rw[N6]at hl;omega⟩⟩
 obtain⟨x,y,hx,hy,rfl⟩:=N5 hd
 obtain⟨v,hv,l⟩:=hp.get' hx
 obtain⟨u,hu,l'⟩:=zT.get' hy
 refine⟨⟨vs,us,v,u,⟨hs,uT⟩,hv,hu⟩,λz H2 q=>?_⟩
 obtain⟨r,v',u',hr,rfl,rfl,q1,q2⟩:=q
 have e1:=q1 vs hs
 have e2:=q2 us uT
 rw[hv]at e1
 rw[hu]at e2
 cases e1
 cases e2
 exact⟨_,eS.newS s3 hr _,.inr (.tup zk (.cons (l.mono (s1.trans (uf (s3.free hr) _)) (.refl _)) (.cons (l'.mono (s1.trans (uf (s3.free hr) _)) (.refl _)) .nil)))⟩
def zE:List D->Option (List D)
 |[.lst xs,.lst ys]=>some (ka xs ys)
 |_=>none
theorem YJ {fs:Env->Option (List D)}{kJ:List Expr}{kt:Nat}{pt pp:cE}(hm:X.mg "zip"=none)(ha:XA X ct ms [a,b] [n,n] fs)(hg:Gl X "zip":=by rfl)(hs:ak [a,b] X.env=[(false,br a X.env),(false,br b X.env)]:=by rfl)(lh:ak [b] X.env=[(false,br b X.env)]:=by rfl) :
  XIc X ct ms (n-1+1) (.Tuple kJ kt pt) (.Call (.Name "zip" pp) [a,b] [] pos) (λρ=>(fs ρ).bind zE):=by
 obtain⟨t,pt,_,qt⟩:=ha
 refine⟨_,Zv hg hm pt hs lh,λF0 B F H ρ σ ds R rs e w=>?_⟩
 obtain⟨o8,h1,h2⟩:=aR e
 refine qt F0 B F H ρ σ _ _ rs h1 λvs F' H' x l=>?_
 cases l with
 |cons h t=>
  cases t with
  |cons h' t=>
   cases t
   rename_i d v d' v'
   cases d with
   |lst xs=>
    cases d' with
    |lst ys=>
     cases h2
     obtain⟨a,vs,rfl,ha,hp⟩:=h.lst x.fh
     obtain⟨b,us,rfl,hb,zT⟩:=h'.lst x.fh
     exact⟨a,b,rfl,⟨vs,us,ha,hb⟩,w _ F' H' x (Zw hp zT (λF2 H2 s1 s2 s3=>s2.seq ha) (λF2 H2 s1 s2 s3=>s2.seq hb))⟩
    |_=>cases h2
   |_=>cases h2
end
end L3
namespace L3
open PySem PySem.Spec L2
open PyProof.Rows hiding St
section
variable {K:aa}{ct:Nat->ah}{n m k:Nat}
end
end L3
namespace L2
open PySem PySem.Spec PyProof.Rows
section
variable {X:Cx}{e sp:Expr}{te:TE}{tp:TO}{pos p2:cE}
end
end L2
namespace L3
open PySem PySem.Spec L2
open PyProof.Rows hiding St
section
variable {X:Cx}{ct:Nat->ah}{ms:List Mo}{n m:Nat}{e sp:Expr}{f g:EF}{pos p1:cE}
end
end L3
namespace L3
open PySem PySem.Spec L2
open PyProof.Rows hiding St
def kg {α:Type}(p q:Nat)(rv:Bool)(us ws:List α):List α:=if us.length=p/\ws.length=q then us++(if rv then ws.reverse else ws)else[]
section
variable {X:Cx}{ct:Nat->ah}{ms:List Mo}{rk n m k kk:Nat}{e a:Expr}{f:EF}{x:aJ}{pp pos yF:cE}{fa:ah}{fd:aL}{ps ks:List aJ}{mf:List D->Option D}
end
end L3
namespace L3
open PySem PySem.Spec L2
open PyProof.Rows hiding St
section
variable {X:Cx}{ct:Nat->ah}{ms:List Mo}{rk n m k:Nat}{st:bL}{rest:List bL}{a b c e tg:Expr}{f g h:EF}{p q:BF}{u w:SF}{pos:cE}
end
end L3
namespace L3
open PySem PySem.Spec L2
open PyProof.Rows hiding St
section
variable {X:Cx}{ct:Nat->ah}{ms:List Mo}{rk n m k:Nat}{a e:Expr}{f:EF}{pos:cE}
end
end L3
namespace L3
open PySem PySem.Spec L2
open PyProof.Rows hiding St
section
variable {X:Cx}{ct:Nat->ah}{ms:List Mo}{n m l k:Nat}{a b c:Expr}{f g h:EF}{pos:cE}
end
end L3
namespace L3
open PySem PySem.Spec L2
open PyProof.Rows hiding St
section
variable {X:Cx}{ct:Nat->ah}{ms:List Mo}{rk n m k:Nat}{a b c e tg:Expr}{f g h:EF}{pos:cE}
end
end L3
namespace L3
open PySem PySem.Spec L2
open PyProof.Rows hiding St
section
variable {X:Cx}{ct:Nat->ah}{ms:List Mo}{n:Nat}{e tg:Expr}{f:EF}{pos:cE}
end
end L3
namespace L3
open PySem PySem.Spec L2
open PyProof.Rows hiding St
section
variable {X:Cx}{K:aa}{ct:Nat->ah}{ms:List Mo}{n k:Nat}
end
end L3
namespace L3
open PySem PySem.Spec L2
open PyProof.Rows hiding St
section
variable {X:Cx}{ct:Nat->ah}{ms:List Mo}{rk n m k:Nat}{a b c e:Expr}{f g h:EF}{pos:cE}
end
end L3
namespace L3
open PySem PySem.Spec L2
open PyProof.Rows hiding St
section
variable {K:aa}{ct:Nat->ah}{F F' H H' B F0:Hp}
end
section
variable {X:Cx}{ct:Nat->ah}{ms:List Mo}{rk n m k:Nat}{st:bL}{rest:List bL}{a b c e tg:Expr}{f g h:EF}{p q:BF}{u w:SF}{pos:cE}
end
section
variable {X:Cx}{ct:Nat->ah}{ms:List Mo}{rk n m k:Nat}{st:bL}{rest:List bL}{a b c e tg:Expr}{f g h:EF}{p q:BF}{u w:SF}{pos:cE}{i j:Nat}
variable {kk:Nat}{fa:ah}{fd:aL}{ps:List aJ}{mf:List D->Option D}{x:aJ}{pp:cE}
end
end L3
namespace L2
open PySem PySem.Spec
open PyProof.Rows hiding St
section
variable {X:Cx}{pos:cE}
end
end L2
namespace L3
open PySem PySem.Spec L2
open PyProof.Rows hiding St
section
variable {X:Cx}{ct:Nat->ah}{ms:List Mo}{n:Nat}{pos:cE}
end
end L3
namespace L3
open PySem PySem.Spec L2
open PyProof.Rows hiding St
section
variable {X:Cx}{ct:Nat->ah}{ms:List Mo}{rk n m k i:Nat}{a b c e:Expr}{f g h:EF}{pos:cE}
end
end L3
namespace L3
open PySem PySem.Spec L2
open PyProof.Rows hiding St
section
variable {X:Cx}{ct:Nat->ah}{ms:List Mo}{rk n m k:Nat}{a b c e o:Expr}{f g h:EF}{pos:cE}
end
end L3
namespace L2
open PySem PySem.Spec
open PyProof.Rows hiding St
section
variable {X:Cx}{CX:qA}{k:Nat}{f C:ah}{fd:aL}{ps ks:List aJ}{sp:Sp}{E:XK}{x m:aJ}{p pos cP yF:cE}{e o:Expr}{es:List Expr}{kws:List fE}{te ta:TE}{t tk:TA}{nm:Option aJ}
variable {g:List ae->List ae->List ae}{gV:List V->List V->List V}
end
end L2
namespace L3
open PySem PySem.Spec L2
open PyProof.Rows hiding St
section
variable {X:Cx}{ct:Nat->ah}{ms:List Mo}{rk n m k kk:Nat}{e a:Expr}{f:EF}{x:aJ}{pp pos yF:cE}{fa:ah}{fd:aL}{ps ks:List aJ}{pm cs:List Nat}{mi:Nat->List D->Option D}
end
end L3
namespace L3
open PySem PySem.Spec L2
open PyProof.Rows hiding St
section
variable {X:Cx}{ct:Nat->ah}{ms:List Mo}{rk n m k i j:Nat}{a b c e:Expr}{f g h:EF}{pos:cE}
variable {kk:Nat}{fa:ah}{fd:aL}{ps:List aJ}{mf:List D->Option D}{x y:aJ}{pp:cE}
end
end L3
namespace L3
open PySem PySem.Spec L2
open PyProof.Rows hiding St
open Classical in
open Classical in
section
variable {X:Cx}
end
section
variable {K:aa}{ct:Nat->ah}{n m k:Nat}
end
section
variable {α:Type}[DecidableEq α]
end
end L3
namespace L3
open PySem PySem.Spec L2
open PyProof.Rows hiding St
section
variable {X:Cx}{ct:Nat->ah}{ms:List Mo}{rk n m k:Nat}{st:bL}{rest:List bL}{a b c e tg:Expr}{f g h:EF}{p q:BF}{u w:SF}{pos:cE}{K:aa}
end
end L3
namespace L3
open PySem PySem.Spec L2
open PyProof.Rows hiding St
section
variable {X:Cx}{ct:Nat->ah}{ms:List Mo}{rk n m k kk kq:Nat}{st:bL}{rest:List bL}{a b c e tg:Expr}{f g h:EF}{p q:BF}{u w:SF}{pos pp:cE}{K:aa}{x:aJ}{fa:ah}{fd:aL}{ps:List aJ}{mf:List D->Option D}
theorem kU (h:XO X ct ms k e f):XO X ct ms 0 e f:=XE.ow (XO.sh (n:=0) h)
theorem kC {own i:Nat}(hN:X.N.Nodup)(ho:i<own:=by decide)(hm:ms[i]?=some (.ow 0):=by rfl)(hi:X.N[i]?=some x:=by rfl)(hx:Loc X.env.scope x:=by first|exact Or.inl rfl|exact Or.inr rfl)
  (hf:X.fn x=true\/X.env.scope.names.lookup x=some .local:=by first|exact .inl rfl|exact .inr rfl|assumption):tE X ct ms own 0 (.Name x pos) (gV i):=W6 ho hm hN hi hx hf
theorem gm {i:Nat}{pos':cE}(hN:X.N.Nodup)(he:XO X ct ms k e f)(hm:ms[i]?=some (.ow k):=by rfl)(hi:X.N[i]?=some x:=by rfl)(hx:Loc X.env.scope x:=by first|exact Or.inl rfl|exact Or.inr rfl)
  (hs:di e (some (.Name x pos')) pos.line X.env=pure false:=by rfl)
  (hf:X.fn x=true\/X.env.scope.names.lookup x=some .local:=by first|exact .inl rfl|exact .inr rfl|assumption):XS X ct ms rk (.Assign [.Name x pos'] e pos) (sSet i f):=ZR hm hN hi hx he hs hf
theorem mq {i:Nat}(hN:X.N.Nodup)(hm:ms[i]?=some (.ow 0):=by rfl)(hi:X.N[i]?=some x:=by rfl)(hx:Loc X.env.scope x:=by first|exact Or.inl rfl|exact Or.inr rfl)
  (hf:X.fn x=true\/X.env.scope.names.lookup x=some .local:=by first|exact .inl rfl|exact .inr rfl|assumption):XG X ct ms 0 (.Name x pos) (gV i):=XD hm hN hi hx hf
theorem cX {es:List Expr}{ns:List Nat}{fs:Env->Option (List D)}(d:jH X.K X.mg x st ps fa fd)(Fn:cp X.prog X.w X.K X.mg X.base eQ kk fa fd ps (gM X.K ct ns rk mf))(hr:dG kq X.A)(ha:XA X ct ms (e::es) ns fs)(oF:kk<=kq:=by decide)(hg:Gl X x:=by rfl)
  (iC:(x==("__debug__":aJ))=false:=by decide) (he:ak (e::es) X.env=(false,br e X.env)::ak es X.env:=by rfl) (gq:(bU pos (ak es X.env)).any (·.1)=false:=by rfl) :
  XO X ct ms rk (.Call (.Name x pp) (e::es) [] pos) (λρ=>(fs ρ).bind λds=>mf (ds++[])) :=
 Kt (ns:=ns) (nd:=[]) (iP:=[]) (by rw[bQ];exact Fn) (hr.mono oF) hg d.mgx d.fn.kp d.bd .nil (λ_ _=>.nil) ha iC he gq
theorem ql {om:List Mo}{iX iter:Expr}{ifs:List Expr}{scope:fC}{N:List aJ}{own:Nat}{cap:List Nat}{fi:Env->Option (List D)}{gg:D->Env->Option Env}(hi:XIc X ct ms n tg iter fi)
  (hg:∀cl C fp s₀ H₀,tE (hV X scope cl N C fp s₀ H₀) ct (om++gG ms cap) own n tg gg) (ht:∀cl C fp s₀ H₀,vR (hV X scope cl N C fp s₀ H₀) ct (om++gG ms cap) ifs p) (he:∀cl C fp s₀ H₀,XO (hV X scope cl N C fp s₀ H₀) ct (om++gG ms cap) k iX f)
  (B:ki X scope N own cap:=by exact sS (by rfl)) (hc:X.calm=true:=by rfl) (ho:om.length=own:=by rfl) (dD:∀i∈cap,i<ms.length:=by decide)
  (hs:∀x,cR iter X.env x=pure x:=by intro _;rfl):XO X ct ms (k+1) (.ListComp iX [⟨tg,iter,ifs,0⟩] scope pos) (dg fi own cap gg p f):=XM B hc ho dD hi hg ht he hs
theorem iY {P:bg}{w:bN}{mg:aJ->Option ae}{base:aI}{qual:aJ}{N:List aJ}{pm:List Nat}{bf:SF}(Fn:Fun2 K x qual st fa fd)(S:bt N ps (aQ st))
  (body:∀(gB:ae) (A:bx) (outer:List PySem.Env) (s:aj) (H:Hp) (E:XK),dG kk (A.deeper (envOfC qual (aQ st) s.heap.objs.size fa gB))->pL (lg eQ P w K mg base N qual (aQ st) fa gB A outer s H E).nox ct ms rk (fU st) bf)
  (xZ:pm.length=ps.length:=by rfl) (Fh:ms.length=N.length:=by rfl) (oF:ps.length<=N.length:=by decide) (xT:∀(i n:Nat),pm[i]?=some n->ms[i]?=some (Mo.al n)\/(n=0/\ms[i]?=some (Mo.ow 0)):=by exact ug (by decide)) :
  cp P w K mg base eQ (kk+1) fa fd ps (gM K ct pm rk (mOf N bf)):=lift Fn S xZ Fh oF xT body
theorem cO {i:Int}{j}:XE X ct ms 0 (.Constant (.int i) j pos) (eC (.int i)):=ZP
theorem sv {j}:XE X ct ms 0 (.Constant .none j pos) (eC .non):=ZQ
theorem ky (ha:XE X ct ms 0 a f)(hb:XE X ct ms 0 b g):XO X ct ms 1 (.BinOp a .Add b pos) (e2 dm f g):=ztc XU (XX (by decide) (by decide)) ha hb
theorem lC (ha:XE X ct ms 0 a f)(hb:XE X ct ms 0 b g)(hp:lx b:=by exactλ_ _=>rfl):XE X ct ms 0 (.Subscript a b pos) (e2 fJ f g):=Ak (n:=0) Ac Af ha hb hp
theorem mr {fs:Env->Option (List D)}(hm:X.mg "len"=none)(ha:XA X ct ms [e] [n] fs)(hg:Gl X "len":=by rfl)(he:ak [e] X.env=(false,br e X.env)::ak [] X.env:=by rfl)(gq:(bU pos (ak [] X.env)).any (·.1)=false:=by rfl):XE X ct ms 0 (.Call (.Name "len" pp) [e] [] pos) (eN ef fs):=ju (k:=0) V5 XJ hg hm ZO ha (by decide) (by decide) he gq
theorem R5 {P:List ae->Prop}(h:P [])(us:List ae)(e:us.length=0):P us:=by
 cases us with
 |nil=>exact h
 |cons a t=>cases e
theorem rX {P:List ae->Prop}(h:∀a1,P [a1])(us:List ae)(e:us.length=1):P us:=by
 cases us with
 |nil=>cases e
 |cons a t=>exact R5 (P:=λt=>P (a::t)) (h a) t (Nat.succ.inj e)
theorem pR {P:List ae->Prop}(h:∀a1 a2,P [a1,a2])(us:List ae)(e:us.length=2):P us:=by
 cases us with
 |nil=>cases e
 |cons a t=>exact rX (P:=λt=>P (a::t)) (h a) t (Nat.succ.inj e)
theorem tU {P:List ae->Prop}(h:∀a1 a2 a3,P [a1,a2,a3])(us:List ae)(e:us.length=3):P us:=by
 cases us with
 |nil=>cases e
 |cons a t=>exact pR (P:=λt=>P (a::t)) (h a) t (Nat.succ.inj e)
theorem sO {P:List ae->Prop}(h:∀a1 a2 a3 a4,P [a1,a2,a3,a4])(us:List ae)(e:us.length=4):P us:=by
 cases us with
 |nil=>cases e
 |cons a t=>exact tU (P:=λt=>P (a::t)) (h a) t (Nat.succ.inj e)
theorem C4 {P:List ae->Prop}(h:∀a1 a2 a3 a4 a5,P [a1,a2,a3,a4,a5])(us:List ae)(e:us.length=5):P us:=by
 cases us with
 |nil=>cases e
 |cons a t=>exact sO (P:=λt=>P (a::t)) (h a) t (Nat.succ.inj e)
end
end L3
namespace L3
open PySem PySem.Spec L2
open PyProof.Rows hiding St
section
variable {K:aa}{ct:Nat->ah}{F B H:Hp}
end
section
variable {X:Cx}{ct:Nat->ah}{ms:List Mo}{rk n m k i j:Nat}{a b c e:Expr}{f g h:EF}{p q:BF}{pos:cE}{K:aa}
end
end L3
set_option maxHeartbeats 1000000
namespace L3
open PySem PySem.Spec L2
open PyProof.Rows hiding St
inductive nu where
 |ok (d:D)|xc (d:D)
inductive rz where
 |ok (o:Out)|xc (ρ:Env) (d:D)
abbrev lL:=Env->Option rz
abbrev An:=Env->Option nu
def uJ (K:aa)(ct:Nat->ah)(F H:Hp)(d:D)(a:ah):Prop:=∃c ns ds T dx,d=.exc c ns ds/\F a=none/\F T=none/\oE H a (ct c) dx (some T) /\
 ((ns=[]/\ds=[]/\dx=none)\/∃y vs,dx=some y/\F y=some (.xd (ns.zip vs))/\ns.length=vs.length/\Dts K ct F ds vs)
def kI (K:aa)(cl:Nat->ah)(F0 B:Hp)(ms:List Mo)(rk:Nat)(E:gU)(G:GK):rz->Prop
 |.ok o=>jJ K cl F0 B ms rk E o
 |.xc ρ d=>∀a σ F1 H0 F H,RS K cl F0 B ms F1 H0 ρ σ->eS F1 H0 F H->H0 a=none->uJ K cl F H d a->G σ a H
theorem uJ.note {K:aa}{ct:Nat->ah}{F H:Hp}{d:D}{a:ah}(h:uJ K ct F H d a)(s:bI F H):∃C dx T,oE H a C dx (some T)/\∀T',H T'=none->uJ K ct F (dY H a C dx T') d a/\bI F (dY H a C dx T')/\∀b o,b≠a->H b=some o->dY H a C dx T' b=some o:=by
 obtain⟨c,ns,ds,T,dx,rfl,fa,fT,xr,r⟩:=h
 refine⟨ct c,dx,T,xr,λT' hT=>⟨⟨c,ns,ds,T',dx,rfl,fa,s.free hT,Kr xr hT,r⟩,λb o e=>?_,λb o hb e=>?_⟩⟩
 ·unfold dY
  rw[zh (zj e fa),zh (zj e (s.free hT))]
  exact s _ _ e
 ·unfold dY
  rw[zh hb,zh (zj e hT)]
  exact e
theorem eS.note {F1 H0 F H:Hp}{a C:ah}{dx:Option ah}{T':ah}(x:eS F1 H0 F H)(ha:H0 a=none)(hT:H T'=none)(s:bI F (dY H a C dx T')):eS F1 H0 F (dY H a C dx T') :=
 ⟨x.ff,λb o e=>by
  unfold dY
  rw[zh (zj e ha),zh (zj (x.hh _ _ e) hT)]
  exact x.hh _ _ e,s,x.nf⟩
section
variable (X:Cx)(G:GK)(ct:Nat->ah)(ms:List Mo)(rk:Nat)
def zJ (st:bL)(f:lL):Prop:=∃t,PS X st t/\∀(F0 B F H:Hp) (ρ:Env) (σ:St) (o:rz) (E:gU),RS X.K ct F0 B ms F H ρ σ->f ρ=some o->kI X.K ct F0 B ms rk E G o->t E σ H
def nv (st:List bL)(f:lL):Prop:=∃t,nr X st t/\∀(F0 B F H:Hp) (ρ:Env) (σ:St) (o:rz) (E:gU),RS X.K ct F0 B ms F H ρ σ->f ρ=some o->kI X.K ct F0 B ms rk E G o->t E σ H
def K0 (k:Nat)(e:Expr)(f:An):Prop:=∃t,PE X e t/\∀(F0 B F H:Hp) (ρ:Env) (σ:St) (r:nu) (Q:VK),RS X.K ct F0 B ms F H ρ σ->f ρ=some r ->
 (match r with
  |.ok d=>∀v F' H' fp,eS F H F' H'->Ow X.K ct F' H' k d v fp->fp.Nodup->(∀a∈fp,H a=none)->Q v H'
  |.xc d=>∀a F' H',eS F H F' H'->H a=none->uJ X.K ct F' H' d a->G σ a H')->t σ H Q
end
def xOf (u:SF):lL:=λρ=>(u ρ).map .ok
def sSeqX (f g:lL):lL:=λρ=>(f ρ).bind λo=>match o with
 |.ok (.nx ρ')=>g ρ'
 |o=>some o
def sIfX (c:BF)(f g:lL):lL:=λρ=>(c ρ).bind λb=>if b=true then f ρ else g ρ
def sSetX (i:Nat)(f:An):lL:=λρ=>(f ρ).bind λr=>match r with
 |.ok d=>some (.ok (.nx (ρ.set i (some d))))
 |.xc d=>some (.xc ρ d)
def sDropX (f:An):lL:=λρ=>(f ρ).bind λr=>match r with
 |.ok _=>some (.ok (.nx ρ))
 |.xc d=>some (.xc ρ d)
def sRetX (f:An):lL:=λρ=>(f ρ).bind λr=>match r with
 |.ok d=>some (.ok (.rt d))
 |.xc d=>some (.xc ρ d)
def qH (g:D->Env->Option Env)(b:lL):List D->lL
 |[],ρ=>some (.ok (.nx ρ))
 |d::ds,ρ=>(g d ρ).bind λρ1=>(b ρ1).bind λo=>match o with
   |.ok (.nx ρ')=>qH g b ds ρ'
   |.ok (.ct ρ')=>qH g b ds ρ'
   |.ok (.bk ρ')=>some (.ok (.nx ρ'))
   |.ok (.rt d)=>some (.ok (.rt d))
   |.xc ρ' d=>some (.xc ρ' d)
def sForX (f:Env->Option (List D))(g:D->Env->Option Env)(b:lL):lL:=λρ=>(f ρ).bind λds=>qH g b ds ρ
section
variable {X:Cx}{G:GK}{ct:Nat->ah}{ms:List Mo}{rk n m k:Nat}{st:bL}{rest:List bL}{a b c e:Expr}{f g h:EF}{p q:BF}{u w:lL}{pos:cE}
theorem OT {u:SF}(h:pL X ct ms rk rest u):nv X G ct ms rk rest (xOf u):=by
 obtain⟨t,pt,qt⟩:=h
 refine⟨t,pt,λF0 B F H ρ σ o E rs e z=>?_⟩
 obtain⟨o',h1,rfl⟩:=cu.mp e
 exact qt F0 B F H ρ σ o' E rs h1 z
theorem Gg (h1:zJ X G ct ms rk st u):nv X G ct ms rk [st] u:=by
 obtain⟨t,pt,qt⟩:=h1
 exact⟨_,Ko pt,qt⟩
theorem Wm (h1:zJ X G ct ms rk st u)(h2:nv X G ct ms rk rest w):nv X G ct ms rk (st::rest) (sSeqX u w):=by
 obtain⟨t,pt,qt⟩:=h1
 obtain⟨t2,pw,pz⟩:=h2
 refine⟨_,Kb pt pw,λF0 B F H ρ σ o E rs e z=>?_⟩
 obtain⟨o1,e1,e2⟩:=aR e
 refine qt F0 B F H ρ σ o1 _ rs e1 ?_
 cases o1 with
 |xc ρ' d=>cases e2;exact z
 |ok o1=>
  cases o1 with
  |nx ρ'=>exactλσ' F' H' DW=>pz F0 B F' H' ρ' σ' o E DW e2 z
  |rt d=>cases e2;exact z
  |bk ρ'=>cases e2;exact z
  |ct ρ'=>cases e2;exact z
theorem Zx {D0 qM:List bL}(hc:XT X ct ms c p)(h1:nv X G ct ms rk D0 u)(h2:nv X G ct ms rk qM w):zJ X G ct ms rk (.If c D0 qM pos) (sIfX p u w):=by
 obtain⟨t,pt,qt⟩:=hc
 obtain⟨t1,sg,si⟩:=h1
 obtain⟨t2,pw,pz⟩:=h2
 refine⟨_,Pv pt sg pw,λF0 B F H ρ σ o E rs e z=>?_⟩
 obtain⟨x,h1,h2⟩:=aR e
 refine qt F0 B F H ρ σ x _ rs h1 λF1 H1 x1=>?_
 cases x with
 |true=>rw[if_pos rfl]at h2 ⊢;exact si F0 B F1 H1 ρ σ o E (rs.ext x1) h2 z
 |false=>rw[if_neg aH]at h2 ⊢;exact pz F0 B F1 H1 ρ σ o E (rs.ext x1) h2 z
theorem N7 {f:An}(he:K0 X G ct ms k e f)(hs:di e none pos.line X.env=pure false:=by rfl):zJ X G ct ms rk (.Expr e pos) (sDropX f):=by
 obtain⟨t,pt,qt⟩:=he
 refine⟨_,Aa pt hs,λF0 B F H ρ σ o E rs e z=>?_⟩
 obtain⟨r,h1,h2⟩:=aR e
 refine qt F0 B F H ρ σ r _ rs h1 ?_
 cases r with
 |ok d=>cases h2;exactλv F' H' fp x l nd hf=>z σ F' H' (rs.ext x)
 |xc d=>cases h2;exactλa F' H' x ha xd=>z a σ F H F' H' rs x ha xd
theorem kI.re {K:aa}{F0 B F H:Hp}{ρ:Env}{σ:St}{E:gU}{o:rz}(r:RS K ct F0 B ms F H ρ σ)(z:kI K ct F0 B ms rk E G o):kI K ct F B ms rk E G o:=by
 cases o with
 |ok o=>exact jJ.re (o:=o) r z
 |xc ρ d=>exactλa σ' F1 H0 F' H' q=>z a σ' F1 H0 F' H' (r.back q)
theorem YK {tg iter:Expr}{fi:Env->Option (List D)}{gg:D->Env->Option Env}(hi:XI X ct ms n tg iter fi)(hg:XG X ct ms n tg gg)(hb:nv X G ct ms rk rest u)(hp:bW (aG X.prog X.w) X.A X.env X.xe)(hc:X.calm=true)
  (hs:∀x,cR iter X.env x=pure x:=by intro _;rfl):zJ X G ct ms rk (.For tg iter rest [] pos) (sForX fi gg u):=by
 obtain⟨wi,pi,qi⟩:=hi
 obtain⟨JM,pg,qg⟩:=hg
 obtain⟨t1,sg,si⟩:=hb
 refine⟨_,Pc hp hc pi pg sg hs,λF0 B F H ρ σ o E rs e z=>?_⟩
 obtain⟨ds,h1,h2⟩:=aR e
 refine qi F0 B F H ρ σ ds _ rs h1 λJ F1 H1 x1 ok=>?_
 refine⟨λi m σ H=>m=ds.length-i/\i<=ds.length/\∃F ρ,bI F1 F/\RS X.K ct F0 B ms F H ρ σ/\qH gg u (ds.drop i) ρ=some o,⟨ds.length,rfl,d9 _,F1,ρ,.refl _,rs.ext x1,h2⟩,?_⟩
 rintro i m σ H ⟨rfl,LL,F,ρ,s1,rs,e⟩
 obtain⟨k1,k2⟩:=ok i F H s1 rs.bh rs.fh
 by_cases lT:i<ds.length
 ·right
  have hd:ds[i]?=some ds[i]:=by simp[lT]
  obtain⟨go,yl⟩:=k1 _ hd
  rw[gQ lT]at e
  obtain⟨ρ1,h3,h4⟩:=aR e
  obtain⟨o1,h5,h6⟩:=aR h4
  refine⟨go,λσ H=>i+1<=ds.length/\∃F ρ,bI F1 F/\RS X.K ct F0 B ms F H ρ σ/\qH gg u (ds.drop (i+1)) ρ=some o,λσ' H' h=>⟨ds.length-(i+1),by omega,rfl,h⟩,λx H2 y=>?_⟩
  obtain⟨F2,x2,l⟩:=yl x H2 y
  refine qg F0 B F2 H2 ρ ρ1 σ _ x _ (rs.ext x2) l h3 λσ' r=>?_
  have s2:=s1.trans x2.ff
  refine si F2 B F2 H2 ρ1 σ' o1 _ r.re h5 ?_
  cases o1 with
  |xc ρ' d=>cases h6;exact kI.re (o:=.xc ρ' d) r z
  |ok o1=>
   cases o1 with
   |nx ρ'=>exactλσ' F' H' q=>⟨lT,F',ρ',s2.trans q.f0,r.back q,h6⟩
   |ct ρ'=>exactλσ' F' H' q=>⟨lT,F',ρ',s2.trans q.f0,r.back q,h6⟩
   |bk ρ'=>cases h6;exactλσ' F' H' q=>z σ' F' H' (r.back q)
   |rt d=>cases h6;exact jJ.re (o:=.rt d) r z
 ·left
  refine⟨k2 (by omega),?_⟩
  have:ds.drop i=[]:=iy (by omega)
  rw[this]at e
  cases e
  exact z σ F H rs
end
end L3
set_option maxHeartbeats 1000000
namespace L3
open PySem PySem.Spec L2
open PyProof.Rows hiding St
def oY (K:aa)(ct:Nat->ah)(pm:List Nat)(rk:Nat)(m:List D->Option nu):Sp:=λvs H Q E=>∃(F:Hp) (ds:List D) (r:nu),bI F H/\iL K ct F H pm ds vs/\m ds=some r /\
 match r with
  |.ok d=>∀v F' H' fp,eS F H F' H'->Ow K ct F' H' rk d v fp->fp.Nodup->(∀a∈fp,H a=none)->Q v H'
  |.xc d=>∀a F' H',eS F H F' H'->H a=none->uJ K ct F' H' d a->E (.ref a) none H'
theorem oY.len {K:aa}{ct:Nat->ah}{pm:List Nat}{rk:Nat}{m:List D->Option nu}{ps:List aJ}(h:pm.length=ps.length):∀vs H Q E,oY K ct pm rk m vs H Q E->vs.length=ps.length:=by
 rintro vs H Q E ⟨F,ds,r,_,l,_⟩
 rw[l.length,h]
theorem zti {K:aa}{ct:Nat->ah}{F H F1 H1 F' H':Hp}{σ:St}{d:D}{a:ah}{G:GK}(x1:eS F H F1 H1)(x2:eS F1 H1 F' H')(ha:H1 a=none)(xd:uJ K ct F' H' d a)(w:∀a F' H',eS F H F' H'->H a=none->uJ K ct F' H' d a->G σ a H'):EX G σ (.ref a) none H':=by
 obtain⟨C,dx,T,xr,nt⟩:=xd.note x2.fh
 refine⟨a,C,dx,T,rfl,xr,λT' hT=>?_⟩
 obtain⟨q1,q2,_⟩:=nt T' hT
 exact w a F' _ ((x1.trans x2).note (x1.hh.free ha) hT q2) (x1.hh.free ha) q1
section
variable {X:Cx}{G:GK}{ct:Nat->ah}{ms:List Mo}{rk n m k kk:Nat}{st:bL}{rest:List bL}{a b c e:Expr}{f g h:EF}{p q:BF}{u w:lL}{pos pp:cE}{fa:ah}{fd:aL}{ps:List aJ}{mf:List D->Option nu}{x:aJ}
theorem N8 {es:List Expr}{ns nd:List Nat}{fs:Env->Option (List D)}{gC:List V}{iP:List D}{kn:List ae}(hx:jK X G)(Fn:cp X.prog X.w X.K X.mg X.base (tq X.prog X.w) kk fa fd ps (oY X.K ct (ns++nd) rk mf))(hr:dG kk X.A)(hg:Gl X x)(hm:X.mg x=some (.ref fa))(hk:ar X.K (.ref fa)=true)
  (hb:bz X.K fd ps kn) (hd:bM gC kn) (rL:∀F G,iL X.K ct F G nd iP gC) (ha:XA X ct ms (e::es) ns fs)
  (iC:(x==("__debug__":aJ))=false:=by decide) (he:ak (e::es) X.env=(false,br e X.env)::ak es X.env:=by rfl) (gq:(bU pos (ak es X.env)).any (·.1)=false:=by rfl) :
  K0 X G ct ms rk (.Call (.Name x pp) (e::es) [] pos) (λρ=>(fs ρ).bind λds=>mf (ds++iP)):=by
 obtain⟨t,pt,_,qt⟩:=ha
 refine⟨_,WN Fn hr hg hm hk hb hd hx pt iC he gq,λF0 B F H ρ σ r Q rs e w=>?_⟩
 obtain⟨ds,h1,h2⟩:=aR e
 refine qt F0 B F H ρ σ ds _ rs h1 λvs F1 H1 x1 l=>⟨F1,ds++iP,r,x1.fh,iL.append (rL F1 H1) l,h2,?_⟩
 cases r with
 |ok d=>exactλv F2 H2 fp x2 o nd hf=>w v F2 H2 fp (x1.trans x2) o nd λz hz=>x1.hh.free (hf z hz)
 |xc d=>exactλa F2 H2 x2 ha xd=>zti x1 x2 ha xd w
def mOfX (N:List aJ)(b:lL)(ds:List D):Option nu:=(b (startD N ds)).bind λo=>match o with
 |.ok (.rt d)=>some (.ok d)
 |.ok (.nx _)=>some (.ok .non)
 |.xc _ d=>some (.xc d)
 |_=>none
theorem uY {P:bg}{w:bN}{K:aa}{mg:aJ->Option ae}{base:aI}{x qual:aJ}{st:bL}{fa:ah}{fd:aL}{N ps:List aJ}{kk:Nat}{pm:List Nat}{bf:lL}(Fn:Fun2 K x qual st fa fd)(S:bt N ps (aQ st))(xZ:pm.length=ps.length)(Fh:ms.length=N.length)(oF:ps.length<=N.length)
  (xT:∀(i n:Nat),pm[i]?=some n->ms[i]?=some (Mo.al n)\/(n=0/\ms[i]?=some (Mo.ow 0)))
  (body:∀(gB:ae) (A:bx) (outer:List PySem.Env) (s:aj) (H:Hp) (E:XK),dG kk (A.deeper (envOfC qual (aQ st) s.heap.objs.size fa gB))->nv (lg (tq P w) P w K mg base N qual (aQ st) fa gB A outer s H E) (λ_ a H'=>E (.ref a) none H') ct ms rk (fU st) bf) :
  cp P w K mg base (tq P w) (kk+1) fa fd ps (oY K ct pm rk (mOfX N bf)):=by
 obtain⟨oc,od,dV,kV,doc,pm',an,gB,ct',vA,rfl,lk,jB⟩:=Fn.ex
 refine Pt lk jB S (oY.len xZ) λA outer s H vs Q E hr h=>?_
 obtain⟨F,ds,r,sF,l,hm,q⟩:=h
 obtain⟨t,pt,qt⟩:=body gB A outer s H E hr
 refine⟨t,pt,?_⟩
 obtain⟨o,h1,h2⟩:=aR hm
 have RV:vs.length=pm.length:=l.length
 have hdl:ds.length=vs.length:=l.length'
 refine qt F H F H (startD N ds) (L2.start N vs) o _ ⟨.refl _,.refl _,sF,λ_ _ _ h=>h,[],?_,bG,λa z=>(by cases z)⟩ h1 ?_
 ·unfold startD L2.start
  rw[hdl]
  exact SL.start _ l xT (by omega)
 ·cases o with
  |xc ρ d=>
   cases h2
   exactλa σ F1 H0 F' H' rs x ha xd=>q a F' H' (eS.trans ⟨rs.f0,rs.bh,rs.fh,rs.nf⟩ x) (rs.bh.free ha) xd
  |ok o=>
   cases o with
   |nx ρ=>
    cases h2
    exactλσ F' H' r=>q .non F' H' [] ⟨r.f0,r.bh,r.fh,r.nf⟩ (Ow.scal .non rfl) bG λa z=>(by cases z)
   |rt d'=>
    cases h2
    exactλv F' H' fp s1 s2 s3 s4 o nd hf=>q v F' H' fp ⟨s1,s2,s3,s4⟩ o nd hf
   |bk ρ=>cases h2
   |ct ρ=>cases h2
def XR (X:Cx)(ct:Nat->ah)(ms:List Mo)(e:Expr)(f:EF):Prop:=∃t,PE X e t/\∀(F0 B F H:Hp) (ρ:Env) (σ:St) (d:D) (Q:VK),RS X.K ct F0 B ms F H ρ σ->f ρ=some d ->
 (∀a F' H' c ns ds dx,eS F H F' H'->H a=none->d=.exc c ns ds->F' a=none->rB X.K (ct c)->oE H' a (ct c) dx none->((ns=[]/\ds=[]/\dx=none)\/∃y vs,dx=some y/\F' y=some (.xd (ns.zip vs))/\ns.length=vs.length/\Dts X.K ct F' ds vs)->Q (.ref a) H')->t σ H Q
def sRaise (f:EF):lL:=λρ=>(f ρ).bind λd=>some (.xc ρ d)
theorem Wn (hc:X.calm=true)(hx:jK X G)(he:XR X ct ms e f):zJ X G ct ms rk (.Raise (some e) none pos) (sRaise f):=by
 obtain⟨t,pt,qt⟩:=he
 refine⟨_,WQ hc hx pt,λF0 B F H ρ σ o E rs e z=>?_⟩
 obtain⟨d,h1,h2⟩:=aR e
 cases h2
 refine qt F0 B F H ρ σ d _ rs h1 λa F' H' c ns ds dx x ha hd fa cl xr r=>⟨a,ct c,dx,rfl,cl,xr,λT hT=>?_⟩
 have sN:bI F' (dY H' a (ct c) dx T):=λb o e=>by
  unfold dY
  rw[zh (zj e fa),zh (zj e (x.fh.free hT))]
  exact x.fh _ _ e
 exact z a σ F H F' _ rs (x.note ha hT sN) ha ⟨c,ns,ds,T,dx,hd,fa,x.fh.free hT,Kr xr hT,r⟩
def o9:D->Option D
 |.non=>some .non
 |.int i=>if i.natAbs.log2<1920 then some (.int i)else none
 |_=>none
theorem Wo {K:aa}{F G':Hp}{d d':D}{v:V}(h:o9 d=some d')(l:Al K ct F G' n d v):d'=d/\mR v/\∀F',Dt K ct F' d v:=by
 cases d with
 |non=>
  unfold o9 at h
  cases h
  refine⟨rfl,.inl l.non,λF'=>?_⟩
  rw[l.non];exact .non
 |int i=>
  unfold o9 at h
  dsimp only at h
  by_cases hi:i.natAbs.log2<1920
  ·rw[if_pos hi]at h
   cases h
   refine⟨rfl,.inr ⟨i,l.int,hi⟩,λF'=>?_⟩
   rw[l.int];exact .int i
  ·rw[if_neg hi]at h;cases h
 |_=>unfold o9 at h;cases h
def qD (f:aJ)(C:ah):Sp:=λvs H Q _=>∃a u,vs=[.ref a,u]/\H a=some (li a C none none)/\mR u/\∀dx,H dx=none->dx≠a->Q .non (upd (upd H dx (.xd [(f,u)])) a (li a C (some dx) none))
theorem qD.len {f y z:aJ}{C:ah}:∀vs H Q E,qD f C vs H Q E->vs.length=[y,z].length:=by
 rintro vs H Q E ⟨a,u,rfl,_⟩
 rfl
theorem Xo {fn:aJ}{c0:Nat}(cl:rB X.K (ct c0))(IF:ar X.K (.ref (ct c0))=true)(hi:am X.K (.ref (ct c0)) "__init__"=some (some (.ref fa)))(rf:cr X.K (.ref fa)=true)(Fn:cp X.prog X.w X.K X.mg X.base eQ kk fa fd ps (qD fn (ct c0)))(hr:dG (kk+1) X.A)(hm:X.mg x=some (.ref (ct c0)))(hb:bz X.K fd ps [])
  (he:XE X ct ms n e f) (hg:Gl X x:=by rfl) (iC:(x==("__debug__":aJ))=false:=by decide) (ie:ak [e] X.env=(false,br e X.env)::ak [] X.env:=by rfl) (gq:(bU pos (ak [] X.env)).any (·.1)=false:=by rfl) :
  XR X ct ms (.Call (.Name x pp) [e] [] pos) (λρ=>(f ρ).bind λd=>(o9 d).bind λd=>some (.exc c0 [fn] [d])):=by
 obtain⟨t,pt,qt⟩:=he
 refine⟨_,WP cl IF hi rf Fn hr hg hm hb (wt pt ji ie) iC ie gq,λF0 B F H ρ σ d Q rs e w=>?_⟩
 obtain⟨d1,h1,h2⟩:=aR e
 obtain⟨d2,h3,h4⟩:=aR h2
 cases h4
 refine qt F0 B F H ρ σ d1 _ rs h1 λv F1 H1 x1 l=>⟨by simp,λa ha=>⟨a,v,rfl,zk,?_⟩⟩
 obtain⟨rfl,fo,dt⟩:=Wo h3 l
 refine⟨fo,λdx Fc kB=>⟨rfl,?_⟩⟩
 have Io:H1 dx=none:=by rw[zh kB]at Fc;exact Fc
 have hH:upd (upd (upd H1 a (li a (ct c0) none none)) dx (.xd [(fn,v)])) a (li a (ct c0) (some dx) none)=upd (upd H1 dx (.xd [(fn,v)])) a (li a (ct c0) (some dx) none):=by
  funext b
  by_cases h1:b=a
  ·rw[h1,zk,zk]
  ·rw[zh h1,zh h1]
   by_cases h2:b=dx
   ·rw[h2,zk,zk]
   ·rw[zh h2,zh h2,zh h1]
 rw[hH]
 have x2:eS F1 H1 (upd F1 dx (.xd [(fn,v)])) (upd H1 dx (.xd [(fn,v)])):=eS.newS x1.fh Io _
 have HX:upd H1 dx (.xd [(fn,v)]) a=none:=by rw[zh (Ne.symm kB)];exact ha
 have x3:=eS.newO x2.fh HX (li a (ct c0) (some dx) none)
 refine w a _ _ c0 [fn] [d2] (some dx) ((x1.trans x2).trans x3) (x1.hh.free ha) rfl ?_ cl ⟨zk,λT z=>by cases z⟩ (.inr ⟨dx,[v],rfl,zk,rfl,.cons (dt _) .nil⟩)
 rw[zh (Ne.symm kB)]
 exact x1.fh.free ha
end
end L3
set_option maxHeartbeats 1000000
namespace L3
open PySem PySem.Spec L2
open PyProof.Rows hiding St
section
variable {X:Cx}{G:GK}{ct:Nat->ah}{ms:List Mo}{rk n m k kk:Nat}{a b c e tg:Expr}{f g h:EF}{u w:SF}{pos pp:cE}{fa:ah}{fd:aL}{ps:List aJ}{x:aJ}
theorem Xp {P:bg}{w:bN}{K:aa}{mg:aJ->Option ae}{base:aI}{qual fn N0 N1:aJ}{st:bL}{fa C:ah}{fd:aL}{kk:Nat}(Fn:Fun2 K "__init__" qual st fa fd)(S:bt [N0,N1] [N0,N1] (aQ st))(cl:rB K C)(hd:bH K C=true/\am K (.ref C) "__setattr__"=some (some (.builtin "object.__setattr__"))/\dC K C fn=some none)
  (body:∀(gB:ae) (A:bx) (outer:List PySem.Env) (s:aj) (H:Hp) (E:XK),∃tf:TF,(∀σ H v (Q:Hp->Prop),σ[1]?=some (some v)->mR v->Q H->tf σ H Q)/\nr (lg eQ P w K mg base [N0,N1] qual (aQ st) fa gB A outer s H E).nox (fU st) (D8 (vH (sr K (sq 0) (λσ H Q=>tf σ H λH1=>∀x,Q (.str x) H1))) (vJ K fn (sq 1) (sq 0)))) :
  cp P w K mg base eQ (kk+1) fa fd [N0,N1] (qD fn C):=by
 refine Fn.ok S qD.len λgB A outer s H vs Q E hr h=>?_
 obtain⟨a,u,rfl,ha,fo,q⟩:=h
 obtain⟨tf,RL,p⟩:=body gB A outer s H E
 exact⟨_,p,.ref a,rfl,RL _ _ u _ rfl fo λx=>⟨a,C,none,none,rfl,cl,ha,u,rfl,.ref a,rfl,a,C,none,rfl,cl,hd.1,hd.2.1,hd.2.2,ha,λdx h1 h2=>q dx h1 h2⟩⟩
theorem Ut {v:V}{σ:St}{H:Hp}{Q:Hp->Prop}(h1:σ[1]?=some (some v))(h2:mR v)(h3:Q H):sq 1 σ H (λv H1=>mR v/\Q H1):=⟨v,h1,h2,h3⟩
def thD (hit:Nat->Option Bool)(i:Option Nat)(u:SF)(rest:Nat->D->SF):Nat->D->SF:=λc d ρ=>(hit c).bind λb=>if b=true then
  (match i with
   |none=>u ρ
   |some i=>(u (ρ.set i (some d))).bind λo=>match o with
    |.nx ρ'=>some (.nx (ρ'.set i none))
    |.bk ρ'=>some (.bk (ρ'.set i none))
    |.ct ρ'=>some (.ct (ρ'.set i none))
    |.rt d=>some (.rt d))
 else rest c d ρ
def sTry (b:lL)(h:Nat->D->SF):SF:=λρ=>(b ρ).bind λo=>match o with
 |.ok o=>some o
 |.xc ρ' (.exc c ns ds)=>h c (.exc c ns ds) ρ'
 |.xc _ _=>none
def EN (X:Cx)(ct:Nat->ah)(ms:List Mo)(rk:Nat)(hs:List ExceptHandler)(h:Nat->D->SF):Prop:=∃th,PH X hs th/\∀(F0 B F H:Hp) (ρ:Env) (σ:St) (o:Out) (E:gU) (a:ah) (c:Nat) (d:D),RS X.K ct F0 B ms F H ρ σ->Dt X.K ct F d (.ref a)->h c d ρ=some o->jJ X.K ct F0 B ms rk E o->th a (ct c) E σ H
theorem YL:EN X ct ms rk [] (λ_ _ _=>none):=⟨_,ZG,λF0 B F H ρ σ o E a c d rs dt e z=>by cases e⟩
theorem SL.unset {K:aa}{F B H:Hp}{ms:List Mo}{ρ:Env}{σ:St}{fp:List ah}{i:Nat}(h0:SL K ct F B H ms ρ σ fp)(hm:ms[i]?=some (.ow 0)):∃ko,SL K ct F B H ms (ρ.set i Option.none) (σ.set i Option.none) ko/\(∀a∈ko,a∈fp)/\(fp.Nodup->ko.Nodup):=by
 induction h0 generalizing i with
 |nil=>simp at hm
 |no t ih=>
  cases i with
  |zero=>exact⟨_,.no t,λ_ z=>z,λz=>z⟩
  |succ i=>obtain⟨ko,h1,h2,h3⟩:=ih (by simpa using hm);exact⟨ko,.no h1,h2,h3⟩
 |al h t ih=>
  cases i with
  |zero=>simp at hm
  |succ i=>obtain⟨ko,h1,h2,h3⟩:=ih (by simpa using hm);exact⟨ko,.al h h1,h2,h3⟩
 |px h t ih=>
  cases i with
  |zero=>simp at hm
  |succ i=>obtain⟨ko,h1,h2,h3⟩:=ih (by simpa using hm);exact⟨ko,.px h h1,h2,h3⟩
 |so h t ih=>
  cases i with
  |zero=>simp at hm
  |succ i=>
   obtain⟨ko,h1,h2,h3⟩:=ih (by simpa using hm)
   refine⟨_,.so h h1,λa z=>(aB.mp z).elim (λz=>z▸ai) λz=>ao _ (h2 a z),λz=>?_⟩
   obtain⟨n1,n2⟩:=bR.mp z
   exact bR.mpr ⟨λz=>n1 (h2 _ z),h3 n2⟩
 |ow h t ih=>
  cases i with
  |zero=>exact⟨_,.no t,λa z=>az _ z,λz=>(bo.mp z).2.1⟩
  |succ i=>
   obtain⟨ko,h1,h2,h3⟩:=ih (by simpa using hm)
   refine⟨_,.ow h h1,λa z=>(bC.mp z).elim (λz=>bq _ z) λz=>az _ (h2 a z),λz=>?_⟩
   obtain⟨n1,n2,n3⟩:=bo.mp z
   exact bo.mpr ⟨n1,h3 n2,λa z b y=>n3 a z b (h2 b y)⟩
theorem RS.unset {K:aa}{F0 B F H:Hp}{ρ:Env}{σ:St}{i:Nat}(r:RS K ct F0 B ms F H ρ σ)(hm:ms[i]?=some (.ow 0)):RS K ct F0 B ms F H (ρ.set i none) (σ.set i none):=by
 obtain⟨fp,sl,nd,hb⟩:=r.sl
 obtain⟨ko,h1,h2,h3⟩:=sl.unset hm
 exact⟨r.f0,r.bh,r.fh,r.nf,ko,h1,h3 nd,λa z=>hb a (h2 a z)⟩
theorem Zy {hs:List ExceptHandler}{np:cE}{nm:aJ}{i:Nat}{body:List bL}{Ba:ah}{hit:Nat->Option Bool}{r:Nat->D->SF}(hN:X.N.Nodup)(hi:X.N[i]?=some nm)(Fg:ms[i]?=some (.ow 0))(hm:X.mg x=some (.ref Ba))(hh:∀c b,hit c=some b->eD X.K (.ref (ct c)) (.ref Ba)=some b)(hb:∀a,pL (X.hd a) ct ms rk body u)(hr:EN X ct ms rk hs r)
  (hl:X.env.scope.names.lookup nm=some .local:=by rfl) (hg:Gl X x:=by rfl) (kB:body≠[]:=by simp) (iC:(x==("__debug__":aJ))=false:=by decide) :
  EN X ct ms rk (.ExceptHandler (some (.Name x np)) (some nm) body pos::hs) (thD hit (some i) u r):=by
 obtain⟨th,ph,qh⟩:=hr
 refine⟨_,Z9 hN hi hl hg hm (λa=>(hb a).choose_spec.1) ph kB iC,λF0 B F H ρ σ o E a c d rs dt e z=>?_⟩
 obtain⟨b,h1,h2⟩:=aR e
 refine⟨b,hh c b h1,?_⟩
 cases b with
 |true=>
  rw[if_pos rfl]at h2 ⊢
  obtain⟨o1,h3,h4⟩:=aR h2
  refine(hb a).choose_spec.2 F0 B F H (ρ.set i (some d)) (σ.set i (some (.ref a))) o1 _ (rs.set Fg (.refl rs.fh) (Ow.zero dt) bG λa z=>(by cases z)) h3 ?_
  cases o1 with
  |nx ρ'=>cases h4;exactλσ' F' H' q=>z _ F' H' (q.unset Fg)
  |bk ρ'=>cases h4;exactλσ' F' H' q=>z _ F' H' (q.unset Fg)
  |ct ρ'=>cases h4;exactλσ' F' H' q=>z _ F' H' (q.unset Fg)
  |rt d=>cases h4;exact z
 |false=>
  rw[if_neg aH]at h2 ⊢
  exact qh F0 B F H ρ σ o E a c d rs dt h2 z
theorem Zz {body:List bL}{h0:ExceptHandler}{hs:List ExceptHandler}{bf:lL}{hf:Nat->D->SF}(hb:∀(E:ae->aj->Prop) (af:List (ah×cN)) (G:GK),bW (aG X.prog X.w) X.A X.env E->jK (X.tr E af) G->nv (X.tr E af) G ct ms rk body bf)(hh:EN X ct ms rk (h0::hs) hf)
  (ie:X.stack=X.env::X.outer:=by rfl) (xP:X.env.frame=some X.env.locals:=by rfl):XS X ct ms rk (.Try body (h0::hs) [] [] pos) (sTry bf hf):=by
 obtain⟨th,ph,qh⟩:=hh
 refine⟨_,ZH (tb:=λE af G h1 h2=>(hb E af G h1 h2).choose) ie xP (λE af G h1 h2=>(hb E af G h1 h2).choose_spec.1) ph,λF0 B F H ρ σ o E rs e z E' af h1 h2=>?_⟩
 obtain⟨r,g1,g2⟩:=aR e
 refine(hb E' af (yX th E) h1 h2).choose_spec.2 F0 B F H ρ σ r E rs g1 ?_
 cases r with
 |ok o'=>cases g2;exact z
 |xc ρ' d=>
  intro a σ' F1 H0 F' H' DW x ha xd
  obtain⟨c,ns,ds,T,dx,rfl,fa,fT,xr,rr⟩:=xd
  refine⟨ct c,dx,T,xr,?_⟩
  have x2:eS F1 H0 (upd F' a (li a (ct c) dx (some T))) H':=⟨x.ff.trans (uf fa _),x.hh,λb o q=>by
   by_cases hb:b=a
   ·rw[hb,zk]at q;rw[hb,xr.1];exact q
   ·rw[zh hb]at q;exact x.fh _ _ q,λb o h n=>by rw[zh (zj h ha)];exact x.nf b o h n⟩
  refine qh F0 B _ H' ρ' σ' o E a c _ (DW.ext x2) ?_ g2 z
  rcases rr with⟨rfl,rfl,rfl⟩|⟨y,vs,rfl,hy,hl,Hb⟩
  ·exact .exc0 zk
  ·exact .exc (vs:=vs) zk (uf fa _ _ _ hy) hl (Hb.mono (uf fa _))
end
end L3
set_option maxHeartbeats 1000000
namespace L2
open PySem PySem.Spec PyProof.Rows
section
variable {X:Cx}
theorem N9:eR X (.builtin "isinstance") (λvs H Q=>∃v cv b,vs=[v,cv]/\(∀u,RelV cv u->(∃a C dx tb,v=.ref a/\H a=some (li a C dx tb)/\(dx=none\/∃d fs,dx=some d/\H d=some (.xd fs))/\XIc X.K C/\aK X.K (.ref C) u=some b)\/(v=.non/\aK X.K (.type "NoneType") u=some b))/\Q (.bl b) H):=by
 intro af s σ H vs us Q I r h
 obtain⟨v,cv,b,rfl,hk,q⟩:=h
 cases r with
 |cons rv r=>
  cases r with
  |cons ru r=>
   cases r
   rcases hk _ ru with⟨a,C,dx,tb,rfl,ha,hd,ic,e⟩|⟨rfl,e⟩
   ·cases rv
    obtain⟨a0,eo⟩:=(I.hok a _ ha).1
    have J:∃ox od,eA s.heap a ox C od:=by
     rcases hd with rfl|⟨d,fs,rfl,hd⟩
     ·exact⟨_,none,eo,rfl,rfl,trivial⟩
     ·obtain⟨mA,⟨od,es,ep,e2,_⟩,_⟩:=I.hok d _ hd
      exact⟨_,some od,eo,rfl,rfl,e2⟩
    obtain⟨ox,od,J⟩:=J
    exact bV (Wr ic) I.kIn J e (λz=>by cases z) λtk=>⟨.bl b,H,I.tok _,rfl,q⟩
   ·cases rv
    exact bV oR I.kIn trivial e (λz=>by cases z) λtk=>⟨.bl b,H,I.tok _,rfl,q⟩
end
end L2
namespace L3
open PySem PySem.Spec L2
open PyProof.Rows hiding St
theorem Al.dtx {K:aa}{ct:Nat->ah}{F G:Hp}{n c:Nat}{ns:List aJ}{ds:List D}{v:V}(h:Al K ct F G n (.exc c ns ds) v):Dt K ct F (.exc c ns ds) v:=by
 cases n with
 |zero=>exact h
 |succ n=>
  rcases h with h|h
  ·exact h
  ·cases h
theorem Dt.exc_inv {K:aa}{ct:Nat->ah}{F:Hp}{c:Nat}{ns:List aJ}{ds:List D}{v:V}(h:Dt K ct F (.exc c ns ds) v):∃a dx tb,v=.ref a/\F a=some (li a (ct c) dx tb)/\((ns=[]/\ds=[]/\dx=none)\/∃y vs,dx=some y/\F y=some (.xd (ns.zip vs))/\ns.length=vs.length/\Dts K ct F ds vs):=by
 cases h with
 |exc0 h=>exact⟨_,none,_,rfl,h,.inl ⟨rfl,rfl,rfl⟩⟩
 |exc h h' l t=>exact⟨_,some _,_,rfl,h,.inr ⟨_,_,rfl,h',l,t⟩⟩
def fldX (cs:List Nat)(x:aJ):D->Option D
 |.exc c ns ds=>if cs.contains c=true then(ns.zip ds).lookup x else none
 |_=>none
def isiX (all sub:List Nat):D->Option D
 |.exc c _ _=>if all.contains c=true then some (.bl (sub.contains c))else none
 |.non=>some (.bl false)
 |_=>none
section
variable {X:Cx}{ct:Nat->ah}{ms:List Mo}{n m k:Nat}{e:Expr}{f:EF}{pos:cE}
theorem YM {x:aJ}{cs:List Nat}(he:XE X ct ms n e f)(hc:∀c∈cs,GP X.K (ct c) x)(hb:df e x X.env (br e X.env)=br e X.env):XE X ct ms k (.Attribute e x pos) (e1 (fldX cs x) f):=by
 obtain⟨t,pt,qt⟩:=he
 refine⟨_,Yf pt hb,λF0 B F H ρ σ r Q rs e w=>?_⟩
 obtain⟨o,h1,h2⟩:=aR e
 refine qt F0 B F H ρ σ o _ rs h1 λv F1 H1 x1 l=>?_
 cases o with
 |exc c ns ds=>
  obtain⟨a,dx,tb,rfl,ha,rr⟩:=l.dtx.exc_inv
  unfold fldX at h2
  dsimp only at h2
  by_cases rK:cs.contains c=true
  ·rw[if_pos rK]at h2
   rcases rr with⟨rfl,rfl,rfl⟩|⟨y,vs,rfl,hy,hl,Hb⟩
   ·simp at h2
   ·obtain⟨u,hu,du⟩:=JW Hb.pr h2
    exact⟨a,_,y,tb,_,u,rfl,x1.fh _ _ ha,x1.fh _ _ hy,hc c (by simpa using rK),hu,w u F1 H1 x1 (Al.of du)⟩
  ·rw[if_neg rK]at h2;cases h2
 |_=>cases h2
theorem Pq {C:ah}{x:aJ}{all sub:List Nat}{pp p2:cE}(hI:∀c∈all,L2.XIc X.K (ct c)/\aK X.K (.ref (ct c)) (.ref C)=some (sub.contains c))(hN:aK X.K (.type "NoneType") (.ref C)=some false)(hm:X.mg "isinstance"=none)(iH:X.mg x=some (.ref C))(he:XE X ct ms n e f)(hg:Gl X "isinstance":=by rfl)(nJ:Gl X x:=by rfl)(hd2:(x==("__debug__":aJ))=false:=by decide)
  (rR:ak [e,.Name x p2] X.env=(false,br e X.env)::ak [.Name x p2] X.env:=by rfl) (lh:ak [.Name x p2] X.env=(false,br (.Name x p2) X.env)::ak [] X.env:=by rfl) (gq:(bU pos (ak [.Name x p2] X.env)).any (·.1)=false:=by rfl) :
  XE X ct ms k (.Call (.Name "isinstance" pp) [e,.Name x p2] [] pos) (e1 (isiX all sub) f):=by
 obtain⟨t,pt,qt⟩:=he
 refine⟨_,Em N9 hg hm ur (wt pt (wt (Kn (v:=.ref C) nJ iH rfl hd2) ji lh) rR) (by decide) (by decide) rR gq,λF0 B F H ρ σ d Q rs e w=>?_⟩
 obtain⟨d1,h1,h2⟩:=aR e
 refine qt F0 B F H ρ σ d1 _ rs h1 λv F' H' x l=>?_
 cases d1 with
 |exc c ns ds=>
  unfold isiX at h2
  dsimp only at h2
  by_cases hc:all.contains c=true
  ·rw[if_pos hc]at h2
   cases h2
   obtain⟨a,dx,tb,rfl,ha,rr⟩:=l.dtx.exc_inv
   obtain⟨ic,C3⟩:=hI c (by simpa using hc)
   refine⟨_,.ref C,_,rfl,λu ru=>.inl ⟨a,_,dx,tb,rfl,x.fh _ _ ha,?_,ic,?_⟩,w _ F' H' x (Al.of (.bl _))⟩
   ·rcases rr with⟨_,_,z⟩|⟨y,vs,z,hy,_⟩
    ·exact .inl z
    ·exact .inr ⟨y,_,z,x.fh _ _ hy⟩
   ·cases ru;exact C3
  ·rw[if_neg hc]at h2;cases h2
 |non=>
  cases h2
  exact⟨_,.ref C,_,rfl,λu ru=>.inr ⟨l.non,by cases ru;exact hN⟩,w _ F' H' x (Al.of (.bl _))⟩
 |_=>cases h2
theorem YN {all:List Nat}{pp p2:cE}(hI:∀c∈all,L2.XIc X.K (ct c)/\aK X.K (.ref (ct c)) (.type "ValueError")=some true)(hN:aK X.K (.type "NoneType") (.type "ValueError")=some false)(hm:X.mg "isinstance"=none)(iH:X.mg "ValueError"=none)(he:XE X ct ms n e f)(hg:Gl X "isinstance":=by rfl)(nJ:Gl X "ValueError":=by rfl)
  (rR:ak [e,.Name "ValueError" p2] X.env=(false,br e X.env)::ak [.Name "ValueError" p2] X.env:=by rfl) (lh:ak [.Name "ValueError" p2] X.env=(false,br (.Name "ValueError" p2) X.env)::ak [] X.env:=by rfl) (gq:(bU pos (ak [.Name "ValueError" p2] X.env)).any (·.1)=false:=by rfl) :
  XE X ct ms k (.Call (.Name "isinstance" pp) [e,.Name "ValueError" p2] [] pos) (e1 (isiX all all) f):=by
 obtain⟨t,pt,qt⟩:=he
 refine⟨_,Em N9 hg hm ur (wt pt (wt (Ol (v:=.ty "ValueError") (u:=.type "ValueError") nJ iH rfl rfl) ji lh) rR) (by decide) (by decide) rR gq,λF0 B F H ρ σ d Q rs e w=>?_⟩
 obtain⟨d1,h1,h2⟩:=aR e
 refine qt F0 B F H ρ σ d1 _ rs h1 λv F' H' x l=>?_
 cases d1 with
 |exc c ns ds=>
  unfold isiX at h2
  dsimp only at h2
  by_cases hc:all.contains c=true
  ·rw[if_pos hc,hc]at h2
   cases h2
   obtain⟨a,dx,tb,rfl,ha,rr⟩:=l.dtx.exc_inv
   obtain⟨ic,C3⟩:=hI c (by simpa using hc)
   refine⟨_,.ty "ValueError",true,rfl,λu ru=>.inl ⟨a,_,dx,tb,rfl,x.fh _ _ ha,?_,ic,?_⟩,w _ F' H' x (Al.of (.bl _))⟩
   ·rcases rr with⟨_,_,z⟩|⟨y,vs,z,hy,_⟩
    ·exact .inl z
    ·exact .inr ⟨y,_,z,x.fh _ _ hy⟩
   ·cases ru;exact C3
  ·rw[if_neg hc]at h2;cases h2
 |non=>
  cases h2
  exact⟨_,.ty "ValueError",false,rfl,λu ru=>.inr ⟨l.non,by cases ru;exact hN⟩,w _ F' H' x (Al.of (.bl _))⟩
 |_=>cases h2
end
theorem ZA {K:aa}{C B:ah}{b:Bool}(h1:kS K B=true)(h2:lw K (.ref B)=some (.type "type"))(h3:i8 K (.ref C) (.ref B)=some b)(h4:i8 K (.ref B) (.type "BaseException")=some true):eD K (.ref C) (.ref B)=some b:=by
 unfold eD PySem.W.kitCls
 rw[h4,if_pos (by decide)]
 dsimp only
 rw[if_pos,h3]
 unfold kS at h1
 rw[h1,h2];rfl
def hitL (all sub:List Nat):Nat->Option Bool:=λc=>if all.contains c=true then some (sub.contains c)else none
theorem ZC {K:aa}{ct:Nat->ah}{B:ah}{all sub:List Nat}(h:∀c∈all,eD K (.ref (ct c)) (.ref B)=some (sub.contains c)):∀c b,hitL all sub c=some b->eD K (.ref (ct c)) (.ref B)=some b:=by
 intro c b e
 unfold hitL at e
 by_cases hc:all.contains c=true
 ·rw[if_pos hc]at e
  cases e
  exact h c (by simpa using hc)
 ·rw[if_neg hc]at e;cases e
end L3
set_option maxHeartbeats 1000000
namespace L3
open PySem PySem.Spec L2
open PyProof.Rows hiding St
end L3
set_option maxHeartbeats 1000000
namespace L3
open PySem PySem.Spec L2
open PyProof.Rows hiding St
end L3
namespace Fq
def dv (t b:Int):Int:=if b<0 then -((Int.gcd t b:Nat):Int)else((Int.gcd t b:Nat):Int)
def mk (t b:Int):Int×Int:=(t.fdiv (dv t b),b.fdiv (dv t b))
end Fq
set_option maxHeartbeats 4000000
namespace My
open PySem L2 L3
def top (i:Nat):bL:=PySem.Challenge.pw_ringbeat_k45_again_put_off.main.body.getD i (.Pass ⟨0,0,0,0⟩)
abbrev yf:bL:=inClass (top 27) 0
abbrev yn:bL:=inClass (top 28) 0
abbrev zy:bL:=inClass (top 29) 0
abbrev zz:bL:=inClass (top 30) 0
abbrev xj:bL:=top 37
abbrev xk:bL:=top 38
abbrev wv:bL:=top 39
abbrev xl:bL:=top 40
abbrev yo:bL:=top 41
abbrev xy:bL:=top 42
abbrev yc:bL:=top 43
abbrev yz:bL:=inClass (top 46) 0
abbrev zm:bL:=inClass (top 46) 1
abbrev xz:bL:=inClass (top 46) 2
abbrev xm:bL:=inClass (top 46) 3
abbrev uq:bL:=top 8
abbrev vg:bL:=top 9
abbrev ye:bL:=top 11
abbrev y0:bL:=top 12
abbrev zl:bL:=top 13
abbrev zq:bL:=top 14
abbrev j8:bL:=top 15
abbrev vh:bL:=top 17
abbrev wa:bL:=top 18
abbrev zt:bL:=top 19
abbrev xa:bL:=top 20
abbrev yp:bL:=top 21
abbrev ww:bL:=top 22
abbrev yg:bL:=inClass (top 5) 0
abbrev yh:bL:=top 23
abbrev zu:bL:=top 24
abbrev ya:bL:=top 25
abbrev yq:bL:=top 48
abbrev xb:bL:=top 49
abbrev xn:bL:=top 50
abbrev wb:bL:=top 51
abbrev xo:bL:=top 52
abbrev wc:bL:=top 53
abbrev yr:bL:=top 54
abbrev zB:bL:=top 55
theorem UN:bt ["self","start","goal","time","behind"] ["self","start","goal","time","behind"] (aQ yf):=⟨rfl,rfl,rfl,by decide +kernel,rfl,by decide +kernel,by decide +kernel⟩
theorem UR:bt ["self","start","goal","time"] ["self","start","goal","time"] (aQ yn):=⟨rfl,rfl,rfl,by decide +kernel,rfl,by decide +kernel,by decide +kernel⟩
theorem US:bt ["self","start","goal","time","behind"] ["self","start","goal","time","behind"] (aQ zy):=⟨rfl,rfl,rfl,by decide +kernel,rfl,by decide +kernel,by decide +kernel⟩
theorem UT:bt ["self","start","goal","time","behind"] ["self","start","goal","time","behind"] (aQ zz):=⟨rfl,rfl,rfl,by decide +kernel,rfl,by decide +kernel,by decide +kernel⟩
theorem Vh:bt ["sign"] ["sign"] (aQ xj):=⟨rfl,rfl,rfl,by decide +kernel,rfl,by decide +kernel,by decide +kernel⟩
theorem Vi:bt ["sign"] ["sign"] (aQ xk):=⟨rfl,rfl,rfl,by decide +kernel,rfl,by decide +kernel,by decide +kernel⟩
theorem VU:bt ["word"] ["word"] (aQ wv):=⟨rfl,rfl,rfl,by decide +kernel,rfl,by decide +kernel,by decide +kernel⟩
theorem qm:bt ["names","seen","name"] ["names"] (aQ xl):=⟨rfl,rfl,rfl,by decide +kernel,rfl,by decide +kernel,by decide +kernel⟩
theorem UU:bt ["number","least","most"] ["number","least","most"] (aQ yo):=⟨rfl,rfl,rfl,by decide +kernel,rfl,by decide +kernel,by decide +kernel⟩
theorem JQ:bt ["arrow","many","least","most"] ["arrow","many"] (aQ xy):=⟨rfl,rfl,rfl,by decide +kernel,rfl,by decide +kernel,by decide +kernel⟩
theorem yt:bt ["many","arrows","within","waited","arrow","placed","done","here"] ["many","arrows"] (aQ yc):=⟨rfl,rfl,rfl,by decide +kernel,rfl,by decide +kernel,by decide +kernel⟩
theorem uw:bt ["self","names","arrows","number","arrow","placed"] ["self","names","arrows"] (aQ yz):=⟨rfl,rfl,rfl,by decide +kernel,rfl,by decide +kernel,by decide +kernel⟩
theorem UC:bt ["self"] ["self"] (aQ zm):=⟨rfl,rfl,rfl,by decide +kernel,rfl,by decide +kernel,by decide +kernel⟩
theorem Vq:bt ["self","going"] ["self","going"] (aQ xz):=⟨rfl,rfl,rfl,by decide +kernel,rfl,by decide +kernel,by decide +kernel⟩
theorem Vj:bt ["self"] ["self"] (aQ xm):=⟨rfl,rfl,rfl,by decide +kernel,rfl,by decide +kernel,by decide +kernel⟩
theorem Xq:bt ["when","more"] ["when","more"] (aQ uq):=⟨rfl,rfl,rfl,by decide +kernel,rfl,by decide +kernel,by decide +kernel⟩
theorem Wp:bt ["one","other"] ["one","other"] (aQ vg):=⟨rfl,rfl,rfl,by decide +kernel,rfl,by decide +kernel,by decide +kernel⟩
theorem wx:bt ["told","greatest","going","number","amount"] ["told"] (aQ ye):=⟨rfl,rfl,rfl,by decide +kernel,rfl,by decide +kernel,by decide +kernel⟩
theorem MO:bt ["net","was","depth"] ["net","was"] (aQ y0):=⟨rfl,rfl,rfl,by decide +kernel,rfl,by decide +kernel,by decide +kernel⟩
theorem xw:bt ["net","rows","numbers","floor","when","number","arrow"] ["net","rows","numbers","floor"] (aQ zl):=⟨rfl,rfl,rfl,by decide +kernel,rfl,by decide +kernel,by decide +kernel⟩
theorem yw:bt ["net","rounds","was","floors","rows","greatest","numbers","order","number","going","floor"] ["net","rounds","was","floors"] (aQ zq):=⟨rfl,rfl,rfl,by decide +kernel,rfl,by decide +kernel,by decide +kernel⟩
theorem ZD:bt ["net","rounds","was","floors"] ["net","rounds","was","floors"] (aQ j8):=⟨rfl,rfl,rfl,by decide +kernel,rfl,by decide +kernel,by decide +kernel⟩
theorem Wq:bt ["rows","first","count"] ["rows","first","count"] (aQ vh):=⟨rfl,rfl,rfl,by decide +kernel,rfl,by decide +kernel,by decide +kernel⟩
theorem Vr:bt ["rows","first","last","count","lengths"] ["rows","first","last","count","lengths"] (aQ wa):=⟨rfl,rfl,rfl,by decide +kernel,rfl,by decide +kernel,by decide +kernel⟩
theorem UF:bt ["net","lengths"] ["net","lengths"] (aQ zt):=⟨rfl,rfl,rfl,by decide +kernel,rfl,by decide +kernel,by decide +kernel⟩
theorem MP:bt ["rows","carriers","going","number","arrow"] ["rows","carriers","going","number"] (aQ xa):=⟨rfl,rfl,rfl,by decide +kernel,rfl,by decide +kernel,by decide +kernel⟩
theorem vf:bt ["net","rows","first","last","lengths","going","entering","carriers","number"] ["net","rows","first","last","lengths"] (aQ yp):=⟨rfl,rfl,rfl,by decide +kernel,rfl,by decide +kernel,by decide +kernel⟩
theorem jk:bt ["net","rows","paper","count","first","lengths","settled"] ["net","rows","paper"] (aQ ww):=⟨rfl,rfl,rfl,by decide +kernel,rfl,by decide +kernel,by decide +kernel⟩
theorem UO:bt ["self","going"] ["self","going"] (aQ yg):=⟨rfl,rfl,rfl,by decide +kernel,rfl,by decide +kernel,by decide +kernel⟩
theorem vv:bt ["net","going"] ["net"] (aQ yh):=⟨rfl,rfl,rfl,by decide +kernel,rfl,by decide +kernel,by decide +kernel⟩
theorem ua:bt ["rows","known","count","lengths","first"] ["rows","known","count","lengths"] (aQ zu):=⟨rfl,rfl,rfl,by decide +kernel,rfl,by decide +kernel,by decide +kernel⟩
theorem wg:bt ["net","most","was","rows","spare_rounds","count","last","lengths"] ["net","most","was"] (aQ ya):=⟨rfl,rfl,rfl,by decide +kernel,rfl,by decide +kernel,by decide +kernel⟩
theorem UV:bt ["_law_script","_law_k"] ["_law_script","_law_k"] (aQ yq):=⟨rfl,rfl,rfl,by decide +kernel,rfl,by decide +kernel,by decide +kernel⟩
theorem U0:bt ["_law_cell"] ["_law_cell"] (aQ xb):=⟨rfl,rfl,rfl,by decide +kernel,rfl,by decide +kernel,by decide +kernel⟩
theorem qo:bt ["_law_cell","_law_k","_law_number"] ["_law_cell","_law_k"] (aQ xn):=⟨rfl,rfl,rfl,by decide +kernel,rfl,by decide +kernel,by decide +kernel⟩
theorem jw:bt ["_law_turn","_law_many","_law_going","_law_order","_law_left","_law_k"] ["_law_turn","_law_many","_law_going"] (aQ wb):=⟨rfl,rfl,rfl,by decide +kernel,rfl,by decide +kernel,by decide +kernel⟩
theorem w9:bt ["_law_cell","_law_many","_law_turn","_law_k","_law_number","_law_start","_law_goal","_law_behind"] ["_law_cell","_law_many","_law_turn","_law_k"] (aQ xo):=⟨rfl,rfl,rfl,by decide +kernel,rfl,by decide +kernel,by decide +kernel⟩
theorem u6:bt ["_law_arrow_here","_law_kind","_law_start","_law_goal","_law_time","_law_behind"] ["_law_arrow_here","_law_kind"] (aQ wc):=⟨rfl,rfl,rfl,by decide +kernel,rfl,by decide +kernel,by decide +kernel⟩
theorem wy:bt ["_law_net","_law_most","_law_was","_law_told","_law_going","e"] ["_law_net","_law_most","_law_was"] (aQ yr):=⟨rfl,rfl,rfl,by decide +kernel,rfl,by decide +kernel,by decide +kernel⟩
theorem ul:bt ["_law_script","_law_many","_law_total","_law_turn","_law_arrows","_law_out","_law_net","_law_back","_law_cell","_law_was","_law_most","_law_loose","_law_far","_law_put_off","_law_found","_law_zeros"] ["_law_script"] (aQ zB):=⟨rfl,rfl,rfl,by decide +kernel,rfl,by decide +kernel,by decide +kernel⟩
set_option genInjectivity false
set_option genSizeOf false
structure Am where
 c_Arrow:ah
 c_Ride:ah
 c_Wait:ah
 c_Back:ah
 c_Net:ah
 c_BeatError:ah
 c_Loose:ah
 c_NoFit:ah
 f_Arrow___init:ah
 d_Arrow___init:aL
 f_Ride___init:ah
 d_Ride___init:aL
 f_Wait___init:ah
 d_Wait___init:aL
 f_Back___init:ah
 d_Back___init:aL
 f_is_letter:ah
 d_is_letter:aL
 f_is_figure:ah
 d_is_figure:aL
 f_is_name:ah
 d_is_name:aL
 f_are_names:ah
 d_are_names:aL
 f_lies_within:ah
 d_lies_within:aL
 f_is_right:ah
 d_is_right:aL
 f_placed_goings:ah
 d_placed_goings:aL
 f_Net___init:ah
 d_Net___init:aL
 f_Net_most_behind:ah
 d_Net_most_behind:aL
 f_Net_into:ah
 d_Net_into:aL
 f_Net_order:ah
 d_Net_order:aL
 f_later:ah
 d_later:aL
 f_latest:ah
 d_latest:aL
 f_greatest_told:ah
 d_greatest_told:aL
 f_rows_ahead:ah
 d_rows_ahead:aL
 f_time_in_last_row:ah
 d_time_in_last_row:aL
 f_rows_with_past:ah
 d_rows_with_past:aL
 f_run:ah
 d_run:aL
 f_growth:ah
 d_growth:aL
 f_grows_so:ah
 d_grows_so:aL
 f_never_outgrown:ah
 d_never_outgrown:aL
 f_is_carried:ah
 d_is_carried:aL
 f_all_carried:ah
 d_all_carried:aL
 f_goes_on:ah
 d_goes_on:aL
 f_Loose___init:ah
 d_Loose___init:aL
 f_refuse_loose:ah
 d_refuse_loose:aL
 f_earliest_round:ah
 d_earliest_round:aL
 f_comes_again:ah
 d_comes_again:aL
 f_law_cell_at:ah
 d_law_cell_at:aL
 f_law_is_row:ah
 d_law_is_row:aL
 f_law_mixed:ah
 d_law_mixed:aL
 f_law_rank:ah
 d_law_rank:aL
 f_law_arrow:ah
 d_law_arrow:aL
 f_law_made:ah
 d_law_made:aL
 f_law_refused:ah
 d_law_refused:aL
 f_law:ah
 d_law:aL
set_option genSizeOf true
set_option genInjectivity true
def Am.ct (a:Am):Nat->ah
 |0=>a.c_Arrow
 |1=>a.c_Ride
 |2=>a.c_Wait
 |3=>a.c_Back
 |4=>a.c_Net
 |5=>a.c_BeatError
 |8=>a.c_Loose
 |9=>a.c_NoFit
 |_=>0
structure Txt (K:aa)(mg:aJ->Option ae)(a:Am):Prop where
 Arrow:Dc K mg "Arrow" a.c_Arrow
 Ride:Dc K mg "Ride" a.c_Ride
 Wait:Dc K mg "Wait" a.c_Wait
 Back:Dc K mg "Back" a.c_Back
 Net:Dc K mg "Net" a.c_Net
 Arrow___init:Dm K a.c_Arrow "__init__" "Arrow.__init__" yf ["self","start","goal","time","behind"] a.f_Arrow___init a.d_Arrow___init
 Ride___init:Dm K a.c_Ride "__init__" "Ride.__init__" yn ["self","start","goal","time"] a.f_Ride___init a.d_Ride___init
 Wait___init:Dm K a.c_Wait "__init__" "Wait.__init__" zy ["self","start","goal","time","behind"] a.f_Wait___init a.d_Wait___init
 Wait___init_d1:∃kn,True/\bM [(V.int 0)] kn/\bz K a.d_Wait___init ["self","start","goal","time","behind"] kn
 Back___init:Dm K a.c_Back "__init__" "Back.__init__" zz ["self","start","goal","time","behind"] a.f_Back___init a.d_Back___init
 Back___init_d1:∃kn,True/\bM [(V.int 1)] kn/\bz K a.d_Back___init ["self","start","goal","time","behind"] kn
 is_letter:jH K mg "is_letter" xj ["sign"] a.f_is_letter a.d_is_letter
 is_figure:jH K mg "is_figure" xk ["sign"] a.f_is_figure a.d_is_figure
 is_name:jH K mg "is_name" wv ["word"] a.f_is_name a.d_is_name
 are_names:jH K mg "are_names" xl ["names"] a.f_are_names a.d_are_names
 lies_within:jH K mg "lies_within" yo ["number","least","most"] a.f_lies_within a.d_lies_within
 is_right:jH K mg "is_right" xy ["arrow","many"] a.f_is_right a.d_is_right
 placed_goings:jH K mg "placed_goings" yc ["many","arrows"] a.f_placed_goings a.d_placed_goings
 Net___init:Dm K a.c_Net "__init__" "Net.__init__" yz ["self","names","arrows"] a.f_Net___init a.d_Net___init
 Net_most_behind:Dm K a.c_Net "most_behind" "Net.most_behind" zm ["self"] a.f_Net_most_behind a.d_Net_most_behind
 Net_into:Dm K a.c_Net "into" "Net.into" xz ["self","going"] a.f_Net_into a.d_Net_into
 Net_order:Dm K a.c_Net "order" "Net.order" xm ["self"] a.f_Net_order a.d_Net_order
 later:jH K mg "later" uq ["when","more"] a.f_later a.d_later
 latest:jH K mg "latest" vg ["one","other"] a.f_latest a.d_latest
 greatest_told:jH K mg "greatest_told" ye ["told"] a.f_greatest_told a.d_greatest_told
 rows_ahead:jH K mg "rows_ahead" y0 ["net","was"] a.f_rows_ahead a.d_rows_ahead
 time_in_last_row:jH K mg "time_in_last_row" zl ["net","rows","numbers","floor"] a.f_time_in_last_row a.d_time_in_last_row
 rows_with_past:jH K mg "rows_with_past" zq ["net","rounds","was","floors"] a.f_rows_with_past a.d_rows_with_past
 run:jH K mg "run" j8 ["net","rounds","was","floors"] a.f_run a.d_run
 run_d1:∃kn,True/\bM [V.non] kn/\bz K a.d_run ["net","rounds","was","floors"] kn
 run_d2:∃kn,True/\bM [V.non,V.non] kn/\bz K a.d_run ["net","rounds","was","floors"] kn
 growth:jH K mg "growth" vh ["rows","first","count"] a.f_growth a.d_growth
 grows_so:jH K mg "grows_so" wa ["rows","first","last","count","lengths"] a.f_grows_so a.d_grows_so
 never_outgrown:jH K mg "never_outgrown" zt ["net","lengths"] a.f_never_outgrown a.d_never_outgrown
 is_carried:jH K mg "is_carried" xa ["rows","carriers","going","number"] a.f_is_carried a.d_is_carried
 all_carried:jH K mg "all_carried" yp ["net","rows","first","last","lengths"] a.f_all_carried a.d_all_carried
 goes_on:jH K mg "goes_on" ww ["net","rows","paper"] a.f_goes_on a.d_goes_on
 Loose___init:Dm K a.c_Loose "__init__" "Loose.__init__" yg ["self","going"] a.f_Loose___init a.d_Loose___init
 refuse_loose:jH K mg "refuse_loose" yh ["net"] a.f_refuse_loose a.d_refuse_loose
 earliest_round:jH K mg "earliest_round" zu ["rows","known","count","lengths"] a.f_earliest_round a.d_earliest_round
 comes_again:jH K mg "comes_again" ya ["net","most","was"] a.f_comes_again a.d_comes_again
 comes_again_d1:∃kn,True/\bM [V.non] kn/\bz K a.d_comes_again ["net","most","was"] kn
 law_cell_at:jH K mg "_law_cell_at" yq ["_law_script","_law_k"] a.f_law_cell_at a.d_law_cell_at
 law_is_row:jH K mg "_law_is_row" xb ["_law_cell"] a.f_law_is_row a.d_law_is_row
 law_mixed:jH K mg "_law_mixed" xn ["_law_cell","_law_k"] a.f_law_mixed a.d_law_mixed
 law_rank:jH K mg "_law_rank" wb ["_law_turn","_law_many","_law_going"] a.f_law_rank a.d_law_rank
 law_arrow:jH K mg "_law_arrow" xo ["_law_cell","_law_many","_law_turn","_law_k"] a.f_law_arrow a.d_law_arrow
 law_made:jH K mg "_law_made" wc ["_law_arrow_here","_law_kind"] a.f_law_made a.d_law_made
 law_refused:jH K mg "_law_refused" yr ["_law_net","_law_most","_law_was"] a.f_law_refused a.d_law_refused
 law:jH K mg "law" zB ["_law_script"] a.f_law a.d_law
 q_Arrow:Dq K a.c_Arrow "__init__" a.f_Arrow___init
 fld_arrows:∀c∈([4]:List Nat),lF K (a.ct c)/\fz K (a.ct c) "arrows"
 fld_behind:∀c∈([0,1,2,3]:List Nat),lF K (a.ct c)/\fz K (a.ct c) "behind"
 fld_goal:∀c∈([0,1,2,3]:List Nat),lF K (a.ct c)/\fz K (a.ct c) "goal"
 fld_names:∀c∈([4]:List Nat),lF K (a.ct c)/\fz K (a.ct c) "names"
 fld_start:∀c∈([0,1,2,3]:List Nat),lF K (a.ct c)/\fz K (a.ct c) "start"
 fld_time:∀c∈([0,1,2,3]:List Nat),lF K (a.ct c)/\fz K (a.ct c) "time"
 isi_Back:∀c∈([0,1,2,3,4]:List Nat),Ic K (a.ct c)/\aK K (.ref (a.ct c)) (.ref a.c_Back)=some (gS [3] c)
 isi_Ride:∀c∈([0,1,2,3,4]:List Nat),Ic K (a.ct c)/\aK K (.ref (a.ct c)) (.ref a.c_Ride)=some (gS [1] c)
 xm_BeatError:mg "BeatError"=some (.ref a.c_BeatError)
 xm_Loose:mg "Loose"=some (.ref a.c_Loose)
 xm_NoFit:mg "NoFit"=some (.ref a.c_NoFit)
 xk_Loose:ar K (.ref a.c_Loose)=true
 xc_Loose:rB K a.c_Loose
 xs_Loose:bH K a.c_Loose=true/\am K (.ref a.c_Loose) "__setattr__"=some (some (.builtin "object.__setattr__"))/\dC K a.c_Loose "going"=some none
 xq:bO K (.ref a.c_BeatError) "__getattribute__"=some (some (.builtin "type.__getattribute__"))/\d7 K a.c_BeatError (.type "type")=true/\d6 K (.ref a.c_BeatError) (.type "type") "__init__"=some (.val (.builtin "ValueError.__init__"))
 xat_going:∀c∈([8]:List Nat),GP K (a.ct c) "going"
 isx_0:(∀c∈([8]:List Nat),L2.XIc K (a.ct c)/\aK K (.ref (a.ct c)) (.ref a.c_BeatError)=some (gS [8] c))/\aK K (.type "NoneType") (.ref a.c_BeatError)=some false
 isx_1:(∀c∈([8]:List Nat),L2.XIc K (a.ct c)/\aK K (.ref (a.ct c)) (.type "ValueError")=some true)/\aK K (.type "NoneType") (.type "ValueError")=some false
 isx_2:(∀c∈([8]:List Nat),L2.XIc K (a.ct c)/\aK K (.ref (a.ct c)) (.ref a.c_NoFit)=some (gS [] c))/\aK K (.type "NoneType") (.ref a.c_NoFit)=some false
 hh_Loose:∀c∈([8]:List Nat),eD K (.ref (a.ct c)) (.ref a.c_Loose)=some (gS [8] c)
 b_ValueError:mg "ValueError"=none
 b_all:mg "all"=none
 b_bool:mg "bool"=none
 b_enumerate:mg "enumerate"=none
 b_int:mg "int"=none
 b_isinstance:mg "isinstance"=none
 b_len:mg "len"=none
 b_list:mg "list"=none
 b_max:mg "max"=none
 b_range:mg "range"=none
 b_reversed:mg "reversed"=none
 b_str:mg "str"=none
 b_zip:mg "zip"=none
 g_MOST_ARROWS:∃t,mg "MOST_ARROWS"=some (.int 120 t)
 g_MOST_BEHIND:∃t,mg "MOST_BEHIND"=some (.int 4 t)
 g_MOST_NAMES:∃t,mg "MOST_NAMES"=some (.int 40 t)
 g_MOST_SIGNS:∃t,mg "MOST_SIGNS"=some (.int 8 t)
 g_MOST_TIME:∃t,mg "MOST_TIME"=some (.int 1000000000 t)
section
variable {P:bg}{w:bN}{K:aa}{mg:aJ->Option ae}{base:aI}{a:Am}{ct:Nat->ah}
def uh:Nat->List D->Option D:=yB ["self","start","goal","time","behind"]
  (sSeq (ku [0,1,2,3] "start" (eV 1))
  (sSeq (ku [0,1,2,3] "goal" (eV 2))
  (sSeq (ku [0,1,2,3] "time" (eV 3))
  (ku [0,1,2,3] "behind" (eV 4)))))
theorem u7 (T:Txt K mg a):cp P w K mg base eQ 1 a.f_Arrow___init a.d_Arrow___init ["self","start","goal","time","behind"] (rq K a.ct [0,1,2,3] [0,0,0,0] uh):=by
 refine qk (ms:=[.ow 0,.ow 0,.ow 0,.ow 0]) (rk:=0) T.Arrow___init.fn UN rfl rfl (by decide) (ug (by decide)) λx0 gB A outer s H E hr=>?_
 exact(ze (Ag T.fld_start (za 1 0))
  (ze (Ag T.fld_goal (za 2 0))
  (ze (Ag T.fld_time (za 3 0))
  (zg (Ag T.fld_behind (za 4 0))))))
def jx:Nat->List D->Option D:=yB ["self","start","goal","time"]
  (nE [0,1,2,3] (aCons (eV 1) (aCons (eV 2) (aCons (eV 3) (aCons (eC (.int 0)) aNil)))) uh)
theorem UW (T:Txt K mg a):cp P w K mg base eQ 2 a.f_Ride___init a.d_Ride___init ["self","start","goal","time"] (rq K a.ct [1] [0,0,0] jx):=by
 have eG:=u7 (P:=P) (w:=w) (base:=base) T
 refine qk (ms:=[.ow 0,.ow 0,.ow 0]) (rk:=0) T.Ride___init.fn UR rfl rfl (by decide) (ug (by decide)) λx0 gB A outer s H E hr=>?_
 exact(zg (Kw (ns:=[0,0,0,0]) eG (hr.mono (by decide)) T.Arrow.mgx T.q_Arrow.sp T.q_Arrow.rd T.q_Arrow.fc T.Arrow___init.fn.kp T.Arrow___init.bd (by decide) (zc (za 1 0) (zc (za 2 0) (zc (za 3 0) (zc cO zf))))))
def jy:Nat->List D->Option D:=yB ["self","start","goal","time","behind"]
  (nE [0,1,2,3] (aCons (eV 1) (aCons (eV 2) (aCons (eV 3) (aCons (eV 4) aNil)))) uh)
theorem UX (T:Txt K mg a):cp P w K mg base eQ 2 a.f_Wait___init a.d_Wait___init ["self","start","goal","time","behind"] (rq K a.ct [2] [0,0,0,0] jy):=by
 have eG:=u7 (P:=P) (w:=w) (base:=base) T
 refine qk (ms:=[.ow 0,.ow 0,.ow 0,.ow 0]) (rk:=0) T.Wait___init.fn US rfl rfl (by decide) (ug (by decide)) λx0 gB A outer s H E hr=>?_
 exact(zg (Kw (ns:=[0,0,0,0]) eG (hr.mono (by decide)) T.Arrow.mgx T.q_Arrow.sp T.q_Arrow.rd T.q_Arrow.fc T.Arrow___init.fn.kp T.Arrow___init.bd (by decide) (zc (za 1 0) (zc (za 2 0) (zc (za 3 0) (zc (za 4 0) zf))))))
def jz:Nat->List D->Option D:=yB ["self","start","goal","time","behind"]
  (nE [0,1,2,3] (aCons (eV 1) (aCons (eV 2) (aCons (eV 3) (aCons (eV 4) aNil)))) uh)
theorem UY (T:Txt K mg a):cp P w K mg base eQ 2 a.f_Back___init a.d_Back___init ["self","start","goal","time","behind"] (rq K a.ct [3] [0,0,0,0] jz):=by
 have eG:=u7 (P:=P) (w:=w) (base:=base) T
 refine qk (ms:=[.ow 0,.ow 0,.ow 0,.ow 0]) (rk:=0) T.Back___init.fn UT rfl rfl (by decide) (ug (by decide)) λx0 gB A outer s H E hr=>?_
 exact(zg (Kw (ns:=[0,0,0,0]) eG (hr.mono (by decide)) T.Arrow.mgx T.q_Arrow.sp T.q_Arrow.rd T.q_Arrow.fc T.Arrow___init.fn.kp T.Arrow___init.bd (by decide) (zc (za 1 0) (zc (za 2 0) (zc (za 3 0) (zc (za 4 0) zf))))))
def JR:List D->Option D:=mOf ["sign"]
  (sRet (eB (bAnd (tb (e2 tV (eC (.str "a")) (eV 0))) (tb (e2 tV (eV 0) (eC (.str "z")))))))
theorem Vk (T:Txt K mg a):cp P w K mg base eQ 1 a.f_is_letter a.d_is_letter ["sign"] (gM K a.ct [0] 0 JR):=by
 refine iY (ms:=[.ow 0]) T.is_letter.fn Vh λ_ _ _ _ _ _ hr=>?_
 exact(zg (yb (XE.ow (zC (jj (k:=0) zD yY (Ew (n:=0)) (za 0 0) (bw _)) (vK (k:=0) (jj (k:=0) zD yY (za 0 0) (Ew (n:=0)) (bw _)))))))
def M6:List D->Option D:=mOf ["sign"]
  (sRet (eB (bAnd (tb (e2 tV (eC (.str "0")) (eV 0))) (tb (e2 tV (eV 0) (eC (.str "9")))))))
theorem Vl (T:Txt K mg a):cp P w K mg base eQ 1 a.f_is_figure a.d_is_figure ["sign"] (gM K a.ct [0] 0 M6):=by
 refine iY (ms:=[.ow 0]) T.is_figure.fn Vi λ_ _ _ _ _ _ hr=>?_
 exact(zg (yb (XE.ow (zC (jj (k:=0) zD yY (Ew (n:=0)) (za 0 0) (bw _)) (vK (k:=0) (jj (k:=0) zD yY (za 0 0) (Ew (n:=0)) (bw _)))))))
def Vs:EF:=(dg (λρ=>((eV 0) ρ).bind K9) 1 [] (gV 0) eU (eB (bOr (tb (λρ=>((aCons (eV 0) aNil) ρ).bind λds=>JR (ds++[]))) (tb (λρ=>((aCons (eV 0) aNil) ρ).bind λds=>M6 (ds++[]))))))
def NH:List D->Option D:=mOf ["word"]
  (sSeq (sIf (bOr (bNot (tb (e1 (nz "str") (eV 0)))) (bOr (tb (e2 rh (eN ef (aCons (eV 0) aNil)) (eC (.int 1)))) (tb (e2 rF (eN ef (aCons (eV 0) aNil)) (eC (.int 8)))))) (sRet (eC (.bl false))) sSkip)
  (sRet (eB (bAnd (tb (λρ=>((aCons (e2 fJ (eV 0) (eC (.int 0))) aNil) ρ).bind λds=>JR (ds++[]))) (tb (eN rC (aCons Vs aNil)))))))
theorem VV (T:Txt K mg a):cp P w K mg base eQ 2 a.f_is_name a.d_is_name ["word"] (gM K a.ct [0] 0 NH):=by
 have kT:=Vk (P:=P) (w:=w) (base:=base) T
 have nU:=Vl (P:=P) (w:=w) (base:=base) T
 refine iY (ms:=[.ow 0]) T.is_name.fn VU λ_ _ _ _ _ _ hr=>?_
 exact(ze (vo (XW.t (pV (j6 (v9 (Ez (k:=0) (by decide) T.b_isinstance T.b_str Pg (za 0 0)))) (pV (yk (k:=0) vM vL (mr T.b_len (zc (za 0 0) zf)) cO (bw _)) (sR (yk (k:=0) Ai Ae (mr T.b_len (zc (za 0 0) zf)) (Et (n:=0) (d:=(.int 8)) rfl T.g_MOST_SIGNS.choose_spec rfl ⟨_,rfl⟩) (bw _)))))) (zg (yb (XE.ow (qj (n:=0))))) ym)
  (zg (yb (XE.ow (zC (XO.sh (n:=0) (cX T.is_letter kT hr (zc (lC (za 0 0) cO) zf))) (vK (k:=0) (ju (k:=0) (J7 rfl) Kv rfl T.b_all KG (zc (XO.sh (n:=0) (ql (N:=["sign"]) (om:=[.ow 0]) (cap:=[]) (own:=1) (XI.cc (ZZ (n:=0) (za 0 0))) (λ_ _ _ _ _=>(kC (show bF (["sign"]:List aJ)from by decide +kernel))) (λ_ _ _ _ _=>wu) (λ_ _ _ _ _=>(XE.ow (zte (XO.sh (n:=0) (cX T.is_letter kT hr (zc (za 0 0) zf))) (vK (k:=0) (XO.sh (n:=0) (cX T.is_figure nU hr (zc (za 0 0) zf))))))))) zf))))))))
def U1:SF:=(sSeq (sIf (bOr (bNot (tb (λρ=>((aCons (eV 2) aNil) ρ).bind λds=>NH (ds++[])))) (tb (λρ=>((eV 2) ρ).bind λx=>((eV 1) ρ).bind λy=>(lO y x).bind λr=>some (.bl r.isSome)))) (sRet (eC (.bl false))) sSkip)
  (pT 1 (eV 2) (eC (.bl true))))
def j0:List D->Option D:=mOf ["names","seen","name"]
  (sSeq (sIf (bOr (bNot (tb (e1 (nz "list") (eV 0)))) (bOr (tb (e2 rh (eN ef (aCons (eV 0) aNil)) (eC (.int 1)))) (tb (e2 rF (eN ef (aCons (eV 0) aNil)) (eC (.int 40)))))) (sRet (eC (.bl false))) sSkip)
  (sSeq (sSet 1 (eC (.dK [] [])))
  (sSeq (sFor (lsD (eV 0)) (gV 2) U1)
  (sRet (eC (.bl true))))))
theorem Vm (T:Txt K mg a):cp P w K mg base eQ 3 a.f_are_names a.d_are_names ["names"] (gM K a.ct [0] 0 j0):=by
 have qB:=VV (P:=P) (w:=w) (base:=base) T
 refine iY (ms:=[.ow 0,.ow 1,.ow 0]) T.are_names.fn qm λ_ _ _ _ _ _ hr=>?_
 exact(ze (vo (XW.t (pV (j6 (v9 (Ez (k:=0) (by decide) T.b_isinstance T.b_list Er (za 0 0)))) (pV (yk (k:=0) vM vL (mr T.b_len (zc (za 0 0) zf)) cO (bw _)) (sR (yk (k:=0) Ai Ae (mr T.b_len (zc (za 0 0) zf)) (Et (n:=0) (d:=(.int 40)) rfl T.g_MOST_NAMES.choose_spec rfl ⟨_,rfl⟩) (bw _)))))) (zg (yb (XE.ow (qj (n:=0))))) ym)
  (ze (gm qm.nd Wy)
  (ze (ja (zA (za 0 0)) (mq qm.nd) (ze (vo (XW.t (pV (j6 (v9 (XO.sh (n:=0) (cX T.is_name qB hr (zc (za 2 0) zf))))) (sR (Z0 (EE hr) (za 2 0) (za 1 1) (by with_unfolding_all rfl))))) (zg (yb (XE.ow (qj (n:=0))))) ym)
  (zg (OO 1 rfl (EE hr) (za 2 0) (qj (n:=0))))) bW.never rfl)
  (zg (yb (XE.ow (qj (n:=0))))))))
def yj:List D->Option D:=mOf ["number","least","most"]
  (sSeq (sIf (bOr (bNot (tb (e1 (nz "int") (eV 0)))) (tb (e1 (nz "bool") (eV 0)))) (sRet (eC (.bl false))) sSkip)
  (sRet (eB (bAnd (tb (e2 tV (eV 1) (eV 0))) (tb (e2 tV (eV 0) (eV 2)))))))
theorem UZ (T:Txt K mg a):cp P w K mg base eQ 1 a.f_lies_within a.d_lies_within ["number","least","most"] (gM K a.ct [0,0,0] 0 yj):=by
 refine iY (ms:=[.ow 0,.ow 0,.ow 0]) T.lies_within.fn UU λ_ _ _ _ _ _ hr=>?_
 exact(ze (vo (XW.t (pV (j6 (v9 (Ez (k:=0) (by decide) T.b_isinstance T.b_int ZN (za 0 0)))) (sR (v9 (Ez (k:=0) (by decide) T.b_isinstance T.b_bool Oy (za 0 0)))))) (zg (yb (XE.ow (qj (n:=0))))) ym)
  (zg (yb (XE.ow (zC (jj (k:=0) zD yY (za 1 0) (za 0 0) (bw _)) (vK (k:=0) (jj (k:=0) zD yY (za 0 0) (za 2 0) (bw _))))))))
def FR:List D->Option D:=mOf ["arrow","many","least","most"]
  (sSeq (sSet 2 (eIf (tb (e1 (rW [0,1,2,3,4] [3]) (eV 0))) (eC (.int 1)) (eC (.int 0))))
  (sSeq (sSet 3 (eIf (tb (e1 (rW [0,1,2,3,4] [1]) (eV 0))) (eC (.int 0)) (eC (.int 4))))
  (sSeq (sIf (bOr (bNot (tb (λρ=>((aCons (e1 (dc [0,1,2,3] "start") (eV 0)) (aCons (eC (.int 0)) (aCons (e2 jE (eV 1) (eC (.int 1))) aNil))) ρ).bind λds=>yj (ds++[])))) (bNot (tb (λρ=>((aCons (e1 (dc [0,1,2,3] "goal") (eV 0)) (aCons (eC (.int 0)) (aCons (e2 jE (eV 1) (eC (.int 1))) aNil))) ρ).bind λds=>yj (ds++[]))))) (sRet (eC (.bl false))) sSkip)
  (sRet (eB (bAnd (tb (λρ=>((aCons (e1 (dc [0,1,2,3] "time") (eV 0)) (aCons (eC (.int 0)) (aCons (eC (.int 1000000000)) aNil))) ρ).bind λds=>yj (ds++[]))) (tb (λρ=>((aCons (e1 (dc [0,1,2,3] "behind") (eV 0)) (aCons (eV 2) (aCons (eV 3) aNil))) ρ).bind λds=>yj (ds++[])))))))))
theorem Vt (T:Txt K mg a):cp P w K mg base eQ 2 a.f_is_right a.d_is_right ["arrow","many"] (gM K a.ct [0,0] 0 FR):=by
 have fR:=UZ (P:=P) (w:=w) (base:=base) T
 refine iY (ms:=[.ow 0,.ow 0,.ow 0,.ow 0]) T.is_right.fn JQ λ_ _ _ _ _ _ hr=>?_
 exact(ze (gm JQ.nd (XE.ow (KR (v9 (OQ (k:=0) T.isi_Back T.b_isinstance T.Back.mgx (za 0 0))) cO cO)))
  (ze (gm JQ.nd (XE.ow (KR (v9 (OQ (k:=0) T.isi_Ride T.b_isinstance T.Ride.mgx (za 0 0))) cO (Et (n:=0) (d:=(.int 4)) rfl T.g_MOST_BEHIND.choose_spec rfl ⟨_,rfl⟩))))
  (ze (vo (XW.t (pV (j6 (v9 (XO.sh (n:=0) (cX T.lies_within fR hr (zc (xg (n:=0) (za 0 0) T.fld_start rfl) (zc cO (zc (yy (k:=0) qc u5 (za 1 0) cO) zf))))))) (sR (j6 (v9 (XO.sh (n:=0) (cX T.lies_within fR hr (zc (xg (n:=0) (za 0 0) T.fld_goal rfl) (zc cO (zc (yy (k:=0) qc u5 (za 1 0) cO) zf)))))))))) (zg (yb (XE.ow (qj (n:=0))))) ym)
  (zg (yb (XE.ow (zC (XO.sh (n:=0) (cX T.lies_within fR hr (zc (xg (n:=0) (za 0 0) T.fld_time rfl) (zc cO (zc (Et (n:=0) (d:=(.int 1000000000)) rfl T.g_MOST_TIME.choose_spec rfl ⟨_,rfl⟩) zf))))) (vK (k:=0) (XO.sh (n:=0) (cX T.lies_within fR hr (zc (xg (n:=0) (za 0 0) T.fld_behind rfl) (zc (za 2 0) (zc (za 3 0) zf)))))))))))))
def wm:SF:=(sIf (tb (e2 (gH false) (e1 (dc [0,1,2,3] "start") (eV 4)) (eV 7))) (sSeq (oh 3 (e1 (dc [0,1,2,3] "goal") (eV 4)) (λi j=>i-j) (eC (.int 1)))
  (sIf (tb (e2 (gH false) (e2 fJ (eV 3) (e1 (dc [0,1,2,3] "goal") (eV 4))) (eC (.int 0)))) (sApp 5 (e1 (dc [0,1,2,3] "goal") (eV 4))) sSkip)) sSkip)
def ub:SF:=(sSeq (sSet 7 (e2 fJ (eV 5) (eV 6)))
  (sSeq (sFor (lsD (eV 2)) (gV 4) wm)
  (sj 6 (i2 λi j=>.int (i+j)) (eC (.int 1)))))
def jl:EF:=(dg (λρ=>((aCons (eV 0) aNil) ρ).bind gk) 1 [3] (gV 0) (tb (e2 (gH false) (e2 fJ (eV 1) (eV 0)) (eC (.int 0)))) (eV 0))
def uc:SF:=(oh 3 (e1 (dc [0,1,2,3] "goal") (eV 4)) (λi j=>i+j) (eC (.int 1)))
def jm:EF:=(dg (lsD (eV 1)) 1 [] (gV 0) (tb (e2 (gH false) (e1 (dc [0,1,2,3] "behind") (eV 0)) (eC (.int 0)))) (eV 0))
def wn:List D->Option D:=mOf ["many","arrows","within","waited","arrow","placed","done","here"]
  (sSeq (sSet 2 jm)
  (sSeq (sSet 3 (e2 jX (λρ=>((aCons (eC (.int 0)) aNil) ρ).bind λds=>some (.lst ds)) (eV 0)))
  (sSeq (sFor (lsD (eV 2)) (gV 4) uc)
  (sSeq (sSet 5 jl)
  (sSeq (sSet 6 (eC (.int 0)))
  (sSeq (lX (tb (e2 rh (eV 6) (eN ef (aCons (eV 5) aNil)))) ub)
  (sRet (eV 5))))))))
theorem j7 (T:Txt K mg a):cp P w K mg base eQ 1 a.f_placed_goings a.d_placed_goings ["many","arrows"] (gM K a.ct [0,0] 0 wn):=by
 refine iY (ms:=[.ow 0,.ow 0,.ow 0,.ow 1,.ow 0,.ow 1,.ow 0,.ow 0]) T.placed_goings.fn yt λ_ _ _ _ _ _ hr=>?_
 exact(ze (vb (k:=0) (N:=["arrow"]) (om:=[.ow 0]) (cap:=[]) (own:=1) rfl yt.nd rfl (Or.inl rfl) (sS (by rfl)) rfl rfl (by decide) (vt (n:=0) (za 1 0)) (λ_ _ _ _ _=>(kC (show bF (["arrow"]:List aJ)from by decide +kernel))) (λ_ _ _ _ _=>(yZ (yk (k:=0) (vd hr.u64) wl (xg (n:=0) (za 0 0) T.fld_behind rfl) cO (bw _)))) (λ_ _ _ _ _=>(XE.ow (za 0 0))))
  (ze (gm yt.nd (Gw (uk (k:=0) (zx (XE.ow cO) xt)) (za 0 0)))
  (ze (ja (zA (za 2 0)) (mq yt.nd) (zg (OP 3 Pa rfl (xg (n:=0) (za 4 0) T.fld_goal rfl) cO)) bW.never rfl)
  (ze (vb (k:=1) (N:=["going","waited"]) (om:=[.ow 0]) (cap:=[3]) (own:=1) rfl yt.nd rfl (Or.inl rfl) (sS (by rfl)) rfl rfl (by decide) (XI.cc (xv (n:=0) T.b_range (zc (za 0 0) zf))) (λ_ _ _ _ _=>(kC (show bF (["going","waited"]:List aJ)from by decide +kernel))) (λ_ _ _ _ _=>(yZ (yk (k:=0) (vd hr.u64) wl (Ak (n:=1) Ac Af (za 1 1) (za 0 0) (λ_ _=>rfl)) cO (bw _)))) (λ_ _ _ _ _=>(XE.ow (za 0 0))))
  (ze (gm yt.nd (XE.ow cO))
  (ze (NO (yk (k:=0) vM vL (za 6 0) (mr T.b_len (zc (za 5 1) zf)) (bw _)) (ze (gm yt.nd (XE.ow (Ak (n:=1) Ac Af (za 5 1) (za 6 0) (λ_ _=>rfl))))
  (ze (ja (zA (za 2 0)) (mq yt.nd) (zg (vo (yk (k:=0) (vd hr.u64) wl (xg (n:=0) (za 4 0) T.fld_start rfl) (za 7 0) (bw _)) (ze (OP 3 Pb rfl (xg (n:=0) (za 4 0) T.fld_goal rfl) cO)
  (zg (vo (yk (k:=0) (vd hr.u64) wl (Ak (n:=1) Ac Af (za 3 1) (xg (n:=0) (za 4 0) T.fld_goal rfl) (λ_ _=>rfl)) cO (bw _)) (zg (Nj 5 rfl (XE.ow (xg (n:=0) (za 4 0) T.fld_goal rfl)))) ym))) ym)) bW.never rfl)
  (zg (Pn Pa rfl yt.nd rfl (Or.inl rfl) cO)))) bW.never)
  (zg (Kx (i:=5) rfl))))))))
def jh:SF:=(sIf (bNot (tb (λρ=>((aCons (eV 4) (aCons (eN ef (aCons (eV 1) aNil)) aNil)) ρ).bind λds=>FR (ds++[])))) jY sSkip)
def jc:Nat->List D->Option D:=yB ["self","names","arrows","number","arrow","placed"]
  (sSeq (sIf (bOr (bNot (tb (λρ=>((aCons (eV 1) aNil) ρ).bind λds=>j0 (ds++[])))) (tb (e2 rF (eN ef (aCons (eV 2) aNil)) (eC (.int 120))))) jY sSkip)
  (sSeq (sFor (λρ=>((aCons (eV 2) aNil) ρ).bind λds=>match ds with|[.lst xs]=>some (fI 0 xs)|_=>none) (gT (gsCons (gV 3) (gsCons (gV 4) gsNil))) jh)
  (sSeq (sSet 5 (λρ=>((aCons (eN ef (aCons (eV 1) aNil)) (aCons (eV 2) aNil)) ρ).bind λds=>wn (ds++[])))
  (sSeq (sIf (tb (e2 rh (eN ef (aCons (eV 5) aNil)) (eN ef (aCons (eV 1) aNil)))) jY sSkip)
  (sSeq (ku [4] "names" (eN lV (aCons (eV 1) aNil)))
  (ku [4] "arrows" (eN lV (aCons (eV 2) aNil))))))))
theorem U2 (T:Txt K mg a):cp P w K mg base eQ 4 a.f_Net___init a.d_Net___init ["self","names","arrows"] (rq K a.ct [4] [0,0] jc):=by
 have nS:=Vm (P:=P) (w:=w) (base:=base) T
 have oV:=Vt (P:=P) (w:=w) (base:=base) T
 have gj:=j7 (P:=P) (w:=w) (base:=base) T
 refine qk (ms:=[.ow 0,.ow 0,.ow 0,.ow 0,.ow 0]) (rk:=0) T.Net___init.fn uw rfl rfl (by decide) (ug (by decide)) λx0 gB A outer s H E hr=>?_
 exact(ze (vo (XW.t (pV (j6 (v9 (XO.sh (n:=0) (cX T.are_names nS hr (zc (za 1 0) zf))))) (sR (yk (k:=0) Ai Ae (mr T.b_len (zc (za 2 0) zf)) (Et (n:=0) (d:=(.int 120)) rfl T.g_MOST_ARROWS.choose_spec rfl ⟨_,rfl⟩) (bw _))))) (zg Gc) ym)
  (ze (ja (XN T.b_enumerate (zc (za 2 0) zf)) (KJ (n:=1) rfl (ut (mq uw.nd) (ut (mq uw.nd) Ku))) (zg (vo (j6 (v9 (XO.sh (n:=0) (cX T.is_right oV hr (zc (za 4 0) (zc (mr T.b_len (zc (za 1 0) zf)) zf)))))) (zg Gc) ym)) bW.never rfl)
  (ze (gm uw.nd (cX T.placed_goings gj hr (zc (mr T.b_len (zc (za 1 0) zf)) (zc (za 2 0) zf))))
  (ze (vo (yk (k:=0) vM vL (mr T.b_len (zc (za 5 0) zf)) (mr T.b_len (zc (za 1 0) zf)) (bw _)) (zg Gc) ym)
  (ze (Ag T.fld_names (XO.sh (n:=0) (J0 qf (Ki (n:=0) (by decide)) rfl T.b_list Er (zc (za 1 0) zf))))
  (zg (Ag T.fld_arrows (XO.sh (n:=0) (J0 qf (Ki (n:=0) (by decide)) rfl T.b_list Er (zc (za 2 0) zf))))))))))
def u8:EF:=(dg (lsD (e1 (dc [4] "arrows") (eV 0))) 1 [] (gV 0) eU (e1 (dc [0,1,2,3] "behind") (eV 0)))
def yx:List D->Option D:=mOf ["self"]
  (sRet (eN pv (aCons (e2 dm (λρ=>((aCons (eC (.int 1)) aNil) ρ).bind λds=>some (.lst ds)) u8) aNil)))
theorem wf (T:Txt K mg a):cp P w K mg base eQ 1 a.f_Net_most_behind a.d_Net_most_behind ["self"] (gM K a.ct [0] 0 yx):=by
 refine iY (ms:=[.ow 0]) T.Net_most_behind.fn UC λ_ _ _ _ _ _ hr=>?_
 exact(zg (yb (XE.ow (ju (k:=0) (NE rfl) ON rfl T.b_max KF (zc (XO.sh (n:=0) (ky (XO.sh (n:=0) (uk (k:=0) (zx (XE.ow cO) xt))) (XO.sh (n:=0) (ql (N:=["arrow"]) (om:=[.ow 0]) (cap:=[]) (own:=1) (vt (n:=0) (xg (n:=0) (za 0 0) T.fld_arrows rfl)) (λ_ _ _ _ _=>(kC (show bF (["arrow"]:List aJ)from by decide +kernel))) (λ_ _ _ _ _=>wu) (λ_ _ _ _ _=>(XE.ow (xg (n:=0) (za 0 0) T.fld_behind rfl))))))) zf)))))
def qp:EF:=(dg (λρ=>((aCons (e1 (dc [4] "arrows") (eV 0)) aNil) ρ).bind λds=>match ds with|[.lst xs]=>some (fI 0 xs)|_=>none) 2 [1] (gT (gsCons (gV 0) (gsCons (gV 1) gsNil))) (tb (e2 (gH false) (e1 (dc [0,1,2,3] "goal") (eV 1)) (eV 2))) (eV 0))
def wz:List D->Option D:=mOf ["self","going"]
  (sRet qp)
theorem j4 (T:Txt K mg a):cp P w K mg base eQ 1 a.f_Net_into a.d_Net_into ["self","going"] (gM K a.ct [0,0] 0 wz):=by
 refine iY (ms:=[.ow 0,.ow 0]) T.Net_into.fn Vq λ_ _ _ _ _ _ hr=>?_
 exact(zg (yb (kU (ql (N:=["number","arrow","going"]) (om:=[.ow 0,.ow 0]) (cap:=[1]) (own:=2) (W7 (n:=0) T.b_enumerate (zc (xg (n:=0) (za 0 0) T.fld_arrows rfl) zf)) (λ_ _ _ _ _=>(Ot (n:=1) rfl (FN (kC (show bF (["number","arrow","going"]:List aJ)from by decide +kernel)) (FN (kC (show bF (["number","arrow","going"]:List aJ)from by decide +kernel)) NP)))) (λ_ _ _ _ _=>(yZ (yk (k:=0) (vd hr.u64) wl (xg (n:=0) (za 1 0) T.fld_goal rfl) (za 2 0) (bw _)))) (λ_ _ _ _ _=>(XE.ow (za 0 0)))))))
def j5:List D->Option D:=mOf ["self"]
  (sRet (λρ=>((aCons (eN ef (aCons (e1 (dc [4] "names") (eV 0)) aNil)) (aCons (e1 (dc [4] "arrows") (eV 0)) aNil)) ρ).bind λds=>wn (ds++[])))
theorem Vn (T:Txt K mg a):cp P w K mg base eQ 2 a.f_Net_order a.d_Net_order ["self"] (gM K a.ct [0] 0 j5):=by
 have gj:=j7 (P:=P) (w:=w) (base:=base) T
 refine iY (ms:=[.ow 0]) T.Net_order.fn Vj λ_ _ _ _ _ _ hr=>?_
 exact(zg (yb (cX T.placed_goings gj hr (zc (mr T.b_len (zc (xg (n:=0) (za 0 0) T.fld_names rfl) zf)) (zc (xg (n:=0) (za 0 0) T.fld_arrows rfl) zf)))))
def Gi:List D->Option D:=mOf ["when","more"]
  (sSeq (sIf (tb (e2 (uW false) (eV 0) (eC .non))) (sRet (eC .non)) sSkip)
  (sRet (e2 dm (eV 0) (eV 1))))
theorem Xr (T:Txt K mg a):cp P w K mg base eQ 1 a.f_later a.d_later ["when","more"] (gM K a.ct [0,0] 0 Gi):=by
 refine iY (ms:=[.ow 0,.ow 0]) T.later.fn Xq λ_ _ _ _ _ _ hr=>?_
 exact(ze (vo (yk (k:=0) EH Ey (za 0 0) sv (bw _)) (zg (yb (XE.ow sv))) ym)
  (zg (yb (kU (ky (za 0 0) (za 1 0))))))
def Eh:List D->Option D:=mOf ["one","other"]
  (sSeq (sIf (tb (e2 (uW false) (eV 0) (eC .non))) (sRet (eV 1)) sSkip)
  (sSeq (sIf (tb (e2 (uW false) (eV 1) (eC .non))) (sRet (eV 0)) sSkip)
  (sRet (eN rY (aCons (eV 0) (aCons (eV 1) aNil))))))
theorem NI (T:Txt K mg a):cp P w K mg base eQ 1 a.f_latest a.d_latest ["one","other"] (gM K a.ct [0,0] 0 Eh):=by
 refine iY (ms:=[.ow 0,.ow 0]) T.latest.fn Wp λ_ _ _ _ _ _ hr=>?_
 exact(ze (vo (yk (k:=0) EH Ey (za 0 0) sv (bw _)) (zg (yb (XE.ow (za 1 0)))) ym)
  (ze (vo (yk (k:=0) EH Ey (za 1 0) sv (bw _)) (zg (yb (XE.ow (za 0 0)))) ym)
  (zg (yb (XE.ow (ju (k:=0) (VH rfl) W8 rfl T.b_max KF (zc (za 0 0) (zc (za 1 0) zf))))))))
def ud:SF:=(pT 1 (λρ=>((aCons (eV 2) (aCons (eV 3) aNil)) ρ).bind λds=>some (.tup ds)) (λρ=>((aCons (λρ=>((eV 1) ρ).bind λx=>((λρ=>((aCons (eV 2) (aCons (eV 3) aNil)) ρ).bind λds=>some (.tup ds)) ρ).bind λy=>(lO x y).bind λr=>some (r.getD .non)) (aCons (eV 4) aNil)) ρ).bind λds=>Eh (ds++[])))
def xh:List D->Option D:=mOf ["told","greatest","going","number","amount"]
  (sSeq (sSet 1 (eC (.dT [] [])))
  (sSeq (sFor (lsD (eV 0)) (gT (gsCons (gV 2) (gsCons (gV 3) (gsCons (gV 4) gsNil)))) ud)
  (sRet (eV 1))))
theorem UI (T:Txt K mg a):cp P w K mg base eQ 2 a.f_greatest_told a.d_greatest_told ["told"] (gM K a.ct [0] 0 xh):=by
 have lJ:=NI (P:=P) (w:=w) (base:=base) T
 refine iY (ms:=[.ow 0,.ow 1,.ow 0,.ow 0,.ow 0]) T.greatest_told.fn wx λ_ _ _ _ _ _ hr=>?_
 exact(ze (gm wx.nd W5)
  (ze (ja (zA (za 0 0)) (KJ (n:=0) rfl (ut (mq wx.nd) (ut (mq wx.nd) (ut (mq wx.nd) Ku)))) (zg (OO 1 rfl (EE hr) (XO.sh (n:=0) (Ad (zx (XE.ow (za 2 0)) (zx (XE.ow (za 3 0)) xt)))) (XO.sh (n:=0) (cX T.latest lJ hr (zc (Oq (n:=1) (EE hr) (za 1 1) (XO.sh (n:=0) (Ad (zx (XE.ow (za 2 0)) (zx (XE.ow (za 3 0)) xt)))) ⟨rfl,rfl,rfl,rfl⟩) (zc (za 4 0) zf)))))) bW.never rfl)
  (zg (Kx (i:=1) rfl))))
def MR:EF:=(dg (λρ=>((lsD (λρ=>((eV 1) ρ).bind λd=>(pNo ρ).bind λl=>((pInt (eV 2)) ρ).bind λh=>jZ d l h)) ρ).bind λds=>some ds.reverse) 1 [] (gV 0) eU (eN lV (aCons (eV 0) aNil)))
def MS:EF:=(dg (λρ=>((aCons (eV 2) aNil) ρ).bind gk) 1 [0] (gV 0) eU (e2 jX (λρ=>((aCons (eC (.int 0)) aNil) ρ).bind λds=>some (.lst ds)) (eN ef (aCons (e1 (dc [4] "names") (eV 1)) aNil))))
def wp:List D->Option D:=mOf ["net","was","depth"]
  (sSeq (sSet 2 (λρ=>((eV 0) ρ).bind λo=>iq 4 "most_behind" yx o []))
  (sSeq (sIf (tb (e2 (uW false) (eV 1) (eC .non))) (sRet MS) sSkip)
  (sRet MR)))
theorem U3 (T:Txt K mg a):cp P w K mg base eQ 2 a.f_rows_ahead a.d_rows_ahead ["net","was"] (gM K a.ct [0,0] 2 wp):=by
 have cy:=wf (P:=P) (w:=w) (base:=base) T
 refine iY (ms:=[.ow 0,.ow 0,.ow 0]) T.rows_ahead.fn MO λ_ _ _ _ _ _ hr=>?_
 exact(ze (gm MO.nd (Ep (n:=0) (c0:=4) (nd:=[]) (iP:=[]) (za 0 0) T.Net.cl T.Net_most_behind.me cy (hr.mono (by decide)) T.Net_most_behind.bd .nil (λ_ _=>.nil)))
  (ze (vo (yk (k:=0) EH Ey (za 1 0) sv (bw _)) (zg (yb (ql (N:=["number","net"]) (om:=[.ow 0]) (cap:=[0]) (own:=1) (XI.cc (xv (n:=0) T.b_range (zc (za 2 0) zf))) (λ_ _ _ _ _=>(kC (show bF (["number","net"]:List aJ)from by decide +kernel))) (λ_ _ _ _ _=>wu) (λ_ _ _ _ _=>(Gw (uk (k:=0) (zx (XE.ow cO) xt)) (mr T.b_len (zc (xg (n:=0) (za 1 0) T.fld_names rfl) zf))))))) ym)
  (zg (yb (ql (N:=["row"]) (om:=[.ow 0]) (cap:=[]) (own:=1) (YI (n:=0) T.b_reversed (XO.sh (n:=0) (NR (n:=0) (by decide) (za 1 0) Py (Ou (za 2 0))))) (λ_ _ _ _ _=>(kC (show bF (["row"]:List aJ)from by decide +kernel))) (λ_ _ _ _ _=>wu) (λ_ _ _ _ _=>(J0 qf (Ki (n:=0) (by decide)) rfl T.b_list Er (zc (za 0 0) zf))))))))
def ve:SF:=(sSeq (sSet 6 (e2 fJ (e1 (dc [4] "arrows") (eV 0)) (eV 5)))
  (sSet 4 (λρ=>((aCons (eV 4) (aCons (λρ=>((aCons (e2 fJ (e2 fJ (eV 1) (e2 jE (e1 tW (eC (.int 1))) (e1 (dc [0,1,2,3] "behind") (eV 6)))) (e1 (dc [0,1,2,3] "start") (eV 6))) (aCons (e1 (dc [0,1,2,3] "time") (eV 6)) aNil)) ρ).bind λds=>Gi (ds++[])) aNil)) ρ).bind λds=>Eh (ds++[]))))
def w6:List D->Option D:=mOf ["net","rows","numbers","floor","when","number","arrow"]
  (sSeq (sSet 4 (eV 3))
  (sSeq (sFor (lsD (eV 2)) (gV 5) ve)
  (sRet (eV 4))))
theorem UD (T:Txt K mg a):cp P w K mg base eQ 2 a.f_time_in_last_row a.d_time_in_last_row ["net","rows","numbers","floor"] (gM K a.ct [0,2,0,0] 0 w6):=by
 have lJ:=NI (P:=P) (w:=w) (base:=base) T
 have tw:=Xr (P:=P) (w:=w) (base:=base) T
 refine iY (ms:=[.ow 0,.al 2,.ow 0,.ow 0,.ow 0,.ow 0,.ow 0]) T.time_in_last_row.fn xw λ_ _ _ _ _ _ hr=>?_
 exact(ze (gm xw.nd (XE.ow (za 3 0)))
  (ze (ja (zA (za 2 0)) (mq xw.nd) (ze (gm xw.nd (XE.ow (lC (xg (n:=0) (za 0 0) T.fld_arrows rfl) (za 5 0))))
  (zg (gm xw.nd (cX T.latest lJ hr (zc (za 4 0) (zc (XO.sh (n:=0) (cX T.later tw hr (zc (Ak (n:=1) Ac Af (Ak (n:=2) Ac Af (za 1 2) (yy (k:=0) qc u5 (Pm (k:=0) cO) (xg (n:=0) (za 6 0) T.fld_behind rfl)) (λ_ _=>rfl)) (xg (n:=0) (za 6 0) T.fld_start rfl) (λ_ _=>rfl)) (zc (xg (n:=0) (za 6 0) T.fld_time rfl) zf)))) zf)))))) bW.never rfl)
  (zg (yb (XE.ow (za 4 0))))))
def w8:SF:=(sSeq (sSet 10 (λρ=>((eV 5) ρ).bind λx=>((λρ=>((aCons (eV 9) (aCons (eV 8) aNil)) ρ).bind λds=>some (.tup ds)) ρ).bind λy=>(lO x y).bind λr=>some (r.getD .non)))
  (pB 4 (e1 tW (eC (.int 1))) (eV 9) (λρ=>((aCons (eV 0) (aCons (eV 4) (aCons (e2 fJ (eV 6) (eV 9)) (aCons (eV 10) aNil)))) ρ).bind λds=>w6 (ds++[]))))
def vw:SF:=(sSeq (sApp 4 (e2 jX (λρ=>((aCons (eC .non) aNil) ρ).bind λds=>some (.lst ds)) (eN ef (aCons (e1 (dc [4] "names") (eV 0)) aNil))))
  (sFor (lsD (eV 7)) (gV 9) w8))
def jd:EF:=(dg (λρ=>((aCons (eN ef (aCons (e1 (dc [4] "names") (eV 0)) aNil)) aNil) ρ).bind gk) 1 [0] (gV 0) eU (λρ=>((eV 1) ρ).bind λo=>((aCons (eV 0) aNil) ρ).bind λds=>iq 4 "into" wz o (ds++[])))
def vi:List D->Option D:=mOf ["net","rounds","was","floors","rows","greatest","numbers","order","number","going","floor"]
  (sSeq (sSet 4 (λρ=>((aCons (eV 0) (aCons (eV 2) aNil)) ρ).bind λds=>wp (ds++[])))
  (sSeq (sSet 5 (λρ=>((aCons (eIf (tb (e2 (uW false) (eV 3) (eC .non))) (λρ=>(aNil ρ).bind λds=>some (.lst ds)) (eV 3)) aNil) ρ).bind λds=>xh (ds++[])))
  (sSeq (sSet 6 jd)
  (sSeq (sSet 7 (λρ=>((eV 0) ρ).bind λo=>iq 4 "order" j5 o []))
  (sSeq (sFor (λρ=>((aCons (eV 1) aNil) ρ).bind gk) (gV 8) vw)
  (sRet (eV 4)))))))
theorem UG (T:Txt K mg a):cp P w K mg base eQ 3 a.f_rows_with_past a.d_rows_with_past ["net","rounds","was","floors"] (gM K a.ct [0,0,0,0] 0 vi):=by
 have nq:=U3 (P:=P) (w:=w) (base:=base) T
 have lf:=UI (P:=P) (w:=w) (base:=base) T
 have e7:=j4 (P:=P) (w:=w) (base:=base) T
 have nR:=Vn (P:=P) (w:=w) (base:=base) T
 have jR:=UD (P:=P) (w:=w) (base:=base) T
 refine iY (ms:=[.ow 0,.ow 0,.ow 0,.ow 0,.ow 2,.ow 0,.ow 0,.ow 0,.ow 0,.ow 0,.ow 0]) T.rows_with_past.fn yw λ_ _ _ _ _ _ hr=>?_
 exact(ze (gm yw.nd (cX T.rows_ahead nq hr (zc (za 0 0) (zc (za 2 0) zf))))
  (ze (gm yw.nd (cX T.greatest_told lf hr (zc (KR (yk (k:=0) EH Ey (za 3 0) sv (bw _)) (XO.sh (n:=0) (uk (k:=0) xt)) (za 3 0)) zf)))
  (ze (vb (k:=0) (N:=["going","net"]) (om:=[.ow 0]) (cap:=[0]) (own:=1) rfl yw.nd rfl (Or.inl rfl) (sS (by rfl)) rfl rfl (by decide) (XI.cc (xv (n:=0) T.b_range (zc (mr T.b_len (zc (xg (n:=0) (za 0 0) T.fld_names rfl) zf)) zf))) (λ_ _ _ _ _=>(kC (show bF (["going","net"]:List aJ)from by decide +kernel))) (λ_ _ _ _ _=>wu) (λ_ _ _ _ _=>(Gq (n:=0) (c0:=4) (ns:=[0]) (nd:=[]) (iP:=[]) (za 1 0) T.Net.cl T.Net_into.me e7 (hr.mono (by decide)) T.Net_into.bd .nil (λ_ _=>.nil) (zc (za 0 0) zf))))
  (ze (gm yw.nd (Ep (n:=0) (c0:=4) (nd:=[]) (iP:=[]) (za 0 0) T.Net.cl T.Net_order.me nR (hr.mono (by decide)) T.Net_order.bd .nil (λ_ _=>.nil)))
  (ze (ja (xv (n:=0) T.b_range (zc (za 1 0) zf)) (mq yw.nd) (ze (Nj 4 rfl (Gw (uk (k:=0) (zx (XE.ow sv) xt)) (mr T.b_len (zc (xg (n:=0) (za 0 0) T.fld_names rfl) zf))))
  (zg (ja (zA (za 7 0)) (mq yw.nd) (ze (gm yw.nd (XE.ow (Oq (n:=0) (EE hr) (za 5 0) (XO.sh (n:=0) (Ad (zx (XE.ow (za 9 0)) (zx (XE.ow (za 8 0)) xt)))) ⟨rfl,rfl,rfl,rfl⟩)))
  (zg (Xm 4 rfl (Pm (k:=0) cO) (za 9 0) (λ_ _=>rfl) (XO.sh (n:=0) (cX T.time_in_last_row jR hr (zc (za 0 0) (zc (za 4 2) (zc (lC (za 6 0) (za 9 0)) (zc (za 10 0) zf))))))))) bW.never rfl))) bW.never rfl)
  (zg (Kx (i:=4) rfl)))))))
def sU:List D->Option D:=mOf ["net","rounds","was","floors"]
  (sRet (λρ=>((λρ=>((aCons (eV 0) (aCons (eV 1) (aCons (eV 2) (aCons (eV 3) aNil)))) ρ).bind λds=>vi (ds++[])) ρ).bind λd=>((pInt (λρ=>((eV 0) ρ).bind λo=>iq 4 "most_behind" yx o [])) ρ).bind λl=>(pNo ρ).bind λh=>jZ d l h))
theorem Ps (T:Txt K mg a):cp P w K mg base eQ 4 a.f_run a.d_run ["net","rounds","was","floors"] (gM K a.ct [0,0,0,0] 0 sU):=by
 have kH:=UG (P:=P) (w:=w) (base:=base) T
 have cy:=wf (P:=P) (w:=w) (base:=base) T
 refine iY (ms:=[.ow 0,.ow 0,.ow 0,.ow 0]) T.run.fn ZD λ_ _ _ _ _ _ hr=>?_
 exact(zg (yb (kU (NR (n:=0) (by decide) (XO.sh (n:=0) (cX T.rows_with_past kH hr (zc (za 0 0) (zc (za 1 0) (zc (za 2 0) (zc (za 3 0) zf)))))) (Ou (XO.sh (n:=0) (Ep (n:=0) (c0:=4) (nd:=[]) (iP:=[]) (za 0 0) T.Net.cl T.Net_most_behind.me cy (hr.mono (by decide)) T.Net_most_behind.bd .nil (λ_ _=>.nil)))) Py))))
def Na:EF:=(dg (λρ=>((aCons (e2 fJ (eV 0) (eV 1)) (aCons (e2 fJ (eV 0) (e2 dm (eV 1) (eV 2))) aNil)) ρ).bind zE) 2 [] (gT (gsCons (gV 0) (gsCons (gV 1) gsNil))) eU (e2 jE (eV 1) (eV 0)))
def ux:List D->Option D:=mOf ["rows","first","count"]
  (sRet Na)
theorem FO (T:Txt K mg a):cp P w K mg base eQ 1 a.f_growth a.d_growth ["rows","first","count"] (gM K a.ct [0,0,0] 0 ux):=by
 refine iY (ms:=[.ow 0,.ow 0,.ow 0]) T.growth.fn Wq λ_ _ _ _ _ _ hr=>?_
 exact(zg (yb (kU (ql (N:=["before","after"]) (om:=[.ow 0,.ow 0]) (cap:=[]) (own:=2) (YJ (n:=0) T.b_zip (zc (lC (za 0 0) (za 1 0)) (zc (lC (za 0 0) (XO.sh (n:=0) (ky (za 1 0) (za 2 0)))) zf))) (λ_ _ _ _ _=>(Ot (n:=1) rfl (FN (kC (show bF (["before","after"]:List aJ)from by decide +kernel)) (FN (kC (show bF (["before","after"]:List aJ)from by decide +kernel)) NP)))) (λ_ _ _ _ _=>wu) (λ_ _ _ _ _=>(XE.ow (yy (k:=0) qc u5 (za 1 0) (za 0 0))))))))
def M2:EF:=(dg (λρ=>((aCons (eV 1) (aCons (e2 dm (eV 2) (eC (.int 1))) aNil)) ρ).bind mJ) 1 [0,3,4] (gV 0) eU (e2 (gH false) (λρ=>((aCons (eV 1) (aCons (eV 0) (aCons (eV 2) aNil))) ρ).bind λds=>ux (ds++[])) (eV 3)))
def FT:List D->Option D:=mOf ["rows","first","last","count","lengths"]
  (sRet (eN rC (aCons M2 aNil)))
theorem Vu (T:Txt K mg a):cp P w K mg base eQ 2 a.f_grows_so a.d_grows_so ["rows","first","last","count","lengths"] (gM K a.ct [0,0,0,0,0] 0 FT):=by
 have gX:=FO (P:=P) (w:=w) (base:=base) T
 refine iY (ms:=[.ow 0,.ow 0,.ow 0,.ow 0,.ow 0]) T.grows_so.fn Vr λ_ _ _ _ _ _ hr=>?_
 exact(zg (yb (XE.ow (ju (k:=0) (J7 rfl) Kv rfl T.b_all KG (zc (XO.sh (n:=0) (ql (N:=["number","rows","count","lengths"]) (om:=[.ow 0]) (cap:=[0,3,4]) (own:=1) (XI.cc (J1 (n:=0) T.b_range (zc (za 1 0) (zc (XO.sh (n:=0) (ky (za 2 0) cO)) zf)))) (λ_ _ _ _ _=>(kC (show bF (["number","rows","count","lengths"]:List aJ)from by decide +kernel))) (λ_ _ _ _ _=>wu) (λ_ _ _ _ _=>(XE.ow (jj (k:=0) (vd hr.u64) wl (XO.sh (n:=0) (cX T.growth gX hr (zc (za 1 0) (zc (za 0 0) (zc (za 2 0) zf))))) (za 3 0) (bw _)))))) zf)))))
def je:EF:=(dg (lsD (e1 (dc [4] "arrows") (eV 0))) 1 [1] (gV 0) eU (e2 tV (e2 fJ (eV 1) (e1 (dc [0,1,2,3] "start") (eV 0))) (e2 fJ (eV 1) (e1 (dc [0,1,2,3] "goal") (eV 0)))))
def vk:List D->Option D:=mOf ["net","lengths"]
  (sRet (eN rC (aCons je aNil)))
theorem UH (T:Txt K mg a):cp P w K mg base eQ 1 a.f_never_outgrown a.d_never_outgrown ["net","lengths"] (gM K a.ct [0,0] 0 vk):=by
 refine iY (ms:=[.ow 0,.ow 0]) T.never_outgrown.fn UF λ_ _ _ _ _ _ hr=>?_
 exact(zg (yb (XE.ow (ju (k:=0) (J7 rfl) Kv rfl T.b_all KG (zc (XO.sh (n:=0) (ql (N:=["arrow","lengths"]) (om:=[.ow 0]) (cap:=[1]) (own:=1) (vt (n:=0) (xg (n:=0) (za 0 0) T.fld_arrows rfl)) (λ_ _ _ _ _=>(kC (show bF (["arrow","lengths"]:List aJ)from by decide +kernel))) (λ_ _ _ _ _=>wu) (λ_ _ _ _ _=>(XE.ow (jj (k:=0) zD yY (lC (za 1 0) (xg (n:=0) (za 0 0) T.fld_start rfl)) (lC (za 1 0) (xg (n:=0) (za 0 0) T.fld_goal rfl)) (bw _)))))) zf)))))
def xf:SF:=(sIf (tb (e2 (gH false) (e2 dm (e2 fJ (e2 fJ (eV 0) (e2 jE (eV 3) (e1 (dc [0,1,2,3] "behind") (eV 4)))) (e1 (dc [0,1,2,3] "start") (eV 4))) (e1 (dc [0,1,2,3] "time") (eV 4))) (e2 fJ (e2 fJ (eV 0) (eV 3)) (eV 2)))) (sRet (eC (.bl true))) sSkip)
def jf:List D->Option D:=mOf ["rows","carriers","going","number","arrow"]
  (sSeq (sFor (lsD (eV 1)) (gV 4) xf)
  (sRet (eC (.bl false))))
theorem U4 (T:Txt K mg a):cp P w K mg base eQ 1 a.f_is_carried a.d_is_carried ["rows","carriers","going","number"] (gM K a.ct [0,0,0,0] 0 jf):=by
 refine iY (ms:=[.ow 0,.ow 0,.ow 0,.ow 0,.ow 0]) T.is_carried.fn MP λ_ _ _ _ _ _ hr=>?_
 exact(ze (ja (zA (za 1 0)) (mq MP.nd) (zg (vo (yk (k:=0) (vd hr.u64) wl (XO.sh (n:=0) (ky (lC (lC (za 0 0) (yy (k:=0) qc u5 (za 3 0) (xg (n:=0) (za 4 0) T.fld_behind rfl))) (xg (n:=0) (za 4 0) T.fld_start rfl)) (xg (n:=0) (za 4 0) T.fld_time rfl))) (lC (lC (za 0 0) (za 3 0)) (za 2 0)) (bw _)) (zg (yb (XE.ow (qj (n:=0))))) ym)) bW.never rfl)
  (zg (yb (XE.ow (qj (n:=0))))))
def xi:SF:=(sIf (bNot (tb (λρ=>((aCons (eV 1) (aCons (eV 7) (aCons (eV 5) (aCons (eV 8) aNil)))) ρ).bind λds=>jf (ds++[])))) (sRet (eC (.bl false))) sSkip)
def qq:EF:=(dg (lsD (eV 6)) 1 [4,5] (gV 0) (tb (e2 (gH false) (e2 fJ (eV 1) (e1 (dc [0,1,2,3] "start") (eV 0))) (e2 fJ (eV 1) (eV 2)))) (eV 0))
def qr:EF:=(dg (lsD (λρ=>((eV 0) ρ).bind λo=>((aCons (eV 5) aNil) ρ).bind λds=>iq 4 "into" wz o (ds++[]))) 1 [0] (gV 0) eU (e2 fJ (e1 (dc [4] "arrows") (eV 1)) (eV 0)))
def wo:SF:=(sSeq (sSet 6 qr)
  (sSeq (sSet 7 qq)
  (sFor (λρ=>((aCons (eV 2) (aCons (e2 dm (eV 3) (eC (.int 1))) aNil)) ρ).bind mJ) (gV 8) xi)))
def vx:List D->Option D:=mOf ["net","rows","first","last","lengths","going","entering","carriers","number"]
  (sSeq (sFor (λρ=>((aCons (eN ef (aCons (e1 (dc [4] "names") (eV 0)) aNil)) aNil) ρ).bind gk) (gV 5) wo)
  (sRet (eC (.bl true))))
theorem UK (T:Txt K mg a):cp P w K mg base eQ 2 a.f_all_carried a.d_all_carried ["net","rows","first","last","lengths"] (gM K a.ct [0,0,0,0,0] 0 vx):=by
 have e7:=j4 (P:=P) (w:=w) (base:=base) T
 have nk:=U4 (P:=P) (w:=w) (base:=base) T
 refine iY (ms:=[.ow 0,.ow 0,.ow 0,.ow 0,.ow 0,.ow 0,.ow 0,.ow 0,.ow 0]) T.all_carried.fn vf λ_ _ _ _ _ _ hr=>?_
 exact(ze (ja (xv (n:=0) T.b_range (zc (mr T.b_len (zc (xg (n:=0) (za 0 0) T.fld_names rfl) zf)) zf)) (mq vf.nd) (ze (vb (k:=0) (N:=["number","net"]) (om:=[.ow 0]) (cap:=[0]) (own:=1) rfl vf.nd rfl (Or.inl rfl) (sS (by rfl)) rfl rfl (by decide) (vt (n:=0) (XO.sh (n:=0) (Gq (n:=0) (c0:=4) (ns:=[0]) (nd:=[]) (iP:=[]) (za 0 0) T.Net.cl T.Net_into.me e7 (hr.mono (by decide)) T.Net_into.bd .nil (λ_ _=>.nil) (zc (za 5 0) zf)))) (λ_ _ _ _ _=>(kC (show bF (["number","net"]:List aJ)from by decide +kernel))) (λ_ _ _ _ _=>wu) (λ_ _ _ _ _=>(XE.ow (lC (xg (n:=0) (za 1 0) T.fld_arrows rfl) (za 0 0)))))
  (ze (vb (k:=0) (N:=["arrow","lengths","going"]) (om:=[.ow 0]) (cap:=[4,5]) (own:=1) rfl vf.nd rfl (Or.inl rfl) (sS (by rfl)) rfl rfl (by decide) (vt (n:=0) (za 6 0)) (λ_ _ _ _ _=>(kC (show bF (["arrow","lengths","going"]:List aJ)from by decide +kernel))) (λ_ _ _ _ _=>(yZ (yk (k:=0) (vd hr.u64) wl (lC (za 1 0) (xg (n:=0) (za 0 0) T.fld_start rfl)) (lC (za 1 0) (za 2 0)) (bw _)))) (λ_ _ _ _ _=>(XE.ow (za 0 0))))
  (zg (ja (J1 (n:=0) T.b_range (zc (za 2 0) (zc (XO.sh (n:=0) (ky (za 3 0) cO)) zf))) (mq vf.nd) (zg (vo (j6 (v9 (XO.sh (n:=0) (cX T.is_carried nk hr (zc (za 1 0) (zc (za 7 0) (zc (za 5 0) (zc (za 8 0) zf)))))))) (zg (yb (XE.ow (qj (n:=0))))) ym)) bW.never rfl)))) bW.never rfl)
  (zg (yb (XE.ow (qj (n:=0))))))
def FP:List D->Option D:=mOf ["net","rows","paper","count","first","lengths","settled"]
  (sSeq (sSet 3 (e2 fJ (eV 2) (eC (.int 0))))
  (sSeq (sSet 4 (e2 fJ (eV 2) (eC (.int 1))))
  (sSeq (sSet 5 (e2 fJ (eV 2) (eC (.int 2))))
  (sSeq (sSet 6 (e2 dm (eV 4) (λρ=>((eV 0) ρ).bind λo=>iq 4 "most_behind" yx o [])))
  (sSeq (sIf (bOr (tb (e2 rh (eV 3) (eC (.int 1)))) (bOr (tb (e2 rh (eV 4) (eC (.int 0)))) (bOr (tb (e2 (gH true) (eN ef (aCons (eV 5) aNil)) (eN ef (aCons (e1 (dc [4] "names") (eV 0)) aNil)))) (tb (e2 rh (eN ef (aCons (eV 1) aNil)) (e2 dm (eV 6) (eV 3))))))) (sRet (eC (.bl false))) sSkip)
  (sSeq (sIf (bOr (bNot (tb (λρ=>((aCons (eV 1) (aCons (eV 4) (aCons (e2 jE (eV 6) (eC (.int 1))) (aCons (eV 3) (aCons (eV 5) aNil))))) ρ).bind λds=>FT (ds++[])))) (bNot (tb (λρ=>((aCons (eV 0) (aCons (eV 5) aNil)) ρ).bind λds=>vk (ds++[]))))) (sRet (eC (.bl false))) sSkip)
  (sRet (λρ=>((aCons (eV 0) (aCons (eV 1) (aCons (eV 6) (aCons (e2 jE (e2 dm (eV 6) (eV 3)) (eC (.int 1))) (aCons (eV 5) aNil))))) ρ).bind λds=>vx (ds++[])))))))))
theorem Nb (T:Txt K mg a):cp P w K mg base eQ 3 a.f_goes_on a.d_goes_on ["net","rows","paper"] (gM K a.ct [0,0,0] 0 FP):=by
 have cy:=wf (P:=P) (w:=w) (base:=base) T
 have oU:=Vu (P:=P) (w:=w) (base:=base) T
 have kG:=UH (P:=P) (w:=w) (base:=base) T
 have mE:=UK (P:=P) (w:=w) (base:=base) T
 refine iY (ms:=[.ow 0,.ow 0,.ow 0,.ow 0,.ow 0,.ow 0,.ow 0]) T.goes_on.fn jk λ_ _ _ _ _ _ hr=>?_
 exact(ze (gm jk.nd (XE.ow (lC (za 2 0) cO)))
  (ze (gm jk.nd (XE.ow (lC (za 2 0) cO)))
  (ze (gm jk.nd (XE.ow (lC (za 2 0) cO)))
  (ze (gm jk.nd (kU (ky (za 4 0) (XO.sh (n:=0) (Ep (n:=0) (c0:=4) (nd:=[]) (iP:=[]) (za 0 0) T.Net.cl T.Net_most_behind.me cy (hr.mono (by decide)) T.Net_most_behind.bd .nil (λ_ _=>.nil))))))
  (ze (vo (XW.t (pV (yk (k:=0) vM vL (za 3 0) cO (bw _)) (pV (yk (k:=0) vM vL (za 4 0) cO (bw _)) (pV (yk (k:=0) (Eu hr.u64) wl (mr T.b_len (zc (za 5 0) zf)) (mr T.b_len (zc (xg (n:=0) (za 0 0) T.fld_names rfl) zf)) (bw _)) (sR (yk (k:=0) vM vL (mr T.b_len (zc (za 1 0) zf)) (XO.sh (n:=0) (ky (za 6 0) (za 3 0))) (bw _))))))) (zg (yb (XE.ow (qj (n:=0))))) ym)
  (ze (vo (XW.t (pV (j6 (v9 (XO.sh (n:=0) (cX T.grows_so oU hr (zc (za 1 0) (zc (za 4 0) (zc (yy (k:=0) qc u5 (za 6 0) cO) (zc (za 3 0) (zc (za 5 0) zf))))))))) (sR (j6 (v9 (XO.sh (n:=0) (cX T.never_outgrown kG hr (zc (za 0 0) (zc (za 5 0) zf))))))))) (zg (yb (XE.ow (qj (n:=0))))) ym)
  (zg (yb (cX T.all_carried mE hr (zc (za 0 0) (zc (za 1 0) (zc (za 6 0) (zc (yy (k:=0) qc u5 (XO.sh (n:=0) (ky (za 6 0) (za 3 0))) cO) (zc (za 5 0) zf))))))))))))))
theorem UP (T:Txt K mg a):cp P w K mg base eQ 1 a.f_Loose___init a.d_Loose___init ["self","going"] (qD "going" a.c_Loose) :=
 Xp (kk:=0) T.Loose___init.fn UO T.xc_Loose T.xs_Loose λgB A outer s H E=>⟨_,λ_ _ _ _ h1 h2 h3=>Ut h1 h2 h3,Kb (Aa (WR (B:=a.c_BeatError) rfl T.xm_BeatError T.xq.1 T.xq.2.1 T.xq.2.2 (u9 (i:=0) rfl (Or.inl rfl)) (Ye (NM WS (NM (Z8 (u9 (i:=1) rfl (Or.inl rfl))) Yd))))) (Ko (Yc (u9 (i:=0) rfl (Or.inl rfl)) (u9 (i:=1) rfl (Or.inl rfl))))⟩
def vm:SF:=(sIf (tb (e2 (gH false) (λρ=>((eV 0) ρ).bind λo=>((aCons (eV 1) aNil) ρ).bind λds=>iq 4 "into" wz o (ds++[])) (λρ=>(aNil ρ).bind λds=>some (.lst ds)))) jY sSkip)
def ui:List D->Option D:=mOf ["net","going"]
  (sFor (λρ=>((aCons (eN ef (aCons (e1 (dc [4] "names") (eV 0)) aNil)) aNil) ρ).bind gk) (gV 1) vm)
theorem qv (T:Txt K mg a):cp P w K mg base eQ 3 a.f_refuse_loose a.d_refuse_loose ["net"] (gM K a.ct [0] 0 ui):=by
 have e7:=j4 (P:=P) (w:=w) (base:=base) T
 refine iY (ms:=[.ow 0,.ow 0]) T.refuse_loose.fn vv λ_ _ _ _ _ _ hr=>?_
 exact(zg (ja (xv (n:=0) T.b_range (zc (mr T.b_len (zc (xg (n:=0) (za 0 0) T.fld_names rfl) zf)) zf)) (mq vv.nd) (zg (vo (yk (k:=0) (vd hr.u64) wl (XO.sh (n:=0) (Gq (n:=0) (c0:=4) (ns:=[0]) (nd:=[]) (iP:=[]) (za 0 0) T.Net.cl T.Net_into.me e7 (hr.mono (by decide)) T.Net_into.bd .nil (λ_ _=>.nil) (zc (za 1 0) zf))) (XO.sh (n:=0) (uk (k:=0) xt)) (bw _)) (zg Gc) ym)) bW.never rfl))
def vc:lL:=(sIfX (tb (e2 (gH false) (λρ=>((eV 0) ρ).bind λo=>((aCons (eV 1) aNil) ρ).bind λds=>iq 4 "into" wz o (ds++[])) (λρ=>(aNil ρ).bind λds=>some (.lst ds)))) (sRaise (λρ=>((eV 1) ρ).bind λd=>(o9 d).bind λd=>some (.exc 8 ["going"] [d]))) (xOf sSkip))
def vz:List D->Option nu:=mOfX ["net","going"]
  (sForX (λρ=>((aCons (eN ef (aCons (e1 (dc [4] "names") (eV 0)) aNil)) aNil) ρ).bind gk) (gV 1) vc)
theorem UJ (T:Txt K mg a):cp P w K mg base (tq P w) 3 a.f_refuse_loose a.d_refuse_loose ["net"] (oY K a.ct [0] 0 vz):=by
 have lI:=UP (P:=P) (w:=w) (base:=base) T
 have e7:=j4 (P:=P) (w:=w) (base:=base) T
 refine uY (ms:=[.ow 0,.ow 0]) T.refuse_loose.fn vv rfl rfl (by decide) (ug (by decide)) λ_ _ _ _ _ _ hr=>?_
 exact(Gg (YK (xv (n:=0) T.b_range (zc (mr T.b_len (zc (xg (n:=0) (za 0 0) T.fld_names rfl) zf)) zf)) (mq vv.nd) (Gg (Zx (yk (k:=0) (vd hr.u64) wl (XO.sh (n:=0) (Gq (n:=0) (c0:=4) (ns:=[0]) (nd:=[]) (iP:=[]) (za 0 0) T.Net.cl T.Net_into.me e7 (hr.mono (by decide)) T.Net_into.bd .nil (λ_ _=>.nil) (zc (za 1 0) zf))) (XO.sh (n:=0) (uk (k:=0) xt)) (bw _)) (Gg (Wn rfl Ny (Xo (c0:=8) (fn:="going") T.xc_Loose T.xk_Loose T.Loose___init.me.at_ T.Loose___init.me.fn lI (hr.mono (by decide)) T.xm_Loose T.Loose___init.bd (za 1 0)))) (OT ym))) bW.leaving rfl))
def v6:SF:=(sj 4 (i2 λi j=>.int (i-j)) (eC (.int 1)))
def vn:List D->Option D:=mOf ["rows","known","count","lengths","first"]
  (sSeq (sSet 4 (eV 1))
  (sSeq (lX (bAnd (tb (e2 rF (eV 4) (eC (.int 0)))) (tb (e2 (gH false) (λρ=>((aCons (eV 0) (aCons (e2 jE (eV 4) (eC (.int 1))) (aCons (eV 2) aNil))) ρ).bind λds=>ux (ds++[])) (eV 3)))) v6)
  (sRet (eV 4))))
theorem jo (T:Txt K mg a):cp P w K mg base eQ 2 a.f_earliest_round a.d_earliest_round ["rows","known","count","lengths"] (gM K a.ct [0,0,0,0] 0 vn):=by
 have gX:=FO (P:=P) (w:=w) (base:=base) T
 refine iY (ms:=[.ow 0,.ow 0,.ow 0,.ow 0,.ow 0]) T.earliest_round.fn ua λ_ _ _ _ _ _ hr=>?_
 exact(ze (gm ua.nd (XE.ow (za 1 0)))
  (ze (NO (XW.t (Ex (yk (k:=0) Ai Ae (za 4 0) cO (bw _)) (Es (yk (k:=0) (vd hr.u64) wl (XO.sh (n:=0) (cX T.growth gX hr (zc (za 0 0) (zc (yy (k:=0) qc u5 (za 4 0) cO) (zc (za 2 0) zf))))) (za 3 0) (bw _))))) (zg (Pn Pb rfl ua.nd rfl (Or.inl rfl) cO)) bW.never)
  (zg (yb (XE.ow (za 4 0))))))
def v7:SF:=(sSeq (sSet 6 (e2 jE (eV 4) (eV 5)))
  (sSeq (sSet 7 (λρ=>((aCons (eV 3) (aCons (eV 6) (aCons (eV 5) aNil))) ρ).bind λds=>ux (ds++[])))
  (sIf (tb (λρ=>((aCons (eV 0) (aCons (eV 3) (aCons (λρ=>((aCons (eV 5) (aCons (eV 6) (aCons (eV 7) aNil))) ρ).bind λds=>some (.tup ds)) aNil))) ρ).bind λds=>FP (ds++[]))) (sRet (λρ=>((aCons (eV 5) (aCons (λρ=>((aCons (eV 3) (aCons (eV 6) (aCons (eV 5) (aCons (eV 7) aNil)))) ρ).bind λds=>vn (ds++[])) (aCons (eV 7) aNil))) ρ).bind λds=>some (.tup ds))) sSkip)))
def yu:List D->Option D:=mOf ["net","most","was","rows","spare_rounds","count","last","lengths"]
  (sSeq (sDrop (λρ=>((aCons (eV 0) aNil) ρ).bind λds=>ui (ds++[])))
  (sSeq (sSet 3 (λρ=>((aCons (eV 0) (aCons (eV 1) (aCons (eV 2) aNil))) ρ).bind λds=>sU (ds++[.non])))
  (sSeq (sSet 4 (e2 jE (eV 1) (λρ=>((eV 0) ρ).bind λo=>iq 4 "most_behind" yx o [])))
  (sSeq (sFor (λρ=>((aCons (eC (.int 1)) (aCons (e2 dm (eV 4) (eC (.int 1))) aNil)) ρ).bind mJ) (gV 5) v7)
  (sRet (eC .non))))))
theorem MT (T:Txt K mg a):cp P w K mg base eQ 5 a.f_comes_again a.d_comes_again ["net","most","was"] (gM K a.ct [0,0,0] 0 yu):=by
 have iM:=qv (P:=P) (w:=w) (base:=base) T
 have uF:=Ps (P:=P) (w:=w) (base:=base) T
 have ni:=T.run_d1.choose_spec
 have sY:=T.run_d2.choose_spec
 have cy:=wf (P:=P) (w:=w) (base:=base) T
 have gX:=FO (P:=P) (w:=w) (base:=base) T
 have mS:=Nb (P:=P) (w:=w) (base:=base) T
 have gW:=jo (P:=P) (w:=w) (base:=base) T
 refine iY (ms:=[.ow 0,.ow 0,.ow 0,.ow 0,.ow 0,.ow 0,.ow 0,.ow 0]) T.comes_again.fn wg λ_ _ _ _ _ _ hr=>?_
 exact(ze (Yk (XO.sh (n:=0) (cX T.refuse_loose iM hr (zc (za 0 0) zf))))
  (ze (gm wg.nd (Kt (iP:=[.non]) (ns:=[0,0,0]) (nd:=[0]) uF (hr.mono (by decide)) rfl T.run.mgx T.run.fn.kp (ni).2.2 (ni).2.1 (λ_ _=>(.cons (Al.of .non) .nil)) (zc (za 0 0) (zc (za 1 0) (zc (za 2 0) zf)))))
  (ze (gm wg.nd (XE.ow (yy (k:=0) qc u5 (za 1 0) (XO.sh (n:=0) (Ep (n:=0) (c0:=4) (nd:=[]) (iP:=[]) (za 0 0) T.Net.cl T.Net_most_behind.me cy (hr.mono (by decide)) T.Net_most_behind.bd .nil (λ_ _=>.nil))))))
  (ze (ja (J1 (n:=0) T.b_range (zc cO (zc (XO.sh (n:=0) (ky (za 4 0) cO)) zf))) (mq wg.nd) (ze (gm wg.nd (XE.ow (yy (k:=0) qc u5 (za 4 0) (za 5 0))))
  (ze (gm wg.nd (cX T.growth gX hr (zc (za 3 0) (zc (za 6 0) (zc (za 5 0) zf)))))
  (zg (vo (v9 (XO.sh (n:=0) (cX T.goes_on mS hr (zc (za 0 0) (zc (za 3 0) (zc (XO.sh (n:=0) (Ad (zx (XE.ow (za 5 0)) (zx (XE.ow (za 6 0)) (zx (XE.ow (za 7 0)) xt))))) zf)))))) (zg (yb (kU (Ad (zx (XE.ow (za 5 0)) (zx (cX T.earliest_round gW hr (zc (za 3 0) (zc (za 6 0) (zc (za 5 0) (zc (za 7 0) zf))))) (zx (XE.ow (za 7 0)) xt))))))) ym)))) bW.never rfl)
  (zg (yb (XE.ow sv)))))))
def uj:List D->Option nu:=mOfX ["net","most","was","rows","spare_rounds","count","last","lengths"]
  (sSeqX (sDropX (λρ=>((aCons (eV 0) aNil) ρ).bind λds=>vz (ds++[])))
  (xOf jY))
theorem UQ (T:Txt K mg a):cp P w K mg base (tq P w) 5 a.f_comes_again a.d_comes_again ["net","most","was"] (oY K a.ct [0,0,0] 0 uj):=by
 have lc:=UJ (P:=P) (w:=w) (base:=base) T
 have iM:=qv (P:=P) (w:=w) (base:=base) T
 have uF:=Ps (P:=P) (w:=w) (base:=base) T
 have ni:=T.run_d1.choose_spec
 have sY:=T.run_d2.choose_spec
 have cy:=wf (P:=P) (w:=w) (base:=base) T
 have gX:=FO (P:=P) (w:=w) (base:=base) T
 have mS:=Nb (P:=P) (w:=w) (base:=base) T
 have gW:=jo (P:=P) (w:=w) (base:=base) T
 refine uY (ms:=[.ow 0,.ow 0,.ow 0,.ow 0,.ow 0,.ow 0,.ow 0,.ow 0]) T.comes_again.fn wg rfl rfl (by decide) (ug (by decide)) λ_ _ _ _ _ _ hr=>?_
 exact(Wm (N7 (N8 (iP:=[]) (ns:=[0]) (nd:=[]) Ny lc (hr.mono (by decide)) rfl T.refuse_loose.mgx T.refuse_loose.fn.kp T.refuse_loose.bd .nil (λ_ _=>.nil) (zc (za 0 0) zf)))
  (OT We))
def zp:List D->Option D:=mOf ["_law_script","_law_k"]
  (sSeq (sIf (tb (e2 rh (eV 1) (eN ef (aCons (eV 0) aNil)))) (sRet (e2 fJ (eV 0) (eV 1))) sSkip)
  (sRet (eC (.int 0))))
theorem UL (T:Txt K mg a):cp P w K mg base eQ 1 a.f_law_cell_at a.d_law_cell_at ["_law_script","_law_k"] (gM K a.ct [0,0] 0 zp):=by
 refine iY (ms:=[.ow 0,.ow 0]) T.law_cell_at.fn UV λ_ _ _ _ _ _ hr=>?_
 exact(ze (vo (yk (k:=0) vM vL (za 1 0) (mr T.b_len (zc (za 0 0) zf)) (bw _)) (zg (yb (XE.ow (lC (za 0 0) (za 1 0))))) ym)
  (zg (yb (XE.ow cO))))
def um:List D->Option D:=mOf ["_law_cell"]
  (sRet (eB (bAnd (tb (e2 xF (eV 0) (e2 t5 (eC (.int 1)) (eC (.int 90))))) (tb (e2 (gH false) (e2 eI (eV 0) (eC (.int 2))) (eC (.int 1)))))))
theorem MQ (T:Txt K mg a):cp P w K mg base eQ 1 a.f_law_is_row a.d_law_is_row ["_law_cell"] (gM K a.ct [0] 0 um):=by
 refine iY (ms:=[.ow 0]) T.law_is_row.fn U0 λ_ _ _ _ _ _ hr=>?_
 exact(zg (yb (XE.ow (zC (jj (k:=0) KQ KL (za 0 0) (yy (k:=0) Zp XH cO cO) (bw _)) (vK (k:=0) (jj (k:=0) (vd hr.u64) wl (yy (k:=0) xp xu (za 0 0) cO) cO (bw _)))))))
def wj:List D->Option D:=mOf ["_law_cell","_law_k","_law_number"]
  (sSeq (sIf (bAnd (tb (λρ=>((aCons (eV 0) aNil) ρ).bind λds=>um (ds++[]))) (tb (e2 rF (e2 qK (eV 0) (e2 dm (eC (.int 1)) (e2 gN (eC (.int 31)) (eV 1)))) (eC (.int 0))))) (sRet (e2 eI (e2 qK (eV 0) (e2 dm (eC (.int 1)) (e2 gN (eC (.int 31)) (eV 1)))) (eC (.int 2147483648)))) sSkip)
  (sSeq (sSet 2 (e2 eI (e2 gN (e2 dm (e2 dm (eV 0) (e2 gN (eC (.int 7919)) (eV 1))) (eC (.int 1))) (eC (.int 48271))) (eC (.int 2147483647))))
  (sSeq (sSet 2 (e2 eI (e2 gN (eV 2) (e2 dm (e2 gI (eV 2) (eC (.int 1009))) (eC (.int 69621)))) (eC (.int 2147483647))))
  (sRet (e2 eI (e2 gN (eV 2) (e2 dm (e2 dm (e2 gI (eV 2) (eC (.int 2003))) (eC (.int 39373))) (eV 1))) (eC (.int 2147483629)))))))
theorem qw (T:Txt K mg a):cp P w K mg base eQ 2 a.f_law_mixed a.d_law_mixed ["_law_cell","_law_k"] (gM K a.ct [0,0] 0 wj):=by
 have ip:=MQ (P:=P) (w:=w) (base:=base) T
 refine iY (ms:=[.ow 0,.ow 0,.ow 0]) T.law_mixed.fn qo λ_ _ _ _ _ _ hr=>?_
 exact(ze (vo (XW.t (Ex (v9 (XO.sh (n:=0) (cX T.law_is_row ip hr (zc (za 0 0) zf)))) (Es (yk (k:=0) Ai Ae (yy (k:=0) Pe OC (za 0 0) (XO.sh (n:=0) (ky cO (yy (k:=0) jt uu cO (za 1 0))))) cO (bw _))))) (zg (yb (XE.ow (yy (k:=0) xp xu (yy (k:=0) Pe OC (za 0 0) (XO.sh (n:=0) (ky cO (yy (k:=0) jt uu cO (za 1 0))))) cO)))) ym)
  (ze (gm qo.nd (XE.ow (yy (k:=0) xp xu (yy (k:=0) jt uu (XO.sh (n:=0) (ky (XO.sh (n:=0) (ky (za 0 0) (yy (k:=0) jt uu cO (za 1 0)))) cO)) cO) cO)))
  (ze (gm qo.nd (XE.ow (yy (k:=0) xp xu (yy (k:=0) jt uu (za 2 0) (XO.sh (n:=0) (ky (yy (k:=0) vp vq (za 2 0) cO) cO))) cO)))
  (zg (yb (XE.ow (yy (k:=0) xp xu (yy (k:=0) jt uu (za 2 0) (XO.sh (n:=0) (ky (XO.sh (n:=0) (ky (yy (k:=0) vp vq (za 2 0) cO) cO)) (za 1 0)))) cO)))))))
def uo:SF:=(nD 3 4 (e2 eI (λρ=>((aCons (eV 0) (aCons (eV 5) aNil)) ρ).bind λds=>wj (ds++[])) (eN ef (aCons (eV 4) aNil))))
def ue:List D->Option D:=mOf ["_law_turn","_law_many","_law_going","_law_order","_law_left","_law_k"]
  (sSeq (sIf (bNot (tb (λρ=>((aCons (eV 0) aNil) ρ).bind λds=>um (ds++[])))) (sRet (e2 eI (e2 dm (eV 2) (eV 0)) (eV 1))) sSkip)
  (sSeq (sSet 3 (λρ=>(aNil ρ).bind λds=>some (.lst ds)))
  (sSeq (sSet 4 (eN mZ (aCons (eV 1) aNil)))
  (sSeq (sFor (λρ=>((aCons (eV 1) aNil) ρ).bind gk) (gV 5) uo)
  (sRet (e2 rV (eV 3) (eV 2)))))))
theorem Vv (T:Txt K mg a):cp P w K mg base eQ 3 a.f_law_rank a.d_law_rank ["_law_turn","_law_many","_law_going"] (gM K a.ct [0,0,0] 0 ue):=by
 have ip:=MQ (P:=P) (w:=w) (base:=base) T
 have fX:=qw (P:=P) (w:=w) (base:=base) T
 refine iY (ms:=[.ow 0,.ow 0,.ow 0,.ow 1,.ow 1,.ow 0]) T.law_rank.fn jw λ_ _ _ _ _ _ hr=>?_
 exact(ze (vo (j6 (v9 (XO.sh (n:=0) (cX T.law_is_row ip hr (zc (za 0 0) zf))))) (zg (yb (XE.ow (yy (k:=0) xp xu (XO.sh (n:=0) (ky (za 2 0) (za 0 0))) (za 1 0))))) ym)
  (ze (gm jw.nd (uk (k:=0) xt))
  (ze (gm jw.nd (YH rfl rfl T.b_list rfl T.b_range (zc (za 1 0) zf)))
  (ze (ja (xv (n:=0) T.b_range (zc (za 1 0) zf)) (mq jw.nd) (zg (Wl 3 4 rfl rfl (by decide) (yy (k:=0) xp xu (XO.sh (n:=0) (cX T.law_mixed fX hr (zc (za 0 0) (zc (za 5 0) zf)))) (mr T.b_len (zc (za 4 1) zf))))) bW.never rfl)
  (zg (yb (XE.ow (Xh (k:=0) (za 3 1) (za 2 0)))))))))
def wk:List D->Option D:=mOf ["_law_cell","_law_many","_law_turn","_law_k","_law_number","_law_start","_law_goal","_law_behind"]
  (sSeq (sSet 4 (λρ=>((aCons (eV 0) (aCons (eV 3) aNil)) ρ).bind λds=>wj (ds++[])))
  (sSeq (sSet 5 (e2 eI (eV 4) (eV 1)))
  (sSeq (sSet 6 (eV 3))
  (sSeq (sIf (tb (e2 xF (eV 3) (eV 1))) (sSet 6 (e2 eI (e2 gI (eV 4) (eC (.int 8))) (eV 1))) sSkip)
  (sSeq (sSet 7 (e2 eI (e2 gI (eV 4) (eC (.int 64))) (eC (.int 5))))
  (sSeq (sIf (bAnd (tb (e2 (gH false) (eV 7) (eC (.int 0)))) (tb (e2 xF (λρ=>((aCons (eV 2) (aCons (eV 1) (aCons (eV 5) aNil))) ρ).bind λds=>ue (ds++[])) (λρ=>((aCons (eV 2) (aCons (eV 1) (aCons (eV 6) aNil))) ρ).bind λds=>ue (ds++[]))))) (sSet 7 (e2 dm (eC (.int 1)) (e2 eI (e2 gI (eV 4) (eC (.int 320))) (eC (.int 2))))) sSkip)
  (sRet (λρ=>((aCons (eV 5) (aCons (eV 6) (aCons (e2 eI (e2 gI (eV 4) (eC (.int 1000))) (eC (.int 10))) (aCons (eV 7) aNil)))) ρ).bind λds=>some (.tup ds)))))))))
theorem Vo (T:Txt K mg a):cp P w K mg base eQ 4 a.f_law_arrow a.d_law_arrow ["_law_cell","_law_many","_law_turn","_law_k"] (gM K a.ct [0,0,0,0] 0 wk):=by
 have fX:=qw (P:=P) (w:=w) (base:=base) T
 have lK:=Vv (P:=P) (w:=w) (base:=base) T
 refine iY (ms:=[.ow 0,.ow 0,.ow 0,.ow 0,.ow 0,.ow 0,.ow 0,.ow 0]) T.law_arrow.fn w9 λ_ _ _ _ _ _ hr=>?_
 exact(ze (gm w9.nd (cX T.law_mixed fX hr (zc (za 0 0) (zc (za 3 0) zf))))
  (ze (gm w9.nd (XE.ow (yy (k:=0) xp xu (za 4 0) (za 1 0))))
  (ze (gm w9.nd (XE.ow (za 3 0)))
  (ze (vo (yk (k:=0) KQ KL (za 3 0) (za 1 0) (bw _)) (zg (gm w9.nd (XE.ow (yy (k:=0) xp xu (yy (k:=0) vp vq (za 4 0) cO) (za 1 0))))) ym)
  (ze (gm w9.nd (XE.ow (yy (k:=0) xp xu (yy (k:=0) vp vq (za 4 0) cO) cO)))
  (ze (vo (XW.t (Ex (yk (k:=0) (vd hr.u64) wl (za 7 0) cO (bw _)) (Es (yk (k:=0) KQ KL (XO.sh (n:=0) (cX T.law_rank lK hr (zc (za 2 0) (zc (za 1 0) (zc (za 5 0) zf))))) (XO.sh (n:=0) (cX T.law_rank lK hr (zc (za 2 0) (zc (za 1 0) (zc (za 6 0) zf))))) (bw _))))) (zg (gm w9.nd (kU (ky cO (yy (k:=0) xp xu (yy (k:=0) vp vq (za 4 0) cO) cO))))) ym)
  (zg (yb (kU (Ad (zx (XE.ow (za 5 0)) (zx (XE.ow (za 6 0)) (zx (XE.ow (yy (k:=0) xp xu (yy (k:=0) vp vq (za 4 0) cO) cO)) (zx (XE.ow (za 7 0)) xt))))))))))))))
def FU:List D->Option D:=mOf ["_law_arrow_here","_law_kind","_law_start","_law_goal","_law_time","_law_behind"]
  (sSeq (sAsg (gT (gsCons (gV 2) (gsCons (gV 3) (gsCons (gV 4) (gsCons (gV 5) gsNil))))) (eV 0))
  (sSeq (sIf (bAnd (tb (e2 (gH false) (eV 5) (eC (.int 0)))) (tb (e2 (gH false) (e2 eI (eV 1) (eC (.int 2))) (eC (.int 0))))) (sRet (λρ=>((aCons (eV 2) (aCons (eV 3) (aCons (eV 4) aNil))) ρ).bind λds=>jx 1 (ds++[]))) sSkip)
  (sSeq (sIf (bAnd (tb (e2 rF (eV 5) (eC (.int 0)))) (tb (e2 (gH false) (e2 eI (eV 1) (eC (.int 2))) (eC (.int 0))))) (sRet (λρ=>((aCons (eV 2) (aCons (eV 3) (aCons (eV 4) (aCons (eV 5) aNil)))) ρ).bind λds=>jz 3 (ds++[]))) sSkip)
  (sRet (λρ=>((aCons (eV 2) (aCons (eV 3) (aCons (eV 4) (aCons (eV 5) aNil)))) ρ).bind λds=>jy 2 (ds++[]))))))
theorem Vw (T:Txt K mg a):cp P w K mg base eQ 4 a.f_law_made a.d_law_made ["_law_arrow_here","_law_kind"] (gM K a.ct [0,0] 0 FU):=by
 have mC:=UW (P:=P) (w:=w) (base:=base) T
 have mz:=UY (P:=P) (w:=w) (base:=base) T
 have qW:=T.Back___init_d1.choose_spec
 have mD:=UX (P:=P) (w:=w) (base:=base) T
 have qX:=T.Wait___init_d1.choose_spec
 refine iY (ms:=[.ow 0,.ow 0,.ow 0,.ow 0,.ow 0,.ow 0]) T.law_made.fn u6 λ_ _ _ _ _ _ hr=>?_
 exact(ze (ZV (za 0 0) (KJ (n:=0) rfl (ut (mq u6.nd) (ut (mq u6.nd) (ut (mq u6.nd) (ut (mq u6.nd) Ku))))))
  (ze (vo (XW.t (Ex (yk (k:=0) (vd hr.u64) wl (za 5 0) cO (bw _)) (Es (yk (k:=0) (vd hr.u64) wl (yy (k:=0) xp xu (za 1 0) cO) cO (bw _))))) (zg (yb (kU (Gh (c0:=1) (iP:=[]) (ns:=[0,0,0]) (nd:=[]) ⟨T.Ride.mks,T.Ride___init.me.at_,T.Ride___init.me.fn,T.Ride.kp⟩ (by decide) mC (hr.mono (by decide)) rfl T.Ride.mgx T.Ride___init.bd .nil (λ_ _=>.nil) (zc (za 2 0) (zc (za 3 0) (zc (za 4 0) zf))))))) ym)
  (ze (vo (XW.t (Ex (yk (k:=0) Ai Ae (za 5 0) cO (bw _)) (Es (yk (k:=0) (vd hr.u64) wl (yy (k:=0) xp xu (za 1 0) cO) cO (bw _))))) (zg (yb (kU (Gh (c0:=3) (iP:=[]) (ns:=[0,0,0,0]) (nd:=[]) ⟨T.Back.mks,T.Back___init.me.at_,T.Back___init.me.fn,T.Back.kp⟩ (by decide) mz (hr.mono (by decide)) rfl T.Back.mgx T.Back___init.bd .nil (λ_ _=>.nil) (zc (za 2 0) (zc (za 3 0) (zc (za 4 0) (zc (za 5 0) zf)))))))) ym)
  (zg (yb (kU (Gh (c0:=2) (iP:=[]) (ns:=[0,0,0,0]) (nd:=[]) ⟨T.Wait.mks,T.Wait___init.me.at_,T.Wait___init.me.fn,T.Wait.kp⟩ (by decide) mD (hr.mono (by decide)) rfl T.Wait.mgx T.Wait___init.bd .nil (λ_ _=>.nil) (zc (za 2 0) (zc (za 3 0) (zc (za 4 0) (zc (za 5 0) zf)))))))))))
def v8:List D->Option D:=mOf ["_law_net","_law_most","_law_was","_law_told","_law_going","e"]
  (sSeq (sSet 3 (λρ=>(aNil ρ).bind λds=>some (.lst ds)))
  (sSeq (sSet 4 (eC .non))
  (sSeq (sTry (sDropX (λρ=>((aCons (eV 0) (aCons (eV 1) (aCons (eV 2) aNil))) ρ).bind λds=>uj (ds++[]))) (thD (hitL [8] [8]) (some 5) (sSeq (sSet 3 (λρ=>((aCons (e1 (isiX [8] [8]) (eV 5)) (aCons (e1 (isiX [8] [8]) (eV 5)) (aCons (e1 (isiX [8] []) (eV 5)) aNil))) ρ).bind λds=>some (.lst ds)))
  (sSet 4 (e1 (fldX [8] "going") (eV 5)))) (λ_ _ _=>none)))
  (sSeq (sIf (bOr (tb (e2 (gH true) (eV 3) (λρ=>((aCons (eC (.bl true)) (aCons (eC (.bl true)) (aCons (eC (.bl false)) aNil))) ρ).bind λds=>some (.lst ds)))) (tb (e1 (nz "bool") (eV 4)))) (sRet (eC .non)) sSkip)
  (sRet (eV 4))))))
theorem UM (T:Txt K mg a):cp P w K mg base eQ 6 a.f_law_refused a.d_law_refused ["_law_net","_law_most","_law_was"] (gM K a.ct [0,0,0] 0 v8):=by
 have lH:=UQ (P:=P) (w:=w) (base:=base) T
 have ek:=MT (P:=P) (w:=w) (base:=base) T
 have gh:=T.comes_again_d1.choose_spec
 refine iY (ms:=[.ow 0,.ow 0,.ow 0,.ow 0,.ow 0,.ow 0]) T.law_refused.fn wy λ_ _ _ _ _ _ hr=>?_
 exact(ze (gm wy.nd (kU (uk (k:=0) xt)))
  (ze (gm wy.nd (XE.ow sv))
  (ze (Zz (λE af G h1 h2=>(Gg (N7 (N8 (iP:=[]) (ns:=[0,0,0]) (nd:=[]) h2 lH (hr.mono (by decide)) rfl T.comes_again.mgx T.comes_again.fn.kp T.comes_again.bd .nil (λ_ _=>.nil) (zc (za 0 0) (zc (za 1 0) (zc (za 2 0) zf))))))) (Zy (i:=5) wy.nd rfl rfl T.xm_Loose (ZC T.hh_Loose) (λa=>(ze (gm wy.nd (kU (uk (k:=0) (zx (XE.ow (Pq (k:=0) T.isx_0.1 T.isx_0.2 T.b_isinstance T.xm_BeatError (za 5 0))) (zx (XE.ow (YN (k:=0) T.isx_1.1 T.isx_1.2 T.b_isinstance T.b_ValueError (za 5 0))) (zx (XE.ow (Pq (k:=0) T.isx_2.1 T.isx_2.2 T.b_isinstance T.xm_NoFit (za 5 0))) xt))))))
  (zg (gm wy.nd (XE.ow (YM (k:=0) (za 5 0) T.xat_going rfl)))))) YL))
  (ze (vo (XW.t (pV (yk (k:=0) (Eu hr.u64) wl (za 3 0) (XO.sh (n:=0) (uk (k:=0) (zx (XE.ow (qj (n:=0))) (zx (XE.ow (qj (n:=0))) (zx (XE.ow (qj (n:=0))) xt))))) (bw _)) (sR (v9 (Ez (k:=0) (by decide) T.b_isinstance T.b_bool Oy (za 4 0)))))) (zg (yb (XE.ow sv))) ym)
  (zg (yb (XE.ow (za 4 0))))))))
def YO:EF:=(dg (λρ=>((aCons (eV 1) aNil) ρ).bind gk) 1 [] (gV 0) eU (eC (.int 0)))
def OU:EF:=(dg (λρ=>((aCons (eV 7) aNil) ρ).bind gk) 1 [1] (gV 0) eU YO)
def OV:EF:=(dg (lsD (eV 0)) 1 [1] (gV 0) eU (e2 dm (eV 0) (eV 1)))
def OW:EF:=(dg (lsD (eV 9)) 1 [12] (gV 0) eU OV)
def Ky:SF:=(sSeq (sSet 12 (e2 jE (e2 eI (e2 gI (λρ=>((aCons (eV 0) (aCons (eC (.int 1)) aNil)) ρ).bind λds=>zp (ds++[])) (eC (.int 60))) (e2 dm (e2 gN (eC (.int 2)) (e2 sf (eC (.int 10)) (eC (.int 12)))) (eC (.int 1)))) (e2 sf (eC (.int 10)) (eC (.int 12)))))
  (sSeq (sSet 13 OW)
  (sSeq (sSet 14 (λρ=>((aCons (eV 6) (aCons (eV 10) (aCons (eV 9) aNil))) ρ).bind λds=>yu (ds++[])))
  (sSeq (sIf (bOr (tb (e2 (gH true) (λρ=>((aCons (eV 6) (aCons (eV 10) (aCons (eV 13) aNil))) ρ).bind λds=>yu (ds++[])) (eV 14))) (tb (e2 (gH true) (λρ=>((aCons (eV 6) (aCons (eV 10) (aCons (e2 dm (eV 9) (λρ=>((aCons (e2 jX (λρ=>((aCons (e2 eI (e2 gN (eC (.int 7)) (eV 8)) (eC (.int 99))) aNil) ρ).bind λds=>some (.lst ds)) (eV 1)) aNil) ρ).bind λds=>some (.lst ds))) aNil))) ρ).bind λds=>yu (ds++[])) (eV 14)))) (sRet (eC (.bl false))) sSkip)
  (sSeq (sSet 15 OU)
  (sRet (e2 (gH false) (λρ=>((aCons (eV 6) (aCons (eV 10) aNil)) ρ).bind λds=>yu (ds++[.non])) (λρ=>((aCons (eV 6) (aCons (eV 10) (aCons (eV 15) aNil))) ρ).bind λds=>yu (ds++[])))))))))
def OX:EF:=(dg (lsD (eV 1)) 1 [0] (gV 0) (tb (e2 (gH false) (e2 fJ (eV 0) (eC (.int 1))) (eV 1))) (eV 0))
def OY:EF:=(dg (λρ=>((aCons (eV 1) aNil) ρ).bind gk) 1 [4] (gV 0) (tb (e2 (gH false) OX (λρ=>(aNil ρ).bind λds=>some (.lst ds)))) (eV 0))
def OF:EF:=(dg (λρ=>((aCons (eV 1) aNil) ρ).bind gk) 1 [2,0] (gV 0) eU (e2 eI (λρ=>((aCons (eV 1) (aCons (e2 dm (e2 gN (eC (.int 20)) (eV 2)) (eV 0)) aNil)) ρ).bind λds=>wj (ds++[])) (eC (.int 41))))
def OG:EF:=(dg (λρ=>((aCons (eV 7) aNil) ρ).bind gk) 1 [1,8] (gV 0) eU OF)
def OH:EF:=(dg (lsD (eV 4)) 1 [] (gV 0) eU (e2 fJ (eV 0) (eC (.int 3))))
def Oa:EF:=(dg (lsD (eV 4)) 1 [] (gV 0) eU (λρ=>((aCons (eV 0) (aCons (e2 fJ (eV 0) (eC (.int 0))) aNil)) ρ).bind λds=>FU (ds++[])))
def Ob:EF:=(dg (λρ=>((aCons (eV 1) aNil) ρ).bind gk) 1 [] (gV 0) eU (e2 dm (eC (.str "a")) (eN qN (aCons (eV 0) aNil))))
def Gj:SF:=(sSeq (sSet 6 (λρ=>((aCons Ob (aCons Oa aNil)) ρ).bind λds=>jc 4 (ds++[])))
  (sSeq (sSet 7 (eN pv (aCons (e2 dm (λρ=>((aCons (eC (.int 1)) aNil) ρ).bind λds=>some (.lst ds)) OH) aNil)))
  (sSeq (sSet 8 (λρ=>((aCons (eV 0) (aCons (eC (.int 2)) aNil)) ρ).bind λds=>zp (ds++[])))
  (sSeq (sSet 9 OG)
  (sSeq (sSet 10 (e2 dm (eC (.int 1)) (e2 eI (λρ=>((aCons (eV 0) (aCons (eC (.int 1)) aNil)) ρ).bind λds=>zp (ds++[])) (eC (.int 60)))))
  (sSeq (sSet 11 OY)
  (sSeq (sIf (tb (e2 (gH true) (eV 11) (λρ=>(aNil ρ).bind λds=>some (.lst ds)))) (sRet (eB (bAnd (tb (e2 (gH false) (λρ=>((aCons (eV 6) (aCons (eV 10) (aCons (eV 9) aNil))) ρ).bind λds=>v8 (ds++[])) (e2 fJ (eV 11) (eC (.int 0))))) (tb (e2 (gH false) (λρ=>((aCons (eV 6) (aCons (eV 10) (aCons (eC .non) aNil))) ρ).bind λds=>v8 (ds++[])) (e2 fJ (eV 11) (eC (.int 0)))))))) sSkip)
  Ky)))))))
def Oc:EF:=(dg (lsD (eV 4)) 1 [5] (gV 0) (tb (e2 (inD true) (e2 fJ (eV 0) (eC (.int 1))) (eV 1))) (eV 0))
def Od:EF:=(dg (λρ=>((aCons (eV 2) aNil) ρ).bind gk) 1 [0,1,3] (gV 0) eU (λρ=>((aCons (λρ=>((aCons (eV 1) (aCons (e2 dm (eC (.int 4)) (eV 0)) aNil)) ρ).bind λds=>zp (ds++[])) (aCons (eV 2) (aCons (eV 3) (aCons (eV 0) aNil)))) ρ).bind λds=>wk (ds++[])))
def GG:List D->Option D:=mOf ["_law_script","_law_many","_law_total","_law_turn","_law_arrows","_law_out","_law_net","_law_back","_law_cell","_law_was","_law_most","_law_loose","_law_far","_law_put_off","_law_found","_law_zeros"]
  (sSeq (sSet 1 (e2 dm (eC (.int 1)) (e2 eI (λρ=>((aCons (eV 0) (aCons (eC (.int 0)) aNil)) ρ).bind λds=>zp (ds++[])) (eC (.int 6)))))
  (sSeq (sSet 2 (e2 dm (eV 1) (e2 eI (e2 gI (λρ=>((aCons (eV 0) (aCons (eC (.int 0)) aNil)) ρ).bind λds=>zp (ds++[])) (eC (.int 6))) (eC (.int 11)))))
  (sSeq (sSet 3 (e2 gI (λρ=>((aCons (eV 0) (aCons (eC (.int 0)) aNil)) ρ).bind λds=>zp (ds++[])) (eC (.int 66))))
  (sSeq (sSet 4 Od)
  (sSeq (sIf (tb (e2 (gH false) (e2 eI (λρ=>((aCons (eV 0) (aCons (eC (.int 3)) aNil)) ρ).bind λds=>zp (ds++[])) (eC (.int 2))) (eC (.int 1)))) (sSeq (sSet 5 (λρ=>((aCons (e2 eI (e2 gI (λρ=>((aCons (eV 0) (aCons (eC (.int 3)) aNil)) ρ).bind λds=>zp (ds++[])) (eC (.int 2))) (eV 1)) (aCons (e2 eI (e2 gI (λρ=>((aCons (eV 0) (aCons (eC (.int 3)) aNil)) ρ).bind λds=>zp (ds++[])) (eC (.int 12))) (eV 1)) aNil)) ρ).bind λds=>some (.lst ds)))
  (sSet 4 Oc)) sSkip)
  Gj)))))
theorem zsa (T:Txt K mg a):cp P w K mg base eQ 7 a.f_law a.d_law ["_law_script"] (gM K a.ct [0] 0 GG):=by
 have cH:=UL (P:=P) (w:=w) (base:=base) T
 have nV:=Vo (P:=P) (w:=w) (base:=base) T
 have nj:=U2 (P:=P) (w:=w) (base:=base) T
 have oW:=Vw (P:=P) (w:=w) (base:=base) T
 have fX:=qw (P:=P) (w:=w) (base:=base) T
 have jI:=UM (P:=P) (w:=w) (base:=base) T
 have ek:=MT (P:=P) (w:=w) (base:=base) T
 have gh:=T.comes_again_d1.choose_spec
 refine iY (ms:=[.ow 0,.ow 0,.ow 0,.ow 0,.ow 0,.ow 0,.ow 0,.ow 0,.ow 0,.ow 0,.ow 0,.ow 0,.ow 0,.ow 0,.ow 0,.ow 0]) T.law.fn ul λ_ _ _ _ _ _ hr=>?_
 exact(ze (gm ul.nd (kU (ky cO (yy (k:=0) xp xu (XO.sh (n:=0) (cX T.law_cell_at cH hr (zc (za 0 0) (zc cO zf)))) cO))))
  (ze (gm ul.nd (kU (ky (za 1 0) (yy (k:=0) xp xu (yy (k:=0) vp vq (XO.sh (n:=0) (cX T.law_cell_at cH hr (zc (za 0 0) (zc cO zf)))) cO) cO))))
  (ze (gm ul.nd (XE.ow (yy (k:=0) vp vq (XO.sh (n:=0) (cX T.law_cell_at cH hr (zc (za 0 0) (zc cO zf)))) cO)))
  (ze (gm ul.nd (kU (ql (N:=["_law_k","_law_script","_law_many","_law_turn"]) (om:=[.ow 0]) (cap:=[0,1,3]) (own:=1) (XI.cc (xv (n:=0) T.b_range (zc (za 2 0) zf))) (λ_ _ _ _ _=>(kC (show bF (["_law_k","_law_script","_law_many","_law_turn"]:List aJ)from by decide +kernel))) (λ_ _ _ _ _=>wu) (λ_ _ _ _ _=>(cX T.law_arrow nV hr (zc (XO.sh (n:=0) (cX T.law_cell_at cH hr (zc (za 1 0) (zc (XO.sh (n:=0) (ky cO (za 0 0))) zf)))) (zc (za 2 0) (zc (za 3 0) (zc (za 0 0) zf)))))))))
  (ze (vo (yk (k:=0) (vd hr.u64) wl (yy (k:=0) xp xu (XO.sh (n:=0) (cX T.law_cell_at cH hr (zc (za 0 0) (zc cO zf)))) cO) cO (bw _)) (ze (gm ul.nd (kU (uk (k:=0) (zx (XE.ow (yy (k:=0) xp xu (yy (k:=0) vp vq (XO.sh (n:=0) (cX T.law_cell_at cH hr (zc (za 0 0) (zc cO zf)))) cO) (za 1 0))) (zx (XE.ow (yy (k:=0) xp xu (yy (k:=0) vp vq (XO.sh (n:=0) (cX T.law_cell_at cH hr (zc (za 0 0) (zc cO zf)))) cO) (za 1 0))) xt)))))
  (zg (gm ul.nd (kU (ql (N:=["_law_arrow_here","_law_out"]) (om:=[.ow 0]) (cap:=[5]) (own:=1) (vt (n:=0) (za 4 0)) (λ_ _ _ _ _=>(kC (show bF (["_law_arrow_here","_law_out"]:List aJ)from by decide +kernel))) (λ_ _ _ _ _=>(yZ (yk (k:=0) Va ZT (lC (za 0 0) cO) (za 1 0) (by with_unfolding_all rfl)))) (λ_ _ _ _ _=>(XE.ow (za 0 0)))))))) ym)
  (ze (gm ul.nd (kU (Gh (c0:=4) (iP:=[]) (ns:=[0,0]) (nd:=[]) ⟨T.Net.mks,T.Net___init.me.at_,T.Net___init.me.fn,T.Net.kp⟩ (by decide) nj (hr.mono (by decide)) rfl T.Net.mgx T.Net___init.bd .nil (λ_ _=>.nil) (zc (XO.sh (n:=0) (ql (N:=["_law_k"]) (om:=[.ow 0]) (cap:=[]) (own:=1) (XI.cc (xv (n:=0) T.b_range (zc (za 1 0) zf))) (λ_ _ _ _ _=>(kC (show bF (["_law_k"]:List aJ)from by decide +kernel))) (λ_ _ _ _ _=>wu) (λ_ _ _ _ _=>(kU (ky (Ew (n:=0)) (Wd (k:=0) U8 YD rfl T.b_str Pg (zc (za 0 0) zf))))))) (zc (XO.sh (n:=0) (ql (N:=["_law_arrow_here"]) (om:=[.ow 0]) (cap:=[]) (own:=1) (vt (n:=0) (za 4 0)) (λ_ _ _ _ _=>(kC (show bF (["_law_arrow_here"]:List aJ)from by decide +kernel))) (λ_ _ _ _ _=>wu) (λ_ _ _ _ _=>(cX T.law_made oW hr (zc (za 0 0) (zc (lC (za 0 0) cO) zf)))))) zf)))))
  (ze (gm ul.nd (XE.ow (ju (k:=0) (NE rfl) ON rfl T.b_max KF (zc (XO.sh (n:=0) (ky (XO.sh (n:=0) (uk (k:=0) (zx (XE.ow cO) xt))) (XO.sh (n:=0) (ql (N:=["_law_arrow_here"]) (om:=[.ow 0]) (cap:=[]) (own:=1) (vt (n:=0) (za 4 0)) (λ_ _ _ _ _=>(kC (show bF (["_law_arrow_here"]:List aJ)from by decide +kernel))) (λ_ _ _ _ _=>wu) (λ_ _ _ _ _=>(XE.ow (lC (za 0 0) cO))))))) zf))))
  (ze (gm ul.nd (cX T.law_cell_at cH hr (zc (za 0 0) (zc cO zf))))
  (ze (vb (k:=0) (N:=["_law_k","_law_many","_law_cell"]) (om:=[.ow 0]) (cap:=[1,8]) (own:=1) rfl ul.nd rfl (Or.inl rfl) (sS (by rfl)) rfl rfl (by decide) (XI.cc (xv (n:=0) T.b_range (zc (za 7 0) zf))) (λ_ _ _ _ _=>(kC (show bF (["_law_k","_law_many","_law_cell"]:List aJ)from by decide +kernel))) (λ_ _ _ _ _=>wu) (λ_ _ _ _ _=>(kU (ql (N:=["_law_going","_law_cell","_law_k"]) (om:=[.ow 0]) (cap:=[2,0]) (own:=1) (XI.cc (xv (n:=0) T.b_range (zc (za 1 0) zf))) (λ_ _ _ _ _=>(kC (show bF (["_law_going","_law_cell","_law_k"]:List aJ)from by decide +kernel))) (λ_ _ _ _ _=>wu) (λ_ _ _ _ _=>(XE.ow (yy (k:=0) xp xu (XO.sh (n:=0) (cX T.law_mixed fX hr (zc (za 1 0) (zc (XO.sh (n:=0) (ky (yy (k:=0) jt uu cO (za 2 0)) (za 0 0))) zf)))) cO)))))))
  (ze (gm ul.nd (kU (ky cO (yy (k:=0) xp xu (XO.sh (n:=0) (cX T.law_cell_at cH hr (zc (za 0 0) (zc cO zf)))) cO))))
  (ze (vb (k:=0) (N:=["_law_going","_law_arrows"]) (om:=[.ow 0]) (cap:=[4]) (own:=1) rfl ul.nd rfl (Or.inl rfl) (sS (by rfl)) rfl rfl (by decide) (XI.cc (xv (n:=0) T.b_range (zc (za 1 0) zf))) (λ_ _ _ _ _=>(kC (show bF (["_law_going","_law_arrows"]:List aJ)from by decide +kernel))) (λ_ _ _ _ _=>(yZ (yk (k:=0) (vd hr.u64) wl (XO.sh (n:=0) (ql (N:=["_law_arrow_here","_law_going"]) (om:=[.ow 0]) (cap:=[0]) (own:=1) (vt (n:=0) (za 1 0)) (λ_ _ _ _ _=>(kC (show bF (["_law_arrow_here","_law_going"]:List aJ)from by decide +kernel))) (λ_ _ _ _ _=>(yZ (yk (k:=0) (vd hr.u64) wl (lC (za 0 0) cO) (za 1 0) (bw _)))) (λ_ _ _ _ _=>(XE.ow (za 0 0))))) (XO.sh (n:=0) (uk (k:=0) xt)) (bw _)))) (λ_ _ _ _ _=>(XE.ow (za 0 0))))
  (ze (vo (yk (k:=0) (Eu hr.u64) wl (za 11 0) (XO.sh (n:=0) (uk (k:=0) xt)) (bw _)) (zg (yb (XE.ow (zC (jj (k:=0) (vd hr.u64) wl (XO.sh (n:=0) (cX T.law_refused jI hr (zc (za 6 0) (zc (za 10 0) (zc (za 9 0) zf))))) (lC (za 11 0) cO) (bw _)) (vK (k:=0) (jj (k:=0) (vd hr.u64) wl (XO.sh (n:=0) (cX T.law_refused jI hr (zc (za 6 0) (zc (za 10 0) (zc sv zf))))) (lC (za 11 0) cO) (bw _))))))) ym)
  (ze (gm ul.nd (XE.ow (yy (k:=0) qc u5 (yy (k:=0) xp xu (yy (k:=0) vp vq (XO.sh (n:=0) (cX T.law_cell_at cH hr (zc (za 0 0) (zc cO zf)))) cO) (XO.sh (n:=0) (ky (yy (k:=0) jt uu cO (yy (k:=0) Pd OB cO cO)) cO))) (yy (k:=0) Pd OB cO cO))))
  (ze (vb (k:=0) (N:=["_law_row","_law_far"]) (om:=[.ow 0]) (cap:=[12]) (own:=1) rfl ul.nd rfl (Or.inl rfl) (sS (by rfl)) rfl rfl (by decide) (vt (n:=0) (za 9 0)) (λ_ _ _ _ _=>(kC (show bF (["_law_row","_law_far"]:List aJ)from by decide +kernel))) (λ_ _ _ _ _=>wu) (λ_ _ _ _ _=>(kU (ql (N:=["_law_time","_law_far"]) (om:=[.ow 0]) (cap:=[1]) (own:=1) (vt (n:=0) (za 0 0)) (λ_ _ _ _ _=>(kC (show bF (["_law_time","_law_far"]:List aJ)from by decide +kernel))) (λ_ _ _ _ _=>wu) (λ_ _ _ _ _=>(kU (ky (za 0 0) (za 1 0))))))))
  (ze (gm ul.nd (cX T.comes_again ek hr (zc (za 6 0) (zc (za 10 0) (zc (za 9 0) zf)))))
  (ze (vo (XW.t (pV (yk (k:=0) (Eu hr.u64) wl (XO.sh (n:=0) (cX T.comes_again ek hr (zc (za 6 0) (zc (za 10 0) (zc (za 13 0) zf))))) (za 14 0) (bw _)) (sR (yk (k:=0) (Eu hr.u64) wl (XO.sh (n:=0) (cX T.comes_again ek hr (zc (za 6 0) (zc (za 10 0) (zc (XO.sh (n:=0) (ky (za 9 0) (XO.sh (n:=0) (uk (k:=0) (zx (kU (Gw (uk (k:=0) (zx (XE.ow (yy (k:=0) xp xu (yy (k:=0) jt uu cO (za 8 0)) cO)) xt)) (za 1 0))) xt))))) zf))))) (za 14 0) (bw _))))) (zg (yb (XE.ow (qj (n:=0))))) ym)
  (ze (vb (k:=0) (N:=["_law_k","_law_many"]) (om:=[.ow 0]) (cap:=[1]) (own:=1) rfl ul.nd rfl (Or.inl rfl) (sS (by rfl)) rfl rfl (by decide) (XI.cc (xv (n:=0) T.b_range (zc (za 7 0) zf))) (λ_ _ _ _ _=>(kC (show bF (["_law_k","_law_many"]:List aJ)from by decide +kernel))) (λ_ _ _ _ _=>wu) (λ_ _ _ _ _=>(kU (ql (N:=["_law_going"]) (om:=[.ow 0]) (cap:=[]) (own:=1) (XI.cc (xv (n:=0) T.b_range (zc (za 1 0) zf))) (λ_ _ _ _ _=>(kC (show bF (["_law_going"]:List aJ)from by decide +kernel))) (λ_ _ _ _ _=>wu) (λ_ _ _ _ _=>(XE.ow cO))))))
  (zg (yb (XE.ow (jj (k:=0) (vd hr.u64) wl (XO.sh (n:=0) (Kt (iP:=[.non]) (ns:=[0,0]) (nd:=[0]) ek (hr.mono (by decide)) rfl T.comes_again.mgx T.comes_again.fn.kp (gh).2.2 (gh).2.1 (λ_ _=>(.cons (Al.of .non) .nil)) (zc (za 6 0) (zc (za 10 0) zf)))) (XO.sh (n:=0) (cX T.comes_again ek hr (zc (za 6 0) (zc (za 10 0) (zc (za 15 0) zf))))) (bw _))))))))))))))))))))))
end
local macro_rules| `(tactic|walk_at "mir")=>`(tactic|simp -implicitDefEqProofs [mOf,startD,sSeq,sIf,sSet,sRet,sRetN,sDrop,sPar,sAsg,sApp,sFor,lsD,zkd,sSkip,eV,eC,e1,e2,eN,aNil,aCons,pNo,pInt,u4,tb,zkc,bNot,bAnd,bOr,eB,eIf,gV,gT,gsCons,gsNil,zhc,zhd,zj7,zj8,zj9,zka,jb,zhf,zhe,zhg,zkb,znv,D.isN,D.isB,zci,znw,zfb,uv,zbq,zj6,zha,zhb,zdz,u4,zfc,zfd,sFz,zhk,zhl, *])
local macro_rules| `(tactic|walk_at "mix")=>`(tactic|simp -implicitDefEqProofs [mOfX,sSeqX,sDropX,sForX,sIfX,sRaise,sTry,thD,hitL,isiX,fldX,xOf,sRetX,sSetX,mOf,startD,sSeq,sIf,sSet,sRet,sRetN,sDrop,sPar,sAsg,sApp,sFor,lsD,zkd,sSkip,eV,eC,e1,e2,eN,aNil,aCons,pNo,pInt,u4,tb,zkc,bNot,bAnd,bOr,eB,eIf,gV,gT,gsCons,gsNil,zhc,zhd,zj7,zj8,zj9,zka,jb,zhf,zhe,zhg,zkb,znv,D.isN,D.isB,zci,znw,zfb,uv,zbq,zj6,zha,zhb,zdz,u4,zfc,zfd,sFz,zhk,zhl, *])
def cL (n:Nat)(f:Nat->Int):List D:=(av n).map λg=>D.int (f g)
theorem OI (n:Nat)(f:Nat->Int):(cL n f).length=n:=by simp[cL]
theorem Gz {n:Nat}(f:Nat->Int){g:Nat}(h:g<n):atI (cL n f) (g:Int)=some (.int (f g)):=by
 refine qd ?_
 simp[cL,h]
theorem YQ {n:Nat}(f:Nat->Int){g:Nat}(h:g<n)(v:Int):lY (cL n f) (g:Int) (.int v)=some (cL n λx=>if x=g then v else f x):=by
 unfold lY
 have hx:ixN (cL n f).length (g:Int)=some g:=by
  unfold ixN
  rw[OI]
  rw[if_pos (by omega),if_pos (by omega)]
  simp
 rw[hx]
 simp only[bj,Option.some.injEq]
 apply fW
 ·simp[cL]
 ·intro i h1 h2
  simp[cL,kZ]
  by_cases hi:g=i
  ·subst hi;simp
  ·rw[if_neg hi,if_neg (λz=>hi z.symm)]
theorem OJ {i:Nat}{fj f:EF}{gi:Int->Int->Int}{ρ:L3.Env}{n g:Nat}{w:Nat->Int}{y:Int}(h1:(ρ[i]?).join=some (.lst (cL n w)))(h2:fj ρ=some (.int (g:Int)))(h3:f ρ=some (.int y))(hg:g<n) :
  oh i fj gi f ρ=some (.nx (ρ.set i (some (.lst (cL n λx=>if x=g then gi (w g) y else w x))))):=by
 unfold oh
 have:eV i ρ=some (.lst (cL n w)):=h1
 rw[this,h2,h3]
 simp only[bj,Gz w hg,YQ w hg]
def bp (p:List Nat):List D:=p.map λ(x:Nat)=>D.int (x:Int)
theorem sT {f:EF}{r:L3.Env}{n:Nat}(h:f r=some (.int (n:Int)))(hn:n<=1000000):((aCons f aNil) r).bind gk=some ((av n).map λ(t:Nat)=>D.int (t:Int)):=by
 have e:(aCons f aNil) r=some [.int (n:Int)]:=by unfold aCons;rw[h];rfl
 rw[e,bj,q0 (by omega) (by omega)]
 unfold fu
 simp
theorem qx {α:Type}{fi:L3.Env->Option (List D)}{own:Nat}{cap:List Nat}{g:D->L3.Env->Option L3.Env}{p:BF}{f:EF}{r:L3.Env}(enc:α->D)(q:α->Bool)(h:α->D)(xs:List α)(hi:fi r=some (xs.map enc))(hl:xs.length<=16777216)
  (st:∀x∈xs,∃ρ1,g (enc x) (aD own none++cI r cap)=some ρ1/\p ρ1=some (q x)/\(q x=true->f ρ1=some (h x))):dg fi own cap g p f r=some (.lst ((xs.filter q).map h)):=by
 unfold dg
 rw[hi]
 simp only[bj,bi]
 rw[if_pos hl,ND enc q h xs st]
 rfl
theorem OK {n i:Nat}(h:i<n):ixN n (i:Int)=some i:=by
 unfold ixN
 rw[if_pos (by omega),if_pos (by omega)]
 simp
theorem xx {α:Type}{fi:L3.Env->Option (List D)}{own:Nat}{cap:List Nat}{g:D->L3.Env->Option L3.Env}{f:EF}{r:L3.Env}(enc:α->D)(h:α->D)(xs:List α)(hi:fi r=some (xs.map enc))(hl:xs.length<=16777216)
  (st:∀x∈xs,∃ρ1,g (enc x) (aD own none++cI r cap)=some ρ1/\f ρ1=some (h x)):dg fi own cap g eU f r=some (.lst (xs.map h)):=by
 have:=qx (p:=eU) enc (λ_=>true) h xs hi hl λx hx=>by
  obtain⟨ρ1,h1,h2⟩:=st x hx
  exact⟨ρ1,h1,rfl,λ_=>h2⟩
 rw[this,List.filter_eq_self.mpr λ_ _=>rfl]
theorem Oe {α:Type}(enc:α->D):∀(as:List α) (k:Nat),fI k (as.map enc)=(as.zipIdx k).map λ(p:α×Nat)=>D.tup [.int (p.2:Int),enc p.1]
 |[],_=>rfl
 |a::as,k=>by
  show _::fI (k+1) (as.map enc)=_::_
  rw[Oe enc as (k+1)]
theorem O2 {α:Type}{as:List α}{p:α×Nat}(h:p∈as.zipIdx):as[p.2]?=some p.1:=el.mp h
theorem JY {α:Type}(q:α->Bool):∀(as:List α) (k:Nat),((as.zipIdx k).filter λp=>q p.1).map (·.1)=as.filter q
 |[],_=>rfl
 |a::as,k=>by
  rw[List.zipIdx_cons,rj,rj]
  cases h:q a<;>simp[h,JY q as (k+1)]
inductive Kd where
 |ride|wait|back
deriving DecidableEq
structure cw where
 c:Kd
 s:Nat
 g:Nat
 t:Int
 b:Nat
deriving DecidableEq
namespace Kahn
def cnt (W:List cw)(P:List Nat)(g:Nat):Nat:=W.countP λa=>decide (a.g=g/\a.s∉P)
structure Ok (W:List cw)(many:Nat)(p:List Nat):Prop where
 nd:p.Nodup
 lt:∀x∈p,x<many
 ord:∀(i x:Nat),p[i]?=some x->∀a∈W,a.g=x->a.s∈p.take i
theorem Ok.snoc {W:List cw}{many:Nat}{p:List Nat}{x:Nat}(h:Ok W many p)(hx:x∉p)(hl:x<many)(ho:∀a∈W,a.g=x->a.s∈p):Ok W many (p++[x]) where
 nd:=by
  rw[bo]
  exact⟨h.nd,by simp,λa ha b hb e=>by simp at hb;subst hb;subst e;exact hx ha⟩
 lt:=λy hy=>by
  rcases bC.mp hy with hy|hy
  ·exact h.lt y hy
  ·simp at hy;subst hy;exact hl
 ord:=λi y hy a ha e=>by
  by_cases hi:i<p.length
  ·rw[cx hi]at hy
   rw[gd (by omega)]
   exact h.ord i y hy a ha e
  ·rw[eK (by omega)]at hy
   have ID:i-p.length=0:=by
    cases hq:i-p.length with
    |zero=>rfl
    |succ k=>rw[hq]at hy;simp at hy
   rw[ID]at hy
   simp at hy
   subst hy
   have:i=p.length:=by omega
   rw[this,sy]
   ·exact ho a ha e
   ·rfl
def stp (here:Nat)(S:(Nat->Int)×List Nat)(a:cw):(Nat->Int)×List Nat :=
 if a.s=here then
  let f':Nat->Int:=λx=>if x=a.g then S.1 a.g-1 else S.1 x
  (f',if f' a.g=0 then S.2++[a.g]else S.2)
 else S
structure In (W:List cw)(many:Nat)(P:List Nat)(here:Nat)(pre:List cw)(S:(Nat->Int)×List Nat):Prop where
 ok:Ok W many S.2
 f:∀g,S.1 g=(cnt W P g:Int)-(pre.countP λa=>decide (a.g=g/\a.s=here):Nat)
 z:∀g,g<many->(g∈S.2↔S.1 g=0)
 sub:∀x,(x∈P\/x=here)->x∈S.2
theorem zsb {W pre post:List cw}{P:List Nat}{here:Nat}{a:cw}(e:W=pre++a::post)(hP:here∉P)(ha:a.s=here):(pre.countP λx=>decide (x.g=a.g/\x.s=here))+1<=cnt W P a.g:=by
 unfold cnt
 rw[e,gL,fV]
 have h1:(pre.countP λx=>decide (x.g=a.g/\x.s=here))<=pre.countP λx=>decide (x.g=a.g/\x.s∉P):=by
  apply List.countP_mono_left
  intro x _ hx
  simp at hx ⊢
  exact⟨hx.1,by rw[hx.2];exact hP⟩
 have h2:(decide (a.g=a.g/\a.s∉P))=true:=by simp[ha,hP]
 rw[h2]
 simp only[if_true]
 omega
theorem In.step {W pre post:List cw}{many:Nat}{P:List Nat}{here:Nat}{a:cw}{S:(Nat->Int)×List Nat}(h:In W many P here pre S)(e:W=pre++a::post)(hP:here∉P)(hl:a.g<many):In W many P here (pre++[a]) (stp here S a):=by
 by_cases ha:a.s=here
 ·have Rq:=zsb e hP ha
  have hf:∀g,(if g=a.g then S.1 a.g-1 else S.1 g)=(cnt W P g:Int)-((pre++[a]).countP λx=>decide (x.g=g/\x.s=here):Nat):=λg=>by
   rw[gL,oj]
   by_cases hg:g=a.g
   ·subst hg
    rw[if_pos rfl,h.f]
    have:decide (a.g=a.g/\a.s=here)=true:=by simp[ha]
    rw[this]
    simp only[if_true]
    omega
   ·rw[if_neg hg,h.f]
    have:decide (a.g=g/\a.s=here)=false:=by simp;intro z;exact absurd z.symm hg
    rw[this]
    simp
  have kB:S.1 a.g≠0:=by rw[h.f];omega
  have Ck:a.g∉S.2:=λz=>kB ((h.z a.g hl).mp z)
  by_cases h0:S.1 a.g-1=0
  ·have es:stp here S a=(λx=>if x=a.g then S.1 a.g-1 else S.1 x,S.2++[a.g]):=by unfold stp;simp[ha,h0]
   rw[es]
   refine⟨h.ok.snoc Ck hl λb hb eb=>?_,hf,λg hg=>?_,λx hx=>bq _ (h.sub x hx)⟩
   ·
    refine h.sub _ (Classical.byContradiction λhc=>?_)
    have xL:b.s∉P:=λz=>hc (.inl z)
    have uO:b.s≠here:=λz=>hc (.inr z)
    have h1:cnt W P a.g=(pre.countP λx=>decide (x.g=a.g/\x.s=here))+1:=by
     have:=h.f a.g
     omega
    have h2:(W.countP λx=>decide (x.g=a.g/\x.s=here))+(W.countP λx=>decide (x.g=a.g/\x.s∉P/\x.s≠here))<=cnt W P a.g:=by
     have:cnt W P a.g=(W.countP λx=>decide (x.g=a.g/\x.s=here))+(W.countP λx=>decide (x.g=a.g/\x.s∉P/\x.s≠here)):=by
      unfold cnt
      clear h1 hc xL uO eb hb h0 hf Rq e h
      induction W with
      |nil=>rfl
      |cons x W ih=>
       simp only[fV]
       rw[ih]
       by_cases q1:x.g=a.g<;>by_cases q2:x.s=here<;>by_cases q3:x.s∈P<;>simp_all<;>omega
     omega
    have h3:(pre.countP λx=>decide (x.g=a.g/\x.s=here))+1<=W.countP λx=>decide (x.g=a.g/\x.s=here):=by
     rw[e,gL,fV]
     have:decide (a.g=a.g/\a.s=here)=true:=by simp[ha]
     rw[this]
     simp only[if_true]
     omega
    have h4:0<W.countP λx=>decide (x.g=a.g/\x.s∉P/\x.s≠here):=by
     rw[List.countP_pos_iff]
     exact⟨b,hb,by simp[eb,xL,uO]⟩
    omega
   ·rw[bC,aW]
    by_cases nJ:g=a.g
    ·subst nJ;simp[h0]
    ·dsimp only;rw[if_neg nJ,h.z g hg];simp[nJ]
  ·have es:stp here S a=(λx=>if x=a.g then S.1 a.g-1 else S.1 x,S.2):=by unfold stp;simp[ha,h0]
   rw[es]
   refine⟨h.ok,hf,λg hg=>?_,h.sub⟩
   by_cases nJ:g=a.g
   ·subst nJ
    dsimp only
    rw[if_pos rfl]
    exact⟨λz=>absurd z Ck,λz=>absurd z h0⟩
   ·dsimp only;rw[if_neg nJ];exact h.z g hg
 ·have:stp here S a=S:=by unfold stp;rw[if_neg ha]
  rw[this]
  refine⟨h.ok,λg=>?_,h.z,h.sub⟩
  rw[gL,oj]
  have:decide (a.g=g/\a.s=here)=false:=by simp[ha]
  rw[this,h.f]
  simp
theorem In.fold {W:List cw}{many:Nat}{P:List Nat}{here:Nat}(hP:here∉P)(hl:∀a∈W,a.g<many):∀(post pre:List cw) (S:(Nat->Int)×List Nat),W=pre++post->In W many P here pre S->In W many P here W (post.foldl (stp here) S)
 |[],pre,S,e,h=>by rw[e] ;simpa using(by rw[bQ]at e;subst e;exact h)
 |a::post,pre,S,e,h=>by
  have:=In.fold hP hl post (pre++[a]) (stp here S a) (by rw[e];simp) (h.step e hP (hl a (by rw[e];simp)))
  exact this
theorem Xt {W:List cw}{P:List Nat}{here g:Nat}(hP:here∉P):(cnt W P g:Int)-(W.countP λa=>decide (a.g=g/\a.s=here):Nat)=cnt W (P++[here]) g:=by
 have:cnt W P g=(W.countP λa=>decide (a.g=g/\a.s=here))+cnt W (P++[here]) g:=by
  unfold cnt
  induction W with
  |nil=>rfl
  |cons x W ih=>
   simp only[fV]
   rw[ih]
   by_cases q1:x.g=g<;>by_cases q2:x.s=here<;>by_cases q3:x.s∈P<;>simp_all<;>omega
 omega
structure Wh (W:List cw)(many:Nat)(f:Nat->Int)(p:List Nat)(d:Nat):Prop where
 ok:Ok W many p
 dl:d<=p.length
 fe:∀g,f g=cnt W (p.take d) g
 z:∀g,g<many->(g∈p↔f g=0)
theorem Wh.step {W:List cw}{many:Nat}{f:Nat->Int}{p:List Nat}{d here:Nat}(h:Wh W many f p d)(hl:∀a∈W,a.g<many)(hh:p[d]?=some here) :
  Wh W many (W.foldl (stp here) (f,p)).1 (W.foldl (stp here) (f,p)).2 (d+1)/\∃q,(W.foldl (stp here) (f,p)).2=p++q:=by
 have hd:d<p.length:=(aT.mp hh).1
 have hP:here∉p.take d:=λz=>by
  obtain⟨i,hi,e⟩:=cD.mp z
  have ID:i<d:=by rw[ij]at hi;omega
  rw[qP]at e
  have e2:p[d]=here:=by have:=aT.mp hh;exact this.2
  have:=(kY (xs:=p) (h₀:=by omega) (h₁:=hd) h.ok.nd).mp (e.trans e2.symm)
  omega
 have Iq:∀(l:List cw) (S:(Nat->Int)×List Nat),∃q,(l.foldl (stp here) S).2=S.2++q:=by
  intro l
  induction l with
  |nil=>exactλS=>⟨[],by simp⟩
  |cons a l ih=>
   intro S
   obtain⟨q,hq⟩:=ih (stp here S a)
   have:∃r,(stp here S a).2=S.2++r:=by
    by_cases ha:a.s=here
    ·by_cases h0:S.1 a.g-1=0
     ·exact⟨[a.g],by unfold stp;simp[ha,h0]⟩
     ·exact⟨[],by unfold stp;simp[ha,h0]⟩
    ·exact⟨[],by unfold stp;simp[ha]⟩
   obtain⟨r,hr⟩:=this
   exact⟨r++q,by rw[dH,hq,hr,fD]⟩
 obtain⟨q,hq⟩:=Iq W (f,p)
 have I:=In.fold hP hl W [] (f,p) rfl ⟨h.ok,λg=>by show f g=_;rw[h.fe];simp,h.z,λx hx=>by
  rcases hx with hx|rfl
  ·exact i6 hx
  ·exact dw.mpr ⟨d,hh⟩⟩
 have Cp:(W.foldl (stp here) (f,p)).2.take (d+1)=p.take d++[here]:=by
  rw[hq]
  show(p++q).take (d+1)=_
  rw[gd (by omega),List.take_succ,hh]
  rfl
 refine⟨⟨I.ok,?_,λg=>?_,I.z⟩,q,hq⟩
 ·rw[hq]
  show d+1<=(p++q).length
  rw[bA];omega
 ·rw[I.f,Cp]
  exact Xt hP
theorem cnt_zero {W:List cw}{P:List Nat}{g:Nat}:cnt W P g=0↔∀a∈W,a.g=g->a.s∈P:=by
 unfold cnt
 rw[List.countP_eq_zero]
 constructor
 ·intro h a ha e
  have:=h a ha
  simp at this
  exact Classical.byContradiction λz=>z (this e)
 ·intro h a ha
  simp
  exact h a ha
theorem Wh.all {W:List cw}{many:Nat}{f:Nat->Int}{p:List Nat}(h:Wh W many f p p.length)(rank:Nat->Nat)(hr:∀a∈W,rank a.s<rank a.g)(hs:∀a∈W,a.s<many):∀g,g<many->g∈p:=by
 have:∀n g,rank g<n->g<many->g∈p:=by
  intro n
  induction n with
  |zero=>intro g h;omega
  |succ n ih=>
   intro g hg hl
   rw[h.z g hl,h.fe,List.take_length]
   have:cnt W p g=0:=cnt_zero.mpr λa ha e=>ih a.s (by have:=hr a ha;rw[e]at this;omega) (hs a ha)
   rw[this];rfl
 exactλg hl=>this (rank g+1) g (by omega) hl
theorem len_of {many:Nat}{p:List Nat}(nd:p.Nodup)(lt:∀x∈p,x<many)(all:∀g,g<many->g∈p):p.length=many:=by
 have h1:p.Perm (av many):=by
  rw[mw nd ik]
  intro a
  rw[aP]
  exact⟨lt a,all a⟩
 simpa using h1.length_eq
theorem len_le {many:Nat}{p:List Nat}(nd:p.Nodup)(lt:∀x∈p,x<many):p.length<=many:=by
 have h1:(p++(av many).filter λx=>decide (x∉p)).Perm (av many):=by
  rw[mw (by
   rw[bo]
   refine⟨nd,ik.filter _,λa ha b hb e=>?_⟩
   subst e
   simp at hb
   exact hb.2 ha) ik]
  intro a
  rw[bC,aM,aP]
  constructor
  ·rintro(h|h)
   ·exact lt a h
   ·exact h.1
  ·intro h
   by_cases ha:a∈p
   ·exact .inl ha
   ·exact .inr ⟨h,by simpa using ha⟩
 have:=h1.length_eq
 rw[bA,aU]at this
 omega
end Kahn
def Kd.n:Kd->Nat
 |.ride=>1|.wait=>2|.back=>3
def bE (a:cw):D:=.obj a.c.n ["start","goal","time","behind"] [.int a.s,.int a.g,.int a.t,.int a.b]
theorem fs (a:cw):dc [0,1,2,3] "start" (bE a)=some (.int a.s):=by obtain⟨c,_,_,_,_⟩:=a;cases c<;>rfl
theorem fg (a:cw):dc [0,1,2,3] "goal" (bE a)=some (.int a.g):=by obtain⟨c,_,_,_,_⟩:=a;cases c<;>rfl
theorem ft (a:cw):dc [0,1,2,3] "time" (bE a)=some (.int a.t):=by obtain⟨c,_,_,_,_⟩:=a;cases c<;>rfl
theorem fb (a:cw):dc [0,1,2,3] "behind" (bE a)=some (.int a.b):=by obtain⟨c,_,_,_,_⟩:=a;cases c<;>rfl
structure Right (many:Nat)(a:cw):Prop where
 s:a.s<many
 g:a.g<many
 t0:0<=a.t
 t1:a.t<=1000000000
 b:a.b<=4
 r:a.c=.ride->a.b=0
 k:a.c=.back->1<=a.b
theorem zZ {n l m:Int}(h1:l<=n)(h2:n<=m):yj [.int n,.int l,.int m]=some (.bl true):=by
 unfold yj
 have q1 (i:Int):nz "int" (.int i)=some (.bl true):=rfl
 have q2 (i:Int):nz "bool" (.int i)=some (.bl false):=rfl
 walk_at "mir"
theorem isA (all sub:List Nat)(a:cw):rW all sub (bE a)=if all.contains a.c.n=true then some (.bl (sub.contains a.c.n))else none:=rfl
theorem YR {many:Nat}{a:cw}(h:Right many a):FR [bE a,.int (many:Int)]=some (.bl true):=by
 have w1:yj [.int (a.s:Int),.int 0,.int ((many:Int)-1)]=some (.bl true):=zZ (by omega) (by have:=h.s;omega)
 have w2:yj [.int (a.g:Int),.int 0,.int ((many:Int)-1)]=some (.bl true):=zZ (by omega) (by have:=h.g;omega)
 have w3:yj [.int a.t,.int 0,.int 1000000000]=some (.bl true):=zZ h.t0 h.t1
 have f1:=fs a
 have f2:=fg a
 have f3:=ft a
 have f4:=fb a
 have hi:=λall sub=>isA all sub a
 have hb:=h.b
 have hr:=h.r
 have hk:=h.k
 clear h
 unfold FR
 cases hc:a.c with
 |ride=>
  have w4:yj [.int (a.b:Int),.int 0,.int 0]=some (.bl true):=zZ (by omega) (by have:=hr hc;omega)
  rw[hc]at hi
  clear hr hk hb
  have hn:Kd.ride.n=1:=rfl
  walk_at "mir"
 |wait=>
  have w4:yj [.int (a.b:Int),.int 0,.int 4]=some (.bl true):=zZ (by omega) (by omega)
  rw[hc]at hi
  clear hr hk hb
  have hn:Kd.wait.n=2:=rfl
  walk_at "mir"
 |back=>
  have w4:yj [.int (a.b:Int),.int 1,.int 4]=some (.bl true):=zZ (by have:=hk hc;omega) (by omega)
  rw[hc]at hi
  clear hr hk hb
  have hn:Kd.back.n=3:=rfl
  walk_at "mir"
def W0 (as:List cw):List cw:=as.filter λa=>decide (a.b=0)
theorem U5 (as:List cw)(l:as.length<=16777216)(r:L3.Env)(h:r[1]?.join=some (.lst (as.map bE))) :
  jm r=some (.lst ((W0 as).map bE)):=by
 have e:lsD (eV 1) r=some (as.map bE):=by unfold lsD;have:eV 1 r=some (.lst (as.map bE)):=h;rw[this];rfl
 refine qx bE (λa=>decide (a.b=0)) bE as e l λa _=>⟨_,rfl,?_,λ_=>rfl⟩
 have:=fb a
 walk_at "mir"
def A9 (s:(Nat->Int)×Option D)(a:cw):(Nat->Int)×Option D:=(λx=>if x=a.g then s.1 a.g+1 else s.1 x,some (bE a))
theorem Of:∀(W:List cw) (s:(Nat->Int)×Option D) (g:Nat),(W.foldl A9 s).1 g=s.1 g+(W.countP λa=>decide (a.g=g):Nat)
 |[],s,g=>by simp
 |a::W,s,g=>by
  rw[dH,Of W,fV]
  by_cases hg:g=a.g
  ·subst hg;simp[A9];omega
  ·have:decide (a.g=g)=false:=by simp;exactλz=>hg z.symm
   simp[A9,hg,this]
theorem Kj (p:List Nat)(x:Nat):bp p++[D.int (x:Int)]=bp (p++[x]):=by simp[bp]
theorem YS {many:Nat}{as:List cw}{f:Nat->Int}{p:List Nat}{here d:Nat}{x4:Option D}(hm:many<=1000)(hW:∀a∈W0 as,a.s<many/\a.g<many)(h:Kahn.Wh (W0 as) many f p d)(hh:p[d]?=some here) :
  ∃x,fk (gV 4) wm ((W0 as).map bE) [some (.int (many:Int)),some (.lst (as.map bE)),some (.lst ((W0 as).map bE)),some (.lst (cL many f)),x4,some (.lst (bp p)),some (.int (d:Int)),some (.int (here:Int))] =
   some (.nx [some (.int (many:Int)),some (.lst (as.map bE)),some (.lst ((W0 as).map bE)),some (.lst (cL many ((W0 as).foldl (Kahn.stp here) (f,p)).1)),x,some (.lst (bp ((W0 as).foldl (Kahn.stp here) (f,p)).2)),some (.int (d:Int)),some (.int (here:Int))]):=by
 have hd:d<p.length:=(aT.mp hh).1
 have hP:here∉p.take d:=λz=>by
  obtain⟨i,hi,e⟩:=cD.mp z
  have ID:i<d:=by rw[ij]at hi;omega
  rw[qP]at e
  have e2:p[d]=here:=(aT.mp hh).2
  have:=(kY (xs:=p) (h₀:=by omega) (h₁:=hd) h.ok.nd).mp (e.trans e2.symm)
  omega
 obtain⟨ρ',h1,x,pre,e1,e2⟩:=Ge (g:=gV 4) (b:=wm) (ds:=(W0 as).map bE) (ρ:=[some (.int (many:Int)),some (.lst (as.map bE)),some (.lst ((W0 as).map bE)),some (.lst (cL many f)),x4,some (.lst (bp p)),some (.int (d:Int)),some (.int (here:Int))])
  (λds ρ=>∃x pre,ds=pre.map bE/\(∃post,W0 as=pre++post)/\Kahn.In (W0 as) many (p.take d) here pre (pre.foldl (Kahn.stp here) (f,p))/\ρ=[some (.int (many:Int)),some (.lst (as.map bE)),some (.lst ((W0 as).map bE)),some (.lst (cL many (pre.foldl (Kahn.stp here) (f,p)).1)),x,some (.lst (bp (pre.foldl (Kahn.stp here) (f,p)).2)),some (.int (d:Int)),some (.int (here:Int))])
  ⟨x4,[],rfl,⟨_,rfl⟩,⟨h.ok,λg=>by show f g=_;rw[h.fe];simp,h.z,λx hx=>by
   rcases hx with hx|rfl
   ·exact i6 hx
   ·exact dw.mpr ⟨d,hh⟩⟩,rfl⟩ (by
  rintro ds dd post ρ e ⟨x,pre,rfl,⟨iR,e'⟩,I,rfl⟩
  rw[e',sE]at e
  have e3:=nF e
  cases iR with
  |nil=>cases e3
  |cons a iR=>
   rw[bn]at e3
   cases e3
   have ha:a∈W0 as:=by rw[e'];simp
   have hl:=Kahn.len_le I.ok.nd I.ok.lt
   have I2:=I.step e' hP (hW a ha).2
   refine⟨_,_,rfl,.inl ?_,some (bE a),pre++[a],by simp,⟨iR,by rw[e'];simp⟩,by rw[kD];exact I2,rfl⟩
   rw[kD]
   generalize pre.foldl (Kahn.stp here) (f,p)=S at hl
   show wm _=some (.nx [_,_,_,some (.lst (cL many (Kahn.stp here S a).1)),_,some (.lst (bp (Kahn.stp here S a).2)),_,_])
   have f1:=fs a
   have f2:=fg a
   have fq:(bp S.2).length<16777216:=by simp[bp];omega
   unfold wm
   by_cases hs:a.s=here
   ·have uT:((a.s:Nat):Int)=(here:Int):=by rw[hs]
    have au:=OJ (i:=3) (fj:=e1 (dc [0,1,2,3] "goal") (eV 4)) (f:=eC (.int 1)) (gi:=λi j=>i-j) (ρ:=[some (.int (many:Int)),some (.lst (as.map bE)),some (.lst ((W0 as).map bE)),some (.lst (cL many S.1)),some (bE a),some (.lst (bp S.2)),some (.int (d:Int)),some (.int (here:Int))]) (n:=many) (g:=a.g) (w:=S.1) (y:=1) rfl (by walk_at "mir") rfl (hW a ha).2
    have va:fJ (.lst (cL many λx=>if x=a.g then S.1 a.g-1 else S.1 x)) (.int (a.g:Int))=some (.int (S.1 a.g-1)):=by
     have:=Gz (λx=>if x=a.g then S.1 a.g-1 else S.1 x) (hW a ha).2
     rw[if_pos rfl]at this
     exact this
    by_cases h0:S.1 a.g-1=0
    ·have es:Kahn.stp here S a=(λx=>if x=a.g then S.1 a.g-1 else S.1 x,S.2++[a.g]):=by unfold Kahn.stp;simp[hs,h0]
     rw[es,←Kj]
     rw[h0]at va
     clear I I2 e' es
     walk_at "mir"
    ·have es:Kahn.stp here S a=(λx=>if x=a.g then S.1 a.g-1 else S.1 x,S.2):=by unfold Kahn.stp;simp[hs,h0]
     rw[es]
     clear I I2 e' es
     walk_at "mir"
   ·have es:Kahn.stp here S a=S:=by unfold Kahn.stp;rw[if_neg hs]
    rw[es]
    have uT:¬((a.s:Nat):Int)=(here:Int):=by omega
    clear I I2 e' es
    walk_at "mir")
 obtain⟨⟨post,e2⟩,I,rfl⟩:=e2
 have:pre=W0 as:=by
  have:=congrArg iZ e1
  rw[bi,bi]at this
  rw[e2,bA]at this
  have hp:post=[]:=gc (by omega)
  rw[e2,hp,bQ]
 rw[this]at h1
 exact⟨x,h1⟩
theorem WU {many:Nat}(as:List cw)(l:as.length<=1000)(hm:many<=1000)(hs:∀a∈as,a.s<many/\a.g<many) :
  ∃(f:Nat->Int) (p:List Nat),wn [.int (many:Int),.lst (as.map bE)]=some (.lst (bp p))/\Kahn.Wh (W0 as) many f p p.length:=by
 have hW:∀a∈W0 as,a.s<many/\a.g<many:=λa ha=>hs a (aM.mp ha).1
 obtain⟨c1,_⟩:=J6 (g:=gV 4) (b:=uc) bE (λs:(Nat->Int)×Option D=>[some (.int (many:Int)),some (.lst (as.map bE)),some (.lst ((W0 as).map bE)),some (.lst (cL many s.1)),s.2,none,none,none])
  A9 (λ_=>True) (W0 as) (λ_=>0,none) trivial (λs a ha _=>by
   refine⟨_,rfl,.inl ?_,trivial⟩
   unfold uc
   have f2:=fg a
   rw[OJ (n:=many) (g:=a.g) (w:=s.1) (y:=1) rfl (by walk_at "mir") rfl (hW a ha).2]
   rfl)
 have c2:=Of (W0 as) (λ_=>0,none)
 generalize Rc:(W0 as).foldl A9 (λ_=>0,none)=S0 at c1 c2
 obtain⟨f0,y4⟩:=S0
 dsimp only at c1 c2
 have RC:∀r:L3.Env,r[0]?.join=some (.int (many:Int))->r[3]?.join=some (.lst (cL many f0))->jl r=some (.lst (bp ((av many).filter λg=>decide (f0 g=0)))):=by
  intro r h0 h3
  refine qx (λ(t:Nat)=>D.int (t:Int)) (λg=>decide (f0 g=0)) (λ(t:Nat)=>D.int (t:Int)) (av many) (sT h0 (by omega)) (by rw[aU];omega) ?_
  ·intro g hg
   refine⟨_,rfl,?_,λ_=>rfl⟩
   have hg:g<many:=aP.mp hg
   have hv:fJ (.lst (cL many f0)) (.int (g:Int))=some (.int (f0 g)):=Gz f0 hg
   have hc:cI r [3]=[some (.lst (cL many f0))]:=by unfold cI;simp[h3]
   rw[hc]
   walk_at "mir"
 generalize hq:((av many).filter λg=>decide (f0 g=0))=p0 at RC
 have w0:Kahn.Wh (W0 as) many f0 p0 0:=by
  have hf:∀g,f0 g=Kahn.cnt (W0 as) [] g:=λg=>by
   rw[c2 g]
   unfold Kahn.cnt
   simp
  refine⟨⟨by rw[←hq];exact ik.filter _,λx hx=>by rw[←hq,aM,aP]at hx;exact hx.1,λi x hx a ha e=>?_⟩,by omega,hf,λg hg=>by rw[←hq,aM,aP];simp[hg]⟩
  have zU:x∈p0:=dw.mpr ⟨i,hx⟩
  rw[←hq,aM]at zU
  have h0:f0 x=0:=by simpa using zU.2
  rw[hf]at h0
  have:=Kahn.cnt_zero.mp (by exact_mod_cast h0) a ha e
  cases this
 obtain⟨ρ',h1,⟨f,p,d,x4,x7,rfl,wh⟩,h3⟩:=JX (c:=tb (e2 rh (eV 6) (eN ef (aCons (eV 5) aNil)))) (b:=ub)
  (λρ=>∃f p d x4 x7,ρ=[some (.int (many:Int)),some (.lst (as.map bE)),some (.lst ((W0 as).map bE)),some (.lst (cL many f)),x4,some (.lst (bp p)),some (.int ((d:Nat):Int)),x7]/\Kahn.Wh (W0 as) many f p d)
  (λρ:L3.Env=>match ρ[6]? with|some (some (D.int i))=>(1001-i).toNat|_=>0) (by
   rintro ρ ⟨f,p,d,x4,x7,rfl,wh⟩
   have hl:(bp p).length=p.length:=by simp[bp]
   refine⟨decide ((d:Int)<(p.length:Int)),by walk_at "mir",λht=>?_⟩
   have hd:d<p.length:=by simpa using ht
   have hh:p[d]?=some p[d]:=by simp[hd]
   obtain⟨x,kd⟩:=YS (x4:=x4) hm hW wh hh
   obtain⟨Eg,q,_⟩:=wh.step (λa ha=>(hW a ha).2) hh
   have oF:=Kahn.len_le Eg.ok.nd Eg.ok.lt
   have hdl:=Eg.dl
   refine⟨_,.inl ?_,⟨_,_,d+1,x,some (.int (p[d]:Int)),rfl,Eg⟩,?_⟩
   ·have Ru:fJ (.lst (bp p)) (.int (d:Int))=some (.int (p[d]:Int)):=qd (by simp[bp,hd])
    have hau:i2 (λi j=>D.int (i+j)) (.int (d:Int)) (.int 1)=some (.int ((d+1:Nat):Int)):=by simp[i2]
    unfold ub sj
    clear wh Eg oF hdl
    walk_at "mir"
   ·show(1001-((d+1:Nat):Int)).toNat<(1001-(d:Int)).toNat
    omega) nQ [some (.int (many:Int)),some (.lst (as.map bE)),some (.lst ((W0 as).map bE)),some (.lst (cL many f0)),y4,some (.lst (bp p0)),some (.int ((0:Nat):Int)),none] ⟨f0,p0,0,y4,none,rfl,w0⟩ (by
   show(1001-((0:Nat):Int)).toNat<nQ
   have:(1001:Nat)<nQ:=Ov (by decide)
   omega)
 have hd:d=p.length:=by
  have hl:(bp p).length=p.length:=by simp[bp]
  have h4:(tb (e2 rh (eV 6) (eN ef (aCons (eV 5) aNil)))) [some (.int (many:Int)),some (.lst (as.map bE)),some (.lst ((W0 as).map bE)),some (.lst (cL many f)),x4,some (.lst (bp p)),some (.int (d:Int)),x7]=some (decide ((d:Int)<(p.length:Int))):=by walk_at "mir"
  rw[h4]at h3
  have:=wh.dl
  simp at h3
  omega
 subst hd
 refine⟨f,p,?_,wh⟩
 have r1:=U5 as (by omega)
 have rp:jX (.lst [.int 0]) (.int (many:Int))=some (.lst (cL many λ_=>0)):=by
  unfold jX
  dsimp only
  rw[if_pos ⟨by omega,by omega,by simp⟩]
  congr 2
  unfold cL
  rw[iE,aU]
  simp
 rw[show(((0:Nat):Int))=0 from rfl]at h1
 unfold wn lX
 clear hs hW c2 Rc hq w0 wh h3 l hm
 walk_at "mir"
def bv (ns:List D)(as:List cw):D:=.obj 4 ["names","arrows"] [.lst ns,.lst (as.map bE)]
structure fw (many:Nat)(as:List cw):Prop where
 pos:1<=many
 le:many<=40
 len:as.length<=120
 right:∀a∈as,Right many a
 rank:∃rank:Nat->Nat,∀a∈as,a.b=0->rank a.s<rank a.g
theorem fw.placed {many:Nat}{as:List cw}(h:fw many as):∃p:List Nat,wn [.int (many:Int),.lst (as.map bE)]=some (.lst (bp p))/\Kahn.Ok (W0 as) many p/\p.length=many/\∀g,g<many->g∈p:=by
 obtain⟨f,p,h1,h2⟩:=WU (many:=many) as (by have:=h.len;omega) (by have:=h.le;omega) (λa ha=>⟨(h.right a ha).s,(h.right a ha).g⟩)
 obtain⟨rank,hr⟩:=h.rank
 have all:=h2.all rank (λa ha=>by
  have:=aM.mp ha
  exact hr a this.1 (by simpa using this.2)) (λa ha=>(h.right a (aM.mp ha).1).s)
 exact⟨p,h1,h2.ok,Kahn.len_of h2.ok.nd h2.ok.lt all,all⟩
theorem ztj {many:Nat}{as:List cw}{ns:List D}(h:fw many as)(hn:ns.length=many)(xU:j0 [.lst ns]=some (.bl true)):jc 4 [.lst ns,.lst (as.map bE)]=some (bv ns as):=by
 obtain⟨p,hp,_,hl,_⟩:=h.placed
 have fq:=h.len
 obtain⟨ρ',h1,x3,x4,rfl⟩:=Ge (g:=gT (gsCons (gV 3) (gsCons (gV 4) gsNil))) (b:=jh) (ds:=fI 0 (as.map bE)) (ρ:=[some (.obj 4 [] []),some (.lst ns),some (.lst (as.map bE)),none,none,none])
  (λ_ ρ=>∃x3 x4,ρ=[some (.obj 4 [] []),some (.lst ns),some (.lst (as.map bE)),x3,x4,none]) ⟨none,none,rfl⟩ (by
   rintro pre d post ρ e ⟨x3,x4,rfl⟩
   obtain⟨x,hx,rfl⟩:=J5 (Po e)
   rw[bK]at hx
   obtain⟨a,ha,rfl⟩:=cu.mp hx
   have hr:=YR (h.right a (dw.mpr ⟨_,ha⟩))
   refine⟨_,_,rfl,.inl ?_,some (.int (0+pre.length:Nat)),some (bE a),rfl⟩
   unfold jh
   rw[←hn]at hr
   clear hp hl hn fq h
   walk_at "mir")
 have hz:(bp p).length=many:=by simp[bp,hl]
 have hgt:¬((as.length:Int) > 120):=by omega
 rw[←hn]at hp hz
 have l1:∀ds:List D,lV [.lst ds]=some (.lst ds):=λ_=>rfl
 have s1:ku [4] "names" (eN lV (aCons (eV 1) aNil)) [some (D.obj 4 [] []),some (.lst ns),some (.lst (as.map bE)),x3,x4,some (.lst (bp p))]=some (.nx [some (D.obj 4 ["names"] [.lst ns]),some (.lst ns),some (.lst (as.map bE)),x3,x4,some (.lst (bp p))]):=rfl
 have s2:ku [4] "arrows" (eN lV (aCons (eV 2) aNil)) [some (D.obj 4 ["names"] [.lst ns]),some (.lst ns),some (.lst (as.map bE)),x3,x4,some (.lst (bp p))]=some (.nx [some (bv ns as),some (.lst ns),some (.lst (as.map bE)),x3,x4,some (.lst (bp p))]):=rfl
 clear h fq hl hn
 unfold jc yB
 walk_at "mir"
theorem EB (ns:List Int)(i:Int)(hi:0<=i):∃c,zp [.lst (ns.map .int),.int i]=some (.int c):=by
 obtain⟨k,rfl⟩:∃k:Nat,i=k:=⟨i.toNat,by omega⟩
 unfold zp
 by_cases h:k<ns.length
 ·refine⟨ns[k],?_⟩
  have:fJ (.lst (ns.map .int)) (.int (k:Int))=some (.int ns[k]):=YA D.int (.inl rfl) (by simp[h])
  walk_at "mir"
 ·refine⟨0,?_⟩
  walk_at "mir"
def pQ (c:Int):Bool:=decide (1237940039285380274899124224<=c)&&decide (c%2=1)
theorem OL (c:Int):um [.int c]=some (.bl (pQ c)):=by
 unfold um pQ
 by_cases h1:(1237940039285380274899124224:Int)<=c<;>by_cases h2:c%2=1<;>walk_at "mir"
theorem YT (c:Int){k:Int}(h0:0<=k)(h1:k<=1000000):∃r:Nat,wj [.int c,.int k]=some (.int (r:Int))/\r<2147483648:=by
 have m0:gN (.int 31) (.int k)=some (.int (31*k)):=zbq (by decide) (by decide)
 have s0:qK (.int c) (.int (1+31*k))=some (.int (c/2 ^ (1+31*k).toNat)):=zdz (by omega)
 have r0:=OL c
 have fin:∀z:Int,∀m:Int,0<m->m<=2147483648->∃r:Nat,(some (D.int (z%m)):Option D)=some (.int (r:Int))/\r<2147483648:=λz m hm iH=>by
  have a1:=iI z (by omega:m≠0)
  have a2:=Int.emod_lt_of_pos z hm
  exact⟨(z%m).toNat,by rw[pW a1],by omega⟩
 generalize hn:(c+7919*k+1)*48271%2147483647=n1
 have b1:0<=n1/\n1<2147483647:=by omega
 have m1:gN (.int 7919) (.int k)=some (.int (7919*k)):=zbq (by decide) (by decide)
 have m2:gN (.int (c+7919*k+1)) (.int 48271)=some (.int ((c+7919*k+1)*48271)):=zj6 (by decide) (by decide)
 have m3:gN (.int n1) (.int (n1/1009+69621))=some (.int (n1*(n1/1009+69621))):=zbq (by omega) (by omega)
 generalize rQ:n1*(n1/1009+69621)%2147483647=n2
 have b2:0<=n2/\n2<2147483647:=by omega
 have m4:gN (.int n2) (.int (n2/2003+39373+k))=some (.int (n2*(n2/2003+39373+k))):=zbq (by omega) (by omega)
 unfold wj
 by_cases hr:pQ c=true
 ·by_cases hs:c/2 ^ (1+31*k).toNat > 0
  ·obtain⟨r,e1,e2⟩:=fin (c/2 ^ (1+31*k).toNat) 2147483648 (by decide) (by decide)
   refine⟨r,?_,e2⟩
   rw[←e1]
   generalize c/2 ^ (1+31*k).toNat=q at s0 hs
   clear e1 e2 fin hn rQ b1 b2 h0 h1
   walk_at "mir"
  ·obtain⟨r,e1,e2⟩:=fin (n2*(n2/2003+39373+k)) 2147483629 (by decide) (by decide)
   refine⟨r,?_,e2⟩
   rw[←e1]
   generalize c/2 ^ (1+31*k).toNat=q at s0 hs
   clear e1 e2 fin b1 b2 h0 h1
   walk_at "mir"
 ·obtain⟨r,e1,e2⟩:=fin (n2*(n2/2003+39373+k)) 2147483629 (by decide) (by decide)
  refine⟨r,?_,e2⟩
  rw[←e1]
  clear e1 e2 fin b1 b2 h0 h1 s0
  walk_at "mir"
theorem Og (g:Nat):∀O:List Nat,g∈O->∃j:Nat,(bp O).findIdx? (λy=>sM y (.int (g:Int)))=some j
 |[],h=>by cases h
 |x::O,h=>by
  have hc:bp (x::O)=.int (x:Int)::bp O:=rfl
  rw[hc,kh]
  by_cases hx:x=g
  ·refine⟨0,?_⟩
   have:sM (.int (x:Int)) (.int (g:Int))=true:=by simp[sM,hx]
   rw[this];rfl
  ·have:sM (.int (x:Int)) (.int (g:Int))=false:=by simp[sM];omega
   rw[this]
   obtain⟨j,hj⟩:=Og g O (by
    rcases aB.mp h with e|e
    ·exact absurd e.symm hx
    ·exact e)
   exact⟨j+1,by rw[hj];rfl⟩
theorem YU (O:List Nat):(bp O).all D.sc=true:=by
 rw[cm]
 intro d hd
 obtain⟨t,_,rfl⟩:=dN.mp hd
 rfl
def Jg (O:List Nat)(g:Nat):Nat:=((bp O).findIdx? (λy=>sM y (.int (g:Int)))).getD 0
theorem WV {g:Nat}{O:List Nat}(h:g∈O):rV (.lst (bp O)) (.int (g:Int))=some (.int (Jg O g:Int)):=by
 obtain⟨j,hj⟩:=Og g O h
 unfold rV Jg
 dsimp only
 rw[if_pos ⟨rfl,YU O⟩,hj]
 rfl
def jD (c k:Int):Nat:=match wj [.int c,.int k]with
 |some (.int r)=>r.toNat
 |_=>0
theorem Kz (c:Int){k:Int}(h0:0<=k)(h1:k<=1000000):wj [.int c,.int k]=some (.int (jD c k:Int))/\jD c k<2147483648:=by
 obtain⟨r,h,hr⟩:=YT c h0 h1
 unfold jD
 rw[h]
 simpa using hr
def lP (ce:Int)(many:Nat):Nat->List Nat×List Nat
 |0=>([],av many)
 |k+1=>
  let S:=lP ce many k
  let i:=jD ce (k:Int)%S.2.length
  (S.1++[S.2.getD i 0],S.2.eraseIdx i)
theorem Nc {α:Type}:∀(l:List α) (i:Nat) (h:i<l.length),(l[i]::l.eraseIdx i).Perm l
 |[],_,h=>by simp at h
 |x::l,0,_=>by simp
 |x::l,i+1,h=>by
  have ih:=Nc l i (by simpa using h)
  simp only[List.getElem_cons_succ,List.eraseIdx_cons_succ]
  exact(List.Perm.swap x _ _).trans (ih.cons x)
theorem KN (ce:Int)(many:Nat):∀k,k<=many->(lP ce many k).2.length=many-k/\((lP ce many k).1++(lP ce many k).2).Perm (av many)
 |0,_=>by simp[lP]
 |k+1,h=>by
  obtain⟨h1,h2⟩:=KN ce many k (by omega)
  unfold lP
  dsimp only
  generalize lP ce many k=S at h1 h2
  have hi:jD ce (k:Int)%S.2.length<S.2.length:=mP _ (by omega)
  generalize jD ce (k:Int)%S.2.length=i at hi
  refine⟨by rw[List.length_eraseIdx_of_lt hi];omega,?_⟩
  have e:=Nc S.2 i hi
  have hg:S.2.getD i 0=S.2[i]:=by simp[hi]
  rw[hg,fD]
  exact(List.Perm.append_left S.1 e).trans h2
theorem Nd:∀(L:List Nat) (i:Nat),(bp L).eraseIdx i=bp (L.eraseIdx i)
 |[],_=>rfl
 |_::_,0=>rfl
 |x::L,i+1=>by
  have ih:=Nd L i
  show D.int (x:Int)::(bp L).eraseIdx i=D.int (x:Int)::bp (L.eraseIdx i)
  rw[ih]
theorem WW (ce:Int){many:Nat}(h2:many<=1000)(g:Nat):∃x5:Option D,fk (gV 5) uo (fu 0 many) [some (.int ce),some (.int (many:Int)),some (.int (g:Int)),some (.lst []),some (.lst (fu 0 many)),none] =
  some (.nx [some (.int ce),some (.int (many:Int)),some (.int (g:Int)),some (.lst (bp (lP ce many many).1)),some (.lst (bp (lP ce many many).2)),x5]):=by
 have hu:fu 0 many=bp (av many):=by simp[fu,bp]
 obtain⟨ρ',h1,x5,rfl⟩:=M3 (g:=gV 5) (b:=uo) (lo:=0) (n:=many) (ρ:=[some (.int ce),some (.int (many:Int)),some (.int (g:Int)),some (.lst []),some (.lst (fu 0 many)),none])
  (λk ρ=>∃x5,ρ=[some (.int ce),some (.int (many:Int)),some (.int (g:Int)),some (.lst (bp (lP ce many k).1)),some (.lst (bp (lP ce many k).2)),x5]) ⟨none,by rw[hu];rfl⟩ (by
   rintro k ρ hk ⟨x5,rfl⟩
   obtain⟨o1,o2⟩:=KN ce many k (by omega)
   have o3:=o2.length_eq
   rw[bA,aU]at o3
   obtain⟨mx,mb⟩:=Kz ce (k:=0+(k:Int)) (by omega) (by omega)
   refine⟨_,_,rfl,.inl ?_,some (.int (0+(k:Int))),rfl⟩
   have e0:(0:Int)+(k:Int)=(k:Int):=by omega
   rw[e0]at mx ⊢
   show uo [some (.int ce),some (.int (many:Int)),some (.int (g:Int)),some (.lst (bp (lP ce many k).1)),some (.lst (bp (lP ce many k).2)),some (.int (k:Int))]=some (.nx [some (.int ce),some (.int (many:Int)),some (.int (g:Int)),some (.lst (bp ((lP ce many k).1++[(lP ce many k).2.getD (jD ce (k:Int)%(lP ce many k).2.length) 0]))),some (.lst (bp ((lP ce many k).2.eraseIdx (jD ce (k:Int)%(lP ce many k).2.length)))),some (.int (k:Int))])
   generalize lP ce many k=S at o1 o3
   have hi:jD ce (k:Int)%S.2.length<S.2.length:=mP _ (by omega)
   have md:eI (.int (jD ce (k:Int):Int)) (.int ((bp S.2).length:Int))=some (.int ((jD ce (k:Int)%S.2.length:Nat):Int)):=by
    rw[uv (by simp[bp];omega)]
    simp[bp]
   generalize jD ce (k:Int)%S.2.length=i at hi md
   have hg:S.2.getD i 0=S.2[i]:=by simp[hi]
   have l1:(bp S.1).length<16777216:=by simp[bp];omega
   have l2:(bp S.2).length<=16777216:=by simp[bp];omega
   have ix:ixN (bp S.2).length (i:Int)=some i:=OK (by simp[bp];exact hi)
   have gt:(bp S.2)[i]?=some (.int (S.2[i]:Int)):=by simp[bp,hi]
   have ev:eN ef (aCons (eV 4) aNil) [some (.int ce),some (.int (many:Int)),some (.int (g:Int)),some (.lst (bp S.1)),some (.lst (bp S.2)),some (.int (k:Int))]=some (.int ((bp S.2).length:Int)):=rfl
   have em:(aCons (eV 0) (aCons (eV 5) aNil) [some (.int ce),some (.int (many:Int)),some (.int (g:Int)),some (.lst (bp S.1)),some (.lst (bp S.2)),some (.int (k:Int))]).bind (λds=>wj (ds++[]))=some (.int (jD ce (k:Int):Int)):=mx
   have ee:e2 eI (λρ=>((aCons (eV 0) (aCons (eV 5) aNil)) ρ).bind λds=>wj (ds++[])) (eN ef (aCons (eV 4) aNil)) [some (.int ce),some (.int (many:Int)),some (.int (g:Int)),some (.lst (bp S.1)),some (.lst (bp S.2)),some (.int (k:Int))]=some (.int (i:Int)):=by
    unfold e2
    dsimp only
    rw[em,ev]
    exact md
   unfold uo nD
   rw[ee]
   show(if(bp S.1).length<16777216/\(bp S.2).length<=16777216 then _ else _)=_
   rw[if_pos ⟨l1,l2⟩,ix]
   show((bp S.2)[i]?).bind _=_
   rw[gt,hg,←Kj,←Nd]
   rfl)
 exact⟨x5,h1⟩
theorem zsc (ce:Int){many:Nat}(h1:1<=many)(h2:many<=1000):∃rk:Nat->Nat,∀g,g<many->ue [.int ce,.int (many:Int),.int (g:Int)]=some (.int (rk g:Int)):=by
 have hr:=OL ce
 cases IP:pQ ce with
 |false=>
  refine⟨λg=>(((g:Int)+ce)%(many:Int)).toNat,λg hg=>?_⟩
  have a1:=iI ((g:Int)+ce) (by omega:(many:Int)≠0)
  have a2:eI (.int ((g:Int)+ce)) (.int (many:Int))=some (.int (((g:Int)+ce)%(many:Int))):=uv (by omega)
  rw[pW a1]
  unfold ue
  clear a1
  walk_at "mir"
 |true=>
  obtain⟨o1,o2⟩:=KN ce many many (aC _)
  rw[Nat.sub_self]at o1
  have o3:(lP ce many many).2=[]:=gc o1
  rw[o3,bQ]at o2
  refine⟨Jg (lP ce many many).1,λg hg=>?_⟩
  obtain⟨x5,lp⟩:=WW ce h2 g
  have ix:=WV (g:=g) (O:=(lP ce many many).1) (o2.mem_iff.mpr (aP.mpr hg))
  have lr:mZ [.int (many:Int)]=some (.lst (fu 0 many)):=by
   unfold mZ
   dsimp only
   rw[if_pos ⟨by omega,by omega⟩]
   simp
  have r1:gk [.int (many:Int)]=some (fu 0 many):=by
   rw[q0 (by omega) (by omega)]
   simp
  unfold ue
  generalize lP ce many many=S at lp ix
  clear o1 o2 o3
  walk_at "mir"
def dr (a:cw):D:=.tup [.int a.s,.int a.g,.int a.t,.int a.b]
theorem YV (c ce:Int)(k:Nat)(hk:k<=1000){many:Nat}(h1:1<=many)(h2:many<=1000)(rk:Nat->Nat)(uR:∀g,g<many->ue [.int ce,.int (many:Int),.int (g:Int)]=some (.int (rk g:Int))) :
  ∃a:cw,wk [.int c,.int (many:Int),.int ce,.int (k:Int)]=some (dr a)/\a.s<many/\a.g<many/\0<=a.t/\a.t<=1000000000/\a.b<=4/\(a.b=0->rk a.s<rk a.g)/\(k<many->a.g=k):=by
 obtain⟨m1,_⟩:=Kz c (k:=(k:Int)) (by omega) (by omega)
 generalize jD c (k:Int)=n at m1
 have hs:n%many<many:=mP _ (by omega)
 have e1:eI (.int (n:Int)) (.int (many:Int))=some (.int ((n%many:Nat):Int)):=by rw[uv (by omega)];simp
 have e2:eI (.int ((n:Int)/8)) (.int (many:Int))=some (.int ((n/8%many:Nat):Int)):=by rw[uv (by omega)];simp
 obtain⟨g0,hg,Fd,IA⟩:∃g0:Nat,g0<many/\(k<many->g0=k)/\(¬k<many->g0=n/8%many):=by
  by_cases h:k<many
  ·exact⟨k,h,λ_=>rfl,λz=>absurd h z⟩
  ·exact⟨n/8%many,mP _ (by omega),λz=>absurd z h,λ_=>rfl⟩
 have k1:=uR _ hs
 have k2:=uR _ hg
 generalize n%many=s0 at *
 have fin:∀b:Nat,b<=4->(b=0->rk s0<rk g0)->(wk [.int c,.int (many:Int),.int ce,.int (k:Int)]=some (.tup [.int s0,.int g0,.int ((n:Int)/1000%10),.int b])) ->
   ∃a:cw,wk [.int c,.int (many:Int),.int ce,.int (k:Int)]=some (dr a)/\a.s<many/\a.g<many/\0<=a.t/\a.t<=1000000000/\a.b<=4/\(a.b=0->rk a.s<rk a.g)/\(k<many->a.g=k):=by
  intro b hb zN h
  exact⟨⟨.wait,s0,g0,(n:Int)/1000%10,b⟩,h,hs,hg,by show(0:Int)<=(n:Int)/1000%10;omega,by show(n:Int)/1000%10<=1000000000;omega,hb,zN,Fd⟩
 have eb:((n:Int)/64)%5=((n/64%5:Nat):Int):=by omega
 have Lq:(1:Int)+(n:Int)/320%2=((1+n/320%2:Nat):Int):=by omega
 have gl:(xF (.int (k:Int)) (.int (many:Int))=some (.bl true)/\g0=n/8%many)\/(xF (.int (k:Int)) (.int (many:Int))=some (.bl false)/\g0=k):=by
  by_cases h:k<many
  ·refine .inr ⟨?_,Fd h⟩
   show some (D.bl (decide ((k:Int) >= (many:Int))))=_
   rw[decide_eq_false (by omega)]
  ·refine .inl ⟨?_,IA h⟩
   show some (D.bl (decide ((k:Int) >= (many:Int))))=_
   rw[decide_eq_true (by omega)]
 have go:∀(b:Int),(∃q:Int,(n:Int)/64%5=q/\((q=0/\((rk s0:Int) >= (rk g0:Int)/\b=1+(n:Int)/320%2\/¬(rk s0:Int) >= (rk g0:Int)/\b=0))\/(¬q=0/\b=q)))->wk [.int c,.int (many:Int),.int ce,.int (k:Int)]=some (.tup [.int s0,.int g0,.int ((n:Int)/1000%10),.int b]):=by
  rintro b ⟨q,hq,hc⟩
  unfold wk
  rcases gl with⟨gt,gg⟩|⟨gt,gg⟩
  ·rw[←gg]at e2
   clear Fd IA gg hg hs uR fin eb Lq
   rcases hc with⟨h0,⟨h1,h2⟩|⟨h1,h2⟩⟩|⟨h0,h1⟩
   ·subst h0;subst h2;walk_at "mir"
   ·subst h0;subst h2;walk_at "mir"
   ·subst h1;walk_at "mir"
  ·subst gg
   clear Fd IA hg hs uR fin eb Lq e2
   rcases hc with⟨h0,⟨h1,h2⟩|⟨h1,h2⟩⟩|⟨h0,h1⟩
   ·subst h0;subst h2;walk_at "mir"
   ·subst h0;subst h2;walk_at "mir"
   ·subst h1;walk_at "mir"
 by_cases q:n/64%5=0
 ·by_cases q2:rk g0<=rk s0
  ·refine fin (1+n/320%2) (by omega) (by omega) (go _ ⟨0,by omega,.inl ⟨rfl,.inl ⟨by omega,by omega⟩⟩⟩)
  ·refine fin 0 (by omega) (by omega) (go _ ⟨0,by omega,.inl ⟨rfl,.inr ⟨by omega,rfl⟩⟩⟩)
 ·refine fin (n/64%5) (by omega) (by omega) (go _ ⟨_,rfl,.inr ⟨by omega,by omega⟩⟩)
def kK (b:Nat)(kind:Int):Kd:=if b=0/\kind%2=0 then .ride else if 0<b/\kind%2=0 then .back else .wait
def mH (a:cw)(kind:Int):cw:={ a with c:=kK a.b kind }
theorem zsd (s g t:Int):jx 1 [.int s,.int g,.int t]=some (.obj 1 ["start","goal","time","behind"] [.int s,.int g,.int t,.int 0]):=rfl
theorem zse (s g t b:Int):jy 2 [.int s,.int g,.int t,.int b]=some (.obj 2 ["start","goal","time","behind"] [.int s,.int g,.int t,.int b]):=rfl
theorem zsf (s g t b:Int):jz 3 [.int s,.int g,.int t,.int b]=some (.obj 3 ["start","goal","time","behind"] [.int s,.int g,.int t,.int b]):=rfl
theorem zsg (a:cw)(kind:Int):FU [dr a,.int kind]=some (bE (mH a kind)):=by
 obtain⟨c,s,g,t,b⟩:=a
 have r1:=zsd
 have r2:=zse
 have r3:=zsf
 unfold FU dr mH bE
 dsimp only
 by_cases hb:b=0
 ·by_cases hk:kind%2=0
  ·subst hb
   have:kK 0 kind=.ride:=by unfold kK;rw[if_pos ⟨rfl,hk⟩]
   rw[this]
   have e:(((0:Nat)):Int)=0:=rfl
   have hn:Kd.ride.n=1:=rfl
   walk_at "mir"
  ·have:kK b kind=.wait:=by unfold kK;rw[if_neg (λz=>hk z.2),if_neg (λz=>hk z.2)]
   rw[this]
   have hn:Kd.wait.n=2:=rfl
   have xI:(b:Int)=0:=by omega
   walk_at "mir"
 ·have xI:¬(b:Int)=0:=by omega
  have qI:0<b:=by omega
  by_cases hk:kind%2=0
  ·have:kK b kind=.back:=by unfold kK;rw[if_neg (λz=>hb z.1),if_pos ⟨by omega,hk⟩]
   rw[this]
   have hn:Kd.back.n=3:=rfl
   clear xI
   walk_at "mir"
  ·have:kK b kind=.wait:=by unfold kK;rw[if_neg (λz=>hk z.2),if_neg (λz=>hk z.2)]
   rw[this]
   have hn:Kd.wait.n=2:=rfl
   clear xI
   walk_at "mir"
def nm (n:Nat):List D:=(av n).map λ(k:Nat)=>D.str ("a"++uX (k:Int))
def L4:Option D->Bool
 |some (.bl true)=>true
 |_=>false
theorem zsh {x:Option D}(h:L4 x=true):x=some (.bl true):=by
 unfold L4 at h
 split at h
 ·rfl
 ·cases h
theorem Yl {n:Nat}(h1:1<=n)(h2:n<=8):j0 [.lst (nm n)]=some (.bl true):=by
 have:n=1\/n=2\/n=3\/n=4\/n=5\/n=6\/n=7\/n=8:=by omega
 rcases this with rfl|rfl|rfl|rfl|rfl|rfl|rfl|rfl<;>exact zsh (by decide +kernel)
structure Drawn (many:Nat)(rk:Nat->Nat)(a:cw):Prop where
 s:a.s<many
 g:a.g<many
 t0:0<=a.t
 t1:a.t<=1000000000
 b:a.b<=4
 r:a.b=0->rk a.s<rk a.g
theorem Drawn.right {many:Nat}{rk:Nat->Nat}{a:cw}(h:Drawn many rk a)(kind:Int):Right many (mH a kind):=by
 refine⟨h.s,h.g,h.t0,h.t1,h.b,λz=>?_,λz=>?_⟩
 ·change kK a.b kind=.ride at z
  unfold kK at z
  split at z
  ·next q=>exact q.1
  ·split at z<;>cases z
 ·change kK a.b kind=.back at z
  unfold kK at z
  split at z
  ·cases z
  ·split at z
   ·next q=>exact q.1
   ·cases z
theorem zsi {many:Nat}{rk:Nat->Nat}{as:List cw}(k:cw->Int)(h1:1<=many)(h2:many<=8)(h3:as.length<=120)(h:∀a∈as,Drawn many rk a):fw many (as.map λa=>mH a (k a)):=by
 refine⟨h1,by omega,by rw[bi];exact h3,λb hb=>?_,rk,λb hb zN=>?_⟩
 ·obtain⟨a,ha,rfl⟩:=dN.mp hb
  exact(h a ha).right _
 ·obtain⟨a,ha,rfl⟩:=dN.mp hb
  exact(h a ha).r zN
abbrev T:=Option Int
def lt (m:Int):T->T
 |none=>none
 |some i=>some (i+m)
def mx:T->T->T
 |none,b=>b
 |a,none=>a
 |some i,some j=>some (if j > i then j else i)
theorem Ym (o:T)(m:Int):Gi [eY o,.int m]=some (eY (lt m o)):=by
 unfold Gi
 cases o<;>simp only[eY,lt]<;>walk_at "mir"
theorem Oh (a b:T):Eh [eY a,eY b]=some (eY (mx a b)):=by
 unfold Eh
 cases a<;>cases b<;>simp only[eY,mx]<;>walk_at "mir"
theorem Yn (a b:T):mx a b=mx b a:=by cases a<;>cases b<;>simp only[mx];congr 1;omega
theorem ztk (m:Int)(a b:T):lt m (mx a b)=mx (lt m a) (lt m b):=by cases a<;>cases b<;>simp only[mx,lt];congr 1;omega
theorem NJ {κ:Type}(h:κ×D->D):∀(ks:List κ) (ds:List D),ks.zip ((ks.zip ds).map h)=(ks.zip ds).map λp=>(p.1,h p)
 |[],_=>rfl
 |_::_,[]=>rfl
 |k::ks,d::ds=>by
  show(k,h (k,d))::ks.zip ((ks.zip ds).map h)=(k,h (k,d))::(ks.zip ds).map _
  rw[NJ h ks ds]
theorem WX {κ:Type}[DecidableEq κ]{ks:List κ}{ds:List D}(hl:ks.length=ds.length)(k k':κ)(d:D):jA (fY ks ds k d).1 (fY ks ds k d).2 k'=if k'=k then some d else jA ks ds k':=by
 unfold fY
 by_cases hc:ks.contains k=true
 ·rw[if_pos hc]
  unfold jA
  dsimp only
  rw[NJ,List.find?_map]
  by_cases hk:k'=k
  ·subst hk
   rw[if_pos rfl]
   have hm:k'∈ks:=by simpa using hc
   have:∃p∈ks.zip ds,p.1=k':=by
    obtain⟨i,hi,e⟩:=cD.mp hm
    refine⟨(ks[i],ds[i]),?_,e⟩
    rw[cD]
    exact⟨i,by rw[gu];omega,by simp⟩
   obtain⟨p,hp,he⟩:=this
   cases hf:(ks.zip ds).find? ((λp:κ×D=>decide (p.1=k')) ∘ λp:κ×D=>(p.1,if p.1=k' then d else p.2))with
   |none=>
    rw[pX]at hf
    have:=hf p hp
    simp[he]at this
   |some q=>
    have hq:=sA hf
    simp at hq
    simp[hq]
  ·rw[if_neg hk]
   have:((λp:κ×D=>decide (p.1=k')) ∘ λp:κ×D=>(p.1,if p.1=k then d else p.2))=λp:κ×D=>decide (p.1=k'):=rfl
   rw[this]
   cases hf:(ks.zip ds).find? λp=>decide (p.1=k')with
   |none=>rfl
   |some q=>
    have hq:=sA hf
    simp at hq
    have kB:¬q.1=k:=λz=>hk (hq▸z)
    simp[kB]
 ·rw[if_neg hc]
  unfold jA
  dsimp only
  have hz:(ks++[k]).zip (ds++[d])=ks.zip ds++[(k,d)]:=by
   rw[sI hl];rfl
  rw[hz,List.find?_append]
  by_cases hk:k'=k
  ·subst hk
   rw[if_pos rfl]
   have hn:(ks.zip ds).find? (λp=>decide (p.1=k'))=none:=by
    rw[pX]
    intro p hp
    have hm:=(gx (a:=p.1) (b:=p.2) hp).1
    have iH:¬k'∈ks:=by simpa using hc
    simp
    intro z
    exact iH (z▸hm)
   rw[hn]
   simp
  ·rw[if_neg hk]
   have:¬k=k':=λz=>hk z.symm
   cases hf:(ks.zip ds).find? (λp=>decide (p.1=k'))<;>simp[this]
theorem Yo {κ:Type}[DecidableEq κ]{ks:List κ}{ds:List D}(hl:ks.length=ds.length)(k:κ)(d:D):(fY ks ds k d).1.length=(fY ks ds k d).2.length/\(fY ks ds k d).1.length<=ks.length+1:=by
 unfold fY
 by_cases hc:ks.contains k=true
 ·rw[if_pos hc];simp;omega
 ·rw[if_neg hc];simp[hl]
abbrev Fl:=Nat×Nat×Int
def jM (q:Fl):D:=.tup [.int (q.1:Int),.int (q.2.1:Int),.int q.2.2]
def fl (fs:List Fl)(g r:Nat):T:=(fs.filter λq=>decide (q.1=g/\q.2.1=r)).foldl (λw q=>mx w (some q.2.2)) none
structure jQ (d:D)(n:Nat)(f:Nat->Nat->T):Prop where
 is:∃ks ds,d=.dT ks ds/\ks.length=ds.length/\ks.length<=n/\∀g r:Nat,jA ks ds [.inl (g:Int),.inl (r:Int)]=(f g r).map D.int
theorem jQ.get {d:D}{n:Nat}{f:Nat->Nat->T}(h:jQ d n f)(g r:Nat):((lO d (.tup [.int (g:Int),.int (r:Int)])).bind λr=>some (r.getD .non))=some (eY (f g r)):=by
 obtain⟨ks,ds,rfl,h1,h2,h3⟩:=h.is
 show some ((jA ks ds [.inl (g:Int),.inl (r:Int)]).getD .non)=_
 rw[h3]
 cases f g r<;>rfl
theorem zsj (a:T)(t:Int):some (eY (mx a (some t)))=(mx a (some t)).map D.int:=by cases a<;>rfl
theorem O3 (fs:List Fl)(hl:fs.length<=1000):∃d,xh [.lst (fs.map jM)]=some d/\jQ d 1000 (fl fs):=by
 obtain⟨ρ',h1,d,x2,x3,x4,pre,e1,rfl,hd⟩:=Ge (g:=gT (gsCons (gV 2) (gsCons (gV 3) (gsCons (gV 4) gsNil)))) (b:=ud) (ds:=fs.map jM) (ρ:=[some (.lst (fs.map jM)),some (.dT [] []),none,none,none])
  (λds ρ=>∃d x2 x3 x4,∃pre:List Fl,ds=pre.map jM/\ρ=[some (.lst (fs.map jM)),some d,x2,x3,x4]/\jQ d pre.length (fl pre))
  ⟨_,none,none,none,[],rfl,rfl,⟨[],[],rfl,rfl,by simp,λ_ _=>rfl⟩⟩ (by
   rintro ds dd post ρ e ⟨d,x2,x3,x4,pre,rfl,rfl,hd⟩
   obtain⟨q,hq,rfl⟩:∃q,fs[pre.length]?=some q/\jM q=dd:=by
    have:=Po e
    rw[bK,bi]at this
    exact cu.mp this
   have fq:pre.length<fs.length:=(aT.mp hq).1
   obtain⟨g,r,t⟩:=q
   have hg:=hd.get g r
   obtain⟨ks,ds,rfl,k1,k2,k3⟩:=hd.is
   have hm:=Oh (fl pre g r) (some t)
   have lT:ks.length<16777216:=by omega
   refine⟨_,_,rfl,.inl ?_,.dT (fY ks ds [.inl (g:Int),.inl (r:Int)] (eY (mx (fl pre g r) (some t)))).1 (fY ks ds [.inl (g:Int),.inl (r:Int)] (eY (mx (fl pre g r) (some t)))).2,some (.int (g:Int)),some (.int (r:Int)),some (.int t),pre++[(g,r,t)],by simp,rfl,?_⟩
   ·have hk:mY [.int (g:Int),.int (r:Int)]=some [.inl (g:Int),.inl (r:Int)]:=rfl
    have he:eY (some t)=.int t:=rfl
    rw[he]at hm
    unfold ud pT
    generalize eY (fl pre g r)=z at hg hm
    clear k1 k2 k3 e hq hd
    walk_at "mir"
   ·obtain⟨p1,p2⟩:=Yo k1 [.inl (g:Int),.inl (r:Int)] (eY (mx (fl pre g r) (some t)))
    refine⟨_,_,rfl,p1,by rw[bA,iK];omega,λg' r'=>?_⟩
    rw[WX k1]
    have hf:fl (pre++[(g,r,t)]) g' r'=if g=g'/\r=r' then mx (fl pre g' r') (some t)else fl pre g' r':=by
     unfold fl
     rw[List.filter_append,kD]
     by_cases hc:g=g'/\r=r'
     ·rw[if_pos hc];simp[hc]
     ·rw[if_neg hc]
      have:([(g,r,t)]:List Fl).filter (λq=>decide (q.1=g'/\q.2.1=r'))=[]:=by
       rw[iz]
       intro q hq
       rw[aW]at hq
       subst hq
       simpa using hc
      rw[this];rfl
    rw[hf]
    by_cases hc:g=g'/\r=r'
    ·obtain⟨rfl,rfl⟩:=hc
     rw[if_pos rfl,if_pos ⟨rfl,rfl⟩,zsj]
    ·rw[if_neg hc,if_neg ?_]
     ·exact k3 g' r'
     ·intro z
      simp at z
      exact hc ⟨by omega,by omega⟩)
 have:pre=fs:=by
  have hi:∀(a b:List Fl),a.map jM=b.map jM->a=b:=by
   intro a
   induction a with
   |nil=>intro b h;cases b with|nil=>rfl|cons _ _=>cases h
   |cons x a ih=>
    intro b h
    cases b with
    |nil=>cases h
    |cons y b=>
     simp only[bn,List.cons.injEq]at h
     obtain⟨h1,h2⟩:=h
     rw[ih b h2]
     obtain⟨x1,x2,x3⟩:=x
     obtain⟨y1,y2,y3⟩:=y
     simp[jM]at h1
     obtain⟨e1,e2,e3⟩:=h1
     have e1:x1=y1:=by omega
     have e2:x2=y2:=by omega
     rw[e1,e2,e3]
  exact(hi _ _ e1).symm
 subst this
 refine⟨d,?_,?_⟩
 ·unfold xh
  walk_at "mir"
 ·obtain⟨ks,ds,a,b,c,f⟩:=hd.is
  exact⟨ks,ds,a,b,by omega,f⟩
def fG (n:Nat)(f:Nat->T):List D:=(av n).map λg=>eY (f g)
def bP (n m:Nat)(Y:Nat->Nat->T):List D:=(av m).map λi=>D.lst (fG n (Y i))
theorem WY (n:Nat)(f:Nat->T):(fG n f).length=n:=by simp[fG]
theorem FQ (n m:Nat)(Y:Nat->Nat->T):(bP n m Y).length=m:=by simp[bP]
theorem Yp {n:Nat}(f:Nat->T){g:Nat}(h:g<n):atI (fG n f) (g:Int)=some (eY (f g)):=qd (by simp[fG,h])
theorem jp {n:Nat}{f f':Nat->T}(h:∀g,g<n->f g=f' g):fG n f=fG n f':=by
 unfold fG
 apply jO
 intro g hg
 rw[h g (aP.mp hg)]
theorem JS {n m:Nat}{Y Y':Nat->Nat->T}(h:∀i,i<m->∀g,g<n->Y i g=Y' i g):bP n m Y=bP n m Y':=by
 unfold bP
 apply jO
 intro i hi
 rw[jp (h i (aP.mp hi))]
theorem WZ {n:Nat}(f:Nat->T){g:Nat}(h:g<n)(v:T):lY (fG n f) (g:Int) (eY v)=some (fG n λx=>if x=g then v else f x):=by
 unfold lY
 have hx:ixN (fG n f).length (g:Int)=some g:=by rw[WY];exact OK h
 rw[hx]
 simp only[bj,Option.some.injEq]
 apply fW
 ·simp[fG]
 ·intro i h1 h2
  simp[fG,kZ]
  by_cases hi:g=i
  ·subst hi;simp
  ·rw[if_neg hi,if_neg (λz=>hi z.symm)]
def dep (as:List cw):Nat:=as.foldl (λm a=>max m a.b) 1
theorem FW:∀(as:List cw) (m:Nat),m<=as.foldl (λm a=>max m a.b) m/\(∀a∈as,a.b<=as.foldl (λm a=>max m a.b) m)/\((∀a∈as,a.b<=4)->m<=4->as.foldl (λm a=>max m a.b) m<=4)
 |[],m=>⟨aC _,λa h=>(by cases h),λ_ h=>h⟩
 |x::as,m=>by
  obtain⟨h1,h2,h3⟩:=FW as (max m x.b)
  refine⟨by show m<=as.foldl _ (max m x.b);omega,λa ha=>?_,λh4 hm=>h3 (λa ha=>h4 a (ao _ ha)) (by have:=h4 x ai;omega)⟩
  show a.b<=as.foldl _ (max m x.b)
  rcases aB.mp ha with rfl|ha
  ·omega
  ·exact h2 a ha
theorem KA (as:List cw):1<=dep as:=(FW as 1).1
theorem EC {as:List cw}{a:cw}(h:a∈as):a.b<=dep as:=(FW as 1).2.1 a h
theorem ED {as:List cw}(h:∀a∈as,a.b<=4):dep as<=4:=(FW as 1).2.2 h (by decide)
theorem Kk {α:Type}(f:α->Int):∀xs:List α,gZ (xs.map λx=>D.int (f x))=some (xs.map f)
 |[]=>rfl
 |x::xs=>by
  show(gZ (xs.map λx=>D.int (f x))).bind _=_
  rw[Kk f xs];rfl
theorem KB:∀(as:List cw) (m:Nat),(as.map λa=>(a.b:Int)).foldl max (m:Int)=((as.foldl (λm a=>max m a.b) m:Nat):Int)
 |[],m=>rfl
 |x::as,m=>by
  show(as.map λa=>(a.b:Int)).foldl max (max (m:Int) (x.b:Int))=_
  rw[show max (m:Int) (x.b:Int)=((max m x.b:Nat):Int)by omega,KB as]
  rfl
theorem jg (ns:List D)(as:List cw):dc [4] "names" (bv ns as)=some (.lst ns):=rfl
theorem J8 (ns:List D)(as:List cw):dc [4] "arrows" (bv ns as)=some (.lst (as.map bE)):=rfl
theorem zsk {ns:List D}{as:List cw}(hl:as.length<=1000):yx [bv ns as]=some (.int (dep as:Int)):=by
 have q:∀r:L3.Env,r[0]?.join=some (bv ns as)->u8 r=some (.lst (as.map λa=>D.int (a.b:Int))):=λr hr=>by
  have e:lsD (e1 (dc [4] "arrows") (eV 0)) r=some (as.map bE):=by
   have:eV 0 r=some (bv ns as):=hr
   unfold lsD e1
   rw[this];rfl
  exact xx bE (λa=>D.int (a.b:Int)) as e (by omega) λa _=>⟨_,rfl,by have:=fb a;walk_at "mir"⟩
 have m1:pv [.lst ([.int 1]++as.map λa=>D.int (a.b:Int))]=some (.int (dep as:Int)):=by
  unfold pv
  dsimp only
  have:gZ ([.int 1]++as.map λa=>D.int (a.b:Int))=some (1::as.map λa=>(a.b:Int)):=by
   show(gZ (as.map λa=>D.int (a.b:Int))).bind _=_
   rw[Kk];rfl
  rw[this]
  show some (D.int ((as.map λa=>(a.b:Int)).foldl max ((1:Nat):Int)))=_
  rw[KB];rfl
 have m2:dm (.lst [.int 1]) (.lst (as.map λa=>D.int (a.b:Int)))=some (.lst ([.int 1]++as.map λa=>D.int (a.b:Int))):=J9 (by simp;omega)
 generalize [D.int 1]++as.map (λa=>D.int (a.b:Int))=zs at m1 m2
 unfold yx
 clear hl
 walk_at "mir"
theorem Gr {m:aJ}{f:List D->Option D}{ns:List D}{as:List cw}{ds:List D}(h:(["names","arrows"]:List aJ).contains m=false):iq 4 m f (bv ns as) ds=f (bv ns as::ds):=by
 show(if 4=4/\(["names","arrows"]:List aJ).contains m=false then f (bv ns as::ds)else none)=_
 rw[if_pos ⟨rfl,h⟩]
theorem Ej {ns:List D}{as:List cw}(hl:as.length<=1000):iq 4 "most_behind" yx (bv ns as) []=some (.int (dep as:Int)):=by
 rw[Gr (by decide +kernel)]
 exact zsk hl
def into (as:List cw)(g:Nat):List Nat:=(as.zipIdx.filter λp=>decide (p.1.g=g)).map (·.2)
theorem O4 {ns:List D}{as:List cw}(hl:as.length<=1000)(g:Nat):wz [bv ns as,.int (g:Int)]=some (.lst (bp (into as g))):=by
 have q:∀r:L3.Env,r[0]?.join=some (bv ns as)->r[1]?.join=some (.int (g:Int))->qp r=some (.lst (bp (into as g))):=λr hr RF=>by
  have e:(λρ=>((aCons (e1 (dc [4] "arrows") (eV 0)) aNil) ρ).bind λds=>match ds with|[.lst xs]=>some (fI 0 xs)|_=>none) r=some (as.zipIdx.map λp=>D.tup [.int (p.2:Int),bE p.1]):=by
   have:eV 0 r=some (bv ns as):=hr
   have e2:e1 (dc [4] "arrows") (eV 0) r=some (.lst (as.map bE)):=by unfold e1;rw[this];rfl
   show((aCons (e1 (dc [4] "arrows") (eV 0)) aNil) r).bind _=_
   unfold aCons
   rw[e2]
   show some (fI 0 (as.map bE))=_
   rw[Oe bE]
  have hc:cI r [1]=[some (.int (g:Int))]:=by unfold cI;simp[RF]
  have:=qx (own:=2) (cap:=[1]) (fi:=λρ=>((aCons (e1 (dc [4] "arrows") (eV 0)) aNil) ρ).bind λds=>match ds with|[.lst xs]=>some (fI 0 xs)|_=>none) (g:=gT (gsCons (gV 0) (gsCons (gV 1) gsNil))) (p:=tb (e2 (gH false) (e1 (dc [0,1,2,3] "goal") (eV 1)) (eV 2))) (f:=eV 0) (λp:cw×Nat=>D.tup [.int (p.2:Int),bE p.1]) (λp=>decide (p.1.g=g)) (λp=>D.int (p.2:Int)) as.zipIdx e (by simp;omega) (λp _=>by
    refine⟨_,rfl,?_,λ_=>rfl⟩
    rw[hc]
    have:=fg p.1
    have hd:decide ((p.1.g:Int)=(g:Int))=decide (p.1.g=g):=by
     by_cases h:p.1.g=g
     ·simp[h]
     ·have:¬(p.1.g:Int)=(g:Int):=by omega
      simp[h,this]
    rw[←hd]
    walk_at "mir")
  rw[show qp r=_ from this]
  unfold into bp
  rw[dM]
  rfl
 unfold wz
 clear hl
 walk_at "mir"
def tm (as:List cw)(Y:Nat->Nat->T)(L g:Nat)(w:T):T:=(as.filter λa=>decide (a.g=g)).foldl (λw a=>mx w (lt a.t (Y (L-a.b) a.s))) w
theorem W1 {xs:List D}{n b:Nat}(hn:xs.length=n+1)(hb:b<=n):atI xs (-1-(b:Int))=xs[n-b]?:=by
 unfold atI
 have:ixN xs.length (-1-(b:Int))=some (n-b):=by
  unfold ixN
  rw[if_neg (by omega),if_pos (by omega)]
  congr 1
  omega
 rw[this];rfl
def FJ (Y:Nat->Nat->T)(L:Nat)(s:T×Option D×Option D)(p:cw×Nat):T×Option D×Option D:=(mx s.1 (lt p.1.t (Y (L-p.1.b) p.1.s)),some (D.int (p.2:Int)),some (bE p.1))
theorem zsl {ns:List D}{as:List cw}{many L:Nat}{Y:Nat->Nat->T}(hb:∀a∈as,a.b<=L/\a.s<many)(g:Nat)(w:T) :
  w6 [bv ns as,.lst (bP many (L+1) Y),.lst (bp (into as g)),eY w]=some (eY (tm as Y L g w)):=by
 have Fk:∀p∈as.zipIdx.filter (λp=>decide (p.1.g=g)),p∈as.zipIdx:=λp hp=>(aM.mp hp).1
 have hz:=JY (λa:cw=>decide (a.g=g)) as 0
 have hn:bp (into as g)=(as.zipIdx.filter (λp=>decide (p.1.g=g))).map λp=>D.int (p.2:Int):=by unfold into bp;rw[dM];rfl
 generalize hq:as.zipIdx.filter (λp=>decide (p.1.g=g))=ps at Fk hn hz
 obtain⟨e1,_⟩:=J6 (g:=gV 5) (b:=ve) (λp:cw×Nat=>D.int (p.2:Int)) (λs:T×Option D×Option D=>[some (bv ns as),some (.lst (bP many (L+1) Y)),some (.lst (bp (into as g))),some (eY w),some (eY s.1),s.2.1,s.2.2])
  (FJ Y L) (λ_=>True) ps (w,none,none) trivial (λs p hp _=>by
   refine⟨_,rfl,.inl ?_,trivial⟩
   unfold FJ
   have hp:=O2 (Fk p hp)
   have hm:p.1∈as:=dw.mpr ⟨_,hp⟩
   have f1:=fs p.1
   have f2:=ft p.1
   have f3:=fb p.1
   have f4:=J8 ns as
   have i1:fJ (.lst (as.map bE)) (.int (p.2:Int))=some (bE p.1):=qd (by rw[bK,hp];rfl)
   have i2:fJ (.lst (bP many (L+1) Y)) (.int (-1-(p.1.b:Int)))=some (.lst (fG many (Y (L-p.1.b)))):=by
    show atI _ _=_
    rw[W1 (n:=L) (by rw[FQ]) (hb p.1 hm).1]
    unfold bP
    rw[bK,dS (by omega)]
    rfl
   have i3:fJ (.lst (fG many (Y (L-p.1.b)))) (.int (p.1.s:Int))=some (eY (Y (L-p.1.b) p.1.s)):=Yp _ (hb p.1 hm).2
   have l1:=Ym (Y (L-p.1.b) p.1.s) p.1.t
   have l2:=Oh s.1 (lt p.1.t (Y (L-p.1.b) p.1.s))
   unfold ve
   clear hp hm hb hn hz Fk hq
   walk_at "mir")
 have e2:∀(ps:List (cw×Nat)) (s:T×Option D×Option D),(ps.foldl (FJ Y L) s).1=(ps.map (·.1)).foldl (λw a=>mx w (lt a.t (Y (L-a.b) a.s))) s.1:=by
  intro ps
  induction ps with
  |nil=>exactλs=>rfl
  |cons p ps ih=>intro s;rw[dH,ih];rfl
 have e3:=e2 ps (w,none,none)
 rw[hz]at e3
 generalize ps.foldl (FJ Y L) (w,none,none)=S at e1 e3
 have e4:S.1=tm as Y L g w:=e3
 rw[e4,←hn]at e1
 unfold w6
 clear hn hz Fk hq e2 e3 e4 hb
 walk_at "mir"
def wr (Y:Nat->Nat->T)(L:Nat)(Z:Nat->T):Nat->Nat->T:=λi g=>if i=L then Z g else Y i g
theorem Kl {as:List cw}{Y Y':Nat->Nat->T}{L g:Nat}(w:T)(h:∀a∈as,a.g=g->Y (L-a.b) a.s=Y' (L-a.b) a.s):tm as Y L g w=tm as Y' L g w:=by
 unfold tm
 have h2:∀a∈as.filter (λa=>decide (a.g=g)),Y (L-a.b) a.s=Y' (L-a.b) a.s:=λa ha=>by
  have:=aM.mp ha
  exact h a this.1 (by simpa using this.2)
 generalize as.filter (λa=>decide (a.g=g))=bs at h2
 induction bs generalizing w with
 |nil=>rfl
 |cons b bs ih=>
  rw[dH,dH,h2 b ai]
  exact ih _ λa ha=>h2 a (ao _ ha)
theorem W2 {many L x:Nat}{Y:Nat->Nat->T}(hx:x<many)(v:T):(bP many (L+1) Y).set L (.lst (fG many λy=>if y=x then v else Y L y))=bP many (L+1) (wr Y L λy=>if y=x then v else Y L y):=by
 apply fW
 ·simp[bP]
 ·intro i h1 h2
  have hi:i<L+1:=by simpa[bP]using h2
  rw[kZ]
  by_cases hL:L=i
  ·subst hL
   rw[if_pos rfl]
   simp only[bP,ig,e8]
   congr 1
   exact jp λg _=>by simp[wr]
  ·rw[if_neg hL]
   have:¬i=L:=λz=>hL z.symm
   simp only[bP,ig,e8]
   congr 1
   exact jp λg _=>by simp[wr,this]
theorem ztl {ns:List D}{as:List cw}{many L r depth rounds:Nat}{Y:Nat->Nat->T}{f:Nat->Nat->T}{d:D}{n:Nat}{ir mG x9 x10:Option D}{p:List Nat}(hd:jQ d n f)(hb:∀a∈as,a.b<=L/\a.s<many)(ok:Kahn.Ok (W0 as) many p)(hn:ns.length=many)(hm:many<=1000)
  (mI:D) (lU:∀g,g<many->fJ mI (.int (g:Int))=some (.lst (bp (into as g)))) :
  ∃(Z:Nat->T) (y9 sx:Option D),fk (gV 9) w8 (bp p) [some (bv ns as),some (.int (rounds:Int)),ir,mG,some (.lst (bP many (L+1) Y)),some d,some mI,some (.lst (bp p)),some (.int (r:Int)),x9,x10] =
   some (.nx [some (bv ns as),some (.int (rounds:Int)),ir,mG,some (.lst (bP many (L+1) (wr Y L Z))),some d,some mI,some (.lst (bp p)),some (.int (r:Int)),y9,sx])/\∀g∈p,Z g=tm as (wr Y L Z) L g (f g r):=by
 obtain⟨ρ',h1,pre,Z,y9,sx,e1,⟨post,e2⟩,hZ,rfl⟩:=Ge (g:=gV 9) (b:=w8) (ds:=bp p) (ρ:=[some (bv ns as),some (.int (rounds:Int)),ir,mG,some (.lst (bP many (L+1) Y)),some d,some mI,some (.lst (bp p)),some (.int (r:Int)),x9,x10])
  (λds ρ=>∃(pre:List Nat) (Z:Nat->T) (y9 sx:Option D),ds=bp pre/\(∃post,p=pre++post)/\(∀g∈pre,Z g=tm as (wr Y L Z) L g (f g r))/\ρ=[some (bv ns as),some (.int (rounds:Int)),ir,mG,some (.lst (bP many (L+1) (wr Y L Z))),some d,some mI,some (.lst (bp p)),some (.int (r:Int)),y9,sx])
  ⟨[],Y L,x9,x10,rfl,⟨p,rfl⟩,λg hg=>(by cases hg),by
   have:wr Y L (Y L)=Y:=by
    funext i g
    unfold wr
    by_cases h:i=L
    ·rw[if_pos h,h]
    ·rw[if_neg h]
   rw[this]⟩ (by
  rintro ds dd post ρ e ⟨pre,Z,y9,sx,rfl,⟨iR,e'⟩,hZ,rfl⟩
  have e3:bp iR=dd::post:=by
   have:bp p=bp pre++bp iR:=by rw[e'];simp[bp]
   rw[this]at e
   exact nF e
  cases iR with
  |nil=>cases e3
  |cons x iR=>
   have rL:dd=.int (x:Int):=by
    have:bp (x::iR)=.int (x:Int)::bp iR:=rfl
    rw[this]at e3
    cases e3
    rfl
   subst rL
   have hx:x∈p:=by rw[e'];simp
   have IZ:=ok.lt x hx
   have yA:p[pre.length]?=some x:=by rw[e'];simp
   have rS:∀a∈as,a.b=0->a.g=x->a.s∈pre:=λa ha h0 hg=>by
    have:=ok.ord pre.length x yA a (aM.mpr ⟨ha,by simpa using h0⟩) hg
    rw[e',sy]at this
    ·exact this
    ·rfl
   have Fi:x∉pre:=λz=>by
    have:=ok.nd
    rw[e',bo]at this
    exact this.2.2 x z x ai rfl
   have rM:∀g∈pre,∀a∈as,a.b=0->a.g=g->a.s≠x:=λg hg a ha h0 mn z=>by
    obtain⟨i,hi,ei⟩:=cD.mp hg
    have RD:p[i]?=some g:=by rw[e',cx hi];simp[hi,ei]
    have:=ok.ord i g RD a (aM.mpr ⟨ha,by simpa using h0⟩) mn
    rw[e',gd (by omega)]at this
    exact Fi (z▸i6 this)
   have Rr:=hd.get x r
   have RB:=lU x IZ
   have Cq:=zsl (ns:=ns) (Y:=wr Y L Z) hb x (f x r)
   have key:∀g,(∀a∈as,a.g=g->a.b=0->a.s≠x)->∀(v w:T),tm as (wr Y L λy=>if y=x then v else Z y) L g w=tm as (wr Y L Z) L g w:=λg hg v w=>by
    refine Kl w λa ha mn=>?_
    unfold wr
    by_cases hL:L-a.b=L
    ·rw[if_pos hL,if_pos hL]
     dsimp only
     rw[if_neg ?_]
     by_cases h0:a.b=0
     ·exact hg a ha mn h0
     ·have:=(hb a ha).1
      omega
    ·rw[if_neg hL,if_neg hL]
   generalize hv:tm as (wr Y L Z) L x (f x r)=v at Cq
   refine⟨_,_,rfl,.inl ?_,pre++[x],λy=>if y=x then v else Z y,some (.int (x:Int)),some (eY (f x r)),(Kj pre x).symm▸rfl,⟨iR,by rw[e'];simp⟩,?_,rfl⟩
   ·have Cm:=W2 (many:=many) (L:=L) (x:=x) (Y:=wr Y L Z) IZ v
    have hY:(wr (wr Y L Z) L λy=>if y=x then v else wr Y L Z L y)=wr Y L λy=>if y=x then v else Z y:=by
     funext i g
     unfold wr
     by_cases h:i=L<;>simp[h]
    have RI:lY (fG many (wr Y L Z L)) (x:Int) (eY v)=some (fG many λy=>if y=x then v else wr Y L Z L y):=WZ _ IZ v
    rw[hY]at Cm
    have Ru:ixN (bP many (L+1) (wr Y L Z)).length (-1)=some L:=by
     rw[FQ]
     unfold ixN
     rw[if_neg (by omega),if_pos (by omega)]
     congr 1
     omega
    have IP:(bP many (L+1) (wr Y L Z))[L]?=some (.lst (fG many (wr Y L Z L))):=by
     unfold bP
     rw[bK,dS (by omega)]
     rfl
    unfold w8 pB
    clear key rM rS Fi yA hx hv e e' e3 hZ ok hb hd lU
    walk_at "mir"
   ·intro g hg
    rcases bC.mp hg with hg|hg
    ·have kB:g≠x:=λz=>Fi (z▸hg)
     dsimp only
     rw[if_neg kB,key g (λa ha mn h0=>rM g hg a ha h0 mn)]
     exact hZ g hg
    ·rw[aW]at hg
     subst hg
     dsimp only
     rw[if_pos rfl,key g (λa ha mn h0 z=>Fi (z▸rS a ha h0 mn)),hv])
 have ny:pre=p:=by
  have hl:=congrArg iZ e1
  simp[bp]at hl
  rw[e2,bA]at hl
  have:post=[]:=gc (by omega)
  rw[e2,this,bQ]
 subst ny
 exact⟨Z,y9,sx,h1,hZ⟩
structure Run (as:List cw)(many depth rounds:Nat)(past:Nat->Nat->T)(f:Nat->Nat->T)(Y:Nat->Nat->T):Prop where
 past:∀i,i<depth->∀g,g<many->Y i g=past i g
 rc:∀r,r<rounds->∀g,g<many->Y (depth+r) g=tm as Y (depth+r) g (f g r)
theorem NK {many m:Nat}(Y:Nat->Nat->T)(Z:Nat->T):bP many m Y++[D.lst (fG many Z)]=bP many (m+1) (wr Y m Z):=by
 unfold bP
 rw[List.range_succ,sE]
 congr 1
 ·apply jO
  intro i hi
  have:i≠m:=by have:=aP.mp hi;omega
  congr 1
  exact jp λg _=>by simp[wr,this]
 ·simp only[bn,kE]
  congr 2
  exact jp λg _=>by simp[wr]
theorem Wf {ns:List D}{as:List cw}{many:Nat}(h:fw many as)(hn:ns.length=many):∃p:List Nat,iq 4 "order" j5 (bv ns as) []=some (.lst (bp p))/\Kahn.Ok (W0 as) many p/\p.length=many/\∀g,g<many->g∈p:=by
 obtain⟨p,h1,h2⟩:=h.placed
 refine⟨p,?_,h2⟩
 rw[Gr (by decide +kernel)]
 have f1:=jg ns as
 have f2:=J8 ns as
 rw[←hn]at h1
 unfold j5
 clear hn h h2
 walk_at "mir"
theorem Wg {ns:List D}{as:List cw}{many:Nat}(hl:as.length<=1000)(hn:ns.length=many)(hm:many<=1000)(r:L3.Env)(hr:r[0]?.join=some (bv ns as)):jd r=some (.lst ((av many).map λg=>D.lst (bp (into as g)))):=by
 have e:eN ef (aCons (e1 (dc [4] "names") (eV 0)) aNil) r=some (.int (many:Int)):=by
  have:eV 0 r=some (bv ns as):=hr
  have f1:=jg ns as
  subst hn
  have e2:e1 (dc [4] "names") (eV 0) r=some (.lst ns):=by unfold e1;rw[this];exact f1
  unfold eN aCons
  rw[e2];rfl
 refine xx (λ(t:Nat)=>D.int (t:Int)) (λg=>D.lst (bp (into as g))) (av many) (sT e (by omega)) (by rw[aU];omega) λg _=>⟨_,rfl,?_⟩
 have hc:cI r [0]=[some (bv ns as)]:=by unfold cI;simp[hr]
 rw[hc]
 have h1:=O4 (ns:=ns) hl g
 have h2:iq 4 "into" wz (bv ns as) [.int (g:Int)]=some (.lst (bp (into as g))):=by rw[Gr (by decide +kernel)];exact h1
 clear hn hl hm e
 walk_at "mir"
theorem zsm {ns:List D}{as:List cw}{many rounds:Nat}{d0 ir mG d:D}{past:Nat->Nat->T}{f:Nat->Nat->T}{n:Nat}(h:fw many as)(hn:ns.length=many)(hr:rounds<=1000)(ha:wp [bv ns as,ir]=some (.lst (bP many (dep as) past)))
  (hf:(mG=.non/\xh [.lst []]=some d)\/∃ds,mG=.lst ds/\xh [.lst ds]=some d) (hd:jQ d n f) :
  ∃Y,vi [bv ns as,.int (rounds:Int),ir,mG]=some (.lst (bP many (dep as+rounds) Y))/\Run as many (dep as) rounds past f Y:=by
 obtain⟨p,hp,ok,gq,rG⟩:=Wf h hn
 have fq:=h.len
 have oF:=h.le
 have lR:=ED λa ha=>(h.right a ha).b
 have mI:=Wg (ns:=ns) (as:=as) (many:=many) (by omega) hn (by omega)
 have lU:∀g,g<many->fJ (.lst ((av many).map λg=>D.lst (bp (into as g)))) (.int (g:Int))=some (.lst (bp (into as g))):=λg hg=>qd (by simp[hg])
 generalize (D.lst ((av many).map λg=>D.lst (bp (into as g))))=N at mI lU
 obtain⟨ρ',h1,Y,y8,y9,sx,rfl,run⟩:=M3 (g:=gV 8) (b:=vw) (lo:=0) (n:=rounds) (ρ:=[some (bv ns as),some (.int (rounds:Int)),some ir,some mG,some (.lst (bP many (dep as) past)),some d,some N,some (.lst (bp p)),none,none,none])
  (λr ρ=>∃Y y8 y9 sx,ρ=[some (bv ns as),some (.int (rounds:Int)),some ir,some mG,some (.lst (bP many (dep as+r) Y)),some d,some N,some (.lst (bp p)),y8,y9,sx]/\Run as many (dep as) r past f Y)
  ⟨past,none,none,none,rfl,λ_ _ _ _=>rfl,λr hr=>by omega⟩ (by
   rintro r ρ RE ⟨Y,y8,y9,sx,rfl,run⟩
   obtain⟨Z,z9,z10,hz,hZ⟩:=ztl (ns:=ns) (as:=as) (many:=many) (L:=dep as+r) (r:=r) (depth:=0) (rounds:=rounds) (Y:=wr Y (dep as+r) λ_=>none) (ir:=some ir) (mG:=some mG) (x9:=y9) (x10:=sx) (p:=p) hd (λa ha=>⟨by have:=EC ha;omega,(h.right a ha).s⟩) ok hn (by omega) N lU
   have hw:wr (wr Y (dep as+r) λ_=>none) (dep as+r) Z=wr Y (dep as+r) Z:=by
    funext i g
    unfold wr
    by_cases hi:i=dep as+r<;>simp[hi]
   rw[hw]at hz hZ
   refine⟨_,_,rfl,.inl ?_,wr Y (dep as+r) Z,some (.int (r:Int)),z9,z10,rfl,?_,?_⟩
   ·have e0:(0:Int)+(r:Int)=(r:Int):=by omega
    have rp:jX (.lst [.non]) (.int (ns.length:Int))=some (.lst (fG many λ_=>none)):=by
     unfold jX
     dsimp only
     rw[if_pos ⟨by omega,by omega,by simp⟩]
     congr 2
     unfold fG
     rw[iE,aU]
     simp[hn,eY]
    have rP:(bP many (dep as+r) Y).length<16777216:=by rw[FQ];omega
    have hsn:=NK (many:=many) (m:=dep as+r) Y λ_=>none
    have f1:=jg ns as
    rw[e0]
    unfold vw
    clear hZ hw lU mI run rG ok hp h hn ha hf hd fq oF lR hr RE
    walk_at "mir"
    rfl
   ·intro i hi g hg
    unfold wr
    rw[if_neg (by omega)]
    exact run.past i hi g hg
   ·intro r2 hr2 g hg
    by_cases he:r2=r
    ·subst he
     have:wr Y (dep as+r2) Z (dep as+r2) g=Z g:=by simp[wr]
     rw[this]
     exact hZ g (rG g hg)
    ·have h3:wr Y (dep as+r) Z (dep as+r2) g=Y (dep as+r2) g:=by unfold wr;rw[if_neg (by omega)]
     rw[h3,run.rc r2 (by omega) g hg]
     refine Kl _ λa _ _=>?_
     unfold wr
     rw[if_neg (by omega)])
 refine⟨Y,?_,run⟩
 have r1:gk [.int (rounds:Int)]=some (fu 0 rounds):=by
  rw[q0 (by omega) (by omega)]
  simp
 have Mh:=mI [some (bv ns as),some (.int (rounds:Int)),some ir,some mG,some (.lst (bP many (dep as) past)),some d,none,none,none,none,none] rfl
 unfold vi
 clear hd mI lU run rG ok h hn fq oF lR hr gq
 rcases hf with⟨rfl,hf⟩|⟨ds,rfl,hf⟩
 ·walk_at "mir"
 ·walk_at "mir"
theorem Wz {many k n:Nat}(Y:Nat->Nat->T)(h:n<=k):(bP many k Y).take n=bP many n Y:=by
 unfold bP
 rw[←List.map_take,List.take_range,mh h]
theorem WA {many k n:Nat}(Y:Nat->Nat->T):(bP many (n+k) Y).drop n=bP many k λr g=>Y (n+r) g:=by
 apply fW
 ·simp[bP]
 ·intro i h1 h2
  simp only[bP,List.getElem_drop,ig,e8]
theorem W3 {many n:Nat}(Y:Nat->Nat->T):(bP many n Y).reverse=bP many n λi g=>Y (n-1-i) g:=by
 apply fW
 ·simp[bP]
 ·intro i h1 h2
  simp only[bP,List.getElem_reverse,ig,e8,bi,aU]
theorem Vp {ns:List D}{as:List cw}{many:Nat}(h:fw many as)(hn:ns.length=many):wp [bv ns as,.non]=some (.lst (bP many (dep as) λ_ _=>some 0)):=by
 have fq:=h.len
 have oF:=h.le
 have lR:=ED λa ha=>(h.right a ha).b
 have mo:=Ej (ns:=ns) (as:=as) (by omega)
 have q:∀r:L3.Env,r[0]?.join=some (bv ns as)->r[2]?.join=some (.int (dep as:Int))->MS r=some (.lst (bP many (dep as) λ_ _=>some 0)):=λr h0 h2=>by
  refine xx (λ(t:Nat)=>D.int (t:Int)) (λ_=>D.lst (fG many λ_=>some 0)) (av (dep as)) (sT h2 (by omega)) (by rw[aU];omega) λg _=>⟨_,rfl,?_⟩
  have hc:cI r [0]=[some (bv ns as)]:=by unfold cI;simp[h0]
  rw[hc]
  have rp:jX (.lst [.int 0]) (.int (ns.length:Int))=some (.lst (fG many λ_=>some 0)):=by
   unfold jX
   dsimp only
   rw[if_pos ⟨by omega,by omega,by simp⟩]
   congr 2
   unfold fG
   rw[iE,aU]
   simp[hn,eY]
  have f1:=jg ns as
  clear hn h fq oF lR mo
  walk_at "mir"
 unfold wp
 clear h hn fq oF lR
 walk_at "mir"
theorem Vx {ns:List D}{as:List cw}{many k:Nat}{w:Nat->Nat->T}(h:fw many as)(hk:dep as<=k):wp [bv ns as,.lst (bP many k w)]=some (.lst (bP many (dep as) λi g=>w (dep as-1-i) g)):=by
 have fq:=h.len
 have lR:=ED λa ha=>(h.right a ha).b
 have mo:=Ej (ns:=ns) (as:=as) (by omega)
 have q:∀r:L3.Env,r[1]?.join=some (.lst (bP many k w))->r[2]?.join=some (.int (dep as:Int))->MR r=some (.lst (bP many (dep as) λi g=>w (dep as-1-i) g)):=λr h1 h2=>by
  refine xx (λ(i:Nat)=>D.lst (fG many λg=>w (dep as-1-i) g)) (λ(i:Nat)=>D.lst (fG many λg=>w (dep as-1-i) g)) (av (dep as)) ?_ (by rw[aU];omega) λg _=>⟨_,rfl,rfl⟩
  have e1:eV 1 r=some (.lst (bP many k w)):=h1
  have e2:pInt (eV 2) r=some (some (dep as:Int)):=by unfold pInt;have:eV 2 r=some (.int (dep as:Int)):=h2;rw[this];rfl
  have e3:jZ (.lst (bP many k w)) none (some (dep as:Int))=some (.lst (bP many (dep as) w)):=by
   rw[u4,Wi _ (dep as),Wz w hk]
  have e4:(λρ=>((eV 1) ρ).bind λd=>(pNo ρ).bind λl=>((pInt (eV 2)) ρ).bind λh=>jZ d l h) r=some (.lst (bP many (dep as) w)):=by
   show((eV 1) r).bind _=_
   rw[e1]
   show((pInt (eV 2)) r).bind _=_
   rw[e2]
   exact e3
  show((lsD _) r).bind _=_
  unfold lsD
  rw[e4]
  show some (bP many (dep as) w).reverse=_
  rw[W3]
  rfl
 unfold wp
 clear h fq lR hk
 walk_at "mir"
inductive km (as:List cw)(many:Nat):D->(Nat->Nat->T)->Prop
 |no:km as many .non λ_ _=>some 0
 |some (k:Nat) (w:Nat->Nat->T) (hk:dep as<=k):km as many (.lst (bP many k w)) λi g=>w (dep as-1-i) g
inductive tu:D->(Nat->Nat->T)->Prop
 |no:tu .non λ_ _=>none
 |some (fs:List Fl) (h:fs.length<=1000):tu (.lst (fs.map jM)) (fl fs)
theorem Pz {ns:List D}{as:List cw}{many rounds:Nat}{ir mG:D}{past:Nat->Nat->T}{f:Nat->Nat->T}(h:fw many as)(hn:ns.length=many)(hr:rounds<=1000)(hw:km as many ir past)(hf:tu mG f) :
  ∃Y,sU [bv ns as,.int (rounds:Int),ir,mG]=some (.lst (bP many rounds λr g=>Y (dep as+r) g))/\Run as many (dep as) rounds past f Y:=by
 have ha:wp [bv ns as,ir]=some (.lst (bP many (dep as) past)):=by
  cases hw with
  |no=>exact Vp h hn
  |some k w hk=>exact Vx h hk
 obtain⟨d,LG,hd2⟩:∃d,((mG=.non/\xh [.lst []]=some d)\/∃ds,mG=.lst ds/\xh [.lst ds]=some d)/\jQ d 1000 f:=by
  cases hf with
  |no=>
   obtain⟨d,h1,h2⟩:=O3 [] (by simp)
   exact⟨d,.inl ⟨rfl,h1⟩,h2⟩
  |some fs hl=>
   obtain⟨d,h1,h2⟩:=O3 fs hl
   exact⟨d,.inr ⟨_,rfl,h1⟩,h2⟩
 obtain⟨Y,h1,h2⟩:=zsm (d0:=.non) h hn hr ha LG hd2
 refine⟨Y,?_,h2⟩
 have mo:=Ej (ns:=ns) (as:=as) (by have:=h.len;omega)
 have e3:jZ (.lst (bP many (dep as+rounds) Y)) (some (dep as:Int)) none=some (.lst (bP many rounds λr g=>Y (dep as+r) g)):=by
  rw[u4,Wj _ (dep as),WA]
 unfold sU
 clear h hn hr hw hf ha LG hd2 h2
 walk_at "mir"
theorem Run.one {as:List cw}{many rounds:Nat}{past kr f f' Y Y':Nat->Nat->T}(h:fw many as)(h1:Run as many (dep as) rounds past f Y)(h2:Run as many (dep as) rounds kr f' Y')(hp:∀i,i<dep as->∀g,g<many->past i g=kr i g)(hf:∀r,r<rounds->∀g,g<many->f g r=f' g r) :
  ∀i,i<dep as+rounds->∀g,g<many->Y i g=Y' i g:=by
 obtain⟨rank,uR⟩:=h.rank
 have main:∀n,∀i,i<dep as+rounds->∀g,g<many->i*1<n->∀k g,g<many->rank g<k->Y i g=Y' i g:=by
  intro n
  induction n with
  |zero=>intro i _ _ _ hi;omega
  |succ n ih=>
   intro i hi _ _ kd k
   induction k with
   |zero=>intro g _ hk;omega
   |succ k Je=>
    intro g hg hk
    by_cases hd:i<dep as
    ·rw[h1.past i hd g hg,h2.past i hd g hg,hp i hd g hg]
    ·obtain⟨r,rfl⟩:∃r,i=dep as+r:=⟨i-dep as,by omega⟩
     rw[h1.rc r (by omega) g hg,h2.rc r (by omega) g hg,hf r (by omega) g hg]
     refine Kl _ λa ha mn=>?_
     have hs:=(h.right a ha).s
     by_cases hb:a.b=0
     ·rw[hb,oq]
      exact Je a.s hs (by have:=uR a ha hb;rw[mn]at this;omega)
     ·have:=EC ha
      have yA:=KA as
      exact ih (dep as+r-a.b) (by omega) a.s hs (by omega) (rank a.s+1) a.s hs (by omega)
 exactλi hi g hg=>main (i+1) i hi g hg (by omega) (rank g+1) g hg (by omega)
def ge (x:T)(v:Int):Prop:=∃y,x=some y/\v<=y
theorem O5 {a:T}(b:T){v:Int}(h:ge a v):ge (mx a b) v:=by
 obtain⟨y,rfl,hy⟩:=h
 cases b with
 |none=>exact⟨y,rfl,hy⟩
 |some j=>exact⟨_,rfl,by split<;>omega⟩
theorem zso (a:T){b:T}{v:Int}(h:ge b v):ge (mx a b) v:=by rw[Yn];exact O5 a h
theorem OZ {α:Type}(F:α->T){v:Int}:∀(xs:List α) (w:T),(ge w v\/∃a∈xs,ge (F a) v)->ge (xs.foldl (λw a=>mx w (F a)) w) v
 |[],w,h=>by
  rcases h with h|⟨a,ha,_⟩
  ·exact h
  ·cases ha
 |x::xs,w,h=>by
  refine OZ F xs _ ?_
  rcases h with h|⟨a,ha,h⟩
  ·exact .inl (O5 _ h)
  ·rcases aB.mp ha with rfl|ha
   ·exact .inl (zso _ h)
   ·exact .inr ⟨a,ha,h⟩
def DN (a:cw):Int×Int×Int×Int:=(a.s,a.g,a.t,a.b)
theorem Yq (neg:Bool)(as:List cw):gH neg (.lst (as.map dr)) (.lst [])=some (.bl (if neg then !decide (as=[])else decide (as=[]))):=by
 have:=(El (E4 Ei Ei Ei Ei)).eq (by decide) (neg:=neg) (as.map DN) []
 have e1:(El (E4 Ei Ei Ei Ei)).enc (as.map DN)=.lst (as.map dr):=by show D.lst _=_;rw[dM];rfl
 rw[e1]at this
 rw[show D.lst []=(El (E4 Ei Ei Ei Ei)).enc []from rfl,this]
 cases as<;>rfl
theorem zsp {as:List cw}(hl:as.length<=1000):dm (.lst [.int 1]) (.lst (as.map λa=>D.int (a.b:Int)))=some (.lst ([.int 1]++as.map λa=>D.int (a.b:Int)))/\pv [.lst ([.int 1]++as.map λa=>D.int (a.b:Int))]=some (.int (dep as:Int)):=by
 refine⟨J9 (by simp;omega),?_⟩
 unfold pv
 dsimp only
 have:gZ ([.int 1]++as.map λa=>D.int (a.b:Int))=some (1::as.map λa=>(a.b:Int)):=by
  show(gZ (as.map λa=>D.int (a.b:Int))).bind _=_
  rw[Kk];rfl
 rw[this]
 show some (D.int ((as.map λa=>(a.b:Int)).foldl max ((1:Nat):Int)))=_
 rw[KB];rfl
theorem zsq (as:List cw)(k:cw->Int):dep (as.map λa=>mH a (k a))=dep as:=by
 unfold dep
 rw[List.foldl_map]
 rfl
theorem Yr (g:Nat)(hg:g<=1000000):qN [.int (g:Int)]=some (.str (uX (g:Int)))/\dm (.str "a") (.str (uX (g:Int)))=some (.str ("a"++uX (g:Int))):=by
 have h:Sz 1900 (g:Int):=by
  show(g:Int).natAbs<2 ^ 1900
  have:(2:Nat) ^ 20<=2 ^ 1900:=eP (by decide) (by decide)
  omega
 have h2:=YE h
 have h3:("a":aJ).length=1:=by decide
 exact⟨Xf h,W9 (by omega)⟩
theorem zsr {ns:List D}{as:List cw}{many rounds:Nat}{ir mG:D}{past kr f f' Y:Nat->Nat->T}(h:fw many as)(hn:ns.length=many)(hr:rounds<=1000)(hw:km as many ir kr)(hf:tu mG f')
  (hY:Run as many (dep as) rounds past f Y) (hp:∀i,i<dep as->∀g,g<many->kr i g=past i g) (Rm:∀r,r<rounds->∀g,g<many->f' g r=f g r) :
  sU [bv ns as,.int (rounds:Int),ir,mG]=some (.lst (bP many rounds λr g=>Y (dep as+r) g)):=by
 obtain⟨Y',h1,h2⟩:=Pz (rounds:=rounds) h hn hr hw hf
 rw[h1,JS λi hi g hg=>h2.one h hY hp Rm (dep as+i) (by omega) g hg]
theorem ztm (a b:Int)(x:T):lt a (lt b x)=lt b (lt a x):=by
 cases x with
 |none=>rfl
 |some i=>show some _=some _;congr 1;omega
theorem W4 (far:Int)(as:List cw)(Y:Nat->Nat->T)(L g:Nat)(w:T):tm as (λi g=>lt far (Y i g)) L g (lt far w)=lt far (tm as Y L g w):=by
 unfold tm
 generalize as.filter (λa=>decide (a.g=g))=bs
 induction bs generalizing w with
 |nil=>rfl
 |cons b bs ih=>
  rw[dH,dH,←ih,ztk,ztm]
theorem Run.shift (far:Int){as:List cw}{many depth rounds:Nat}{past f Y:Nat->Nat->T}(h:Run as many depth rounds past f Y):Run as many depth rounds (λi g=>lt far (past i g)) (λg r=>lt far (f g r)) (λi g=>lt far (Y i g)) :=
 ⟨λi hi g hg=>by rw[h.past i hi g hg],λr hr g hg=>by rw[W4,←h.rc r hr g hg]⟩
def bc (n m:Nat)(X:Nat->Nat->Int):List D:=bP n m λi g=>some (X i g)
theorem FY {n m i:Nat}{X:Nat->Nat->Int}(hi:i<m):fJ (.lst (bc n m X)) (.int (i:Int))=some (.lst (cL n (X i))):=qd (by unfold bc bP;rw[bK,dS hi];rfl)
theorem NL (n m:Nat)(X:Nat->Nat->Int):(bc n m X).length=m:=FQ _ _ _
theorem NW {α:Type}(f g:α->D):∀xs:List α,ka (xs.map f) (xs.map g)=xs.map λx=>.tup [f x,g x]
 |[]=>rfl
 |x::xs=>by show D.tup [f x,g x]::ka (xs.map f) (xs.map g)=_;rw[NW f g xs];rfl
theorem Km {many m f c:Nat}{X:Nat->Nat->Int}(hm:many<=1000)(h:f+c<m):ux [.lst (bc many m X),.int (f:Int),.int (c:Int)]=some (.lst (cL many λg=>X (f+c) g-X f g)):=by
 have i1:=FY (n:=many) (X:=X) (i:=f) (m:=m) (by omega)
 have i2:=FY (n:=many) (X:=X) (i:=f+c) (m:=m) h
 have e:((f+c:Nat):Int)=(f:Int)+(c:Int):=by omega
 rw[e]at i2
 have q:Na [some (.lst (bc many m X)),some (.int (f:Int)),some (.int (c:Int))]=some (.lst (cL many λg=>X (f+c) g-X f g)):=by
  refine xx (λ(g:Nat)=>D.tup [.int (X f g),.int (X (f+c) g)]) (λg=>D.int (X (f+c) g-X f g)) (av many) ?_ (by rw[aU];omega) λg _=>⟨_,rfl,rfl⟩
  have:(aCons (e2 fJ (eV 0) (eV 1)) (aCons (e2 fJ (eV 0) (e2 dm (eV 1) (eV 2))) aNil)) [some (.lst (bc many m X)),some (.int (f:Int)),some (.int (c:Int))]=some [.lst (cL many (X f)),.lst (cL many (X (f+c)))]:=by
   generalize cL many (X (f+c))=v2,cL many (X f)=v1,bc many m X=rs at *
   clear hm h e
   walk_at "mir"
  show((aCons (e2 fJ (eV 0) (eV 1)) (aCons (e2 fJ (eV 0) (e2 dm (eV 1) (eV 2))) aNil)) [some (.lst (bc many m X)),some (.int (f:Int)),some (.int (c:Int))]).bind zE=_
  rw[this]
  show some (ka (cL many (X f)) (cL many (X (f+c))))=_
  unfold cL
  rw[NW]
 generalize (cL many λg=>X (f+c) g-X f g)=v at *
 unfold ux
 clear i1 i2 e hm h
 walk_at "mir"
theorem NA {α:Type}(f:α->Bool):∀xs:List α,iO (xs.map λx=>D.bl (f x))=some (xs.map f)
 |[]=>rfl
 |x::xs=>by
  show(iO (xs.map λx=>D.bl (f x))).bind _=_
  rw[NA f xs]
  rfl
theorem all_map {α:Type}(f:α->Bool)(xs:List α):rC [.lst (xs.map λx=>D.bl (f x))]=some (.bl (xs.all f)):=by
 show(iO _).bind _=_
 rw[NA]
 show some (D.bl ((xs.map f).all id))=_
 rw[List.all_map]
 rfl
theorem O6 (neg:Bool)(n:Nat)(f f':Nat->Int):gH neg (.lst (cL n f)) (.lst (cL n f'))=some (.bl (if neg then !decide (∀g,g<n->f g=f' g)else decide (∀g,g<n->f g=f' g))):=by
 have:=(El Ei).eq (by decide) (neg:=neg) ((av n).map f) ((av n).map f')
 have e:∀f:Nat->Int,(El Ei).enc ((av n).map f)=.lst (cL n f):=λf=>by
  show D.lst (((av n).map f).map D.int)=_
  rw[dM]
  rfl
 rw[e,e]at this
 have hd:decide ((av n).map f=(av n).map f')=decide (∀g,g<n->f g=f' g):=by
  apply decide_eq_decide.mpr
  rw[List.map_inj_left]
  exact⟨λh g hg=>h g (aP.mpr hg),λh g hg=>h g (aP.mp hg)⟩
 rw[hd]at this
 exact this
theorem Ys {many m f n c:Nat}{X:Nat->Nat->Int}{L:Nat->Int}(hm:many<=1000)(iH:m<=1000)(hn:1<=n)(h:f+n+c<=m):FT [.lst (bc many m X),.int (f:Int),.int (f+n-1:Int),.int (c:Int),.lst (cL many L)]=some (.bl ((av n).all λi=>decide (∀g,g<many->X (f+i+c) g-X (f+i) g=L g))):=by
 have q:M2 [some (.lst (bc many m X)),some (.int (f:Int)),some (.int (f+n-1:Int)),some (.int (c:Int)),some (.lst (cL many L))]=some (.lst ((av n).map λi=>D.bl (decide (∀g,g<many->X (f+i+c) g-X (f+i) g=L g)))):=by
  refine xx (λ(i:Nat)=>D.int ((f:Int)+(i:Int))) (λi=>D.bl (decide (∀g,g<many->X (f+i+c) g-X (f+i) g=L g))) (av n) ?_ (by rw[aU];omega) λi hi=>⟨_,rfl,?_⟩
  ·have er:(aCons (eV 1) (aCons (e2 dm (eV 2) (eC (.int 1))) aNil)) [some (.lst (bc many m X)),some (.int (f:Int)),some (.int (f+n-1:Int)),some (.int (c:Int)),some (.lst (cL many L))]=some [.int (f:Int),.int ((f+n-1:Int)+1)]:=by
    generalize (f+n-1:Int)=z
    rfl
   show((aCons (eV 1) (aCons (e2 dm (eV 2) (eC (.int 1))) aNil)) [some (.lst (bc many m X)),some (.int (f:Int)),some (.int (f+n-1:Int)),some (.int (c:Int)),some (.lst (cL many L))]).bind mJ=_
   rw[er,bj,Gf (by omega) (by omega) (by omega) (by omega),show((f+n-1:Int)+1-(f:Int)).toNat=n by omega]
   rfl
  ·have hi:=aP.mp hi
   have hg:=Km (many:=many) (m:=m) (f:=f+i) (c:=c) (X:=X) hm (by omega)
   have he:=O6 false many (λg=>X (f+i+c) g-X (f+i) g) L
   have e:((f+i:Nat):Int)=(f:Int)+(i:Int):=by omega
   rw[e]at hg
   rw[if_neg (by decide)]at he
   generalize (cL many λg=>X (f+i+c) g-X (f+i) g)=v,cL many L=vl,bc many m X=rs,decide (∀g,g<many->X (f+i+c) g-X (f+i) g=L g)=bb at *
   have dD:cI [some (.lst rs),some (.int (f:Int)),some (.int (f+n-1:Int)),some (.int (c:Int)),some (.lst vl)] [0,3,4]=[some (.lst rs),some (.int (c:Int)),some (.lst vl)]:=rfl
   rw[dD]
   clear hm iH hn h e hi dD
   walk_at "mir"
 have a1:=all_map (λi=>decide (∀g,g<many->X (f+i+c) g-X (f+i) g=L g)) (av n)
 generalize ((av n).map λi=>D.bl (decide (∀g,g<many->X (f+i+c) g-X (f+i) g=L g)))=bs,((av n).all λi=>decide (∀g,g<many->X (f+i+c) g-X (f+i) g=L g))=bb,cL many L=vl,bc many m X=rs at *
 unfold FT
 clear hm iH hn h
 walk_at "mir"
theorem Ah {n g:Nat}{f:Nat->Int}(h:g<n):fJ (.lst (cL n f)) (.int (g:Int))=some (.int (f g)):=Gz f h
theorem Yt {ns:List D}{as:List cw}{many:Nat}{L:Nat->Int}(hl:as.length<=1000)(hs:∀a∈as,a.s<many/\a.g<many):vk [bv ns as,.lst (cL many L)]=some (.bl (as.all λa=>decide (L a.s<=L a.g))):=by
 have q:je [some (bv ns as),some (.lst (cL many L))]=some (.lst (as.map λa=>D.bl (decide (L a.s<=L a.g)))):=by
  refine xx bE (λa=>D.bl (decide (L a.s<=L a.g))) as (by unfold lsD;rfl) (by omega) λa ha=>⟨_,rfl,?_⟩
  obtain⟨h1,h2⟩:=hs a ha
  have i1:=Ah (f:=L) h1
  have i2:=Ah (f:=L) h2
  have f1:=fs a
  have f2:=fg a
  have dD:cI [some (bv ns as),some (.lst (cL many L))] [1]=[some (.lst (cL many L))]:=rfl
  rw[dD]
  generalize cL many L=vl at *
  clear hl hs h1 h2 dD
  walk_at "mir"
 have a1:=all_map (λ(a:cw)=>decide (L a.s<=L a.g)) as
 generalize (as.map λa=>D.bl (decide (L a.s<=L a.g)))=bs,(as.all λa=>decide (L a.s<=L a.g))=bb,bv ns as=net,cL many L=vl at *
 unfold vk
 clear hl hs
 walk_at "mir"
def mF (X:Nat->Nat->Int)(n g:Nat)(a:cw):Bool:=decide (X (n-a.b) a.s+a.t=X n g)
theorem WB {many m n g:Nat}{X:Nat->Nat->Int}(hn:n<m)(hg:g<many){cs:List cw}(hc:∀a∈cs,a.b<=n/\a.s<many):jf [.lst (bc many m X),.lst (cs.map bE),.int (g:Int),.int (n:Int)]=some (.bl (cs.any (mF X n g))):=by
 have lp:∀(bs:List cw) (C:D) (x4:Option D),(∀a∈bs,a.b<=n/\a.s<many)->(bs.any (mF X n g)=true/\fk (gV 4) xf (bs.map bE) [some (.lst (bc many m X)),some C,some (.int (g:Int)),some (.int (n:Int)),x4]=some (.rt (.bl true)))\/(bs.any (mF X n g)=false/\∃y4,fk (gV 4) xf (bs.map bE) [some (.lst (bc many m X)),some C,some (.int (g:Int)),some (.int (n:Int)),x4]=some (.nx [some (.lst (bc many m X)),some C,some (.int (g:Int)),some (.int (n:Int)),y4])):=by
  intro bs C
  induction bs with
  |nil=>exactλx4 _=>.inr ⟨rfl,x4,rfl⟩
  |cons a bs ih=>
   intro x4 hb
   obtain⟨h1,h2⟩:=hb a ai
   have i1:=FY (n:=many) (X:=X) (i:=n-a.b) (m:=m) (by omega)
   have e:((n-a.b:Nat):Int)=(n:Int)-(a.b:Int):=by omega
   rw[e]at i1
   have i2:=Ah (f:=X (n-a.b)) h2
   have i3:=FY (n:=many) (X:=X) (i:=n) (m:=m) hn
   have i4:=Ah (f:=X n) hg
   have f1:=fs a
   have f2:=ft a
   have f3:=fb a
   have eq:gH false (.int (X (n-a.b) a.s+a.t)) (.int (X n g))=some (.bl (mF X n g a)):=(zci _ _).trans (by rw[if_neg (by decide)];rfl)
   have step:xf [some (.lst (bc many m X)),some C,some (.int (g:Int)),some (.int (n:Int)),some (bE a)]=if mF X n g a=true then some (.rt (.bl true))else some (.nx [some (.lst (bc many m X)),some C,some (.int (g:Int)),some (.int (n:Int)),some (bE a)]):=by
    generalize mF X n g a=bb,bc many m X=rs,cL many (X (n-a.b))=v1,cL many (X n)=v2,X (n-a.b) a.s=w1 at *
    generalize X n g=w2 at *
    unfold xf
    clear ih hb h1 h2 e hn hg hc
    cases bb<;>walk_at "mir"
   have Ef:fk (gV 4) xf ((a::bs).map bE) [some (.lst (bc many m X)),some C,some (.int (g:Int)),some (.int (n:Int)),x4]=(xf [some (.lst (bc many m X)),some C,some (.int (g:Int)),some (.int (n:Int)),some (bE a)]).bind λo=>match o with
     |.nx ρ'=>fk (gV 4) xf (bs.map bE) ρ'
     |.ct ρ'=>fk (gV 4) xf (bs.map bE) ρ'
     |.bk ρ'=>some (.nx ρ')
     |.rt d=>some (.rt d):=rfl
   rw[Ef,step,dQ]
   cases Rj:mF X n g a with
   |true=>exact .inl ⟨rfl,rfl⟩
   |false=>
    rw[if_neg (by decide)]
    exact ih (some (bE a)) λb xI=>hb b (ao _ xI)
 unfold jf
 rcases lp cs (.lst (cs.map bE)) none hc with⟨h1,h2⟩|⟨h1,y4,h2⟩
 ·rw[h1]
  clear lp hc h1
  generalize bc many m X=rs,cs.map bE=cl at *
  walk_at "mir"
 ·rw[h1]
  clear lp hc h1
  generalize bc many m X=rs,cs.map bE=cl at *
  walk_at "mir"
theorem FZ {α:Type}{g:D->L3.Env->Option L3.Env}{b:SF}(enc:α->D)(f:α->Bool)(I:L3.Env->Prop)(w:D):∀(xs:List α) (ρ:L3.Env),I ρ->(∀x∈xs,∀ρ,I ρ->∃ρ1,g (enc x) ρ=some ρ1/\((f x=true/\∃ρ2,b ρ1=some (.nx ρ2)/\I ρ2)\/(f x=false/\b ρ1=some (.rt w)))) ->
  (xs.all f=true/\∃ρ',fk g b (xs.map enc) ρ=some (.nx ρ')/\I ρ')\/(xs.all f=false/\fk g b (xs.map enc) ρ=some (.rt w))
 |[],ρ,h,_=>.inl ⟨rfl,ρ,rfl,h⟩
 |x::xs,ρ,h,st=>by
  obtain⟨ρ1,h1,h2⟩:=st x ai ρ h
  have Ef:fk g b ((x::xs).map enc) ρ=(g (enc x) ρ).bind λρ1=>(b ρ1).bind λo=>match o with
    |.nx ρ'=>fk g b (xs.map enc) ρ'
    |.ct ρ'=>fk g b (xs.map enc) ρ'
    |.bk ρ'=>some (.nx ρ')
    |.rt d=>some (.rt d):=rfl
  rw[Ef,h1,bj,cZ]
  rcases h2 with⟨e,ρ2,h2,h3⟩|⟨e,h2⟩
  ·rw[h2,e]
   exact FZ enc f I w xs ρ2 h3 λy hy=>st y (ao _ hy)
  ·rw[h2,e]
   exact .inr ⟨rfl,rfl⟩
def iw (as:List cw)(g:Nat):List cw:=as.filter λa=>decide (a.g=g)
def nY (as:List cw)(L:Nat->Int)(g:Nat):List cw:=(iw as g).filter λa=>decide (L a.s=L g)
theorem Ga {ns:List D}{as:List cw}(hl:as.length<=1000)(g:Nat):iq 4 "into" wz (bv ns as) [.int (g:Int)]=some (.lst (bp (into as g))):=by
 rw[Gr (by decide)]
 exact O4 hl g
theorem VW {ns:List D}{as:List cw}(hl:as.length<=1000)(g:Nat)(r:L3.Env)(h0:r[0]?.join=some (bv ns as))(h5:r[5]?.join=some (.int (g:Int))):qr r=some (.lst ((iw as g).map bE)):=by
 have e:(iw as g).map bE=(as.zipIdx.filter λp=>decide (p.1.g=g)).map λp=>bE p.1:=by
  unfold iw
  rw[←JY (λa:cw=>decide (a.g=g)) as 0,dM]
  rfl
 rw[e]
 refine xx (λp:cw×Nat=>D.int (p.2:Int)) (λp=>bE p.1) _ ?_ ?_ λp hp=>⟨_,rfl,?_⟩
 ·have e0:eV 0 r=_:=h0
  have e5:eV 5 r=_:=h5
  have:=Ga (ns:=ns) hl g
  show((((eV 0) r).bind λo=>((aCons (eV 5) aNil) r).bind λds=>iq 4 "into" wz o (ds++[]))).bind _=_
  unfold aCons aNil
  rw[e0,e5]
  simp only[bj,bQ]
  rw[this]
  show some (bp (into as g))=_
  unfold bp into
  rw[dM]
  rfl
 ·have:=iJ (λp:cw×Nat=>decide (p.1.g=g)) as.zipIdx
  rw[List.length_zipIdx]at this
  omega
 ·have hp:=O2 (aM.mp hp).1
  have dD:cI r [0]=[some (bv ns as)]:=by unfold cI;simp[h0]
  rw[dD]
  have i1:fJ (.lst (as.map bE)) (.int (p.2:Int))=some (bE p.1):=qd (by rw[bK,hp];rfl)
  have f1:=J8 ns as
  generalize bv ns as=net at *
  clear dD h0 h5 hp hl e
  walk_at "mir"
theorem VX {as:List cw}{many g:Nat}{L:Nat->Int}(hl:as.length<=1000)(hs:∀a∈as,a.s<many)(hg:g<many)(r:L3.Env)(h4:r[4]?.join=some (.lst (cL many L)))(h5:r[5]?.join=some (.int (g:Int)))(h6:r[6]?.join=some (.lst ((iw as g).map bE))):qq r=some (.lst ((nY as L g).map bE)):=by
 refine qx bE (λa=>decide (L a.s=L g)) bE (iw as g) ?_ ?_ λa ha=>⟨_,rfl,?_,λ_=>rfl⟩
 ·have e6:eV 6 r=_:=h6
  unfold lsD
  rw[e6];rfl
 ·have:=iJ (λa:cw=>decide (a.g=g)) as
  unfold iw
  omega
 ·have dD:cI r [4,5]=[some (.lst (cL many L)),some (.int (g:Int))]:=by unfold cI;simp[h4,h5]
  rw[dD]
  have i1:=Ah (f:=L) (hs a (aM.mp ha).1)
  have i2:=Ah (f:=L) hg
  have f1:=fs a
  have eq:=zci (neg:=false) (L a.s) (L g)
  rw[if_neg (by decide)]at eq
  generalize cL many L=vl,L a.s=w1,L g=w2 at *
  clear hl hs hg h4 h5 h6 ha dD
  walk_at "mir"
def qE (as:List cw)(X:Nat->Nat->Int)(L:Nat->Int)(S c g:Nat):Bool:=(av c).all λi=>(nY as L g).any (mF X (S+i) g)
theorem zss {ns:List D}{as:List cw}{many m S c:Nat}{X:Nat->Nat->Int}{L:Nat->Int}(hn:ns.length=many)(hm:many<=1000)(iH:m<=1000)(hl:as.length<=1000)(hs:∀a∈as,a.s<many/\a.b<=S)(h:S+c<=m)(hc:1<=c):vx [bv ns as,.lst (bc many m X),.int (S:Int),.int ((S:Int)+(c:Int)-1),.lst (cL many L)]=some (.bl ((av many).all (qE as X L S c))):=by
 generalize hz:(S:Int)+(c:Int)-1=z
 have inner:∀(g:Nat),g<many->∀x6 x8:Option D,(qE as X L S c g=true/\∃y8,fk (gV 8) xi ((av c).map λ(i:Nat)=>D.int ((S:Int)+(i:Int))) [some (bv ns as),some (.lst (bc many m X)),some (.int (S:Int)),some (.int z),some (.lst (cL many L)),some (.int (g:Int)),x6,some (.lst ((nY as L g).map bE)),x8]=some (.nx [some (bv ns as),some (.lst (bc many m X)),some (.int (S:Int)),some (.int z),some (.lst (cL many L)),some (.int (g:Int)),x6,some (.lst ((nY as L g).map bE)),y8]))\/(qE as X L S c g=false/\fk (gV 8) xi ((av c).map λ(i:Nat)=>D.int ((S:Int)+(i:Int))) [some (bv ns as),some (.lst (bc many m X)),some (.int (S:Int)),some (.int z),some (.lst (cL many L)),some (.int (g:Int)),x6,some (.lst ((nY as L g).map bE)),x8]=some (.rt (.bl false))):=by
  intro g hg x6 x8
  have:=FZ (g:=gV 8) (b:=xi) (λ(i:Nat)=>D.int ((S:Int)+(i:Int))) (λi=>(nY as L g).any (mF X (S+i) g)) (λρ=>∃y8,ρ=[some (bv ns as),some (.lst (bc many m X)),some (.int (S:Int)),some (.int z),some (.lst (cL many L)),some (.int (g:Int)),x6,some (.lst ((nY as L g).map bE)),y8]) (.bl false) (av c) _ ⟨x8,rfl⟩ (by
   rintro i hi ρ ⟨y8,rfl⟩
   have hi:=aP.mp hi
   refine⟨_,rfl,?_⟩
   have k1:=WB (many:=many) (m:=m) (n:=S+i) (g:=g) (X:=X) (by omega) hg (cs:=nY as L g) (λa ha=>by
    have:=hs a (aM.mp (aM.mp ha).1).1
    exact⟨by omega,this.1⟩)
   have e:((S+i:Nat):Int)=(S:Int)+(i:Int):=by omega
   rw[e]at k1
   cases hb:(nY as L g).any (mF X (S+i) g)with
   |true=>
    refine .inl ⟨rfl,[some (bv ns as),some (.lst (bc many m X)),some (.int (S:Int)),some (.int z),some (.lst (cL many L)),some (.int (g:Int)),x6,some (.lst ((nY as L g).map bE)),some (.int ((S:Int)+(i:Int)))],?_,_,rfl⟩
    rw[hb]at k1
    show xi [some (bv ns as),some (.lst (bc many m X)),some (.int (S:Int)),some (.int z),some (.lst (cL many L)),some (.int (g:Int)),x6,some (.lst ((nY as L g).map bE)),some (.int ((S:Int)+(i:Int)))]=_
    generalize bv ns as=net,bc many m X=rs,(nY as L g).map bE=cl,cL many L=vl at *
    unfold xi
    clear hz hs h hc hl hm iH hn e hi hb hg
    walk_at "mir"
   |false=>
    refine .inr ⟨rfl,?_⟩
    rw[hb]at k1
    show xi [some (bv ns as),some (.lst (bc many m X)),some (.int (S:Int)),some (.int z),some (.lst (cL many L)),some (.int (g:Int)),x6,some (.lst ((nY as L g).map bE)),some (.int ((S:Int)+(i:Int)))]=_
    generalize bv ns as=net,bc many m X=rs,(nY as L g).map bE=cl,cL many L=vl at *
    unfold xi
    clear hz hs h hc hl hm iH hn e hi hb hg
    walk_at "mir")
  rcases this with⟨h1,ρ',h2,y8,rfl⟩|⟨h1,h2⟩
  ·exact .inl ⟨h1,y8,h2⟩
  ·exact .inr ⟨h1,h2⟩
 have er:mJ [.int (S:Int),.int (z+1)]=some ((av c).map λ(i:Nat)=>D.int ((S:Int)+(i:Int))):=by
  rw[Gf (by omega) (by omega) (by omega) (by omega),show(z+1-(S:Int)).toNat=c by omega]
  rfl
 have outer:=FZ (g:=gV 5) (b:=wo) (λ(g:Nat)=>D.int (g:Int)) (qE as X L S c) (λρ=>∃y5 y6 y7 y8,ρ=[some (bv ns as),some (.lst (bc many m X)),some (.int (S:Int)),some (.int z),some (.lst (cL many L)),y5,y6,y7,y8]) (.bl false) (av many) [some (bv ns as),some (.lst (bc many m X)),some (.int (S:Int)),some (.int z),some (.lst (cL many L)),none,none,none,none] ⟨_,_,_,_,rfl⟩ (by
  rintro g hg ρ ⟨y5,y6,y7,y8,rfl⟩
  have hg:=aP.mp hg
  refine⟨_,rfl,?_⟩
  have q2:=VW (ns:=ns) (as:=as) hl g [some (bv ns as),some (.lst (bc many m X)),some (.int (S:Int)),some (.int z),some (.lst (cL many L)),some (.int (g:Int)),y6,y7,y8] rfl rfl
  have q1:=VX (as:=as) (many:=many) (L:=L) hl (λa ha=>(hs a ha).1) hg [some (bv ns as),some (.lst (bc many m X)),some (.int (S:Int)),some (.int z),some (.lst (cL many L)),some (.int (g:Int)),some (.lst ((iw as g).map bE)),y7,y8] rfl rfl rfl
  rcases inner g hg (some (.lst ((iw as g).map bE))) y8 with⟨h1,z8,h2⟩|⟨h1,h2⟩
  ·refine .inl ⟨h1,[some (bv ns as),some (.lst (bc many m X)),some (.int (S:Int)),some (.int z),some (.lst (cL many L)),some (.int (g:Int)),some (.lst ((iw as g).map bE)),some (.lst ((nY as L g).map bE)),z8],?_,_,_,_,_,rfl⟩
   show wo [some (bv ns as),some (.lst (bc many m X)),some (.int (S:Int)),some (.int z),some (.lst (cL many L)),some (.int (g:Int)),y6,y7,y8]=_
   generalize bv ns as=net,bc many m X=rs,(nY as L g).map bE=cl,(iw as g).map bE=il,cL many L=vl,((av c).map λ(i:Nat)=>D.int ((S:Int)+(i:Int)))=rg at *
   unfold wo
   clear hz hs h hc hl hm iH hn hg h1 inner
   walk_at "mir"
  ·refine .inr ⟨h1,?_⟩
   show wo [some (bv ns as),some (.lst (bc many m X)),some (.int (S:Int)),some (.int z),some (.lst (cL many L)),some (.int (g:Int)),y6,y7,y8]=_
   generalize bv ns as=net,bc many m X=rs,(nY as L g).map bE=cl,(iw as g).map bE=il,cL many L=vl,((av c).map λ(i:Nat)=>D.int ((S:Int)+(i:Int)))=rg at *
   unfold wo
   clear hz hs h hc hl hm iH hn hg h1 inner
   walk_at "mir")
 have Lr:gk [.int (many:Int)]=some ((av many).map λ(g:Nat)=>D.int (g:Int)):=by
  rw[q0 (by omega) (by omega),fH];simp[fu]
 have f1:=jg ns as
 have l1:ef [.lst ns]=some (.int (many:Int)):=by rw[jb,hn]
 rcases outer with⟨h1,ρ',h2,y5,y6,y7,y8,rfl⟩|⟨h1,h2⟩
 ·rw[h1]
  generalize bv ns as=net,bc many m X=rs,cL many L=vl,((av many).map λ(g:Nat)=>D.int (g:Int))=rg at *
  unfold vx
  clear hz hs h hc hl hm iH hn h1 inner er
  walk_at "mir"
 ·rw[h1]
  generalize bv ns as=net,bc many m X=rs,cL many L=vl,((av many).map λ(g:Nat)=>D.int (g:Int))=rg at *
  unfold vx
  clear hz hs h hc hl hm iH hn h1 inner er
  walk_at "mir"
structure Again (as:List cw)(many:Nat)(X:Nat->Nat->Int)(c f:Nat)(L:Nat->Int):Prop where
 w:∀i,i<dep as->∀g,g<many->X (f+i+c) g-X (f+i) g=L g
 a:∀a∈as,L a.s<=L a.g
 c:∀g,g<many->∀n,f+dep as<=n->n<f+dep as+c->∃a∈as,a.g=g/\L a.s=L g/\X (n-a.b) a.s+a.t=X n g
theorem Again.iff {as:List cw}{many:Nat}{X:Nat->Nat->Int}{c f:Nat}{L:Nat->Int}:Again as many X c f L↔(((av (dep as)).all λi=>decide (∀g,g<many->X (f+i+c) g-X (f+i) g=L g))=true/\(as.all λa=>decide (L a.s<=L a.g))=true/\(av many).all (qE as X L (f+dep as) c)=true):=by
 constructor
 ·intro h
  refine⟨cm.mpr λi hi=>decide_eq_true (h.w i (aP.mp hi)),cm.mpr λa ha=>decide_eq_true (h.a a ha),cm.mpr λg hg=>cm.mpr λi hi=>?_⟩
  have hi:=aP.mp hi
  obtain⟨a,ha,h1,h2,h3⟩:=h.c g (aP.mp hg) (f+dep as+i) (by omega) (by omega)
  exact kX.mpr ⟨a,aM.mpr ⟨aM.mpr ⟨ha,decide_eq_true h1⟩,decide_eq_true h2⟩,decide_eq_true h3⟩
 ·rintro⟨h1,h2,h3⟩
  refine⟨λi hi=>of_decide_eq_true (cm.mp h1 i (aP.mpr hi)),λa ha=>of_decide_eq_true (cm.mp h2 a ha),λg hg n Ry rQ=>?_⟩
  have:=cm.mp (cm.mp h3 g (aP.mpr hg)) (n-(f+dep as)) (aP.mpr (by omega))
  rw[show f+dep as+(n-(f+dep as))=n by omega]at this
  obtain⟨a,ha,h3⟩:=kX.mp this
  obtain⟨ha,h2⟩:=aM.mp ha
  obtain⟨ha,h1⟩:=aM.mp ha
  exact⟨a,ha,of_decide_eq_true h1,of_decide_eq_true h2,of_decide_eq_true h3⟩
theorem zst {ns:List D}{as:List cw}{many m c f:Nat}{X:Nat->Nat->Int}{L:Nat->Int}(ok:fw many as)(hn:ns.length=many)(iH:m<=1000)(hc:1<=c)(h:f+dep as+c<=m):∃b,FP [bv ns as,.lst (bc many m X),.tup [.int (c:Int),.int (f:Int),.lst (cL many L)]]=some (.bl b)/\(b=true↔Again as many X c f L):=by
 have hl:=ok.len
 have hm:=ok.le
 have hd:=KA as
 have hs:∀a∈as,a.s<many/\a.g<many:=λa ha=>⟨(ok.right a ha).s,(ok.right a ha).g⟩
 have g1:=Ys (many:=many) (m:=m) (f:=f) (n:=dep as) (c:=c) (X:=X) (L:=L) (by omega) iH hd h
 have g2:=Yt (ns:=ns) (as:=as) (L:=L) (by omega) hs
 have g3:=zss (ns:=ns) (as:=as) (many:=many) (m:=m) (S:=f+dep as) (c:=c) (X:=X) (L:=L) hn (by omega) iH (by omega) (λa ha=>⟨(hs a ha).1,by have:=EC ha;omega⟩) h hc
 have mb:=Ej (ns:=ns) (as:=as) (by omega)
 have f1:=jg ns as
 have l1:ef [.lst ns]=some (.int (many:Int)):=by rw[jb,hn]
 have l2:ef [.lst (cL many L)]=some (.int (many:Int)):=by rw[jb,OI]
 have l3:ef [.lst (bc many m X)]=some (.int (m:Int)):=by rw[jb,NL]
 rw[Again.iff]
 generalize ((av (dep as)).all λi=>decide (∀g,g<many->X (f+i+c) g-X (f+i) g=L g))=b1,(as.all λa=>decide (L a.s<=L a.g))=b2,(av many).all (qE as X L (f+dep as) c)=b3 at *
 refine⟨b1&&b2&&b3,?_,by cases b1<;>cases b2<;>cases b3<;>simp⟩
 have e1:((f+dep as:Nat):Int)=(f:Int)+(dep as:Int):=by omega
 rw[e1]at g3
 have c1:¬(c:Int)<1:=by omega
 have c2:¬(f:Int)<0:=by omega
 have c3:¬(m:Int)<(f:Int)+(dep as:Int)+(c:Int):=by omega
 generalize (dep as:Int)=dd,bv ns as=net,bc many m X=rs,cL many L=vl at *
 have p0:fJ (.tup [.int (c:Int),.int (f:Int),.lst vl]) (.int 0)=some (.int (c:Int)):=rfl
 have p1:fJ (.tup [.int (c:Int),.int (f:Int),.lst vl]) (.int 1)=some (.int (f:Int)):=rfl
 have p2:fJ (.tup [.int (c:Int),.int (f:Int),.lst vl]) (.int 2)=some (.lst vl):=rfl
 unfold FP
 clear hl hm hd hs e1 h hc iH hn ok
 cases b1 with
 |false=>walk_at "mir"
 |true=>
  cases b2 with
  |false=>walk_at "mir"
  |true=>walk_at "mir"
theorem Xy {as:List cw}{many:Nat}(ok:fw many as){P:Nat->Nat->Prop}(st:∀i g,(∀j,j<i->∀x,P j x)->(∀a∈as,a.g=g->a.b=0->P i a.s)->P i g):∀i g,P i g:=by
 obtain⟨rank,hr⟩:=ok.rank
 intro i
 induction i using sX with
 |ind i ih=>
  have inner:∀k g,rank g=k->P i g:=by
   intro k
   induction k using sX with
   |ind k Je=>
    intro g hg
    refine st i g (λj hj x=>ih j hj x) λa ha mn hb=>?_
    have:=hr a ha hb
    exact Je (rank a.s) (by rw[←hg,←mn];exact this) a.s rfl
  exactλg=>inner _ g rfl
theorem Nf {α β:Type}{f f':β->α->β}:∀(xs:List α) (w:β),(∀a∈xs,∀w,f w a=f' w a)->xs.foldl f w=xs.foldl f' w
 |[],_,_=>rfl
 |x::xs,w,h=>by
  show xs.foldl f (f w x)=xs.foldl f' (f' w x)
  rw[h x ai,Nf xs _ λa ha=>h a (ao _ ha)]
theorem NX {α:Type}(F:α->Int):∀(xs:List α) (w:T),(∃y,xs.foldl (λw a=>mx w (some (F a))) w=some y/\(∀a∈xs,F a<=y)/\(∀z,w=some z->z<=y)/\((∃a∈xs,F a=y)\/w=some y))\/(xs=[]/\w=none)
 |[],none=>.inr ⟨rfl,rfl⟩
 |[],some z=>.inl ⟨z,rfl,λ_ h=>(by cases h),λ_ h=>(by cases h;exact pE _),.inr rfl⟩
 |x::xs,w=>by
  rcases NX F xs (mx w (some (F x)))with⟨y,h1,h2,h3,h4⟩|⟨_,h⟩
  ·refine .inl ⟨y,h1,?_,?_,?_⟩
   ·intro a ha
    rcases aB.mp ha with rfl|ha
    ·cases w with
     |none=>exact h3 _ rfl
     |some z=>
      have:=h3 (if F a > z then F a else z) rfl
      split at this<;>omega
    ·exact h2 a ha
   ·intro z hz
    subst hz
    have:=h3 (if F x > z then F x else z) rfl
    split at this<;>omega
   ·rcases h4 with⟨a,ha,h4⟩|h4
    ·exact .inl ⟨a,ao _ ha,h4⟩
    ·cases w with
     |none=>exact .inl ⟨x,ai,by simpa[mx]using h4⟩
     |some z=>
      have h5:(if F x > z then F x else z)=y:=by simpa[mx]using h4
      split at h5
      ·exact .inl ⟨x,ai,h5⟩
      ·exact .inr (by rw[h5])
  ·cases w<;>simp[mx]at h
structure Mx (as:List cw)(many lo hi:Nat)(V:Nat->Nat->Int):Prop where
 ge:∀i,lo<=i->i<hi->∀a∈as,V (i-a.b) a.s+a.t<=V i a.g
 at_:∀i,lo<=i->i<hi->∀g,g<many->∃a∈as,a.g=g/\V (i-a.b) a.s+a.t=V i g
theorem Run.mx {as:List cw}{many rounds:Nat}{past Y:Nat->Nat->T}(ok:fw many as)(h:Run as many (dep as) rounds past (λ_ _=>none) Y)(hp:∀i,i<dep as->∀g,g<many->∃v,past i g=some v)(kd:∀g,g<many->∃a∈as,a.g=g) :
  ∃V:Nat->Nat->Int,(∀i,i<dep as+rounds->∀g,g<many->Y i g=some (V i g))/\Mx as many (dep as) (dep as+rounds) V:=by
 have hs:∀i g,i<dep as+rounds->g<many->∃v,Y i g=some v:=by
  refine Xy ok λi g RZ R0 hi hg=>?_
  by_cases hd:i<dep as
  ·rw[h.past i hd g hg];exact hp i hd g hg
  ·have:=h.rc (i-dep as) (by omega) g hg
   rw[show dep as+(i-dep as)=i by omega]at this
   rw[this]
   obtain⟨a,ha,mn⟩:=kd g hg
   have hb:=EC ha
   have:∃v,Y (i-a.b) a.s=some v:=by
    by_cases zN:a.b=0
    ·have:=R0 a ha mn zN hi (ok.right a ha).s
     rwa[zN,oq]
    ·exact RZ (i-a.b) (by omega) a.s (by omega) (ok.right a ha).s
   obtain⟨v,hv⟩:=this
   obtain⟨y,hy,_⟩:=OZ (λa:cw=>lt a.t (Y (i-a.b) a.s)) (v:=v+a.t) (as.filter λa=>decide (a.g=g)) none (.inr ⟨a,aM.mpr ⟨ha,decide_eq_true mn⟩,v+a.t,by show lt a.t (Y (i-a.b) a.s)=_;rw[hv];rfl,pE _⟩)
   exact⟨y,hy⟩
 refine⟨λi g=>(Y i g).getD 0,λi hi g hg=>?_,?_⟩
 ·obtain⟨v,hv⟩:=hs i g hi hg
  show _=some ((Y i g).getD 0)
  rw[hv];rfl
 ·have key:∀i,dep as<=i->i<dep as+rounds->∀g,g<many->(∀a∈as,a.g=g->(Y (i-a.b) a.s).getD 0+a.t<=(Y i g).getD 0)/\∃a∈as,a.g=g/\(Y (i-a.b) a.s).getD 0+a.t=(Y i g).getD 0:=by
   intro i hi1 Fe g hg
   have rc:=h.rc (i-dep as) (by omega) g hg
   rw[show dep as+(i-dep as)=i by omega]at rc
   have e:tm as Y i g none=(as.filter λa=>decide (a.g=g)).foldl (λw a=>My.mx w (some ((Y (i-a.b) a.s).getD 0+a.t))) none:=by
    unfold tm
    refine Nf _ _ λa ha w=>?_
    have ha:=(aM.mp ha).1
    have hb:=EC ha
    obtain⟨v,hv⟩:=hs (i-a.b) a.s (by omega) (ok.right a ha).s
    rw[hv];rfl
   rw[e]at rc
   rcases NX (λa:cw=>(Y (i-a.b) a.s).getD 0+a.t) (as.filter λa=>decide (a.g=g)) none with⟨y,h1,h2,_,h4⟩|⟨h1,_⟩
   ·rw[h1]at rc
    rw[rc]
    refine⟨λa ha mn=>h2 a (aM.mpr ⟨ha,decide_eq_true mn⟩),?_⟩
    rcases h4 with⟨a,ha,h4⟩|h4
    ·obtain⟨ha,mn⟩:=aM.mp ha
     exact⟨a,ha,of_decide_eq_true mn,h4⟩
    ·cases h4
   ·obtain⟨a,ha,mn⟩:=kd g hg
    have:a∈as.filter λa=>decide (a.g=g):=aM.mpr ⟨ha,decide_eq_true mn⟩
    rw[h1]at this
    cases this
  exact⟨λi h1 h2 a ha=>(key i h1 h2 a.g (ok.right a ha).g).1 a ha rfl,λi h1 h2 g hg=>(key i h1 h2 g hg).2⟩
def R7 (ρ:L3.Env):Nat:=match ρ with
 |[_,_,_,_,some (.int d)]=>d.toNat
 |_=>0
def pd (many:Nat)(X:Nat->Nat->Int)(c:Nat)(L:Nat->Int)(n:Nat):Prop:=∀g,g<many->X (n+c) g-X n g=L g
instance (many:Nat) (X:Nat->Nat->Int) (c:Nat) (L:Nat->Int) (n:Nat):Decidable (pd many X c L n):=by unfold pd;infer_instance
theorem VY {many m k c:Nat}{X:Nat->Nat->Int}{L:Nat->Int}(hm:many<=1000)(iH:m<=1000)(h:k+c<m):∃f:Nat,vn [.lst (bc many m X),.int (k:Int),.int (c:Int),.lst (cL many L)]=some (.int (f:Int))/\f<=k/\(∀n,f<=n->n<k->pd many X c L n)/\(f=0\/¬pd many X c L (f-1)):=by
 have ET:∀d:Nat,d<=k->bAnd (tb (e2 rF (eV 4) (eC (.int 0)))) (tb (e2 (gH false) (λρ=>((aCons (eV 0) (aCons (e2 jE (eV 4) (eC (.int 1))) (aCons (eV 2) aNil))) ρ).bind λds=>ux (ds++[])) (eV 3))) [some (.lst (bc many m X)),some (.int (k:Int)),some (.int (c:Int)),some (.lst (cL many L)),some (.int (d:Int))]=some (decide (0<d/\pd many X c L (d-1))):=by
  intro d hd
  by_cases h0:d=0
  ·subst h0
   rw[decide_eq_false (λz=>absurd z.1 (by omega))]
   have e0:((0:Nat):Int)=0:=rfl
   rw[e0]
   generalize bc many m X=rs,cL many L=vl at *
   clear hm iH h hd e0
   walk_at "mir"
  ·have g1:=Km (many:=many) (m:=m) (f:=d-1) (c:=c) (X:=X) hm (by omega)
   have ev:=O6 false many (λg=>X (d-1+c) g-X (d-1) g) L
   rw[if_neg (by decide)]at ev
   have e1:((d-1:Nat):Int)=(d:Int)-1:=by omega
   rw[e1]at g1
   have zL:decide (0<d/\pd many X c L (d-1))=decide (∀g,g<many->X (d-1+c) g-X (d-1) g=L g):=by
    apply decide_eq_decide.mpr
    exact⟨λz=>z.2,λz=>⟨by omega,z⟩⟩
   rw[zL]
   have gt:(d:Int) > 0:=by omega
   generalize decide (∀g,g<many->X (d-1+c) g-X (d-1) g=L g)=bb,(cL many λg=>X (d-1+c) g-X (d-1) g)=v,bc many m X=rs,cL many L=vl at *
   clear hm iH h hd e1 zL
   walk_at "mir"
 obtain⟨ρ',h1,⟨d,rfl,hd,hI⟩,hc⟩:=JX (c:=bAnd (tb (e2 rF (eV 4) (eC (.int 0)))) (tb (e2 (gH false) (λρ=>((aCons (eV 0) (aCons (e2 jE (eV 4) (eC (.int 1))) (aCons (eV 2) aNil))) ρ).bind λds=>ux (ds++[])) (eV 3)))) (b:=v6)
  (λρ=>∃d:Nat,ρ=[some (.lst (bc many m X)),some (.int (k:Int)),some (.int (c:Int)),some (.lst (cL many L)),some (.int (d:Int))]/\d<=k/\∀n,d<=n->n<k->pd many X c L n) R7 (by
   rintro ρ ⟨d,rfl,hd,hI⟩
   refine⟨_,ET d hd,λht=>?_⟩
   obtain⟨t1,t2⟩:=of_decide_eq_true ht
   refine⟨[some (.lst (bc many m X)),some (.int (k:Int)),some (.int (c:Int)),some (.lst (cL many L)),some (.int ((d-1:Nat):Int))],.inl ?_,⟨d-1,rfl,by omega,λn Ry rQ=>?_⟩,?_⟩
   ·have e1:((d-1:Nat):Int)=(d:Int)-1:=by omega
    rw[e1]
    generalize bc many m X=rs,cL many L=vl at *
    unfold v6 sj i2
    clear hm iH h hd e1 hI ET ht t1 t2
    walk_at "mir"
   ·by_cases he:n=d-1
    ·rw[he];exact t2
    ·exact hI n (by omega) rQ
   ·show((d-1:Nat):Int).toNat<(d:Int).toNat
    omega) nQ [some (.lst (bc many m X)),some (.int (k:Int)),some (.int (c:Int)),some (.lst (cL many L)),some (.int (k:Int))] ⟨k,rfl,aC _,λn h1 h2=>by omega⟩ (Ov (by show(k:Int).toNat<1048576;omega))
 refine⟨d,?_,hd,hI,?_⟩
 ·unfold vn lX
  clear ET hc
  generalize (bAnd (tb (e2 rF (eV 4) (eC (.int 0)))) (tb (e2 (gH false) (λρ=>((aCons (eV 0) (aCons (e2 jE (eV 4) (eC (.int 1))) (aCons (eV 2) aNil))) ρ).bind λds=>ux (ds++[])) (eV 3))))=cc,bc many m X=rs,cL many L=vl at *
  clear hm iH h hd hI
  walk_at "mir"
 ·rw[ET d hd]at hc
  have hc:¬(0<d/\pd many X c L (d-1)):=by simpa using hc
  by_cases h0:d=0
  ·exact .inl h0
  ·exact .inr λz=>hc ⟨by omega,z⟩
theorem Gy (neg:Bool)(F:List Nat):gH neg (.lst (bp F)) (.lst [])=some (.bl (if neg then !decide (F=[])else decide (F=[]))):=by
 have:=(El Ei).eq (by decide) (neg:=neg) (F.map λ(x:Nat)=>(x:Int)) []
 have e:(El Ei).enc (F.map λ(x:Nat)=>(x:Int))=.lst (bp F):=by
  show D.lst ((F.map λ(x:Nat)=>(x:Int)).map D.int)=_
  rw[dM];rfl
 rw[e]at this
 have hd:decide ((F.map λ(x:Nat)=>(x:Int))=[])=decide (F=[]):=decide_eq_decide.mpr (by simp)
 rw[hd]at this
 exact this
theorem Yu {ns:List D}{as:List cw}{many:Nat}(ok:fw many as)(hn:ns.length=many)(kd:∀g,g<many->∃a∈as,a.g=g):ui [bv ns as]=some .non:=by
 have hl:=ok.len
 have hm:=ok.le
 have lp:=FZ (g:=gV 1) (b:=vm) (λ(g:Nat)=>D.int (g:Int)) (λ_=>true) (λρ=>∃y1,ρ=[some (bv ns as),y1]) (.bl false) (av many) [some (bv ns as),none] ⟨_,rfl⟩ (by
  rintro g hg ρ ⟨y1,rfl⟩
  have hg:=aP.mp hg
  refine⟨_,rfl,.inl ⟨rfl,[some (bv ns as),some (.int (g:Int))],?_,_,rfl⟩⟩
  show vm [some (bv ns as),some (.int (g:Int))]=_
  have i1:=Ga (ns:=ns) (as:=as) (by omega) g
  have ne:into as g≠[]:=by
   obtain⟨a,ha,mn⟩:=kd g hg
   obtain⟨i,hi,e⟩:=cD.mp ha
   intro z
   have:i∈into as g:=dN.mpr ⟨(a,i),aM.mpr ⟨el.mpr (by rw[←e];exact eZ hi),decide_eq_true mn⟩,rfl⟩
   rw[z]at this;cases this
  have ev:=Gy false (into as g)
  rw[if_neg (by decide),decide_eq_false ne]at ev
  generalize bp (into as g)=is,bv ns as=net at *
  unfold vm
  clear hl hm hg ne kd ok hn
  walk_at "mir")
 rcases lp with⟨_,ρ',h2,y1,rfl⟩|⟨h1,_⟩
 ·have Lr:gk [.int (many:Int)]=some ((av many).map λ(g:Nat)=>D.int (g:Int)):=by
   rw[q0 (by omega) (by omega),fH];simp[fu]
  have f1:=jg ns as
  have l1:ef [.lst ns]=some (.int (many:Int)):=by rw[jb,hn]
  generalize ((av many).map λ(g:Nat)=>D.int (g:Int))=rg,bv ns as=net at *
  unfold ui
  clear hl hm kd ok hn
  walk_at "mir"
 ·have:(av many).all (λ_=>true)=true:=by simp
  rw[this]at h1;cases h1
theorem Ng {α:Type}{g:D->L3.Env->Option L3.Env}{b:SF}(enc:α->D)(I:L3.Env->Prop)(N:α->Prop)(R:α->D->Prop):∀(xs:List α) (ρ:L3.Env),I ρ->(∀x∈xs,∀ρ,I ρ->∃ρ1,g (enc x) ρ=some ρ1/\((N x/\∃ρ2,b ρ1=some (.nx ρ2)/\I ρ2)\/∃w,R x w/\b ρ1=some (.rt w))) ->
  ((∀x∈xs,N x)/\∃ρ',fk g b (xs.map enc) ρ=some (.nx ρ')/\I ρ')\/∃pre x post w,xs=pre++x::post/\(∀y∈pre,N y)/\R x w/\fk g b (xs.map enc) ρ=some (.rt w)
 |[],ρ,h,_=>.inl ⟨λ_ h=>(by cases h),ρ,rfl,h⟩
 |x::xs,ρ,h,st=>by
  obtain⟨ρ1,h1,h2⟩:=st x ai ρ h
  have Ef:fk g b ((x::xs).map enc) ρ=(g (enc x) ρ).bind λρ1=>(b ρ1).bind λo=>match o with
    |.nx ρ'=>fk g b (xs.map enc) ρ'
    |.ct ρ'=>fk g b (xs.map enc) ρ'
    |.bk ρ'=>some (.nx ρ')
    |.rt d=>some (.rt d):=rfl
  rw[Ef,h1,bj]
  rcases h2 with⟨e,ρ2,h2,h3⟩|⟨w,e,h2⟩
  ·rw[h2,bj]
   rcases Ng enc I N R xs ρ2 h3 λy hy=>st y (ao _ hy)with⟨a1,ρ',a2,a3⟩|⟨pre,z,post,w,a1,a2,a3,a4⟩
   ·refine .inl ⟨λy hy=>?_,ρ',a2,a3⟩
    rcases aB.mp hy with rfl|hy
    ·exact e
    ·exact a1 y hy
   ·refine .inr ⟨x::pre,z,post,w,by rw[a1];rfl,λy hy=>?_,a3,a4⟩
    rcases aB.mp hy with rfl|hy
    ·exact e
    ·exact a2 y hy
  ·rw[h2]
   exact .inr ⟨[],x,xs,w,rfl,λ_ h=>(by cases h),e,rfl⟩
theorem Vy {n:Nat}{pre post:List Nat}{x:Nat}(h:av n=pre++x::post):x<n/\∀y,y<x->y∈pre:=by
 have hl:pre.length=x:=by
  have:=congrArg (λl=>l[pre.length]?) h
  simp only[eK (aC _),Nat.sub_self,List.getElem?_cons_zero]at this
  have h2:pre.length<n:=by
   have:=congrArg iZ h
   simp at this;omega
  rw[dS h2]at this
  simpa using this
 refine⟨aP.mp (by rw[h];simp),λy hy=>?_⟩
 have:(av n)[y]?=(pre++x::post)[y]?:=by rw[h]
 rw[cx (by omega),dS (by have:=congrArg iZ h;simp at this;omega)]at this
 exact dw.mpr ⟨y,this.symm⟩
def dn (X:Nat->Nat->Int)(c n g:Nat):Int:=X (n+c) g-X n g
structure Found (as:List cw)(many S:Nat)(X:Nat->Nat->Int)(c f:Nat):Prop where
 c1:1<=c
 cS:c<=S
 ag:Again as many X c (S-c) (dn X c (S-c))
 no:∀c',1<=c'->c'<c->¬Again as many X c' (S-c') (dn X c' (S-c'))
 fS:f<=S-c
 gr:∀n,f<=n->n<S-c->pd many X c (dn X c (S-c)) n
 st:f=0\/¬pd many X c (dn X c (S-c)) (f-1)
def nZ (c f:Int)(ls:List D):D:=.tup [.int c,.int f,.lst ls]
theorem KC {ns:List D}{as:List cw}{many R:Nat}{X:Nat->Nat->Int}{wd:D}(ok:fw many as)(hn:ns.length=many)(kd:∀g,g<many->∃a∈as,a.g=g)(hR:R<=1000)(tP:sU [bv ns as,.int (R:Int),wd,.non]=some (.lst (bc many R X))) :
  (yu [bv ns as,.int (R:Int),wd]=some .non/\∀c,1<=c->c<=R-dep as->¬Again as many X c (R-dep as-c) (dn X c (R-dep as-c)))\/∃c f,Found as many (R-dep as) X c f/\yu [bv ns as,.int (R:Int),wd]=some (nZ c f (cL many (dn X c (R-dep as-c)))):=by
 have hl:=ok.len
 have hm:=ok.le
 have hd:=KA as
 have lo:=Yu ok hn kd
 have mb:=Ej (ns:=ns) (as:=as) (by omega)
 have lp:=Ng (g:=gV 5) (b:=v7) (λ(i:Nat)=>D.int (1+(i:Int))) (λρ=>∃y5 y6 y7,ρ=[some (bv ns as),some (.int (R:Int)),some wd,some (.lst (bc many R X)),some (.int ((R:Int)-(dep as:Int))),y5,y6,y7])
  (λi=>¬Again as many X (1+i) (R-dep as-(1+i)) (dn X (1+i) (R-dep as-(1+i))))
  (λi w=>∃f:Nat,w=nZ ((1+i:Nat):Int) f (cL many (dn X (1+i) (R-dep as-(1+i))))/\Again as many X (1+i) (R-dep as-(1+i)) (dn X (1+i) (R-dep as-(1+i)))/\f<=R-dep as-(1+i)/\(∀n,f<=n->n<R-dep as-(1+i)->pd many X (1+i) (dn X (1+i) (R-dep as-(1+i))) n)/\(f=0\/¬pd many X (1+i) (dn X (1+i) (R-dep as-(1+i))) (f-1)))
  (av (R-dep as)) [some (bv ns as),some (.int (R:Int)),some wd,some (.lst (bc many R X)),some (.int ((R:Int)-(dep as:Int))),none,none,none] ⟨_,_,_,rfl⟩ (by
  rintro i hi ρ ⟨y5,y6,y7,rfl⟩
  have hi:=aP.mp hi
  refine⟨[some (bv ns as),some (.int (R:Int)),some wd,some (.lst (bc many R X)),some (.int ((R:Int)-(dep as:Int))),some (.int (1+(i:Int))),y6,y7],rfl,?_⟩
  have e1:((1+i:Nat):Int)=1+(i:Int):=by omega
  have zL:((R-dep as-(1+i):Nat):Int)=(R:Int)-(dep as:Int)-(1+(i:Int)):=by omega
  have g1:=Km (many:=many) (m:=R) (f:=R-dep as-(1+i)) (c:=1+i) (X:=X) (by omega) (by omega)
  rw[show(λg=>X (R-dep as-(1+i)+(1+i)) g-X (R-dep as-(1+i)) g)=dn X (1+i) (R-dep as-(1+i))from rfl]at g1
  obtain⟨b,Rg,qI⟩:=zst (ns:=ns) (as:=as) (many:=many) (m:=R) (c:=1+i) (f:=R-dep as-(1+i)) (X:=X) (L:=dn X (1+i) (R-dep as-(1+i))) ok hn hR (by omega) (by omega)
  obtain⟨f,LJ,xO,Ir,Iu⟩:=VY (many:=many) (m:=R) (k:=R-dep as-(1+i)) (c:=1+i) (X:=X) (L:=dn X (1+i) (R-dep as-(1+i))) (by omega) hR (by omega)
  rw[e1,zL]at g1 Rg LJ
  cases b with
  |false=>
   refine .inl ⟨λz=>absurd (qI.mpr z) (by decide),[some (bv ns as),some (.int (R:Int)),some wd,some (.lst (bc many R X)),some (.int ((R:Int)-(dep as:Int))),some (.int (1+(i:Int))),some (.int ((R:Int)-(dep as:Int)-(1+(i:Int)))),some (.lst (cL many (dn X (1+i) (R-dep as-(1+i)))))],?_,_,_,_,rfl⟩
   generalize cL many (dn X (1+i) (R-dep as-(1+i)))=vl,bc many R X=rs,bv ns as=net at *
   unfold v7
   clear hl hm hd lo mb hi e1 zL qI LJ xO Ir Iu kd ok hn tP hR
   walk_at "mir"
  |true=>
   refine .inr ⟨_,⟨f,rfl,qI.mp rfl,xO,Ir,Iu⟩,?_⟩
   rw[e1]
   unfold nZ
   generalize cL many (dn X (1+i) (R-dep as-(1+i)))=vl,bc many R X=rs,bv ns as=net at *
   unfold v7
   clear hl hm hd lo mb hi e1 zL qI xO Ir Iu kd ok hn tP hR
   walk_at "mir")
 have er:mJ [.int 1,.int ((R:Int)-(dep as:Int)+1)]=some ((av (R-dep as)).map λ(i:Nat)=>D.int (1+(i:Int))):=by
  by_cases hh:dep as<=R
  ·rw[Gf (by omega) (by omega) (by omega) (by omega),show((R:Int)-(dep as:Int)+1-1).toNat=R-dep as by omega]
   rfl
  ·have:dep as<=4:=ED λa ha=>(ok.right a ha).b
   rw[Gf (by omega) (by omega) (by omega) (by omega),show((R:Int)-(dep as:Int)+1-1).toNat=R-dep as by omega]
   rfl
 rcases lp with⟨h1,ρ',h2,y5,y6,y7,rfl⟩|⟨pre,i,post,w,h1,h2,⟨f,rfl,q1,q2,q3,q4⟩,h3⟩
 ·refine .inl ⟨?_,λc xL uO=>?_⟩
  ·generalize ((av (R-dep as)).map λ(i:Nat)=>D.int (1+(i:Int)))=rg at *
   generalize bc many R X=rs,bv ns as=net at *
   unfold yu
   clear hl hm hd h1 kd ok hn hR
   walk_at "mir"
  ·have:=h1 (c-1) (aP.mpr (by omega))
   rw[show 1+(c-1)=c by omega]at this
   exact this
 ·obtain⟨hi,ny⟩:=Vy h1
  refine .inr ⟨1+i,f,⟨by omega,by omega,q1,λc' xL uO=>?_,q2,q3,q4⟩,?_⟩
  ·have:=h2 (c'-1) (ny _ (by omega))
   rw[show 1+(c'-1)=c' by omega]at this
   exact this
  ·generalize nZ ((1+i:Nat):Int) f (cL many (dn X (1+i) (R-dep as-(1+i))))=w at *
   clear h1 q1 q2 q3 q4 h2 ny hi hl hm hd kd ok hn hR
   generalize ((av (R-dep as)).map λ(i:Nat)=>D.int (1+(i:Int)))=rg,bc many R X=rs,bv ns as=net at *
   unfold yu
   walk_at "mir"
theorem Again.off {as:List cw}{many c f:Nat}{X X':Nat->Nat->Int}{L:Nat->Int}(far:Int)(hX:∀n g,X' n g=X n g+far)(h:Again as many X c f L):Again as many X' c f L:=by
 refine⟨λi hi g hg=>?_,h.a,λg hg n h1 h2=>?_⟩
 ·have:=h.w i hi g hg
  rw[hX,hX];omega
 ·obtain⟨a,ha,e1,e2,e3⟩:=h.c g hg n h1 h2
  exact⟨a,ha,e1,e2,by rw[hX,hX];omega⟩
theorem jq {X X':Nat->Nat->Int}(far:Int)(hX:∀n g,X' n g=X n g+far)(c n:Nat):dn X' c n=dn X c n:=by
 funext g
 unfold dn
 rw[hX,hX];omega
theorem Found.one {as:List cw}{many S:Nat}{X X':Nat->Nat->Int}(far:Int)(hX:∀n g,X' n g=X n g+far){c f c' f':Nat}(h:Found as many S X c f)(h':Found as many S X' c' f'):c'=c/\f'=f:=by
 have HW:∀n g,X n g=X' n g+(-far):=λn g=>by rw[hX];omega
 have Qh:∀c f,Again as many X' c f (dn X' c f)->Again as many X c f (dn X c f):=λc f z=>by
  rw[jq far hX]at z
  exact z.off (-far) HW
 have ag:∀c f,Again as many X c f (dn X c f)->Again as many X' c f (dn X' c f):=λc f z=>by
  rw[jq far hX]
  exact z.off far hX
 have hc:c'=c:=by
  rcases rm c' c with z|z|z
  ·exact absurd (Qh _ _ h'.ag) (h.no c' h'.c1 z)
  ·exact z
  ·exact absurd (ag _ _ h.ag) (h'.no c h.c1 z)
 subst hc
 have gw:∀n,pd many X' c' (dn X' c' (S-c')) n↔pd many X c' (dn X c' (S-c')) n:=λn=>by
  rw[jq far hX]
  unfold pd
  exact forall_congr' λg=>imp_congr_right λ_=>by rw[hX,hX];omega
 refine⟨rfl,?_⟩
 rcases rm f' f with z|z|z
 ·rcases h.st with e|e
  ·omega
  ·exact absurd ((gw _).mp (h'.gr (f-1) (by omega) (by have:=h.fS;omega))) e
 ·exact z
 ·rcases h'.st with e|e
  ·omega
  ·exact absurd ((gw _).mpr (h.gr (f'-1) (by omega) (by have:=h'.fS;omega))) e
theorem JZ {ns:List D}{as:List cw}{many R:Nat}{X X':Nat->Nat->Int}{wd zY:D}(ok:fw many as)(hn:ns.length=many)(kd:∀g,g<many->∃a∈as,a.g=g)(hR:R<=1000)(tP:sU [bv ns as,.int (R:Int),wd,.non]=some (.lst (bc many R X)))(uS:sU [bv ns as,.int (R:Int),zY,.non]=some (.lst (bc many R X')))(far:Int)(hX:∀n g,X' n g=X n g+far) :
  ∃d,yu [bv ns as,.int (R:Int),wd]=some d/\yu [bv ns as,.int (R:Int),zY]=some d/\∀neg,gH neg d d=some (.bl (!neg)):=by
 have HW:∀n g,X n g=X' n g+(-far):=λn g=>by rw[hX];omega
 have QQ:∀neg,gH neg .non .non=some (.bl (!neg)):=λneg=>by
  have:=YB (neg:=neg) none none
  rw[decide_eq_true rfl]at this
  rw[show D.non=eY none from rfl,this]
  cases neg<;>rfl
 rcases KC ok hn kd hR tP with⟨h1,h2⟩|⟨c,f,h1,h2⟩
 ·rcases KC ok hn kd hR uS with⟨h3,h4⟩|⟨c',f',h3,h4⟩
  ·exact⟨_,h1,h3,QQ⟩
  ·have z:=h3.ag
   rw[jq far hX]at z
   exact absurd (z.off (-far) HW) (h2 c' h3.c1 h3.cS)
 ·rcases KC ok hn kd hR uS with⟨h3,h4⟩|⟨c',f',h3,h4⟩
  ·have z:=h1.ag.off far hX
   rw[←jq far hX]at z
   exact absurd z (h4 c h1.c1 h1.cS)
  ·obtain⟨rfl,rfl⟩:=Found.one far hX h1 h3
   rw[jq far hX]at h4
   refine⟨_,h2,h4,λneg=>?_⟩
   have:=(E3 Ei Ei (El Ei)).eq (by decide) (neg:=neg) ((c':Int),(f':Int),(av many).map (dn X c' (R-dep as-c'))) ((c':Int),(f':Int),(av many).map (dn X c' (R-dep as-c')))
   have e:(E3 Ei Ei (El Ei)).enc ((c':Int),(f':Int),(av many).map (dn X c' (R-dep as-c')))=nZ c' f' (cL many (dn X c' (R-dep as-c'))):=by
    show D.tup [.int _,.int _,.lst (((av many).map _).map D.int)]=_
    rw[dM];rfl
   rw[e,decide_eq_true rfl]at this
   rw[this]
   cases neg<;>rfl
theorem NY {α:Type}{g:D->L3.Env->Option L3.Env}{b:lL}(enc:α->D)(I:L3.Env->Prop)(d:D)(x:α)(post:List α)(hx:∀ρ,I ρ->∃ρ1 ρ2,g (enc x) ρ=some ρ1/\b ρ1=some (.xc ρ2 d)):∀(pre:List α) (ρ:L3.Env),I ρ->(∀y∈pre,∀ρ,I ρ->∃ρ1 ρ2,g (enc y) ρ=some ρ1/\b ρ1=some (.ok (.nx ρ2))/\I ρ2)->∃ρ',qH g b ((pre++x::post).map enc) ρ=some (.xc ρ' d)
 |[],ρ,h,_=>by
  obtain⟨ρ1,ρ2,h1,h2⟩:=hx ρ h
  refine⟨ρ2,?_⟩
  show(g (enc x) ρ).bind _=_
  rw[h1,bj,h2];rfl
 |y::pre,ρ,h,st=>by
  obtain⟨ρ1,ρ2,h1,h2,h3⟩:=st y ai ρ h
  obtain⟨ρ',h4⟩:=NY enc I d x post hx pre ρ2 h3 λz hz=>st z (ao _ hz)
  refine⟨ρ',?_⟩
  show(g (enc y) ρ).bind _=_
  rw[h1,bj,h2]
  exact h4
theorem Y4 {g:Nat}(h:g<=1000):o9 (.int (g:Int))=some (.int (g:Int)):=by
 show(if _ then _ else _)=_
 rw[if_pos]
 have:=Nat.log2_le_self ((g:Int).natAbs)
 omega
theorem NZ {as:List cw}{g:Nat}:into as g=[]↔∀a∈as,a.g≠g:=by
 constructor
 ·intro z a ha e
  obtain⟨i,hi,e2⟩:=cD.mp ha
  have:i∈into as g:=dN.mpr ⟨(a,i),aM.mpr ⟨el.mpr (by rw[←e2];exact eZ hi),decide_eq_true e⟩,rfl⟩
  rw[z]at this;cases this
 ·intro z
  unfold into
  rw[List.map_eq_nil_iff,iz]
  rintro⟨a,i⟩ hp q
  exact z a (by
   have:=el.mp hp
   exact oO this) (of_decide_eq_true q)
theorem Xz {ns:List D}{as:List cw}{many g0:Nat}{pre post:List Nat}(hl:as.length<=1000)(hm:many<=1000)(hn:ns.length=many)(hs:av many=pre++g0::post)(h0:∀a∈as,a.g≠g0)(hp:∀g∈pre,∃a∈as,a.g=g):vz [bv ns as]=some (.xc (.exc 8 ["going"] [.int (g0:Int)])):=by
 have Iz:g0<many:=aP.mp (by rw[hs];simp)
 obtain⟨ρ',lp⟩:=NY (g:=gV 1) (b:=vc) (λ(g:Nat)=>D.int (g:Int)) (λρ=>∃y1,ρ=[some (bv ns as),y1]) (.exc 8 ["going"] [.int (g0:Int)]) g0 post (by
   rintro ρ ⟨y1,rfl⟩
   refine⟨[some (bv ns as),some (.int (g0:Int))],[some (bv ns as),some (.int (g0:Int))],rfl,?_⟩
   have i1:=Ga (ns:=ns) (as:=as) (by omega) g0
   have ev:=Gy false (into as g0)
   rw[if_neg (by decide),decide_eq_true (NZ.mpr h0)]at ev
   have fm:=Y4 (g:=g0) (by omega)
   generalize bp (into as g0)=is,bv ns as=net at *
   unfold vc
   clear hl hm hn hs h0 hp Iz
   walk_at "mix") pre [some (bv ns as),none] ⟨_,rfl⟩ (by
   rintro g hg ρ ⟨y1,rfl⟩
   refine⟨[some (bv ns as),some (.int (g:Int))],[some (bv ns as),some (.int (g:Int))],rfl,?_,_,rfl⟩
   have i1:=Ga (ns:=ns) (as:=as) (by omega) g
   have ev:=Gy false (into as g)
   have ne:into as g≠[]:=λz=>by
    obtain⟨a,ha,e⟩:=hp g hg
    exact NZ.mp z a ha e
   rw[if_neg (by decide),decide_eq_false ne]at ev
   generalize bp (into as g)=is,bv ns as=net at *
   unfold vc
   clear hl hm hn hs h0 hp Iz ne hg
   walk_at "mix")
 have Lr:gk [.int (many:Int)]=some ((pre++g0::post).map λ(g:Nat)=>D.int (g:Int)):=by
  rw[q0 (by omega) (by omega),fH,←hs];simp[fu]
 have f1:=jg ns as
 have l1:ef [.lst ns]=some (.int (many:Int)):=by rw[jb,hn]
 generalize ((pre++g0::post).map λ(g:Nat)=>D.int (g:Int))=rg,bv ns as=net at *
 unfold vz
 clear hl hm hn hs h0 hp Iz
 walk_at "mix"
theorem NB {ns:List D}{as:List cw}{many g0:Nat}{pre post:List Nat}{R:Int}{wd:D}(hl:as.length<=1000)(hm:many<=1000)(hn:ns.length=many)(hs:av many=pre++g0::post)(h0:∀a∈as,a.g≠g0)(hp:∀g∈pre,∃a∈as,a.g=g):v8 [bv ns as,.int R,wd]=some (.int (g0:Int)):=by
 have h1:=Xz hl hm hn hs h0 hp
 have h2:uj [bv ns as,.int R,wd]=some (.xc (.exc 8 ["going"] [.int (g0:Int)])):=by
  generalize bv ns as=net at *
  unfold uj
  clear hl hm hn hs h0 hp
  walk_at "mix"
 have e1:=(El Eb).eq (by decide) (neg:=true) [true,true,false] [true,true,false]
 have e1:gH true (.lst [.bl true,.bl true,.bl false]) (.lst [.bl true,.bl true,.bl false])=some (.bl false):=e1
 have e2:nz "bool" (.int (g0:Int))=some (.bl false):=rfl
 generalize bv ns as=net at *
 unfold v8
 clear hl hm hn hs h0 hp h1
 walk_at "mix"
theorem zsu {ns:List Int}{many total:Nat}{ce:Int}{mk:Nat->cw}(ht:total<=100)(zS:∀k,k<total->∃c:Int,zp [.lst (ns.map .int),.int (4+(k:Int))]=some (.int c)/\wk [.int c,.int (many:Int),.int ce,.int (k:Int)]=some (dr (mk k)))(r:L3.Env)(h0:r[0]?.join=some (.lst (ns.map .int)))(h1:r[1]?.join=some (.int (many:Int)))(h2:r[2]?.join=some (.int (total:Int)))(h3:r[3]?.join=some (.int ce)):Od r=some (.lst (((av total).map mk).map dr)):=by
 rw[dM]
 refine xx (λ(t:Nat)=>D.int (t:Int)) (λk=>dr (mk k)) (av total) (sT h2 (by omega)) (by rw[aU];omega) λk hk=>⟨_,rfl,?_⟩
 obtain⟨c,e1,e2⟩:=zS k (aP.mp hk)
 have dD:cI r [0,1,3]=[some (.lst (ns.map .int)),some (.int (many:Int)),some (.int ce)]:=by unfold cI;simp[h0,h1,h3]
 rw[dD]
 clear dD zS h0 h1 h2 h3 hk ht
 walk_at "mir"
theorem XB (neg:Bool)(n:Nat)(out:List Nat):inD neg (.int (n:Int)) (.lst (bp out))=some (.bl (if neg then !decide (n∈out)else decide (n∈out))):=by
 have hs:(bp out).all D.sc=true:=by
  unfold bp
  rw[List.all_map]
  exact cm.mpr λx _=>rfl
 have hi:uV (.int (n:Int)) (bp out)=decide (n∈out):=by
  unfold uV bp
  rw[List.any_map]
  clear hs
  induction out with
  |nil=>rfl
  |cons x out ih=>
   rw[dQ,ih]
   show(((x:Int)==(n:Int)) || decide (n∈out))=_
   by_cases h:x=n
   ·subst h;simp
   ·have h':¬(x:Int)=(n:Int):=by omega
    have h2:¬n=x:=λz=>h z.symm
    simp[h',h2]
 show(if _ then _ else _)=_
 rw[if_pos ⟨rfl,hs⟩,hi]
theorem zsv {as:List cw}{out:List Nat}(hl:as.length<=1000)(r:L3.Env)(h4:r[4]?.join=some (.lst (as.map dr)))(h5:r[5]?.join=some (.lst (bp out))):Oc r=some (.lst ((as.filter λa=>decide (a.g∉out)).map dr)):=by
 refine qx dr (λa=>decide (a.g∉out)) dr as (by unfold lsD;have:eV 4 r=_:=h4;rw[this];rfl) (by omega) λa _=>⟨_,rfl,?_,λ_=>rfl⟩
 have dD:cI r [5]=[some (.lst (bp out))]:=by unfold cI;simp[h5]
 rw[dD]
 have i1:fJ (dr a) (.int 1)=some (.int (a.g:Int)):=rfl
 have i2:=XB true a.g out
 have e:decide (a.g∉out) = !decide (a.g∈out):=by simp
 rw[if_pos rfl,←e]at i2
 generalize decide (a.g∉out)=bb,dr a=x,bp out=no at *
 clear dD h4 h5 hl e
 walk_at "mir"
theorem zsw {many:Nat}(hm:many<=8)(r:L3.Env)(h1:r[1]?.join=some (.int (many:Int))):Ob r=some (.lst (nm many)):=by
 refine xx (λ(t:Nat)=>D.int (t:Int)) (λ(k:Nat)=>D.str ("a"++uX (k:Int))) (av many) (sT h1 (by omega)) (by rw[aU];omega) λg hg=>⟨_,rfl,?_⟩
 have hg:=aP.mp hg
 obtain⟨s1,s2⟩:=Yr g (by omega)
 clear hg h1 hm
 walk_at "mir"
theorem zsx {as:List cw}(hl:as.length<=1000)(r:L3.Env)(h4:r[4]?.join=some (.lst (as.map dr))):Oa r=some (.lst ((as.map λa=>mH a a.s).map bE)):=by
 rw[dM]
 refine xx dr (λa=>bE (mH a a.s)) as (by unfold lsD;have:eV 4 r=_:=h4;rw[this];rfl) (by omega) λa _=>⟨_,rfl,?_⟩
 have i0:fJ (dr a) (.int 0)=some (.int (a.s:Int)):=rfl
 have:=zsg a a.s
 clear hl h4
 walk_at "mir"
theorem ztn {as:List cw}(hl:as.length<=1000)(r:L3.Env)(h4:r[4]?.join=some (.lst (as.map dr))):OH r=some (.lst (as.map λa=>D.int (a.b:Int))) :=
 xx dr (λa=>D.int (a.b:Int)) as (by unfold lsD;have:eV 4 r=_:=h4;rw[this];rfl) (by omega) λa _=>⟨_,rfl,rfl⟩
def fQ (cell:Int)(k g:Nat):Int:=(jD cell (20*(k:Int)+(g:Int)):Int)%41
theorem zto {many:Nat}(hm:many<=8){cell:Int}(r:L3.Env)(k:Nat)(hk:k<=1000)(h0:r[0]?.join=some (.int (k:Int)))(h1:r[1]?.join=some (.int (many:Int)))(h2:r[2]?.join=some (.int cell)):OF r=some (.lst (cL many (fQ cell k))):=by
 refine xx (λ(g:Nat)=>D.int (g:Int)) (λg=>D.int (fQ cell k g)) (av many) (sT h1 (by omega)) (by rw[aU];omega) λg hg=>⟨_,rfl,?_⟩
 have hg:=aP.mp hg
 have dD:cI r [2,0]=[some (.int cell),some (.int (k:Int))]:=by unfold cI;simp[h0,h2]
 rw[dD]
 obtain⟨m1,m2⟩:=Kz cell (k:=20*(k:Int)+(g:Int)) (by omega) (by omega)
 have a1:gN (.int 20) (.int (k:Int))=some (.int (20*(k:Int))):=zbq (by decide) (by decide)
 unfold fQ
 generalize jD cell (20*(k:Int)+(g:Int))=z at *
 have a3:eI (.int (z:Int)) (.int 41)=some (.int ((z:Int)%41)):=uv (by decide)
 clear dD h0 h1 h2 hk hg m2 hm
 walk_at "mir"
theorem ztp {many dp:Nat}(hm:many<=8)(hd:dp<=4){cell:Int}(r:L3.Env)(h1:r[1]?.join=some (.int (many:Int)))(h7:r[7]?.join=some (.int (dp:Int)))(h8:r[8]?.join=some (.int cell)):OG r=some (.lst (bc many dp (fQ cell))):=by
 refine xx (λ(k:Nat)=>D.int (k:Int)) (λk=>D.lst (cL many (fQ cell k))) (av dp) (sT h7 (by omega)) (by rw[aU];omega) λk hk=>⟨_,rfl,?_⟩
 have hk:=aP.mp hk
 have dD:cI r [1,8]=[some (.int (many:Int)),some (.int cell)]:=by unfold cI;simp[h1,h8]
 rw[dD]
 exact zto hm _ k (by omega) rfl rfl rfl
theorem ztq {as:List cw}(hl:as.length<=1000)(r:L3.Env)(g:Nat)(h0:r[0]?.join=some (.int (g:Int)))(h1:r[1]?.join=some (.lst (as.map dr))):OX r=some (.lst ((as.filter λa=>decide (a.g=g)).map dr)):=by
 refine qx dr (λa=>decide (a.g=g)) dr as (by unfold lsD;have:eV 1 r=_:=h1;rw[this];rfl) (by omega) λa _=>⟨_,rfl,?_,λ_=>rfl⟩
 have dD:cI r [0]=[some (.int (g:Int))]:=by unfold cI;simp[h0]
 rw[dD]
 have i1:fJ (dr a) (.int 1)=some (.int (a.g:Int)):=rfl
 have i2:gH false (.int (a.g:Int)) (.int (g:Int))=some (.bl (decide (a.g=g))):=(zci _ _).trans (by
  rw[if_neg (by decide)]
  congr 2
  exact decide_eq_decide.mpr (by omega))
 generalize decide (a.g=g)=bb,dr a=x,(a.g:Int)=y at *
 clear dD h0 h1 hl
 simp -implicitDefEqProofs [e2,eV,eC,tb,zkc,gV,i1,i2]
def jW (many:Nat)(as:List cw):List Nat:=(av many).filter λg=>decide ((as.filter λa=>decide (a.g=g))=[])
theorem ztr {many:Nat}{as:List cw}(hm:many<=8)(hl:as.length<=1000)(r:L3.Env)(h1:r[1]?.join=some (.int (many:Int)))(h4:r[4]?.join=some (.lst (as.map dr))):OY r=some (.lst (bp (jW many as))):=by
 refine qx (λ(g:Nat)=>D.int (g:Int)) (λg=>decide ((as.filter λa=>decide (a.g=g))=[])) (λ(g:Nat)=>D.int (g:Int)) (av many) (sT h1 (by omega)) (by rw[aU];omega) λg hg=>⟨_,rfl,?_,λ_=>rfl⟩
 have dD:cI r [4]=[some (.lst (as.map dr))]:=by unfold cI;simp[h4]
 rw[dD]
 have q5:=ztq hl [some (.int (g:Int)),some (.lst (as.map dr))] g rfl rfl
 have ev:=Yq false (as.filter λa=>decide (a.g=g))
 rw[if_neg (by decide)]at ev
 generalize decide ((as.filter λa=>decide (a.g=g))=[])=bb,(as.filter λa=>decide (a.g=g)).map dr=fs,as.map dr=at1 at *
 clear dD h1 h4 hl hm hg
 walk_at "mir"
theorem zts {many:Nat}(hm:many<=8){far:Int}{f:Nat->Int}(r:L3.Env)(h0:r[0]?.join=some (.lst (cL many f)))(h1:r[1]?.join=some (.int far)):OV r=some (.lst (cL many λg=>f g+far)):=by
 refine xx (λ(g:Nat)=>D.int (f g)) (λg=>D.int (f g+far)) (av many) (by unfold lsD;have:eV 0 r=_:=h0;rw[this];rfl) (by rw[aU];omega) λg hg=>⟨_,rfl,?_⟩
 have dD:cI r [1]=[some (.int far)]:=by unfold cI;simp[h1]
 rw[dD]
 clear dD h0 h1 hg hm
 walk_at "mir"
theorem ztt {many dp:Nat}(hm:many<=8)(hd:dp<=4){far:Int}{W:Nat->Nat->Int}(r:L3.Env)(h9:r[9]?.join=some (.lst (bc many dp W)))(HP:r[12]?.join=some (.int far)):OW r=some (.lst (bc many dp λk g=>W k g+far)):=by
 refine xx (λ(k:Nat)=>D.lst (cL many (W k))) (λk=>D.lst (cL many λg=>W k g+far)) (av dp) (by unfold lsD;have:eV 9 r=_:=h9;rw[this];rfl) (by rw[aU];omega) λk hk=>⟨_,rfl,?_⟩
 have dD:cI r [12]=[some (.int far)]:=by unfold cI;simp[HP]
 rw[dD]
 exact zts hm _ rfl rfl
theorem ztu {many dp:Nat}(hm:many<=8)(hd:dp<=4)(r:L3.Env)(h1:r[1]?.join=some (.int (many:Int)))(h7:r[7]?.join=some (.int (dp:Int))):OU r=some (.lst (bP many dp λ_ _=>some 0)):=by
 refine xx (λ(t:Nat)=>D.int (t:Int)) (λk=>D.lst (fG many λ_=>some 0)) (av dp) (sT h7 (by omega)) (by rw[aU];omega) λk hk=>⟨_,rfl,?_⟩
 have dD:cI r [1]=[some (.int (many:Int))]:=by unfold cI;simp[h1]
 rw[dD]
 exact xx (λ(t:Nat)=>D.int (t:Int)) (λ_=>eY (some 0)) (av many) (sT rfl (by omega)) (by rw[aU];omega) λk hk=>⟨_,rfl,rfl⟩
theorem tM (ns:List Int)(ce:Int){many total:Nat}(h1:1<=many)(h2:many<=8)(ht:total<=100):∃(mk:Nat->cw) (rk:Nat->Nat),(∀k,k<total->∃c:Int,zp [.lst (ns.map .int),.int (4+(k:Int))]=some (.int c)/\wk [.int c,.int (many:Int),.int ce,.int (k:Int)]=some (dr (mk k)))/\(∀k,k<total->Drawn many rk (mk k))/\∀k,k<many->k<total->(mk k).g=k:=by
 obtain⟨rk,uR⟩:=zsc ce h1 (by omega)
 have key:∀k,∃a:cw,k<total->(∃c:Int,zp [.lst (ns.map .int),.int (4+(k:Int))]=some (.int c)/\wk [.int c,.int (many:Int),.int ce,.int (k:Int)]=some (dr a))/\Drawn many rk a/\(k<many->a.g=k):=by
  intro k
  by_cases hk:k<total
  ·obtain⟨c,hc⟩:=EB ns (4+(k:Int)) (by omega)
   obtain⟨a,a1,a2,a3,a4,a5,a6,a7,a8⟩:=YV c ce k (by omega) h1 (by omega) rk uR
   exact⟨a,λ_=>⟨⟨c,hc,a1⟩,⟨a2,a3,a4,a5,a6,a7⟩,a8⟩⟩
  ·exact⟨⟨.wait,0,0,0,0⟩,λz=>absurd z hk⟩
 refine⟨λk=>Classical.choose (key k),rk,λk hk=>(Classical.choose_spec (key k) hk).1,λk hk=>(Classical.choose_spec (key k) hk).2.1,λk Rv Rw=>(Classical.choose_spec (key k) Rw).2.2 Rv⟩
theorem Vz {many:Nat}{as:List cw}{g0:Nat}{gs:List Nat}(h:jW many as=g0::gs):∃pre post,av many=pre++g0::post/\(∀a∈as,a.g≠g0)/\∀g∈pre,∃a∈as,a.g=g:=by
 unfold jW at h
 obtain⟨pre,post,h1,h2,h3,_⟩:=List.filter_eq_cons_iff.mp h
 refine⟨pre,post,h1,λa ha e=>?_,λg hg=>?_⟩
 ·have h3:=of_decide_eq_true h3
  have:a∈as.filter λa=>decide (a.g=g0):=aM.mpr ⟨ha,decide_eq_true e⟩
  rw[h3]at this;cases this
 ·have h4:=h2 g hg
  have h4:¬(as.filter λa=>decide (a.g=g))=[]:=λz=>h4 (decide_eq_true z)
  obtain⟨a,ha⟩:=mM _ h4
  obtain⟨ha,e⟩:=aM.mp ha
  exact⟨a,ha,of_decide_eq_true e⟩
theorem VZ {many:Nat}{as:List cw}(h:jW many as=[]):∀g,g<many->∃a∈as,a.g=g:=by
 intro g hg
 unfold jW at h
 have h4:=iz.mp h g (aP.mpr hg)
 have h4:¬(as.filter λa=>decide (a.g=g))=[]:=λz=>h4 (decide_eq_true z)
 obtain⟨a,ha⟩:=mM _ h4
 obtain⟨ha,e⟩:=aM.mp ha
 exact⟨a,ha,of_decide_eq_true e⟩
theorem JN (g0:Nat)(gs:List Nat):fJ (.lst (bp (g0::gs))) (.int 0)=some (.int (g0:Int)):=by
 have:atI (bp (g0::gs)) ((0:Nat):Int)=some (.int (g0:Int)):=qd (by rfl)
 exact this
theorem O0 (x:D):∀n:Nat,(aD n [x]).flatten=aD n x
 |0=>rfl
 |n+1=>by rw[cz,dJ,O0 x n,cz];rfl
theorem ztv (x:D){n:Nat}(h:n<=1000):jX (.lst [x]) (.int (n:Int))=some (.lst (aD n x)):=by
 rw[←O0 x n]
 unfold jX
 dsimp only
 rw[if_pos ⟨by omega,by omega,by simp⟩,fH]
theorem Y5 (z:Int)(n:Nat):aD n (D.int z)=cL n λ_=>z:=by
 unfold cL
 rw[iE,aU]
theorem DX {ns:List D}{bs:List cw}{many R:Nat}{wd:D}{past:Nat->Nat->T}(ok:fw many bs)(hn:ns.length=many)(hR:R<=1000)(kd:∀g,g<many->∃a∈bs,a.g=g)(hw:km bs many wd past)(hp:∀i,i<dep bs->∀g,g<many->∃v,past i g=some v) :
  ∃X:Nat->Nat->Int,sU [bv ns bs,.int (R:Int),wd,.non]=some (.lst (bc many R X))/\∀(far:Int) (zY:D) (kr:Nat->Nat->T),km bs many zY kr->(∀i,i<dep bs->∀g,g<many->kr i g=lt far (past i g))->sU [bv ns bs,.int (R:Int),zY,.non]=some (.lst (bc many R λr g=>X r g+far)):=by
 obtain⟨Y,h1,h2⟩:=Pz (rounds:=R) ok hn hR hw .no
 obtain⟨V,h3,h4⟩:=h2.mx ok hp kd
 refine⟨λr g=>V (dep bs+r) g,?_,λfar zY kr RX zT=>?_⟩
 ·rw[h1]
  unfold bc
  rw[JS λr hr g hg=>h3 (dep bs+r) (by omega) g hg]
 ·have:=zsr ok hn hR RX .no (h2.shift far) (λi hi g hg=>by exact zT i hi g hg) (λr hr g hg=>rfl)
  rw[this]
  unfold bc
  rw[JS (Y':=λr g=>some (V (dep bs+r) g+far)) λr hr g hg=>by show lt far (Y (dep bs+r) g)=_;rw[h3 (dep bs+r) (by omega) g hg];rfl]
theorem Y6 (o:T):lt 0 o=o:=by
 cases o with
 |none=>rfl
 |some v=>show some (v+0)=_;rw[Int.add_zero]
theorem zsy {ns:List Int}{many R:Nat}{as:List cw}{net:List D}{c1 c2:Int}{x2 x3 y5 x11:Option D}(qJ:1<=many)(hm:many<=8)(hR:R<=1000)(tN:as.length<=18)(ok:fw many as)(hn:net.length=many)(kd:∀g,g<many->∃a∈as,a.g=g)(lR:dep as<=4)(xL:zp [.lst (ns.map .int),.int 1]=some (.int c1)){x4:D} :
  Ky [some (.lst (ns.map .int)),some (.int (many:Int)),x2,x3,some x4,y5,some (bv net as),some (.int (dep as:Int)),some (.int c2),some (.lst (bc many (dep as) (fQ c2))),some (.int (R:Int)),x11,none,none,none,none]=some (.rt (.bl true)):=by
 obtain⟨far,Iw⟩:∃far:Int,far=c1/60%2000000000001-1000000000000:=⟨_,rfl⟩
 have w1:km as many (.lst (bc many (dep as) (fQ c2))) _:=.some (dep as) (λk g=>some (fQ c2 k g)) (aC _)
 obtain⟨X,r1,ro⟩:=DX ok hn hR kd w1 λi hi g hg=>⟨_,rfl⟩
 have w2:km as many (.lst (bc many (dep as) λk g=>fQ c2 k g+far)) _:=.some (dep as) (λk g=>some (fQ c2 k g+far)) (aC _)
 have r2:=ro far _ _ w2 λi hi g hg=>rfl
 have e3:bc many (dep as) (fQ c2)++[D.lst (cL many λ_=>7*c2%99)]=bP many (dep as+1) (wr (λk g=>some (fQ c2 k g)) (dep as) λ_=>some (7*c2%99)):=NK (many:=many) (m:=dep as) (λk g=>some (fQ c2 k g)) λ_=>some (7*c2%99)
 have w3:=km.some (as:=as) (many:=many) (dep as+1) (wr (λk g=>some (fQ c2 k g)) (dep as) λ_=>some (7*c2%99)) (by omega)
 rw[←e3]at w3
 have r3:=ro 0 _ _ w3 λi hi g hg=>by
  rw[Y6]
  show(if _ then _ else _)=_
  rw[if_neg (by omega)]
 obtain⟨d,d1,d2,de⟩:=JZ ok hn kd hR r1 r2 far λn g=>rfl
 obtain⟨d',d3,d4,_⟩:=JZ ok hn kd hR r1 r3 0 λn g=>rfl
 rw[d1]at d3
 cases d3
 obtain⟨Z,z1,zo⟩:=DX (wd:=.non) ok hn hR kd .no λi hi g hg=>⟨_,rfl⟩
 have z2:=zo 0 _ _ (.some (dep as) (λ_ _=>some 0) (aC _)) λi hi g hg=>rfl
 obtain⟨q,q1,q2,qe⟩:=JZ ok hn kd hR z1 z2 0 λn g=>rfl
 have k4:=ztt hm lR (far:=far) (W:=fQ c2) [some (.lst (ns.map .int)),some (.int (many:Int)),x2,x3,some x4,y5,some (bv net as),some (.int (dep as:Int)),some (.int c2),some (.lst (bc many (dep as) (fQ c2))),some (.int (R:Int)),x11,some (.int far),none,none,none] rfl rfl
 have k2:=ztu hm lR [some (.lst (ns.map .int)),some (.int (many:Int)),x2,x3,some x4,y5,some (bv net as),some (.int (dep as:Int)),some (.int c2),some (.lst (bc many (dep as) (fQ c2))),some (.int (R:Int)),x11,some (.int far),some (.lst (bc many (dep as) λk g=>fQ c2 k g+far)),some d,none] rfl rfl
 have rep:jX (.lst [.int (7*c2%99)]) (.int (many:Int))=some (.lst (cL many λ_=>7*c2%99)):=by
  rw[←Y5]
  exact ztv _ (by omega)
 have add:dm (.lst (bc many (dep as) (fQ c2))) (.lst [.lst (cL many λ_=>7*c2%99)])=some (.lst (bc many (dep as) (fQ c2)++[D.lst (cL many λ_=>7*c2%99)])):=J9 (by rw[NL];simp;omega)
 have n1:=de true
 have n2:=qe false
 generalize bc many (dep as) (fQ c2)++[D.lst (cL many λ_=>7*c2%99)]=u3,(bc many (dep as) λk g=>fQ c2 k g+far)=u2 at *
 generalize bc many (dep as) (fQ c2)=u1,(bP many (dep as) λ_ _=>some 0)=u0,(cL many λ_=>7*c2%99)=vr,bv net as=nt,(dep as:Int)=dp,(R:Int)=Ri at *
 have m7:gN (.int 7) (.int c2)=some (.int (7*c2)):=zbq (by decide) (by decide)
 unfold Ky
 clear qJ hm hR tN ok hn kd lR w1 r1 ro w2 r2 e3 w3 r3 z1 zo z2 de qe
 subst Iw
 walk_at "mir"
theorem PB {ns:List Int}{many:Nat}{rk:Nat->Nat}{as:List cw}{x2 x3 y5:Option D}(qJ:1<=many)(hm:many<=8)(tN:as.length<=18)(pO:∀a∈as,Drawn many rk a) :
  Gj [some (.lst (ns.map .int)),some (.int (many:Int)),x2,x3,some (.lst (as.map dr)),y5,none,none,none,none,none,none,none,none,none,none]=some (.rt (.bl true)):=by
 obtain⟨c1,xL⟩:=EB ns 1 (by decide)
 obtain⟨c2,uO⟩:=EB ns 2 (by decide)
 obtain⟨R,hR,HU⟩:∃R:Nat,1+c1%60=(R:Int)/\R<=1000:=⟨(1+c1%60).toNat,by omega,by omega⟩
 have ok:=zsi (rk:=rk) (λa=>(a.s:Int)) qJ hm (as:=as) (by omega) pO
 have xU:(nm many).length=many:=by unfold nm;rw[bi,aU]
 have RA:=ztj ok xU (Yl qJ hm)
 have k11:=zsw hm [some (.lst (ns.map .int)),some (.int (many:Int)),x2,x3,some (.lst (as.map dr)),y5,none,none,none,none,none,none,none,none,none,none] rfl
 have k10:=zsx (as:=as) (by omega) [some (.lst (ns.map .int)),some (.int (many:Int)),x2,x3,some (.lst (as.map dr)),y5,none,none,none,none,none,none,none,none,none,none] rfl
 have Fb:=zsq as λa=>(a.s:Int)
 have hdl:dep as<=4:=ED λa ha=>(pO a ha).b
 have k9:=ztn (as:=as) (by omega) [some (.lst (ns.map .int)),some (.int (many:Int)),x2,x3,some (.lst (as.map dr)),y5,some (bv (nm many) (as.map λa=>mH a a.s)),none,none,none,none,none,none,none,none,none] rfl
 obtain⟨x1,ML⟩:=zsp (as:=as) (by omega)
 have k8:=ztp hm hdl (cell:=c2) [some (.lst (ns.map .int)),some (.int (many:Int)),x2,x3,some (.lst (as.map dr)),y5,some (bv (nm many) (as.map λa=>mH a a.s)),some (.int (dep as:Int)),some (.int c2),none,none,none,none,none,none,none] rfl rfl rfl
 have k6:=ztr hm (as:=as) (by omega) [some (.lst (ns.map .int)),some (.int (many:Int)),x2,x3,some (.lst (as.map dr)),y5,some (bv (nm many) (as.map λa=>mH a a.s)),some (.int (dep as:Int)),some (.int c2),some (.lst (bc many (dep as) (fQ c2))),some (.int (R:Int)),none,none,none,none,none] rfl rfl
 have ev:=Gy true (jW many as)
 rw[if_pos rfl]at ev
 cases xR:jW many as with
 |nil=>
  have kd:∀g,g<many->∃a∈(as.map λa=>mH a a.s),a.g=g:=λg hg=>by
   obtain⟨a,ha,e⟩:=VZ xR g hg
   exact⟨mH a a.s,dN.mpr ⟨a,ha,rfl⟩,e⟩
  have tl:=zsy (ns:=ns) (as:=as.map λa=>mH a a.s) (net:=nm many) (c2:=c2) (x2:=x2) (x3:=x3) (y5:=y5) (x11:=some (.lst [])) (x4:=.lst (as.map dr)) qJ hm HU (by rw[bi];omega) ok xU kd (by rw[Fb];exact hdl) xL
  rw[Fb]at tl
  rw[xR]at k6 ev
  rw[show bp ([]:List Nat)=[]from rfl]at k6 ev
  rw[decide_eq_true rfl]at ev
  have ev:gH true (.lst []) (.lst [])=some (.bl false):=ev
  generalize bv (nm many) (as.map λa=>mH a a.s)=net,(as.map λa=>mH a a.s).map bE=es at *
  generalize [D.int 1]++as.map (λa=>D.int (a.b:Int))=zs at x1 ML
  generalize as.map (λa=>D.int (a.b:Int))=bs,bc many (dep as) (fQ c2)=w1,as.map dr=at1 at *
  generalize dep as=dp,nm many=Sa at *
  unfold Gj
  clear qJ hm tN pO ok xU Fb hdl xR kd HU
  walk_at "mir"
 |cons g0 gs=>
  obtain⟨pre,post,p1,p2,p3⟩:=Vz xR
  have rP:(as.map λa=>mH a a.s).length<=1000:=by rw[bi];omega
  have Jq:∀a∈(as.map λa=>mH a a.s),a.g≠g0:=λa ha=>by
   obtain⟨b,hb,rfl⟩:=dN.mp ha
   exact p2 b hb
  have Jr:∀g∈pre,∃a∈(as.map λa=>mH a a.s),a.g=g:=λg hg=>by
   obtain⟨a,ha,e⟩:=p3 g hg
   exact⟨mH a a.s,dN.mpr ⟨a,ha,rfl⟩,e⟩
  have f1:=NB (R:=(R:Int)) (wd:=.lst (bc many (dep as) (fQ c2))) rP (by omega) xU p1 Jq Jr
  have f2:=NB (R:=(R:Int)) (wd:=.non) rP (by omega) xU p1 Jq Jr
  rw[xR]at k6 ev
  have ev:gH true (.lst (bp (g0::gs))) (.lst [])=some (.bl true):=ev
  have ix:fJ (.lst (bp (g0::gs))) (.int 0)=some (.int (g0:Int)):=JN g0 gs
  generalize bp (g0::gs)=lo,bv (nm many) (as.map λa=>mH a a.s)=net,(as.map λa=>mH a a.s).map bE=es at *
  generalize [D.int 1]++as.map (λa=>D.int (a.b:Int))=zs at x1 ML
  generalize as.map (λa=>D.int (a.b:Int))=bs,bc many (dep as) (fQ c2)=w1,as.map dr=at1 at *
  generalize dep as=dp,nm many=Sa at *
  unfold Gj
  clear qJ hm tN pO ok xU Fb hdl xR HU p1 p2 p3 rP Jq Jr
  walk_at "mir"
theorem XC (ns:List Int)(hl:ns.length<=63):GG [.lst (ns.map .int)]=some (.bl true):=by
 obtain⟨c0,hc0⟩:=EB ns 0 (by decide)
 obtain⟨c3,hc3⟩:=EB ns 3 (by decide)
 obtain⟨many,LO,qJ,Ci⟩:∃m:Nat,1+c0%6=(m:Int)/\1<=m/\m<=8:=⟨(1+c0%6).toNat,by omega,by omega,by omega⟩
 obtain⟨total,IS,LU,LV⟩:∃t:Nat,(many:Int)+c0/6%11=(t:Int)/\many<=t/\t<=18:=⟨((many:Int)+c0/6%11).toNat,by omega,by omega,by omega⟩
 obtain⟨mk,rk,zS,Il,zR⟩:=tM ns (c0/66) qJ Ci (total:=total) (by omega)
 generalize has:(av total).map mk=as
 have tN:as.length<=18:=by rw[←has,bi,aU];omega
 have pO:∀a∈as,Drawn many rk a:=λa ha=>by
  rw[←has]at ha
  obtain⟨k,hk,rfl⟩:=dN.mp ha
  exact Il k (aP.mp hk)
 have k13:=zsu (many:=many) (total:=total) (by omega) zS [some (.lst (ns.map .int)),some (.int (many:Int)),some (.int (total:Int)),some (.int (c0/66)),none,none,none,none,none,none,none,none,none,none,none,none] rfl rfl rfl rfl
 rw[has]at k13
 by_cases h3:c3%2=1
 ·obtain⟨o1,LP⟩:∃o:Nat,c3/2%(many:Int)=(o:Int):=⟨(c3/2%(many:Int)).toNat,by have:=iI (c3/2) (show(many:Int)≠0 by omega);omega⟩
  obtain⟨o2,xX⟩:∃o:Nat,c3/12%(many:Int)=(o:Int):=⟨(c3/12%(many:Int)).toNat,by have:=iI (c3/12) (show(many:Int)≠0 by omega);omega⟩
  have e1:eI (.int (c3/2)) (.int (many:Int))=some (.int (o1:Int)):=by rw[uv (by omega),LP]
  have e2:eI (.int (c3/12)) (.int (many:Int))=some (.int (o2:Int)):=by rw[uv (by omega),xX]
  have k12:=zsv (as:=as) (out:=[o1,o2]) (by omega) [some (.lst (ns.map .int)),some (.int (many:Int)),some (.int (total:Int)),some (.int (c0/66)),some (.lst (as.map dr)),some (.lst [.int (o1:Int),.int (o2:Int)]),none,none,none,none,none,none,none,none,none,none] rfl rfl
  have B7:(as.filter λa=>decide (a.g∉[o1,o2])).length<=18:=bX (iJ _ _) tN
  have tm:=PB (ns:=ns) (x2:=some (.int (total:Int))) (x3:=some (.int (c0/66))) (y5:=some (.lst [.int (o1:Int),.int (o2:Int)])) qJ Ci B7 λa ha=>pO a (aM.mp ha).1
  generalize (as.filter λa=>decide (a.g∉[o1,o2])).map dr=as2,as.map dr=Qi at *
  unfold GG
  clear hl zS Il zR has tN pO qJ Ci LU LV B7 LP xX
  walk_at "mir"
 ·have tm:=PB (ns:=ns) (x2:=some (.int (total:Int))) (x3:=some (.int (c0/66))) (y5:=none) qJ Ci tN pO
  generalize as.map dr=Qi at *
  unfold GG
  clear hl zS Il zR has tN pO qJ Ci LU LV
  walk_at "mir"
section
variable {P:bg}{w:bN}{K:aa}{mg:aJ->Option ae}{base:aI}{a:Am}
theorem Z1 (T:Txt K mg a):cp P w K mg base eQ 7 a.f_law a.d_law ["_law_script"] (m6 K):=ZW (zsa T) XC
end
abbrev cB (x q:aJ)(s:bL):=gp x q (lz s) (fU s) (aQ s)
theorem all_mk {l:kQ}{w:bN}{K:aa}{h:aI}{mg:aJ->Option ae}(X:K.In h)(G:h.Ns ax mg)(Rl:mg "law"=some (.ref fa))
  
  {oe pS:aJ} {nX lN m8:List ae} {mW nW:Bool} {oi:List aJ} {mT:Option Bool} {n4 n6 n8 n9 oa:Option ae}
  (aC_Arrow:ay K ax "Arrow"=some (some (.ref c_Arrow))) (pg_Arrow:cT K c_Arrow aJ.empty=true) (hd_Arrow:bH K c_Arrow=true) (po_Arrow:dE K c_Arrow=true) (sa_Arrow:am K (.ref c_Arrow) "__setattr__"=some (some (.builtin "object.__setattr__"))) (mk_Arrow:dB K c_Arrow=true) (kc_Arrow:ar K (.ref c_Arrow)=true)
  (aC_Ride:ay K ax "Ride"=some (some (.ref c_Ride))) (pg_Ride:cT K c_Ride aJ.empty=true) (hd_Ride:bH K c_Ride=true) (po_Ride:dE K c_Ride=true) (sa_Ride:am K (.ref c_Ride) "__setattr__"=some (some (.builtin "object.__setattr__"))) (mk_Ride:dB K c_Ride=true) (kc_Ride:ar K (.ref c_Ride)=true)
  (aC_Wait:ay K ax "Wait"=some (some (.ref c_Wait))) (pg_Wait:cT K c_Wait aJ.empty=true) (hd_Wait:bH K c_Wait=true) (po_Wait:dE K c_Wait=true) (sa_Wait:am K (.ref c_Wait) "__setattr__"=some (some (.builtin "object.__setattr__"))) (mk_Wait:dB K c_Wait=true) (kc_Wait:ar K (.ref c_Wait)=true)
  (aC_Back:ay K ax "Back"=some (some (.ref c_Back))) (pg_Back:cT K c_Back aJ.empty=true) (hd_Back:bH K c_Back=true) (po_Back:dE K c_Back=true) (sa_Back:am K (.ref c_Back) "__setattr__"=some (some (.builtin "object.__setattr__"))) (mk_Back:dB K c_Back=true) (kc_Back:ar K (.ref c_Back)=true)
  (aC_Net:ay K ax "Net"=some (some (.ref c_Net))) (pg_Net:cT K c_Net aJ.empty=true) (hd_Net:bH K c_Net=true) (po_Net:dE K c_Net=true) (sa_Net:am K (.ref c_Net) "__setattr__"=some (some (.builtin "object.__setattr__"))) (mk_Net:dB K c_Net=true) (kc_Net:ar K (.ref c_Net)=true)
  (xC_BeatError:ay K ax "BeatError"=some (some (.ref c_BeatError)))
  (xC_Loose:ay K ax "Loose"=some (some (.ref c_Loose)))
  (xC_NoFit:ay K ax "NoFit"=some (some (.ref c_NoFit)))
  (xo_Loose:K.lookup c_Loose=some (excClassObj oe pS c_Loose tD nX lN mW oi m8 nW mT rE n4 n6 n8 n9 oa "ValueError.__new__")) (xv_Loose:fM lN)
  (xV_Loose:bu K c_Loose (.type "ValueError")=some true) (xB_Loose:bu K c_Loose (.type "BaseException")=some true) (xA_Loose:bu K c_Loose (.type "AttributeError")=some false) (xN_Loose:bu K c_Loose (.type "NameError")=some false) (xS_Loose:bO K (.ref c_Loose) "__call__"=some (some (.builtin "type.__call__"))) (xT_Loose:qU K (.ref c_Loose) (.type "type")=some true) (xK_Loose:ar K (.ref c_Loose)=true)
  (xs1_Loose:am K (.ref c_Loose) "__setattr__"=some (some (.builtin "object.__setattr__"))) (xs2_Loose:dC K c_Loose "going"=some none)
  (xga_Loose:am K (.ref c_Loose) "__getattribute__"=some (some (.builtin "BaseException.__getattribute__"))) (xgn_Loose:am K (.ref c_Loose) "__getattr__"=some none) (xhd_Loose:bH K c_Loose=true) (xca_Loose:am K (.ref c_Loose) "__class__"=some (some (.builtin "object.__class__"))) (xmo_Loose:bu K c_Loose (.type "object")=some true)
  (xno_Loose:am K (.ref c_Loose) "going"=some none)
  (xcg:bO K (.builtin "object.__class__") "__get__"=some (some (.builtin "getset_descriptor.__get__"))) (xct:gb K (.builtin "object.__class__")=some true)
  (xq1:bO K (.ref c_BeatError) "__getattribute__"=some (some (.builtin "type.__getattribute__"))) (xq2:d7 K c_BeatError (.type "type")=true) (xq3:d6 K (.ref c_BeatError) (.type "type") "__init__"=some (.val (.builtin "ValueError.__init__")))
  (kit_x0_Loose:aK K (.ref c_Loose) (.ref c_BeatError)=some true)
  (kit_xn0:aK K (.type "NoneType") (.ref c_BeatError)=some false)
  (kit_x1_Loose:aK K (.ref c_Loose) (.type "ValueError")=some true)
  (kit_xn1:aK K (.type "NoneType") (.type "ValueError")=some false)
  (kit_x2_Loose:aK K (.ref c_Loose) (.ref c_NoFit)=some false)
  (kit_xn2:aK K (.type "NoneType") (.ref c_NoFit)=some false)
  (hc_Loose:kS K c_Loose=true) (ht_Loose:lw K (.ref c_Loose)=some (.type "type")) (hb_Loose:i8 K (.ref c_Loose) (.type "BaseException")=some true)
  (hs_Loose_Loose:i8 K (.ref c_Loose) (.ref c_Loose)=some true)
  (a0:am K (.ref c_Arrow) "__init__"=some (some (.ref f0))) (i0:cr K (.ref f0)=true)
  (l0:K.lookup f0=some ⟨oc0,od0,.func (cB "__init__" "Arrow.__init__" yf .none L5 Li Ml K1 GX La),sl0⟩) (c0:aA K GX "Arrow.__init__"=true) (k0:ar K (.ref f0)=true)
  (a1:am K (.ref c_Ride) "__init__"=some (some (.ref f1))) (i1:cr K (.ref f1)=true)
  (l1:K.lookup f1=some ⟨oc1,od1,.func (cB "__init__" "Ride.__init__" yn .none L6 Lj Mm K2 GY Lb),vF⟩) (c1:aA K GY "Ride.__init__"=true) (k1:ar K (.ref f1)=true)
  (a2:am K (.ref c_Wait) "__init__"=some (some (.ref f2))) (i2:cr K (.ref f2)=true)
  (l2:K.lookup f2=some ⟨oc2,od2,.func (cB "__init__" "Wait.__init__" zy (.ref FE) Jh G9 Js GS ER G6),DZ⟩) (c2:aA K ER "Wait.__init__"=true) (k2:ar K (.ref f2)=true)
  (t2:K.lookup FE=some ⟨tc2,Ur,.seq #[.int 0 Ec] tn2,Ux⟩)
  (a3:am K (.ref c_Back) "__init__"=some (some (.ref f3))) (i3:cr K (.ref f3)=true)
  (l3:K.lookup f3=some ⟨oc3,od3,.func (cB "__init__" "Back.__init__" zz (.ref FF) Ji Ha Jt GU ES G7),sl3⟩) (c3:aA K ES "Back.__init__"=true) (k3:ar K (.ref f3)=true)
  (t3:K.lookup FF=some ⟨tc3,Us,.seq #[.int 1 Ed] FH,Uy⟩)
  (a4:ay K ax "is_letter"=some (some (.ref f4)))
  (l4:K.lookup f4=some ⟨oc4,od4,.func (cB "is_letter" "is_letter" xj .none L7 Lk Mn K3 GZ Lc),sl4⟩) (c4:aA K GZ "is_letter"=true) (k4:ar K (.ref f4)=true)
  (a5:ay K ax "is_figure"=some (some (.ref f5)))
  (l5:K.lookup f5=some ⟨oc5,od5,.func (cB "is_figure" "is_figure" xk .none L8 Ll Mp K4 G0 Ld),sl5⟩) (c5:aA K G0 "is_figure"=true) (k5:ar K (.ref f5)=true)
  (a6:ay K ax "is_name"=some (some (.ref f6)))
  (l6:K.lookup f6=some ⟨oc6,od6,.func (cB "is_name" "is_name" wv .none L9 Lm Mq K5 G1 Le),sl6⟩) (c6:aA K G1 "is_name"=true) (k6:ar K (.ref f6)=true)
  (a7:ay K ax "are_names"=some (some (.ref f7)))
  (l7:K.lookup f7=some ⟨oc7,od7,.func (cB "are_names" "are_names" xl .none Ma Ln Mr K6 G2 Lf),sl7⟩) (c7:aA K G2 "are_names"=true) (k7:ar K (.ref f7)=true)
  (a8:ay K ax "lies_within"=some (some (.ref f8)))
  (l8:K.lookup f8=some ⟨oc8,od8,.func (cB "lies_within" "lies_within" yo .none Mb Lo Ms K7 G3 Lg),sl8⟩) (c8:aA K G3 "lies_within"=true) (k8:ar K (.ref f8)=true)
  (a9:ay K ax "is_right"=some (some (.ref f9)))
  (l9:K.lookup f9=some ⟨oc9,od9,.func (cB "is_right" "is_right" xy .none Mc Lp Mt K8 G4 Lh),sl9⟩) (c9:aA K G4 "is_right"=true) (k9:ar K (.ref f9)=true)
  (a10:ay K ax "placed_goings"=some (some (.ref Hh)))
  (l10:K.lookup Hh=some ⟨Sb,SM,.func (cB "placed_goings" "placed_goings" yc .none Cw BC Dg Az vV Bb),Tz⟩) (c10:aA K vV "placed_goings"=true) (k10:ar K (.ref Hh)=true)
  (a11:am K (.ref c_Net) "__init__"=some (some (.ref EW))) (i11:cr K (.ref EW)=true)
  (l11:K.lookup EW=some ⟨Sd,SN,.func (cB "__init__" "Net.__init__" yz .none Cy BD Dh AA vW Bc),TB⟩) (c11:aA K vW "Net.__init__"=true) (k11:ar K (.ref EW)=true)
  (a12:am K (.ref c_Net) "most_behind"=some (some (.ref EY))) (i12:cr K (.ref EY)=true)
  (l12:K.lookup EY=some ⟨Se,SO,.func (cB "most_behind" "Net.most_behind" zm .none Cz BE Di AB vX Bd),TC⟩) (c12:aA K vX "Net.most_behind"=true) (k12:ar K (.ref EY)=true)
  (a13:am K (.ref c_Net) "into"=some (some (.ref EZ))) (i13:cr K (.ref EZ)=true)
  (l13:K.lookup EZ=some ⟨Sf,SQ,.func (cB "into" "Net.into" xz .none CA BG Dj AC vY Be),TD⟩) (c13:aA K vY "Net.into"=true) (k13:ar K (.ref EZ)=true)
  (a14:am K (.ref c_Net) "order"=some (some (.ref E5))) (i14:cr K (.ref E5)=true)
  (l14:K.lookup E5=some ⟨Sg,SR,.func (cB "order" "Net.order" xm .none CB BH Dk AD vZ Bf),TJ⟩) (c14:aA K vZ "Net.order"=true) (k14:ar K (.ref E5)=true)
  (a15:ay K ax "later"=some (some (.ref Hi)))
  (l15:K.lookup Hi=some ⟨Sh,SS,.func (cB "later" "later" uq .none CC BI Dl AE wA Bg),TK⟩) (c15:aA K wA "later"=true) (k15:ar K (.ref Hi)=true)
  (a16:ay K ax "latest"=some (some (.ref Hj)))
  (l16:K.lookup Hj=some ⟨Si,SU,.func (cB "latest" "latest" vg .none CD BJ Dn AF wB Bh),TL⟩) (c16:aA K wB "latest"=true) (k16:ar K (.ref Hj)=true)
  (a17:ay K ax "greatest_told"=some (some (.ref Hk)))
  (l17:K.lookup Hk=some ⟨Sj,SV,.func (cB "greatest_told" "greatest_told" ye .none CF BK Do AG wC Bi),TN⟩) (c17:aA K wC "greatest_told"=true) (k17:ar K (.ref Hk)=true)
  (a18:ay K ax "rows_ahead"=some (some (.ref Hl)))
  (l18:K.lookup Hl=some ⟨Sk,SW,.func (cB "rows_ahead" "rows_ahead" y0 .none CG BL Dp AH wD Bj),TQ⟩) (c18:aA K wD "rows_ahead"=true) (k18:ar K (.ref Hl)=true)
  (a19:ay K ax "time_in_last_row"=some (some (.ref Hm)))
  (l19:K.lookup Hm=some ⟨Sl,SX,.func (cB "time_in_last_row" "time_in_last_row" zl .none CH BM Dr AI wF Bk),TR⟩) (c19:aA K wF "time_in_last_row"=true) (k19:ar K (.ref Hm)=true)
  (a20:ay K ax "rows_with_past"=some (some (.ref Hn)))
  (l20:K.lookup Hn=some ⟨Sm,SY,.func (cB "rows_with_past" "rows_with_past" zq .none CI BN Ds AJ wG Bl),TU⟩) (c20:aA K wG "rows_with_past"=true) (k20:ar K (.ref Hn)=true)
  (a21:ay K ax "run"=some (some (.ref Ho)))
  (l21:K.lookup Ho=some ⟨Sn,SZ,.func (cB "run" "run" j8 (.ref su) tS tL tY tH rD tK),TV⟩) (c21:aA K rD "run"=true) (k21:ar K (.ref Ho)=true)
  (t21:K.lookup su=some ⟨Up,ME,.seq #[.none,.none] Uv,MG⟩)
  (a22:ay K ax "growth"=some (some (.ref Hq)))
  (l22:K.lookup Hq=some ⟨So,S1,.func (cB "growth" "growth" vh .none CJ BO Du AK wH Bm),TX⟩) (c22:aA K wH "growth"=true) (k22:ar K (.ref Hq)=true)
  (a23:ay K ax "grows_so"=some (some (.ref Hr)))
  (l23:K.lookup Hr=some ⟨Sq,S2,.func (cB "grows_so" "grows_so" wa .none CK BP Dv AL wI Bn),TY⟩) (c23:aA K wI "grows_so"=true) (k23:ar K (.ref Hr)=true)
  (a24:ay K ax "never_outgrown"=some (some (.ref Hs)))
  (l24:K.lookup Hs=some ⟨Sr,S3,.func (cB "never_outgrown" "never_outgrown" zt .none CL BQ Dw AM wJ Bo),TZ⟩) (c24:aA K wJ "never_outgrown"=true) (k24:ar K (.ref Hs)=true)
  (a25:ay K ax "is_carried"=some (some (.ref Ht)))
  (l25:K.lookup Ht=some ⟨Ss,S4,.func (cB "is_carried" "is_carried" xa .none CM BR Dx AN wK Bp),T1⟩) (c25:aA K wK "is_carried"=true) (k25:ar K (.ref Ht)=true)
  (a26:ay K ax "all_carried"=some (some (.ref Hu)))
  (l26:K.lookup Hu=some ⟨Su,S5,.func (cB "all_carried" "all_carried" yp .none CN BS Dy AO wL Bq),T3⟩) (c26:aA K wL "all_carried"=true) (k26:ar K (.ref Hu)=true)
  (a27:ay K ax "goes_on"=some (some (.ref Hv)))
  (l27:K.lookup Hv=some ⟨Sv,S6,.func (cB "goes_on" "goes_on" ww .none CO BU Dz AQ wM Br),T4⟩) (c27:aA K wM "goes_on"=true) (k27:ar K (.ref Hv)=true)
  (a28:am K (.ref c_Loose) "__init__"=some (some (.ref E6))) (i28:cr K (.ref E6)=true)
  (l28:K.lookup E6=some ⟨Sw,S7,.func (cB "__init__" "Loose.__init__" yg .none CP BV DA AR wN Bs),T5⟩) (c28:aA K wN "Loose.__init__"=true) (k28:ar K (.ref E6)=true)
  (a29:ay K ax "refuse_loose"=some (some (.ref Hw)))
  (l29:K.lookup Hw=some ⟨Sx,S8,.func (cB "refuse_loose" "refuse_loose" yh .none CQ BW DB AS wO Bt),T6⟩) (c29:aA K wO "refuse_loose"=true) (k29:ar K (.ref Hw)=true)
  (a30:ay K ax "earliest_round"=some (some (.ref Hx)))
  (l30:K.lookup Hx=some ⟨Sy,S9,.func (cB "earliest_round" "earliest_round" zu .none CS BX DC AT wQ Bu),T7⟩) (c30:aA K wQ "earliest_round"=true) (k30:ar K (.ref Hx)=true)
  (a31:ay K ax "comes_again"=some (some (.ref Hy)))
  (l31:K.lookup Hy=some ⟨SA,Ta,.func (cB "comes_again" "comes_again" ya (.ref t9) yC xC yH vS tI xA),T8⟩) (c31:aA K tI "comes_again"=true) (k31:ar K (.ref Hy)=true)
  (t31:K.lookup t9=some ⟨Uq,MF,.seq #[.none] Uw,MH⟩)
  (a32:ay K ax "_law_cell_at"=some (some (.ref Hz)))
  (l32:K.lookup Hz=some ⟨SC,Tb,.func (cB "_law_cell_at" "_law_cell_at" yq .none CT BY DD AU wR Bv),T9⟩) (c32:aA K wR "_law_cell_at"=true) (k32:ar K (.ref Hz)=true)
  (a33:ay K ax "_law_is_row"=some (some (.ref HA)))
  (l33:K.lookup HA=some ⟨SD,Tc,.func (cB "_law_is_row" "_law_is_row" xb .none CU BZ DE AV wU Bw),Ua⟩) (c33:aA K wU "_law_is_row"=true) (k33:ar K (.ref HA)=true)
  (a34:ay K ax "_law_mixed"=some (some (.ref HB)))
  (l34:K.lookup HB=some ⟨SE,Td,.func (cB "_law_mixed" "_law_mixed" xn .none CV B0 DF AW wV Bx),Ub⟩) (c34:aA K wV "_law_mixed"=true) (k34:ar K (.ref HB)=true)
  (a35:ay K ax "_law_rank"=some (some (.ref HC)))
  (l35:K.lookup HC=some ⟨SG,Te,.func (cB "_law_rank" "_law_rank" wb .none CW B1 DG AX wW By),Uc⟩) (c35:aA K wW "_law_rank"=true) (k35:ar K (.ref HC)=true)
  (a36:ay K ax "_law_arrow"=some (some (.ref HD)))
  (l36:K.lookup HD=some ⟨SH,Tf,.func (cB "_law_arrow" "_law_arrow" xo .none CY B2 DH AY wX Bz),Ud⟩) (c36:aA K wX "_law_arrow"=true) (k36:ar K (.ref HD)=true)
  (a37:ay K ax "_law_made"=some (some (.ref HE)))
  (l37:K.lookup HE=some ⟨SI,Tg,.func (cB "_law_made" "_law_made" wc .none CZ B3 DI AZ wY BA),Ue⟩) (c37:aA K wY "_law_made"=true) (k37:ar K (.ref HE)=true)
  (a38:ay K ax "_law_refused"=some (some (.ref HF)))
  (l38:K.lookup HF=some ⟨SJ,Th,.func (cB "_law_refused" "_law_refused" yr .none C0 B4 DJ A0 wZ BB),Ug⟩) (c38:aA K wZ "_law_refused"=true) (k38:ar K (.ref HF)=true)
  (a39:ay K ax "law"=some (some (.ref Ls)))
  (l39:K.lookup Ls=some ⟨SK,Ti,.func (cB "law" "law" zB .none yD xD yI vT tJ xB),Uh⟩) (c39:aA K tJ "law"=true) (k39:ar K (.ref Ls)=true)
  (qs_Arrow:bO K (.ref c_Arrow) "__getattribute__"=some (some (.builtin "type.__getattribute__"))) (qr_Arrow:d7 K c_Arrow (.type "type")=true) (qf_Arrow:d6 K (.ref c_Arrow) (.type "type") "__init__"=some (.val (.ref f0)))
  (n_Net_arrows:am K (.ref c_Net) "arrows"=some none)
  (n_Arrow_behind:am K (.ref c_Arrow) "behind"=some none)
  (n_Ride_behind:am K (.ref c_Ride) "behind"=some none)
  (n_Wait_behind:am K (.ref c_Wait) "behind"=some none)
  (n_Back_behind:am K (.ref c_Back) "behind"=some none)
  (n_Arrow_goal:am K (.ref c_Arrow) "goal"=some none)
  (n_Ride_goal:am K (.ref c_Ride) "goal"=some none)
  (n_Wait_goal:am K (.ref c_Wait) "goal"=some none)
  (n_Back_goal:am K (.ref c_Back) "goal"=some none)
  (n_Net_names:am K (.ref c_Net) "names"=some none)
  (n_Arrow_start:am K (.ref c_Arrow) "start"=some none)
  (n_Ride_start:am K (.ref c_Ride) "start"=some none)
  (n_Wait_start:am K (.ref c_Wait) "start"=some none)
  (n_Back_start:am K (.ref c_Back) "start"=some none)
  (n_Arrow_time:am K (.ref c_Arrow) "time"=some none)
  (n_Ride_time:am K (.ref c_Ride) "time"=some none)
  (n_Wait_time:am K (.ref c_Wait) "time"=some none)
  (n_Back_time:am K (.ref c_Back) "time"=some none)
  (ign:bO K (.builtin "object.__class__") "__get__"=some (some (.builtin "getset_descriptor.__get__"))) (igt:gb K (.builtin "object.__class__")=some true)
  (iga_Arrow:am K (.ref c_Arrow) "__class__"=some (some (.builtin "object.__class__"))) (igm_Arrow:bu K c_Arrow (.type "object")=some true)
  (kit_Arrow_Back:aK K (.ref c_Arrow) (.ref c_Back)=some false)
  (kit_Arrow_Ride:aK K (.ref c_Arrow) (.ref c_Ride)=some false)
  (iga_Ride:am K (.ref c_Ride) "__class__"=some (some (.builtin "object.__class__"))) (igm_Ride:bu K c_Ride (.type "object")=some true)
  (kit_Ride_Back:aK K (.ref c_Ride) (.ref c_Back)=some false)
  (kit_Ride_Ride:aK K (.ref c_Ride) (.ref c_Ride)=some true)
  (iga_Wait:am K (.ref c_Wait) "__class__"=some (some (.builtin "object.__class__"))) (igm_Wait:bu K c_Wait (.type "object")=some true)
  (kit_Wait_Back:aK K (.ref c_Wait) (.ref c_Back)=some false)
  (kit_Wait_Ride:aK K (.ref c_Wait) (.ref c_Ride)=some false)
  (iga_Back:am K (.ref c_Back) "__class__"=some (some (.builtin "object.__class__"))) (igm_Back:bu K c_Back (.type "object")=some true)
  (kit_Back_Back:aK K (.ref c_Back) (.ref c_Back)=some true)
  (kit_Back_Ride:aK K (.ref c_Back) (.ref c_Ride)=some false)
  (iga_Net:am K (.ref c_Net) "__class__"=some (some (.builtin "object.__class__"))) (igm_Net:bu K c_Net (.type "object")=some true)
  (kit_Net_Back:aK K (.ref c_Net) (.ref c_Back)=some false)
  (kit_Net_Ride:aK K (.ref c_Net) (.ref c_Ride)=some false)
  (z0:ay K ax "ValueError"=some none)
  (z1:ay K ax "all"=some none)
  (z2:ay K ax "bool"=some none)
  (z3:ay K ax "enumerate"=some none)
  (z4:ay K ax "int"=some none)
  (z5:ay K ax "isinstance"=some none)
  (z6:ay K ax "len"=some none)
  (z7:ay K ax "list"=some none)
  (z8:ay K ax "max"=some none)
  (z9:ay K ax "range"=some none)
  (z10:ay K ax "reversed"=some none)
  (z11:ay K ax "str"=some none)
  (z12:ay K ax "zip"=some none)
  (gc0:ay K ax "MOST_ARROWS"=some (some (.int 120 gt0)))
  (gc1:ay K ax "MOST_BEHIND"=some (some (.int 4 gt1)))
  (gc2:ay K ax "MOST_NAMES"=some (some (.int 40 gt2)))
  (gc3:ay K ax "MOST_SIGNS"=some (some (.int 8 gt3)))
  (gc4:ay K ax "MOST_TIME"=some (some (.int 1000000000 gt4))) :
  ∃fd:aL,(∀(s:aj) (v:ae),nL s fd ⟨[v],[]⟩ [("_law_script",v)])/\∀base:aI,K.In base->base.Ns ax mg->cp l.prog w K mg base eQ 7 fa fd ["_law_script"] (m6 K):=by
 have e:=Rl.symm.trans (aE X G a39)
 cases e
 have F0:=zw (st:=yf) l0 c0 k0
 have b0:bz K (cB "__init__" "Arrow.__init__" yf .none L5 Li Ml K1 GX La) ["self","start","goal","time","behind"] []:=.all (C4 λ_ _ _ _ _=>rfl)
 have F1:=zw (st:=yn) l1 c1 k1
 have b1:bz K (cB "__init__" "Ride.__init__" yn .none L6 Lj Mm K2 GY Lb) ["self","start","goal","time"] []:=.all (sO λ_ _ _ _=>rfl)
 have F2:=zw (st:=zy) l2 c2 k2
 have b2:bz K (cB "__init__" "Wait.__init__" zy (.ref FE) Jh G9 Js GS ER G6) ["self","start","goal","time","behind"] []:=jv 5 t2 (C4 λ_ _ _ _ _=>⟨_,rfl,rfl⟩)
 have GV:bz K (cB "__init__" "Wait.__init__" zy (.ref FE) Jh G9 Js GS ER G6) ["self","start","goal","time","behind"] [.int 0 Ec]:=jv 4 t2 (sO λ_ _ _ _=>⟨_,rfl,rfl⟩)
 have F3:=zw (st:=zz) l3 c3 k3
 have b3:bz K (cB "__init__" "Back.__init__" zz (.ref FF) Ji Ha Jt GU ES G7) ["self","start","goal","time","behind"] []:=jv 5 t3 (C4 λ_ _ _ _ _=>⟨_,rfl,rfl⟩)
 have GW:bz K (cB "__init__" "Back.__init__" zz (.ref FF) Ji Ha Jt GU ES G7) ["self","start","goal","time","behind"] [.int 1 Ed]:=jv 4 t3 (sO λ_ _ _ _=>⟨_,rfl,rfl⟩)
 have F4:=zw (st:=xj) l4 c4 k4
 have b4:bz K (cB "is_letter" "is_letter" xj .none L7 Lk Mn K3 GZ Lc) ["sign"] []:=.all (rX λ_=>rfl)
 have F5:=zw (st:=xk) l5 c5 k5
 have b5:bz K (cB "is_figure" "is_figure" xk .none L8 Ll Mp K4 G0 Ld) ["sign"] []:=.all (rX λ_=>rfl)
 have F6:=zw (st:=wv) l6 c6 k6
 have b6:bz K (cB "is_name" "is_name" wv .none L9 Lm Mq K5 G1 Le) ["word"] []:=.all (rX λ_=>rfl)
 have F7:=zw (st:=xl) l7 c7 k7
 have b7:bz K (cB "are_names" "are_names" xl .none Ma Ln Mr K6 G2 Lf) ["names"] []:=.all (rX λ_=>rfl)
 have F8:=zw (st:=yo) l8 c8 k8
 have b8:bz K (cB "lies_within" "lies_within" yo .none Mb Lo Ms K7 G3 Lg) ["number","least","most"] []:=.all (tU λ_ _ _=>rfl)
 have F9:=zw (st:=xy) l9 c9 k9
 have b9:bz K (cB "is_right" "is_right" xy .none Mc Lp Mt K8 G4 Lh) ["arrow","many"] []:=.all (pR λ_ _=>rfl)
 have PD:=zw (st:=yc) l10 c10 k10
 have Qj:bz K (cB "placed_goings" "placed_goings" yc .none Cw BC Dg Az vV Bb) ["many","arrows"] []:=.all (pR λ_ _=>rfl)
 have PJ:=zw (st:=yz) l11 c11 k11
 have Qk:bz K (cB "__init__" "Net.__init__" yz .none Cy BD Dh AA vW Bc) ["self","names","arrows"] []:=.all (tU λ_ _ _=>rfl)
 have PK:=zw (st:=zm) l12 c12 k12
 have Ql:bz K (cB "most_behind" "Net.most_behind" zm .none Cz BE Di AB vX Bd) ["self"] []:=.all (rX λ_=>rfl)
 have PL:=zw (st:=xz) l13 c13 k13
 have Qm:bz K (cB "into" "Net.into" xz .none CA BG Dj AC vY Be) ["self","going"] []:=.all (pR λ_ _=>rfl)
 have PM:=zw (st:=xm) l14 c14 k14
 have Qn:bz K (cB "order" "Net.order" xm .none CB BH Dk AD vZ Bf) ["self"] []:=.all (rX λ_=>rfl)
 have PN:=zw (st:=uq) l15 c15 k15
 have Qo:bz K (cB "later" "later" uq .none CC BI Dl AE wA Bg) ["when","more"] []:=.all (pR λ_ _=>rfl)
 have PP:=zw (st:=vg) l16 c16 k16
 have Qp:bz K (cB "latest" "latest" vg .none CD BJ Dn AF wB Bh) ["one","other"] []:=.all (pR λ_ _=>rfl)
 have PQ:=zw (st:=ye) l17 c17 k17
 have Qq:bz K (cB "greatest_told" "greatest_told" ye .none CF BK Do AG wC Bi) ["told"] []:=.all (rX λ_=>rfl)
 have PR:=zw (st:=y0) l18 c18 k18
 have Qr:bz K (cB "rows_ahead" "rows_ahead" y0 .none CG BL Dp AH wD Bj) ["net","was"] []:=.all (pR λ_ _=>rfl)
 have PU:=zw (st:=zl) l19 c19 k19
 have Qs:bz K (cB "time_in_last_row" "time_in_last_row" zl .none CH BM Dr AI wF Bk) ["net","rows","numbers","floor"] []:=.all (sO λ_ _ _ _=>rfl)
 have PV:=zw (st:=zq) l20 c20 k20
 have Qt:bz K (cB "rows_with_past" "rows_with_past" zq .none CI BN Ds AJ wG Bl) ["net","rounds","was","floors"] []:=.all (sO λ_ _ _ _=>rfl)
 have PX:=zw (st:=j8) l21 c21 k21
 have Qu:bz K (cB "run" "run" j8 (.ref su) tS tL tY tH rD tK) ["net","rounds","was","floors"] []:=jv 4 t21 (sO λ_ _ _ _=>⟨_,rfl,rfl⟩)
 have A6:bz K (cB "run" "run" j8 (.ref su) tS tL tY tH rD tK) ["net","rounds","was","floors"] [.none]:=jv 3 t21 (tU λ_ _ _=>⟨_,rfl,rfl⟩)
 have A7:bz K (cB "run" "run" j8 (.ref su) tS tL tY tH rD tK) ["net","rounds","was","floors"] [.none,.none]:=jv 2 t21 (pR λ_ _=>⟨_,rfl,rfl⟩)
 have PY:=zw (st:=vh) l22 c22 k22
 have Qv:bz K (cB "growth" "growth" vh .none CJ BO Du AK wH Bm) ["rows","first","count"] []:=.all (tU λ_ _ _=>rfl)
 have PZ:=zw (st:=wa) l23 c23 k23
 have Qw:bz K (cB "grows_so" "grows_so" wa .none CK BP Dv AL wI Bn) ["rows","first","last","count","lengths"] []:=.all (C4 λ_ _ _ _ _=>rfl)
 have P0:=zw (st:=zt) l24 c24 k24
 have Qx:bz K (cB "never_outgrown" "never_outgrown" zt .none CL BQ Dw AM wJ Bo) ["net","lengths"] []:=.all (pR λ_ _=>rfl)
 have P1:=zw (st:=xa) l25 c25 k25
 have Qy:bz K (cB "is_carried" "is_carried" xa .none CM BR Dx AN wK Bp) ["rows","carriers","going","number"] []:=.all (sO λ_ _ _ _=>rfl)
 have P2:=zw (st:=yp) l26 c26 k26
 have Qz:bz K (cB "all_carried" "all_carried" yp .none CN BS Dy AO wL Bq) ["net","rows","first","last","lengths"] []:=.all (C4 λ_ _ _ _ _=>rfl)
 have P3:=zw (st:=ww) l27 c27 k27
 have QA:bz K (cB "goes_on" "goes_on" ww .none CO BU Dz AQ wM Br) ["net","rows","paper"] []:=.all (tU λ_ _ _=>rfl)
 have P4:=zw (st:=yg) l28 c28 k28
 have QB:bz K (cB "__init__" "Loose.__init__" yg .none CP BV DA AR wN Bs) ["self","going"] []:=.all (pR λ_ _=>rfl)
 have P5:=zw (st:=yh) l29 c29 k29
 have QC:bz K (cB "refuse_loose" "refuse_loose" yh .none CQ BW DB AS wO Bt) ["net"] []:=.all (rX λ_=>rfl)
 have P6:=zw (st:=zu) l30 c30 k30
 have QD:bz K (cB "earliest_round" "earliest_round" zu .none CS BX DC AT wQ Bu) ["rows","known","count","lengths"] []:=.all (sO λ_ _ _ _=>rfl)
 have P7:=zw (st:=ya) l31 c31 k31
 have QE:bz K (cB "comes_again" "comes_again" ya (.ref t9) yC xC yH vS tI xA) ["net","most","was"] []:=jv 3 t31 (tU λ_ _ _=>⟨_,rfl,rfl⟩)
 have A8:bz K (cB "comes_again" "comes_again" ya (.ref t9) yC xC yH vS tI xA) ["net","most","was"] [.none]:=jv 2 t31 (pR λ_ _=>⟨_,rfl,rfl⟩)
 have P8:=zw (st:=yq) l32 c32 k32
 have QF:bz K (cB "_law_cell_at" "_law_cell_at" yq .none CT BY DD AU wR Bv) ["_law_script","_law_k"] []:=.all (pR λ_ _=>rfl)
 have P9:=zw (st:=xb) l33 c33 k33
 have QG:bz K (cB "_law_is_row" "_law_is_row" xb .none CU BZ DE AV wU Bw) ["_law_cell"] []:=.all (rX λ_=>rfl)
 have Qa:=zw (st:=xn) l34 c34 k34
 have QH:bz K (cB "_law_mixed" "_law_mixed" xn .none CV B0 DF AW wV Bx) ["_law_cell","_law_k"] []:=.all (pR λ_ _=>rfl)
 have Qb:=zw (st:=wb) l35 c35 k35
 have QI:bz K (cB "_law_rank" "_law_rank" wb .none CW B1 DG AX wW By) ["_law_turn","_law_many","_law_going"] []:=.all (tU λ_ _ _=>rfl)
 have Qc:=zw (st:=xo) l36 c36 k36
 have QJ:bz K (cB "_law_arrow" "_law_arrow" xo .none CY B2 DH AY wX Bz) ["_law_cell","_law_many","_law_turn","_law_k"] []:=.all (sO λ_ _ _ _=>rfl)
 have Qd:=zw (st:=wc) l37 c37 k37
 have QK:bz K (cB "_law_made" "_law_made" wc .none CZ B3 DI AZ wY BA) ["_law_arrow_here","_law_kind"] []:=.all (pR λ_ _=>rfl)
 have Qe:=zw (st:=yr) l38 c38 k38
 have QL:bz K (cB "_law_refused" "_law_refused" yr .none C0 B4 DJ A0 wZ BB) ["_law_net","_law_most","_law_was"] []:=.all (tU λ_ _ _=>rfl)
 have Qf:=zw (st:=zB) l39 c39 k39
 have QM:bz K (cB "law" "law" zB .none yD xD yI vT tJ xB) ["_law_script"] []:=.all (rX λ_=>rfl)
 have T:Txt K mg ⟨c_Arrow,c_Ride,c_Wait,c_Back,c_Net,c_BeatError,c_Loose,c_NoFit,f0,cB "__init__" "Arrow.__init__" yf .none L5 Li Ml K1 GX La,f1,cB "__init__" "Ride.__init__" yn .none L6 Lj Mm K2 GY Lb,f2,cB "__init__" "Wait.__init__" zy (.ref FE) Jh G9 Js GS ER G6,f3,cB "__init__" "Back.__init__" zz (.ref FF) Ji Ha Jt GU ES G7,f4,cB "is_letter" "is_letter" xj .none L7 Lk Mn K3 GZ Lc,f5,cB "is_figure" "is_figure" xk .none L8 Ll Mp K4 G0 Ld,f6,cB "is_name" "is_name" wv .none L9 Lm Mq K5 G1 Le,f7,cB "are_names" "are_names" xl .none Ma Ln Mr K6 G2 Lf,f8,cB "lies_within" "lies_within" yo .none Mb Lo Ms K7 G3 Lg,f9,cB "is_right" "is_right" xy .none Mc Lp Mt K8 G4 Lh,Hh,cB "placed_goings" "placed_goings" yc .none Cw BC Dg Az vV Bb,EW,cB "__init__" "Net.__init__" yz .none Cy BD Dh AA vW Bc,EY,cB "most_behind" "Net.most_behind" zm .none Cz BE Di AB vX Bd,EZ,cB "into" "Net.into" xz .none CA BG Dj AC vY Be,E5,cB "order" "Net.order" xm .none CB BH Dk AD vZ Bf,Hi,cB "later" "later" uq .none CC BI Dl AE wA Bg,Hj,cB "latest" "latest" vg .none CD BJ Dn AF wB Bh,Hk,cB "greatest_told" "greatest_told" ye .none CF BK Do AG wC Bi,Hl,cB "rows_ahead" "rows_ahead" y0 .none CG BL Dp AH wD Bj,Hm,cB "time_in_last_row" "time_in_last_row" zl .none CH BM Dr AI wF Bk,Hn,cB "rows_with_past" "rows_with_past" zq .none CI BN Ds AJ wG Bl,Ho,cB "run" "run" j8 (.ref su) tS tL tY tH rD tK,Hq,cB "growth" "growth" vh .none CJ BO Du AK wH Bm,Hr,cB "grows_so" "grows_so" wa .none CK BP Dv AL wI Bn,Hs,cB "never_outgrown" "never_outgrown" zt .none CL BQ Dw AM wJ Bo,Ht,cB "is_carried" "is_carried" xa .none CM BR Dx AN wK Bp,Hu,cB "all_carried" "all_carried" yp .none CN BS Dy AO wL Bq,Hv,cB "goes_on" "goes_on" ww .none CO BU Dz AQ wM Br,E6,cB "__init__" "Loose.__init__" yg .none CP BV DA AR wN Bs,Hw,cB "refuse_loose" "refuse_loose" yh .none CQ BW DB AS wO Bt,Hx,cB "earliest_round" "earliest_round" zu .none CS BX DC AT wQ Bu,Hy,cB "comes_again" "comes_again" ya (.ref t9) yC xC yH vS tI xA,Hz,cB "_law_cell_at" "_law_cell_at" yq .none CT BY DD AU wR Bv,HA,cB "_law_is_row" "_law_is_row" xb .none CU BZ DE AV wU Bw,HB,cB "_law_mixed" "_law_mixed" xn .none CV B0 DF AW wV Bx,HC,cB "_law_rank" "_law_rank" wb .none CW B1 DG AX wW By,HD,cB "_law_arrow" "_law_arrow" xo .none CY B2 DH AY wX Bz,HE,cB "_law_made" "_law_made" wc .none CZ B3 DI AZ wY BA,HF,cB "_law_refused" "_law_refused" yr .none C0 B4 DJ A0 wZ BB,fa,cB "law" "law" zB .none yD xD yI vT tJ xB⟩:=by
  constructor
  ·exact⟨⟨pg_Arrow,hd_Arrow,po_Arrow,sa_Arrow⟩,aE X G aC_Arrow,mk_Arrow,kc_Arrow⟩
  ·exact⟨⟨pg_Ride,hd_Ride,po_Ride,sa_Ride⟩,aE X G aC_Ride,mk_Ride,kc_Ride⟩
  ·exact⟨⟨pg_Wait,hd_Wait,po_Wait,sa_Wait⟩,aE X G aC_Wait,mk_Wait,kc_Wait⟩
  ·exact⟨⟨pg_Back,hd_Back,po_Back,sa_Back⟩,aE X G aC_Back,mk_Back,kc_Back⟩
  ·exact⟨⟨pg_Net,hd_Net,po_Net,sa_Net⟩,aE X G aC_Net,mk_Net,kc_Net⟩
  ·exact⟨F0,⟨a0,i0,k0⟩,b0⟩
  ·exact⟨F1,⟨a1,i1,k1⟩,b1⟩
  ·exact⟨F2,⟨a2,i2,k2⟩,b2⟩
  ·exact⟨_,trivial,(.cons ⟨_,rfl⟩ .nil),GV⟩
  ·exact⟨F3,⟨a3,i3,k3⟩,b3⟩
  ·exact⟨_,trivial,(.cons ⟨_,rfl⟩ .nil),GW⟩
  ·exact⟨F4,aE X G a4,b4⟩
  ·exact⟨F5,aE X G a5,b5⟩
  ·exact⟨F6,aE X G a6,b6⟩
  ·exact⟨F7,aE X G a7,b7⟩
  ·exact⟨F8,aE X G a8,b8⟩
  ·exact⟨F9,aE X G a9,b9⟩
  ·exact⟨PD,aE X G a10,Qj⟩
  ·exact⟨PJ,⟨a11,i11,k11⟩,Qk⟩
  ·exact⟨PK,⟨a12,i12,k12⟩,Ql⟩
  ·exact⟨PL,⟨a13,i13,k13⟩,Qm⟩
  ·exact⟨PM,⟨a14,i14,k14⟩,Qn⟩
  ·exact⟨PN,aE X G a15,Qo⟩
  ·exact⟨PP,aE X G a16,Qp⟩
  ·exact⟨PQ,aE X G a17,Qq⟩
  ·exact⟨PR,aE X G a18,Qr⟩
  ·exact⟨PU,aE X G a19,Qs⟩
  ·exact⟨PV,aE X G a20,Qt⟩
  ·exact⟨PX,aE X G a21,Qu⟩
  ·exact⟨_,trivial,(.cons rfl .nil),A6⟩
  ·exact⟨_,trivial,(.cons rfl (.cons rfl .nil)),A7⟩
  ·exact⟨PY,aE X G a22,Qv⟩
  ·exact⟨PZ,aE X G a23,Qw⟩
  ·exact⟨P0,aE X G a24,Qx⟩
  ·exact⟨P1,aE X G a25,Qy⟩
  ·exact⟨P2,aE X G a26,Qz⟩
  ·exact⟨P3,aE X G a27,QA⟩
  ·exact⟨P4,⟨a28,i28,k28⟩,QB⟩
  ·exact⟨P5,aE X G a29,QC⟩
  ·exact⟨P6,aE X G a30,QD⟩
  ·exact⟨P7,aE X G a31,QE⟩
  ·exact⟨_,trivial,(.cons rfl .nil),A8⟩
  ·exact⟨P8,aE X G a32,QF⟩
  ·exact⟨P9,aE X G a33,QG⟩
  ·exact⟨Qa,aE X G a34,QH⟩
  ·exact⟨Qb,aE X G a35,QI⟩
  ·exact⟨Qc,aE X G a36,QJ⟩
  ·exact⟨Qd,aE X G a37,QK⟩
  ·exact⟨Qe,aE X G a38,QL⟩
  ·exact⟨Qf,aE X G a39,QM⟩
  ·exact⟨qs_Arrow,qr_Arrow,qf_Arrow⟩
  ·exactλc hc=>by
    simp only[aB,cn,or_false]at hc
    rcases hc with rfl
    all_goals first|exact⟨⟨pg_Net,hd_Net,po_Net,sa_Net⟩,n_Net_arrows⟩
  ·exactλc hc=>by
    simp only[aB,cn,or_false]at hc
    rcases hc with rfl|rfl|rfl|rfl
    all_goals first|exact⟨⟨pg_Arrow,hd_Arrow,po_Arrow,sa_Arrow⟩,n_Arrow_behind⟩|exact⟨⟨pg_Ride,hd_Ride,po_Ride,sa_Ride⟩,n_Ride_behind⟩|exact⟨⟨pg_Wait,hd_Wait,po_Wait,sa_Wait⟩,n_Wait_behind⟩|exact⟨⟨pg_Back,hd_Back,po_Back,sa_Back⟩,n_Back_behind⟩
  ·exactλc hc=>by
    simp only[aB,cn,or_false]at hc
    rcases hc with rfl|rfl|rfl|rfl
    all_goals first|exact⟨⟨pg_Arrow,hd_Arrow,po_Arrow,sa_Arrow⟩,n_Arrow_goal⟩|exact⟨⟨pg_Ride,hd_Ride,po_Ride,sa_Ride⟩,n_Ride_goal⟩|exact⟨⟨pg_Wait,hd_Wait,po_Wait,sa_Wait⟩,n_Wait_goal⟩|exact⟨⟨pg_Back,hd_Back,po_Back,sa_Back⟩,n_Back_goal⟩
  ·exactλc hc=>by
    simp only[aB,cn,or_false]at hc
    rcases hc with rfl
    all_goals first|exact⟨⟨pg_Net,hd_Net,po_Net,sa_Net⟩,n_Net_names⟩
  ·exactλc hc=>by
    simp only[aB,cn,or_false]at hc
    rcases hc with rfl|rfl|rfl|rfl
    all_goals first|exact⟨⟨pg_Arrow,hd_Arrow,po_Arrow,sa_Arrow⟩,n_Arrow_start⟩|exact⟨⟨pg_Ride,hd_Ride,po_Ride,sa_Ride⟩,n_Ride_start⟩|exact⟨⟨pg_Wait,hd_Wait,po_Wait,sa_Wait⟩,n_Wait_start⟩|exact⟨⟨pg_Back,hd_Back,po_Back,sa_Back⟩,n_Back_start⟩
  ·exactλc hc=>by
    simp only[aB,cn,or_false]at hc
    rcases hc with rfl|rfl|rfl|rfl
    all_goals first|exact⟨⟨pg_Arrow,hd_Arrow,po_Arrow,sa_Arrow⟩,n_Arrow_time⟩|exact⟨⟨pg_Ride,hd_Ride,po_Ride,sa_Ride⟩,n_Ride_time⟩|exact⟨⟨pg_Wait,hd_Wait,po_Wait,sa_Wait⟩,n_Wait_time⟩|exact⟨⟨pg_Back,hd_Back,po_Back,sa_Back⟩,n_Back_time⟩
  ·exactλc hc=>by
    simp only[aB,cn,or_false]at hc
    rcases hc with rfl|rfl|rfl|rfl|rfl
    all_goals first|exact⟨⟨⟨pg_Arrow,hd_Arrow,po_Arrow,sa_Arrow⟩,iga_Arrow,ign,igt,igm_Arrow⟩,kit_Arrow_Back⟩|exact⟨⟨⟨pg_Ride,hd_Ride,po_Ride,sa_Ride⟩,iga_Ride,ign,igt,igm_Ride⟩,kit_Ride_Back⟩|exact⟨⟨⟨pg_Wait,hd_Wait,po_Wait,sa_Wait⟩,iga_Wait,ign,igt,igm_Wait⟩,kit_Wait_Back⟩|exact⟨⟨⟨pg_Back,hd_Back,po_Back,sa_Back⟩,iga_Back,ign,igt,igm_Back⟩,kit_Back_Back⟩|exact⟨⟨⟨pg_Net,hd_Net,po_Net,sa_Net⟩,iga_Net,ign,igt,igm_Net⟩,kit_Net_Back⟩
  ·exactλc hc=>by
    simp only[aB,cn,or_false]at hc
    rcases hc with rfl|rfl|rfl|rfl|rfl
    all_goals first|exact⟨⟨⟨pg_Arrow,hd_Arrow,po_Arrow,sa_Arrow⟩,iga_Arrow,ign,igt,igm_Arrow⟩,kit_Arrow_Ride⟩|exact⟨⟨⟨pg_Ride,hd_Ride,po_Ride,sa_Ride⟩,iga_Ride,ign,igt,igm_Ride⟩,kit_Ride_Ride⟩|exact⟨⟨⟨pg_Wait,hd_Wait,po_Wait,sa_Wait⟩,iga_Wait,ign,igt,igm_Wait⟩,kit_Wait_Ride⟩|exact⟨⟨⟨pg_Back,hd_Back,po_Back,sa_Back⟩,iga_Back,ign,igt,igm_Back⟩,kit_Back_Ride⟩|exact⟨⟨⟨pg_Net,hd_Net,po_Net,sa_Net⟩,iga_Net,ign,igt,igm_Net⟩,kit_Net_Ride⟩
  ·exact aE X G xC_BeatError
  ·exact aE X G xC_Loose
  ·exact aE X G xC_NoFit
  ·exact xK_Loose
  ·exact⟨⟨oe,pS,tD,nX,lN,mW,oi,m8,nW,mT,rE,n4,n6,n8,n9,oa,xo_Loose,xv_Loose⟩,xV_Loose,xB_Loose,xA_Loose,xN_Loose,xS_Loose,xT_Loose⟩
  ·exact⟨xhd_Loose,xs1_Loose,xs2_Loose⟩
  ·exact⟨xq1,xq2,xq3⟩
  ·exactλc hc=>by
    rw[aW]at hc
    subst hc
    exact⟨xga_Loose,xgn_Loose,xB_Loose,xhd_Loose,xno_Loose⟩
  ·exact⟨(λc hc=>by
    rw[aW]at hc
    subst hc
    exact⟨⟨xga_Loose,xgn_Loose,xB_Loose,xhd_Loose,xca_Loose,xcg,xct,xmo_Loose⟩,kit_x0_Loose⟩),kit_xn0⟩
  ·exact⟨(λc hc=>by
    rw[aW]at hc
    subst hc
    exact⟨⟨xga_Loose,xgn_Loose,xB_Loose,xhd_Loose,xca_Loose,xcg,xct,xmo_Loose⟩,kit_x1_Loose⟩),kit_xn1⟩
  ·exact⟨(λc hc=>by
    rw[aW]at hc
    subst hc
    exact⟨⟨xga_Loose,xgn_Loose,xB_Loose,xhd_Loose,xca_Loose,xcg,xct,xmo_Loose⟩,kit_x2_Loose⟩),kit_xn2⟩
  ·exactλc hc=>by
    rw[aW]at hc
    subst hc
    exact ZA hc_Loose ht_Loose hs_Loose_Loose hb_Loose
  ·exact bS X G z0
  ·exact bS X G z1
  ·exact bS X G z2
  ·exact bS X G z3
  ·exact bS X G z4
  ·exact bS X G z5
  ·exact bS X G z6
  ·exact bS X G z7
  ·exact bS X G z8
  ·exact bS X G z9
  ·exact bS X G z10
  ·exact bS X G z11
  ·exact bS X G z12
  ·exact⟨_,aE X G gc0⟩
  ·exact⟨_,aE X G gc1⟩
  ·exact⟨_,aE X G gc2⟩
  ·exact⟨_,aE X G gc3⟩
  ·exact⟨_,aE X G gc4⟩
 exact⟨cB "law" "law" zB .none yD xD yI vT tJ xB,λs v=>.of_eq rfl,λbase _ _=>Z1 T⟩
theorem walk {l:kQ}{q:bg}{loose:List aJ}{XP:(aJ->Option ae)->aI->Prop}{YP:bN->aI->Prop}{d:DefRec}{K:Params->aa}(hn:l.most=some 63)(B9:d.params.defaults=[])
  (hY:∀(w:bN) (h:aI),YP w h->(K w.params).In h)
  (F:∀(w:bN) (mg:aJ->Option ae) (fa:ah) (h:aI),(K w.params).In h->h.Ns ax mg->mg d.name=some (.ref fa) ->
   ∃fd:aL,(∀(s:aj) (u:ae),nL s fd ⟨[u],[]⟩ [("_law_script",u)])/\∀base:aI,(K w.params).In base->base.Ns ax mg->cp l.prog w (K w.params) mg base eQ 7 fa fd ["_law_script"] (m6 (K w.params))) :
  rn q loose XP YP l.row.toRowW d [] (λf vs=>PySem.call f vs) :=
 L2.walk_of (n:=63) (k:=7) (x:="_law_script") (CX:=λ_=>eQ) (sp:=λw=>m6 (K w.params)) hn (by decide) B9 ⟨rfl,by decide,by decide⟩ hY F (λ_ _ a ns hl _ hS=>⟨a,ns,rfl,hS,hl,λ_=>rfl⟩) λ_ _ _ _ _ z=>z
end My
-- KEEP
namespace PySem.W.Fast
def tw1516839743693229592:=0
def tw8256074414697354595:=0
def tw13964361585153698934:=0
def tw866127011613358502:=0
def tw12925317964512919734:=0
def tw10167690367722450147:=0
def tw4868328382238506505:=0
def tw3222767273373342667:=0
def tw18213988602604728336:=0
def tw10095479018247217539:=0
def tw2847770455298768584:=0
def tw11118083235279792044:=0
def tw4050036865690884268:=0
def tw16031626818893150551:=0
def tw12475000719553356007:=0
def tw6847829905343261230:=0
def tw13123006709818959459:=0
def tw16005659123051546119:=0
def tw17308778197127583947:=0
def tw6219371879258968091:=0
def tw14578828604603105031:=0
def tw15238865737283521623:=0
def tw10094383106052295367:=0
def tw2958435576070999253:=0
def tw3286633191639244436:=0
def tw16114530686148808149:=0
def tw12478841213145175550:=0
def tw4619282093566776891:=0
def tw13751655120827766868:=0
def tw7287278289470001600:=0
def tw6120566543060773712:=0
def tw426566871756370099:=0
def tw12066678655679377413:=0
def tw2061729460251244049:=0
def tw9329319623744138268:=0
def tw8449955797973295472:=0
def tw11256598489825767451:=0
def tw6295708994152414780:=0
def tw13959087959531325254:=0
def tw4304069121642281532:=0
def tw2533065722448050381:=0
def tw3789283901117225618:=0
def tw382375757974673730:=0
def tw958159717986888543:=0
def tw12187803664471337665:=0
def tw2531499785673248343:=0
def tw7637643040630553004:=0
def tw17468255085423879620:=0
def tw14495800023964656138:=0
def tw8709942671177344010:=0
def tw18352433677602925577:=0
def tw10692610329676745104:=0
def tw11072393854240463386:=0
def tw15612770222981623106:=0
def tw13207882629635833082:=0
def tw2012384670607570320:=0
def tw16673754757975443204:=0
def tw294353652672735935:=0
def tw15148723437196869986:=0
def tw15963376978399721304:=0
def tw4764908018973951857:=0
def tw7202313051049888439:=0
def tw6601077050692237395:=0
def tw16345278684422147084:=0
def tw3706391519874772447:=0
def tw4126244178588142011:=0
def tw17662313493096855851:=0
end PySem.W.Fast
open PySem PySem.W PyProof.Rows
set_option maxRecDepth 100000 in
set_option maxHeartbeats 0 in
theorem PySem.Challenge.cw_ringbeat_k45_again_put_off_holds : PySem.Challenge.rw_ringbeat_k45_again_put_off.Holds := by
  w_on; o_law; k_head; (case hw => w_witness2)
  k_fill
  refine My.walk (l := PySem.Challenge.rw_ringbeat_k45_again_put_off) rfl rfl (fun w h Y => PySem.W.kIn_of Y) ?F
  case F =>
    intro w mg fa h KX G hmg
    refine' My.all_mk KX G hmg ?aC_Arrow ?pg_Arrow ?hd_Arrow ?po_Arrow ?sa_Arrow ?mk_Arrow ?kc_Arrow ?aC_Ride ?pg_Ride ?hd_Ride ?po_Ride ?sa_Ride ?mk_Ride ?kc_Ride ?aC_Wait ?pg_Wait ?hd_Wait ?po_Wait ?sa_Wait ?mk_Wait ?kc_Wait ?aC_Back ?pg_Back ?hd_Back ?po_Back ?sa_Back ?mk_Back ?kc_Back ?aC_Net ?pg_Net ?hd_Net ?po_Net ?sa_Net ?mk_Net ?kc_Net ?xC_BeatError ?xC_Loose ?xC_NoFit ?xo_Loose ?xv_Loose ?xV_Loose ?xB_Loose ?xA_Loose ?xN_Loose ?xS_Loose ?xT_Loose ?xK_Loose ?xs1_Loose ?xs2_Loose ?xga_Loose ?xgn_Loose ?xhd_Loose ?xca_Loose ?xmo_Loose ?xno_Loose ?xcg ?xct ?xq1 ?xq2 ?xq3 ?kit_x0_Loose ?kit_xn0 ?kit_x1_Loose ?kit_xn1 ?kit_x2_Loose ?kit_xn2 ?hc_Loose ?ht_Loose ?hb_Loose ?hs_Loose_Loose ?a0 ?i0 ?l0 ?c0 ?k0 ?a1 ?i1 ?l1 ?c1 ?k1 ?a2 ?i2 ?l2 ?c2 ?k2 ?t2 ?a3 ?i3 ?l3 ?c3 ?k3 ?t3 ?a4 ?l4 ?c4 ?k4 ?a5 ?l5 ?c5 ?k5 ?a6 ?l6 ?c6 ?k6 ?a7 ?l7 ?c7 ?k7 ?a8 ?l8 ?c8 ?k8 ?a9 ?l9 ?c9 ?k9 ?a10 ?l10 ?c10 ?k10 ?a11 ?i11 ?l11 ?c11 ?k11 ?a12 ?i12 ?l12 ?c12 ?k12 ?a13 ?i13 ?l13 ?c13 ?k13 ?a14 ?i14 ?l14 ?c14 ?k14 ?a15 ?l15 ?c15 ?k15 ?a16 ?l16 ?c16 ?k16 ?a17 ?l17 ?c17 ?k17 ?a18 ?l18 ?c18 ?k18 ?a19 ?l19 ?c19 ?k19 ?a20 ?l20 ?c20 ?k20 ?a21 ?l21 ?c21 ?k21 ?t21 ?a22 ?l22 ?c22 ?k22 ?a23 ?l23 ?c23 ?k23 ?a24 ?l24 ?c24 ?k24 ?a25 ?l25 ?c25 ?k25 ?a26 ?l26 ?c26 ?k26 ?a27 ?l27 ?c27 ?k27 ?a28 ?i28 ?l28 ?c28 ?k28 ?a29 ?l29 ?c29 ?k29 ?a30 ?l30 ?c30 ?k30 ?a31 ?l31 ?c31 ?k31 ?t31 ?a32 ?l32 ?c32 ?k32 ?a33 ?l33 ?c33 ?k33 ?a34 ?l34 ?c34 ?k34 ?a35 ?l35 ?c35 ?k35 ?a36 ?l36 ?c36 ?k36 ?a37 ?l37 ?c37 ?k37 ?a38 ?l38 ?c38 ?k38 ?a39 ?l39 ?c39 ?k39 ?qs_Arrow ?qr_Arrow ?qf_Arrow ?n_Net_arrows ?n_Arrow_behind ?n_Ride_behind ?n_Wait_behind ?n_Back_behind ?n_Arrow_goal ?n_Ride_goal ?n_Wait_goal ?n_Back_goal ?n_Net_names ?n_Arrow_start ?n_Ride_start ?n_Wait_start ?n_Back_start ?n_Arrow_time ?n_Ride_time ?n_Wait_time ?n_Back_time ?ign ?igt ?iga_Arrow ?igm_Arrow ?kit_Arrow_Back ?kit_Arrow_Ride ?iga_Ride ?igm_Ride ?kit_Ride_Back ?kit_Ride_Ride ?iga_Wait ?igm_Wait ?kit_Wait_Back ?kit_Wait_Ride ?iga_Back ?igm_Back ?kit_Back_Back ?kit_Back_Ride ?iga_Net ?igm_Net ?kit_Net_Back ?kit_Net_Ride ?z0 ?z1 ?z2 ?z3 ?z4 ?z5 ?z6 ?z7 ?z8 ?z9 ?z10 ?z11 ?z12 ?gc0 ?gc1 ?gc2 ?gc3 ?gc4
    (case aC_Arrow => k_is)
    (case pg_Arrow => k_is)
    (case hd_Arrow => k_is)
    (case po_Arrow => k_is)
    (case sa_Arrow => k_is)
    (case mk_Arrow => k_is)
    (case kc_Arrow => k_is)
    (case aC_Ride => k_is)
    (case pg_Ride => k_is)
    (case hd_Ride => k_is)
    (case po_Ride => k_is)
    (case sa_Ride => k_is)
    (case mk_Ride => k_is)
    (case kc_Ride => k_is)
    (case aC_Wait => k_is)
    (case pg_Wait => k_is)
    (case hd_Wait => k_is)
    (case po_Wait => k_is)
    (case sa_Wait => k_is)
    (case mk_Wait => k_is)
    (case kc_Wait => k_is)
    (case aC_Back => k_is)
    (case pg_Back => k_is)
    (case hd_Back => k_is)
    (case po_Back => k_is)
    (case sa_Back => k_is)
    (case mk_Back => k_is)
    (case kc_Back => k_is)
    (case aC_Net => k_is)
    (case pg_Net => k_is)
    (case hd_Net => k_is)
    (case po_Net => k_is)
    (case sa_Net => k_is)
    (case mk_Net => k_is)
    (case kc_Net => k_is)
    (case xC_BeatError => k_is)
    (case xC_Loose => k_is)
    (case xC_NoFit => k_is)
    (case xo_Loose => k_is)
    (case xv_Loose => first | exact .base | exact .own .base)
    (case xV_Loose => k_is)
    (case xB_Loose => k_is)
    (case xA_Loose => k_is)
    (case xN_Loose => k_is)
    (case xS_Loose => k_is)
    (case xT_Loose => k_is)
    (case xK_Loose => k_is)
    (case xs1_Loose => k_is)
    (case xs2_Loose => k_is)
    (case xga_Loose => k_is)
    (case xgn_Loose => k_is)
    (case xhd_Loose => k_is)
    (case xca_Loose => k_is)
    (case xmo_Loose => k_is)
    (case xno_Loose => k_is)
    (case xcg => k_is)
    (case xct => k_is)
    (case xq1 => k_is)
    (case xq2 => k_is)
    (case xq3 => k_is)
    (case kit_x0_Loose => kit_is)
    (case kit_xn0 => kit_is)
    (case kit_x1_Loose => kit_is)
    (case kit_xn1 => kit_is)
    (case kit_x2_Loose => kit_is)
    (case kit_xn2 => kit_is)
    (case hc_Loose => k_is)
    (case ht_Loose => k_is)
    (case hb_Loose => k_is)
    (case hs_Loose_Loose => k_is)
    (case a0 => k_is)
    (case i0 => k_is)
    (case l0 => k_is)
    (case c0 => k_is)
    (case k0 => k_is)
    (case a1 => k_is)
    (case i1 => k_is)
    (case l1 => k_is)
    (case c1 => k_is)
    (case k1 => k_is)
    (case a2 => k_is)
    (case i2 => k_is)
    (case l2 => k_is)
    (case c2 => k_is)
    (case k2 => k_is)
    (case t2 => k_is)
    (case a3 => k_is)
    (case i3 => k_is)
    (case l3 => k_is)
    (case c3 => k_is)
    (case k3 => k_is)
    (case t3 => k_is)
    (case a4 => k_is)
    (case l4 => k_is)
    (case c4 => k_is)
    (case k4 => k_is)
    (case a5 => k_is)
    (case l5 => k_is)
    (case c5 => k_is)
    (case k5 => k_is)
    (case a6 => k_is)
    (case l6 => k_is)
    (case c6 => k_is)
    (case k6 => k_is)
    (case a7 => k_is)
    (case l7 => k_is)
    (case c7 => k_is)
    (case k7 => k_is)
    (case a8 => k_is)
    (case l8 => k_is)
    (case c8 => k_is)
    (case k8 => k_is)
    (case a9 => k_is)
    (case l9 => k_is)
    (case c9 => k_is)
    (case k9 => k_is)
    (case a10 => k_is)
    (case l10 => k_is)
    (case c10 => k_is)
    (case k10 => k_is)
    (case a11 => k_is)
    (case i11 => k_is)
    (case l11 => k_is)
    (case c11 => k_is)
    (case k11 => k_is)
    (case a12 => k_is)
    (case i12 => k_is)
    (case l12 => k_is)
    (case c12 => k_is)
    (case k12 => k_is)
    (case a13 => k_is)
    (case i13 => k_is)
    (case l13 => k_is)
    (case c13 => k_is)
    (case k13 => k_is)
    (case a14 => k_is)
    (case i14 => k_is)
    (case l14 => k_is)
    (case c14 => k_is)
    (case k14 => k_is)
    (case a15 => k_is)
    (case l15 => k_is)
    (case c15 => k_is)
    (case k15 => k_is)
    (case a16 => k_is)
    (case l16 => k_is)
    (case c16 => k_is)
    (case k16 => k_is)
    (case a17 => k_is)
    (case l17 => k_is)
    (case c17 => k_is)
    (case k17 => k_is)
    (case a18 => k_is)
    (case l18 => k_is)
    (case c18 => k_is)
    (case k18 => k_is)
    (case a19 => k_is)
    (case l19 => k_is)
    (case c19 => k_is)
    (case k19 => k_is)
    (case a20 => k_is)
    (case l20 => k_is)
    (case c20 => k_is)
    (case k20 => k_is)
    (case a21 => k_is)
    (case l21 => k_is)
    (case c21 => k_is)
    (case k21 => k_is)
    (case t21 => k_is)
    (case a22 => k_is)
    (case l22 => k_is)
    (case c22 => k_is)
    (case k22 => k_is)
    (case a23 => k_is)
    (case l23 => k_is)
    (case c23 => k_is)
    (case k23 => k_is)
    (case a24 => k_is)
    (case l24 => k_is)
    (case c24 => k_is)
    (case k24 => k_is)
    (case a25 => k_is)
    (case l25 => k_is)
    (case c25 => k_is)
    (case k25 => k_is)
    (case a26 => k_is)
    (case l26 => k_is)
    (case c26 => k_is)
    (case k26 => k_is)
    (case a27 => k_is)
    (case l27 => k_is)
    (case c27 => k_is)
    (case k27 => k_is)
    (case a28 => k_is)
    (case i28 => k_is)
    (case l28 => k_is)
    (case c28 => k_is)
    (case k28 => k_is)
    (case a29 => k_is)
    (case l29 => k_is)
    (case c29 => k_is)
    (case k29 => k_is)
    (case a30 => k_is)
    (case l30 => k_is)
    (case c30 => k_is)
    (case k30 => k_is)
    (case a31 => k_is)
    (case l31 => k_is)
    (case c31 => k_is)
    (case k31 => k_is)
    (case t31 => k_is)
    (case a32 => k_is)
    (case l32 => k_is)
    (case c32 => k_is)
    (case k32 => k_is)
    (case a33 => k_is)
    (case l33 => k_is)
    (case c33 => k_is)
    (case k33 => k_is)
    (case a34 => k_is)
    (case l34 => k_is)
    (case c34 => k_is)
    (case k34 => k_is)
    (case a35 => k_is)
    (case l35 => k_is)
    (case c35 => k_is)
    (case k35 => k_is)
    (case a36 => k_is)
    (case l36 => k_is)
    (case c36 => k_is)
    (case k36 => k_is)
    (case a37 => k_is)
    (case l37 => k_is)
    (case c37 => k_is)
    (case k37 => k_is)
    (case a38 => k_is)
    (case l38 => k_is)
    (case c38 => k_is)
    (case k38 => k_is)
    (case a39 => k_is)
    (case l39 => k_is)
    (case c39 => k_is)
    (case k39 => k_is)
    (case qs_Arrow => k_is)
    (case qr_Arrow => k_is)
    (case qf_Arrow => k_is)
    (case n_Net_arrows => k_is)
    (case n_Arrow_behind => k_is)
    (case n_Ride_behind => k_is)
    (case n_Wait_behind => k_is)
    (case n_Back_behind => k_is)
    (case n_Arrow_goal => k_is)
    (case n_Ride_goal => k_is)
    (case n_Wait_goal => k_is)
    (case n_Back_goal => k_is)
    (case n_Net_names => k_is)
    (case n_Arrow_start => k_is)
    (case n_Ride_start => k_is)
    (case n_Wait_start => k_is)
    (case n_Back_start => k_is)
    (case n_Arrow_time => k_is)
    (case n_Ride_time => k_is)
    (case n_Wait_time => k_is)
    (case n_Back_time => k_is)
    (case ign => k_is)
    (case igt => k_is)
    (case iga_Arrow => k_is)
    (case igm_Arrow => k_is)
    (case kit_Arrow_Back => kit_is)
    (case kit_Arrow_Ride => kit_is)
    (case iga_Ride => k_is)
    (case igm_Ride => k_is)
    (case kit_Ride_Back => kit_is)
    (case kit_Ride_Ride => kit_is)
    (case iga_Wait => k_is)
    (case igm_Wait => k_is)
    (case kit_Wait_Back => kit_is)
    (case kit_Wait_Ride => kit_is)
    (case iga_Back => k_is)
    (case igm_Back => k_is)
    (case kit_Back_Back => kit_is)
    (case kit_Back_Ride => kit_is)
    (case iga_Net => k_is)
    (case igm_Net => k_is)
    (case kit_Net_Back => kit_is)
    (case kit_Net_Ride => kit_is)
    (case z0 => k_is)
    (case z1 => k_is)
    (case z2 => k_is)
    (case z3 => k_is)
    (case z4 => k_is)
    (case z5 => k_is)
    (case z6 => k_is)
    (case z7 => k_is)
    (case z8 => k_is)
    (case z9 => k_is)
    (case z10 => k_is)
    (case z11 => k_is)
    (case z12 => k_is)
    (case gc0 => k_is)
    (case gc1 => k_is)
    (case gc2 => k_is)
    (case gc3 => k_is)
    (case gc4 => k_is)
