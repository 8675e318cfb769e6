import PyProof.Rows.All
import Wide.All
import OpenK.AllK
import Wide.FinOn
import Lean
import PyProof.EqAt
import PyProof.EqKinds
import PyProof.TupleCall
import PyProof.ExcClass3
import PyProof.ExcBaseAll.ValueError
import KE.KTryMore
import PyProof.FString2
import PyProof.ReprRoads
import PyProof.ReprBulk
import PyProof.DictItems
import KE.KDictList
import KE.KSortTup
import PyProof.Rows.SortRuns
import KE.KSortAsk
import KE.KSortKey
import KE.KDictList
import PyProof.StrCalls
import PyProof.StrBlock2
import PyProof.StrBlockI
import PyProof.StrCalls2
import KE.KIntText
import PySem.Challenge.RW_ringbeat_k68_too_many_waits
set_option Elab.async false
set_option linter.all false
set_option maxRecDepth 100000
open Array renaming length_toList→bQ,getElem?_toList→d5,getElem?_eq_some_iff→gF,toList_map→gS,ext'→oU,append_assoc→oV
open Bool renaming false_ne_true→aD,and_eq_true→bT,false_eq_true→cj,or_eq_false_iff→oe,and_false→sA
open Int renaming emod_nonneg→lZ,fdiv_eq_ediv_of_nonneg→mG,toNat_of_nonneg→pj,emod_lt_of_pos→qB
open List renaming mem_cons_self→am,mem_cons_of_mem→ao,mem_append_right→av,mem_cons→az,length_cons→aB,replicate→aC,size_toArray→aI,length_map→aM,mem_singleton→aQ,getElem?_eq_some_iff→aS,length_append→aV,nodup_append→aX,lookup_cons→aZ,mem_append_left→bb,mem_append→bj,getElem?_map→bn,getD_eq_getElem?_getD→bo,map_cons→bq,nodup_cons→bz,nodup_nil→bA,range→bC,getElem?_eq_getElem→bJ,foldl_cons→bM,mem_filter→bN,getElem?_append_left→bS,append_nil→bX,not_mem_nil→cp,replicate_succ→cA,length_take→cG,getElem?_append_right→cJ,length_range→cK,mem_range→cL,find?_cons→cM,length_replicate→cP,Nodup→cY,getElem?_set_self→df,getElem?_eq_none→di,mem_iff_getElem?→dk,mem_iff_getElem→dC,getElem?_range→dJ,countP_append→dW,map_map→dX,any_cons→d6,flatten_cons→ee,getElem?_set_ne→et,lookup→eu,length_drop→eE,map_congr_left→eG,all_cons→eL,getElem?_take_of_lt→eM,length_zip→eP,zip_cons_cons→eS,getElem?_replicate→eU,append_assoc→fq,drop_of_length_le→fu,take_of_length_le→fw,length_singleton→fL,all_eq_true→fP,countP_cons→fQ,take_append_of_le_length→fW,forIn_cons→gj,map_append→gk,of_mem_zip→gm,ext_getElem?→gN,contains→gP,ext_getElem→hE,nodup_range→hG,map_const'→ir,forIn_nil→iU,length→iV,mem_of_mem_take→iW,filterMap_cons→jI,contains_cons→jW,getElem?_drop→jX,getElem_range→jY,foldl_append→ku,map_nil→kx,mem_map→ky,getElem_inj→lg,getElem_map→lh,getElem_set→li,eq_nil_of_length_eq_zero→lw,length_set→lF,perm_ext_iff_of_nodup→mn,drop_eq_getElem_cons→mH,append_cancel_left→nh,filter_cons_of_neg→ni,filter_cons_of_pos→nj,length_eq_zero_iff→nk,drop_eq_nil_of_le→ny,countP_singleton→nQ,mem_of_getElem?→og,filter_filter→pq,find?_eq_none→pv,foldl→pz,length_zipIdx→pA,mem_filterMap→pB,getElem_take→qC,take_add_one→qD,filter_cons→qQ,getElem_mem→qR,zipIdx_cons→qS,take_left'→sf,find?_some→sg,length_nil→si,zip_append→sj
open Nat renaming le_refl→aH,ne_of_lt→aY,lt_of_lt_of_le→bg,le_trans→bH,lt_succ_of_lt→cZ,zero_le→dh,lt_irrefl→d8,le_succ→eY,lt_succ_self→hX,ne_of_gt→iu,pow_le_pow_right→jA,lt_of_le_of_lt→kn,le_of_eq→kI,le_of_lt→kJ,le_of_succ_le→kK,min_self→kL,min_eq_right→lx,min_eq_left→ma,mul_assoc→nq,le_total→nR,pow_succ→nS,zero_add→nU
open Option renaming bind_some→bw,map_eq_some_iff→bF,getD_some→fE,map_some→ie,isSome_iff_exists→mq,bind_eq_some_iff→mI,isSome_map→oW,getD_none→pC
open PyProof.Rows renaming callWith_type1→fF,callWith_builtin1→iX
open PySem renaming Value→aa,Addr→af,Shared→ai,wpAny_bind→ak,starEach→ap,mainGlobals→ax,model→aA,Heap→aE,wpAny_pure→aJ,Str→aK,wpAny→aN,FuncData→aP,Program→aT,NameKind→ba,Around→bi,World→bt,sizeLine_eq→bu,eval→bB,Stmt→bI,bootBuiltins→bY,backTo→bZ,PassesOwn→cn,Obj→cu,Pos→cy,strIterType→cD,compareOp→cF,PyData→cT,assignEach→cU,wpAny_mono→cV,keywordEach→dc,foldedSetIterable→dg,behindInMarks→dm,wpAny_holding→dq,wpAny_Call_Name_kw→dA,holding→dD,swapsWith→dI,binaryOp→dL,wpAny_truthy_bool→dM,attributeBase→dP,sysModules→ef,wpAny_passesOwn→er,codeAny→eF,backToKw→eK,standAt→eQ,Scope→eZ,wpAny_standAt→e8,getMethod→fG,codeAny_mono→fU,sliceBounds→gG,letOwnedTupleGo→gI,Sem→gU,cLine→gW,callWith→gX,tupleKind_room_in1→gY,Keyword→ij,wpAny_newObj_type→ik,assign→iw,Operator→iJ,tupleKind→iK,wpAny_execs_nil→jJ,newFunctionEnv→ko,CmpOp→lm,callerA→md,seqIndex_neg→mh,Code→mJ,seqIndex_of→mZ,BindsTo→nz,setItem→nB,valueAt→nD,closureFor→nV,compEnvC→nW,compPost→nX,Data→oX,atKey→pE,bindC→pF,bindL→pG,concat_meets→qE,isTrue→qF,builtinsNs→tL,call_meets→tM,typeIs_int→tN,wpAny_Name→tO
open PySem.Heap renaming get?_push_of_some→aq,lt_size→aG,get?_push_size→br,get?_update_other→cI,SameBut→dB,size_push→dO,get?_update_self→d7,get?_none_of_le→iT,get?_update_ne→jH,update_setField_same→mF,get?_push_at→p9,get?_push_ne→qA,size_update→qP
open PySem.W renaming Frag→ae,findIn→aj,keepIn→ar,nsIn→ay,mg_of→aF,codeIn→aL,kitOne→aO,mroIn→bp,hasDictIn→bv,specialIn→bK,isFn→bP,mg_none_of→bU,kia_one→bV,Looks→cm,plainGet→cE,emptyDict→cH,looks_findIn→cQ,plainOver→cR,makesIn→cW,instObj→dr,takerIn→dv,InstAt→dG,kitAny→dH,callWith_K→dQ,findCls→dS,readsIn→dU,methodCall_KW→dZ,exmOne→eh,clsIn→fH,takesIn→fV,fnOf→gc,check_slot→gw,any_some→gO,cellsFrom_some→gZ,lookIn→ix,looks_clsIn→iL,looks_mroIn→iM,plainGet_of→iN,subIn→iY,kitx_list→jS,kitx_none→jT,methodObj→jU,handedIn→kr,OpenLaw→kM,findObj→kN,isClsIn→kO,typeIn→lz,kas_swaps_map→m5,findObj_own→nE,looks_find→nY,method_cls→nZ,cls_value→oh,kitx_dict→oi,set_plain→oj,InitBack→oY,bind_fn→pH,kia_tup→pI,instIn→qG,notCls→qH,WalkO→qT
namespace L2
open PySem PySem.Spec PyProof.Rows
abbrev eA:=Sum Int aK
def mQ:eA->aa->Bool
 |.inl k,v=>aa.isInt k v
 |.inr x,v=>aa.isStrOf x v
def HI (w:bt):eA->Int
 |.inl k=>hashInt k
 |.inr x=>hashStr w x
theorem xm:∀{k:eA} {v:aa},mQ k v=true->(∃i t,k=Sum.inl i/\v=aa.int i t)\/(∃x t,k=Sum.inr x/\v=aa.str x t)
 |.inl i,v,h=>by
  obtain⟨t,e⟩:=aa.isInt_shape (k:=i) (v:=v) h
  exact .inl ⟨i,t,rfl,e⟩
 |.inr x,v,h=>by
  obtain⟨t,e⟩:=aa.isStrOf_shape (x:=x) (v:=v) h
  exact .inr ⟨x,t,rfl,e⟩
theorem SG (i:Int)(t:Tok):mQ (.inl i) (.int i t)=true:=by simp[mQ,aa.isInt]
theorem SH (x:aK)(t:Tok):mQ (.inr x) (.str x t)=true:=by simp[mQ,aa.isStrOf]
theorem VD (a b:Int):decide ((Sum.inl a:eA)=Sum.inl b)=(a==b):=by
 by_cases e:a=b
 ·subst e;simp
 ·have h:¬(Sum.inl a:eA)=Sum.inl b:=λq=>e (Sum.inl.inj q)
  rw[decide_eq_false h]
  exact(beq_eq_false_iff_ne.mpr e).symm
theorem VF (a b:aK):decide ((Sum.inr a:eA)=Sum.inr b)=decide (a=b):=by
 by_cases e:a=b
 ·subst e;simp
 ·have h:¬(Sum.inr a:eA)=Sum.inr b:=λq=>e (Sum.inr.inj q)
  rw[decide_eq_false h,decide_eq_false e]
theorem VG (a:Int)(b:aK):decide ((Sum.inl a:eA)=Sum.inr b)=false:=decide_eq_false (λq=>nomatch q)
theorem VH (a:aK)(b:Int):decide ((Sum.inr a:eA)=Sum.inl b)=false:=decide_eq_false (λq=>nomatch q)
def dz (prog:aT)(w:bt):PySem.KeyKind prog w eA where
 is:=mQ
 hash:=HI w
 inj:=λv a b ha hb=>by
  rcases xm ha with⟨i,t,rfl,rfl⟩|⟨x,t,rfl,rfl⟩
  ·rcases xm hb with⟨j,u,rfl,e⟩|⟨y,u,rfl,e⟩
   ·injection e with e1 _;rw[e1]
   ·exact nomatch e
  ·rcases xm hb with⟨j,u,rfl,e⟩|⟨y,u,rfl,e⟩
   ·exact nomatch e
   ·injection e with e1 _;rw[e1]
 byValue:=λk v h=>by
  rcases xm h with⟨i,t,rfl,rfl⟩|⟨x,t,rfl,rfl⟩<;>rfl
 pyHash:=λhv h=>by
  rcases xm hv with⟨i,t,rfl,rfl⟩|⟨x,t,rfl,rfl⟩
  ·exact wpAny_pyHash_int h
  ·exact wpAny_pyHash_str h
 eqBool:=λhu hv h=>by
  rcases xm hu with⟨i,t,rfl,rfl⟩|⟨x,t,rfl,rfl⟩
  ·rcases xm hv with⟨j,u,rfl,rfl⟩|⟨y,u,rfl,rfl⟩
   ·rw[VD]at h;exact wpAny_eqBool_int h
   ·rw[VG]at h;exact SeqAt.EqAt.int_str i t y u _ _ _ _ h
  ·rcases xm hv with⟨j,u,rfl,rfl⟩|⟨y,u,rfl,rfl⟩
   ·rw[VH]at h;exact SeqAt.EqAt.str_int x t j u _ _ _ _ h
   ·rw[VF]at h;exact wpAny_eqBool_str h
 «strs»:=λk x t v h=>by
  rcases xm h with⟨i,u,rfl,e⟩|⟨y,u,rfl,e⟩
  ·exact nomatch e
  ·injection e with e1 _
   subst e1
   cases v<;>rfl
theorem R3 (prog:aT)(w:bt)(i:Int)(t:Tok):(dz prog w).is (.inl i) (.int i t)=true:=SG i t
theorem R4 (prog:aT)(w:bt)(x:aK)(t:Tok):(dz prog w).is (.inr x) (.str x t)=true:=SH x t
end L2
namespace L2
open PySem PySem.Spec PyProof.Rows
inductive V where
 |non|bl (b:Bool)|int (i:Int)|str (x:aK)|byt (b:Array UInt8)|flt (b:UInt64)|ref (a:af)|ty (n:String)
 deriving DecidableEq
def RelV:V->aa->Prop
 |.non,u=>u=aa.none
 |.bl b,u=>u=aa.bool b
 |.int i,u=>∃t,u=aa.int i t
 |.str x,u=>∃t,u=aa.str x t
 |.byt b,u=>∃t,u=aa.bytes b t
 |.flt b,u=>∃t,u=aa.float b t
 |.ref a,u=>u=aa.ref a
 |.ty n,u=>u=aa.type n
abbrev bR:List V->List aa->Prop:=Paired RelV
theorem bR.length {xs:List V}{us:List aa}(r:bR xs us):xs.length=us.length:=Paired.length r
theorem bR.get:∀{xs:List V} {us:List aa} {i:Nat} {x:V},bR xs us->xs[i]?=some x->∃u,us[i]?=some u/\RelV x u
 |_,_,_,_,.nil,e=>by simp at e
 |_,_,0,_,.cons r _,e=>by simp at e;subst e;exact⟨_,rfl,r⟩
 |_,_,i+1,x,.cons _ t,e=>by
  obtain⟨u,h1,h2⟩:=bR.get (i:=i) (x:=x) t (by simpa using e)
  exact⟨u,by simpa using h1,h2⟩
theorem bR.set {x:V}{u:aa}(r:RelV x u):∀{xs:List V} {us:List aa} (i:Nat),bR xs us->bR (xs.set i x) (us.set i u)
 |_,_,_,.nil=>.nil
 |_,_,0,.cons _ t=>.cons r t
 |_,_,i+1,.cons q t=>.cons q (bR.set r i t)
theorem bR.append:∀{xs ys:List V} {us ws:List aa},bR xs us->bR ys ws->bR (xs++ys) (us++ws)
 |_,_,_,_,.nil,s=>s
 |_,_,_,_,.cons r t,s=>.cons r (bR.append t s)
theorem bR.take:∀{xs:List V} {us:List aa} (n:Nat),bR xs us->bR (xs.take n) (us.take n)
 |_,_,0,_=>.nil
 |_,_,_+1,.nil=>.nil
 |_,_,n+1,.cons r t=>.cons r (bR.take n t)
theorem bR.drop:∀{xs:List V} {us:List aa} (n:Nat),bR xs us->bR (xs.drop n) (us.drop n)
 |_,_,0,r=>r
 |_,_,_+1,.nil=>.nil
 |_,_,n+1,.cons _ t=>bR.drop n t
def iZ:Option V->Option aa->Prop
 |some v,some u=>RelV v u
 |none,none=>True
 |_,_=>False
def KV {κ:Type}:List (κ×V)->List (κ×aa)->Prop:=Paired λ(p:κ×V) (q:κ×aa)=>p.1=q.1/\RelV p.2 q.2
def kV:eA->V
 |.inl i=>.int i
 |.inr x=>.str x
inductive HO where
 |lst (xs:List V)
 |tup (xs:List V)
 |dK (cq:List (eA×V))|dT (cq:List (List eA×V))
 |set (S:Int->Bool) (n:Nat)
 |ins (C dx:af) (fs:List (aK×V))
 |own (x:af)
 |xd (fs:List (aK×V))
 |met (f x:af)
 |rng (lo hi:Int)
 |frz (o:cu) (u:HO)
 |tbl (ps:Array aa)
 |ext (φ:aE->Prop)
abbrev Hp:=af->Option HO
def upd (H:Hp)(a:af)(o:HO):Hp:=λb=>if b=a then some o else H b
theorem zm {H:Hp}{a:af}{o:HO}:upd H a o a=some o:=by unfold upd;rw[if_pos rfl]
theorem zg {H:Hp}{a b:af}{o:HO}(h:b≠a):upd H a o b=H b:=by unfold upd;rw[if_neg h]
theorem XN {H:Hp}{a b:af}{o u:HO}(h:H a=some o)(h':H b=some u)(d:o≠u):a≠b:=by
 intro e;subst e;rw[h]at h';exact d (Option.some.inj h')
theorem zk {H:Hp}{a b:af}{o:HO}(h:H a=some o)(h':H b=none):a≠b:=by
 intro e;subst e;rw[h]at h';cases h'
section
variable (P:aT)(w:bt)
def dF (H:Hp)(h:aE)(a:af):HO->Prop
  |.lst xs=>xs.length<=sizeLine/\∃(bW:List aa) (n:Nat),bR xs bW/\h.get? a=some { cls:=.type "list",data:=.seq bW.toArray n }
  |.tup xs=>xs.length<=sizeLine/\∃bW:List aa,bR xs bW/\IsTup h a bW.toArray
  |.dK cq=>cq.length<=sizeLine/\(a==ef)=false/\∃vs,KV cq vs/\h.DictOf (dz P w) a vs
  |.dT cq=>cq.length<=sizeLine/\(a==ef)=false/\∃xs:List (List eA×af×aa),
      Paired (λ(p:List eA×V) (q:List eA×af×aa)=>p.1=q.1/\H q.2.1=some (.tup (p.1.map kV))/\RelV p.2 q.2.2) cq xs /\
      ∃o es ep,h.get? a=some o/\o.ExactDict/\o.data=.dict es ep/\es.toList=xs.map (entryOfKey (iK (dz P w)))/\(xs.map (·.1)).Nodup
  |.set S n=>h.SetOf (intKind P w) a S n
  |.ins C dx fs=>H dx=some (.own a)/\fs.length<=1000/\dx≠a/\h.get? a=some (dr C dx) /\
      ∃mA,h.Ns1 dx mA/\(∀f,iZ (fs.lookup f) (mA f))/\PySem.Within mA (fs.map (·.1))
  |.own _=>∃o,h.get? a=some o
  |.xd fs=>∃mA,h.Ns1 a mA/\∀f,iZ (fs.lookup f) (mA f)
  |.rng lo hi=>∃t u v,h.get? a=some { cls:=.type "range",data:=.fields #[.int lo t,.int hi u,.int 1 v] }
  |.frz o u=>h.get? a=some o/\dF H h a u
  |.tbl ps=>h.get? a=some { cls:=.none,data:=.fields ps }
  |.met f x=>h.get? a=some (jU (.ref f) (.ref x))
  |.ext φ=>φ h/\(∃o,h.get? a=some o)/\∀h1 h2:aE,φ h1->(∀o,h1.get? a=some o->h2.get? a=some o)->φ h2
def jL (H:Hp)(h:aE):Prop:=∀a o,H a=some o->dF P w H h a o
end
section
variable {P:aT}{w:bt}{H H':Hp}{h h':aE}{a:af}{o:HO}
theorem dF.lt (x:dF P w H h a o):a<h.objs.size:=by
 cases o with
 |lst xs=>obtain⟨_,_,_,_,e⟩:=x;exact aG e
 |tup xs=>obtain⟨_,_,_,p⟩:=x;exact p.lt
 |dK cq=>obtain⟨_,_,_,_,o,_,_,e,_⟩:=x;exact aG e
 |dT cq=>obtain⟨_,_,_,_,o,_,_,e,_⟩:=x;exact aG e
 |set S n=>obtain⟨o,_,_,_,e,_⟩:=x;exact aG e
 |ins C dx fs=>obtain⟨_,_,_,e,_⟩:=x;exact aG e
 |own y=>obtain⟨_,e⟩:=x;exact aG e
 |xd fs=>obtain⟨_,⟨_,_,_,e,_⟩,_⟩:=x;exact aG e
 |rng lo hi=>obtain⟨_,_,_,e⟩:=x;exact aG e
 |frz ob u=>obtain⟨e,_⟩:=x;exact aG e
 |tbl ps=>exact aG (show h.get? a=some _ from x)
 |met f y=>exact aG (show h.get? a=some _ from x)
 |ext φ=>obtain⟨_,⟨_,e⟩,_⟩:=x;exact aG e
theorem Paired.mapP {α β:Type}{F G:α->β->Prop}:∀{l₁:List α} {l₂:List β},Paired F l₁ l₂->(∀a b,F a b->G a b)->Paired G l₁ l₂
 |_,_,.nil,_=>.nil
 |_,_,.cons r t,f=>.cons (f _ _ r) (Paired.mapP t f)
theorem dF.stay (x:dF P w H h a o)(k:∀b u,(b=a\/H b=some (.own a))->h.get? b=some u->h'.get? b=some u)
    (ho:∀b,H b=some (.own a)->H' b=some (.own a)) (ht:∀b xs,H b=some (.tup xs)->H' b=some (.tup xs)):dF P w H' h' a o:=by
  induction o with
  |lst xs=>obtain⟨z,bW,n,r,e⟩:=x;exact⟨z,bW,n,r,k _ _ (.inl rfl) e⟩
  |tup xs=>obtain⟨z,bW,r,ob,e,c⟩:=x;exact⟨z,bW,r,ob,k _ _ (.inl rfl) e,c⟩
  |dK cq=>obtain⟨z,y,vs,r,ob,es,ep,e,c⟩:=x;exact⟨z,y,vs,r,ob,es,ep,k _ _ (.inl rfl) e,c⟩
  |dT cq=>
    obtain⟨z,y,xs,r,ob,es,ep,e,c⟩:=x
    exact⟨z,y,xs,Paired.mapP r λp q z=>⟨z.1,ht _ _ z.2.1,z.2.2⟩,ob,es,ep,k _ _ (.inl rfl) e,c⟩
  |set S n=>obtain⟨ob,es,ep,t,e,c⟩:=x;exact⟨ob,es,ep,t,k _ _ (.inl rfl) e,c⟩
  |ins C dx fs=>
    obtain⟨d,z,ne,e,mA,⟨od,es,ep,e2,c⟩,r⟩:=x
    exact⟨ho _ d,z,ne,k _ _ (.inl rfl) e,mA,⟨od,es,ep,k _ _ (.inr d) e2,c⟩,r⟩
  |own y=>obtain⟨ob,e⟩:=x;exact⟨ob,k _ _ (.inl rfl) e⟩
  |xd fs=>obtain⟨mA,⟨od,es,ep,e,c⟩,r⟩:=x;exact⟨mA,⟨od,es,ep,k _ _ (.inl rfl) e,c⟩,r⟩
  |rng lo hi=>obtain⟨t,u,v,e⟩:=x;exact⟨t,u,v,k _ _ (.inl rfl) e⟩
  |frz ob u ih=>obtain⟨e,q⟩:=x;exact⟨k _ _ (.inl rfl) e,ih q⟩
  |tbl ps=>
    have e:h.get? a=some { cls:=.none,data:=.fields ps }:=x
    show h'.get? a=some { cls:=.none,data:=.fields ps }
    exact k a _ (.inl rfl) e
  |met f y=>
    have e:h.get? a=some (jU (.ref f) (.ref y)):=x
    show h'.get? a=some (jU (.ref f) (.ref y))
    exact k a _ (.inl rfl) e
  |ext φ=>obtain⟨p,⟨o,e⟩,st⟩:=x;exact⟨st _ _ p λo q=>k _ _ (.inl rfl) q,⟨o,k _ _ (.inl rfl) e⟩,st⟩
theorem jL.lt (x:jL P w H h)(e:H a=some o):a<h.objs.size:=(x a o e).lt
theorem jL.fresh (x:jL P w H h)(e:h.objs.size<=a):H a=none:=by
 cases q:H a with
 |none=>rfl
 |some u=>exact absurd (bg (x.lt q) e) (d8 _)
theorem jL.kept (x:jL P w H h)(k:∀b u,h.get? b=some u->h'.get? b=some u):jL P w H h':=λa o e=>
 (x a o e).stay (λb u _ q=>k b u q) (λ_ q=>q) λ_ _ q=>q
theorem jL.laid (x:jL P w H h)(k:∀b u,h.get? b=some u->h'.get? b=some u)(hp:h.objs.size<=a)(new:dF P w (upd H a o) h' a o):jL P w (upd H a o) h':=λb u e=>by
 have hn:=x.fresh hp
 by_cases hb:b=a
 ·subst hb;rw[zm]at e;cases e;exact new
 ·rw[zg hb]at e
  exact(x b u e).stay (λc v _ q=>k c v q) (λc q=>by rw[zg (zk q hn)];exact q) λc xs q=>by rw[zg (zk q hn)];exact q
end
def Rd (H:Hp)(a:af)(u:HO):Prop:=H a=some u\/∃o,H a=some (.frz o u)
theorem Rd.ok {P:aT}{w:bt}{H:Hp}{h:aE}{a:af}{u:HO}(r:Rd H a u)(x:jL P w H h):dF P w H h a u:=by
 rcases r with r|⟨o,r⟩
 ·exact x a u r
 ·obtain⟨_,q⟩:=x a _ r
  exact q
def Aa:Option HO->Prop
 |some (.lst _)=>True
 |some (.dK _)=>True
 |some (.dT _)=>True
 |some (.set _ _)=>True
 |some (.ins _ _ _)=>True
 |some (.ext _)=>True
 |_=>False
section
variable {P:aT}{w:bt}{H:Hp}{h h':aE}{x e:af}{o':HO}
theorem jL.write (ok:jL P w H h)(mu:Aa (H x))(he:e=x\/H e=some (.own x))(k:∀b u,b≠e->h.get? b=some u->h'.get? b=some u)(yU:∃u,h'.get? e=some u)
  (new:dF P w (upd H x o') h' x o'):jL P w (upd H x o') h':=λb u q=>by
 have CH:∀c y,H c=some (.own y)->c≠x:=λc y r z=>by subst z;rw[r]at mu;exact mu
 have HN:∀c xs,H c=some (.tup xs)->c≠x:=λc xs r z=>by subst z;rw[r]at mu;exact mu
 by_cases hb:b=x
 ·subst hb;rw[zm]at q;cases q;exact new
 ·rw[zg hb]at q
  by_cases wK:b=e
  ·have q':H b=some (.own x):=by
    rcases he with z|z
    ·exact absurd (wK.trans z) hb
    ·rw[wK];exact z
   rw[q]at q';cases q'
   obtain⟨v,hv⟩:=yU
   exact⟨v,by rw[wK];exact hv⟩
  ·refine(ok b u q).stay (λc v hc r=>k c v ?_ r) (λc r=>by rw[zg (CH c b r)];exact r) λc xs r=>by rw[zg (HN c xs r)];exact r
   rcases hc with rfl|hc
   ·exact wK
   ·rintro rfl
    rcases he with z|z
    ·exact CH c b hc z
    ·rw[hc]at z;cases z;exact hb rfl
end
structure Un (fs ex:List af)(H H':Hp)(h h':aE):Prop where
 keep:∀b o,h.get? b=some o->H b=none->b∉fs->b∉ex->h'.get? b=some o
 slot:∀b o,h.get? b=some o->H b=none->b∈fs->b∉ex->∃sl,h'.get? b=some { o with slots:=sl }
 free:∀b o,h.get? b=some o->H b=none->b∉ex->H' b=none
 there:∀b o,h.get? b=some o->b∉ex->∃o',h'.get? b=some o'
 tups:∀b xs,H b=some (.tup xs)->H' b=some (.tup xs)
 frzs:∀b o u,H b=some (.frz o u)->H' b=some (.frz o u)
 tbls:∀b ps,H b=some (.tbl ps)->∃more,H' b=some (.tbl (ps++more))
section
variable {fs OA ex Yb:List af}{H H1 H2:Hp}{h h1 h2 h':aE}{a x e:af}{o:HO}
theorem Un.any (u:Un fs ex H H1 h h1){b:af}{ob:cu}(q:h.get? b=some ob)(n:H b=none)(hx:b∉ex):∃sl,h1.get? b=some { ob with slots:=sl }:=by
 by_cases hb:b∈fs
 ·exact u.slot b ob q n hb hx
 ·exact⟨ob.slots,u.keep b ob q n hb hx⟩
theorem Un.kept (k:∀b u,h.get? b=some u->h'.get? b=some u):Un fs ex H H h h' :=
 ⟨λb ob q _ _ _=>k b ob q,λb ob q _ _ _=>⟨ob.slots,k b ob q⟩,λ_ _ _ n _=>n,λb ob q _=>⟨ob,k b ob q⟩,λ_ _ q=>q,λ_ _ _ q=>q,λ_ ps q=>⟨#[],by rw[q];simp⟩⟩
theorem Un.refl:Un fs ex H H h h:=Un.kept λ_ _ q=>q
theorem Un.laid (k:∀b u,h.get? b=some u->h'.get? b=some u)(hp:h.objs.size<=a)(hn:H a=none):Un fs ex H (upd H a o) h h' where
 keep:=λb u q _ _ _=>k b u q
 slot:=λb u q _ _ _=>⟨u.slots,k b u q⟩
 free:=λb u q n _=>by rw[zg (aY (bg (aG q) hp))];exact n
 there:=λb u q _=>⟨u,k b u q⟩
 tups:=λb xs q=>by rw[zg (zk q hn)];exact q
 frzs:=λb u xs q=>by rw[zg (zk q hn)];exact q
 tbls:=λb ps q=>⟨#[],by rw[zg (zk q hn),q];simp⟩
theorem Un.write (mu:Aa (H x))(he:e=x\/H e=some (.own x))(k:∀b u,b≠e->h.get? b=some u->h'.get? b=some u)(yU:∃u,h'.get? e=some u):Un fs ex H (upd H x o) h h':=by
 have hx:∀b,H b=none->b≠x:=λb n z=>by subst z;rw[n]at mu;exact mu
 have hb:∀b,H b=none->b≠e:=λb n z=>by
  subst z
  rcases he with r|r
  ·exact hx b n r
  ·rw[n]at r;cases r
 have hm:∀b u,H b=some u->¬Aa (some u)->b≠x:=λb u q nm z=>by subst z;rw[q]at mu;exact nm mu
 refine⟨λb u q n _ _=>k b u (hb b n) q,λb u q n _ _=>⟨u.slots,k b u (hb b n) q⟩,λb u q n _=>by rw[zg (hx b n)];exact n,λb u q _=>?_,
  λb xs q=>by rw[zg (hm b _ q λz=>z)];exact q,λb u xs q=>by rw[zg (hm b _ q λz=>z)];exact q,λb ps q=>⟨#[],by rw[zg (hm b _ q λz=>z),q];simp⟩⟩
 by_cases wK:b=e
 ·subst wK;exact yU
 ·exact⟨u,k b u wK q⟩
end
def EZ (h:aE)(H:Hp):List af:=(bC h.objs.size).filter λa=>(H a).isSome
def m9 (h:aE)(H:Hp):aE:=PySem.W.hideAll h (EZ h H)
theorem SI (h:aE)(H:Hp):(m9 h H).objs.size=h.objs.size:=PySem.W.hideAll_size _ _
theorem Tw {h:aE}{H:Hp}{b:af}{o:cu}(e:h.get? b=some o)(n:H b=none):(m9 h H).get? b=some o :=
 PySem.W.hideAll_get _ e λhm=>by
  have q:(H b).isSome=true:=(bN.mp hm).2
  rw[n]at q;simp at q
theorem UN {h:aE}{H:Hp}{b:af}{o:cu}(e:(m9 h H).get? b=some o):h.get? b=some o/\H b=none:=by
 have e':h.get? b=some o:=PySem.W.of_hideAll (EZ h H) e
 refine⟨e',?_⟩
 cases q:H b with
 |none=>rfl
 |some x=>
  have hm:b∈EZ h H:=bN.mpr ⟨cL.mpr (aG e'),by simp[q]⟩
  have z:(m9 h H).get? b=none:=PySem.W.hideAll_none (EZ h H) hm
  rw[z]at e;cases e
def sI (g h:aE)(L:af):List (af×cu):=(bC h.objs.size).filterMap λa=>if a=L\/(g.get? a).isSome=true then none else(h.get? a).map λo=>(a,o)
def rest (g h:aE)(L d:af):List (af×cu):=(sI g h L).filter λp=>decide (p.1≠d)
end L2
namespace L2
open PySem PySem.Spec PyProof.Rows
structure Mod (K:ae)(mg:aK->Option aa)(base:aE):Prop where
 kin:K.In base
 glob:base.Ns ax mg
 blt:∃mb,base.Ns tL mb/\∀x:aK,x≠"__name__"->mb x=bY x
 nolimit:base.NoLimit
structure Cx where
 prog:aT
 w:bt
 K:ae
 mg:aK->Option aa
 base:aE
 A:bi
 N:List aK
 s₀:ai
 H₀:Hp
 env:Env
 outer:List Env
 stack:List Env
 ex:List af
 fn:aK->Bool
 calm:Bool
 pn:List (af×cu)
 xe:aa->ai->Prop
def qK (l:List Env):List af:=l.filterMap (·.frame)
abbrev Cx.fs (X:Cx):List af:=qK X.outer
def qZ (sc:eZ)(x:aK):Prop:=sc.names.lookup x=some .local\/sc.names.lookup x=some .cell\/sc.names.lookup x=some .free
def Loc (sc:eZ)(x:aK):Prop:=sc.names.lookup x=some .local\/sc.names.lookup x=some .cell
def Look (env:Env)(h:aE)(m:aK->Option aa)(x:aK)(u:aa):Prop :=
 (env.kindOf x=some .local/\m x=some u)\/((env.kindOf x=some .cell\/env.kindOf x=some .free)/\∃c,env.cells.lookup x=some c/\h.IsCell c (some u))
structure Cx.Ok (X:Cx):Prop where
 mod:Mod X.K X.mg X.base
 kind:X.env.scope.kind=.function
 glob:X.env.globals=ax
 blt:X.env.builtins=tL
 above:X.s₀.heap.objs.size<=X.env.locals
 inj:∀x y c,X.env.cells.lookup x=some c->X.env.cells.lookup y=some c->x=y
 has:∀x,(X.env.kindOf x=some .cell\/X.env.kindOf x=some .free)->∃c,X.env.cells.lookup x=some c
 cab:∀x c,X.fn x=true->X.env.cells.lookup x=some c->X.s₀.heap.objs.size<=c
 hd:X.calm=true->X.A.handled=none
 frames:X.A.frames=some X.stack
 stk:X.stack=X.outer\/(X.stack=X.env::X.outer/\X.env.frame=some X.env.locals)
 exf:∀b∈X.ex,b≠X.env.locals/\∀x c,X.env.cells.lookup x=some c->c≠b
 bs:∀b o,X.base.get? b=some o->X.s₀.heap.get? b=some o/\X.H₀ b=none
 bsz:X.base.objs.size<=X.s₀.heap.objs.size
 noex:∀b o,X.base.get? b=some o->b∉X.ex
 exfs:∀b∈X.ex,b∉X.fs
 funs:X.s₀.heap.FunFrames X.base X.outer
 frf:∀b∈X.fs,X.H₀ b=none
structure Inv (X:Cx)(ah:List (af×cu))(σ:List (Option V))(H:Hp)(s:ai):Prop where
 ok:X.Ok
 os:s.os=X.s₀.os
 bare:AllBare s.gens
 base:Un X.fs X.ex X.H₀ H X.s₀.heap s.heap
 loc:∃m,s.heap.Ns X.env.locals m/\∀(i:Nat) (x:aK) (v:V),X.N[i]?=some x->σ[i]?=some (some v)->qZ X.env.scope x->∃u,RelV v u/\Look X.env s.heap m x u
 cell:∀x c,X.env.cells.lookup x=some c->∃v,s.heap.IsCell c v
 free:H X.env.locals=none
 freeC:∀x c,X.env.cells.lookup x=some c->H c=none
 pin:∀p∈X.pn++ah,s.heap.get? p.1=some p.2/\H p.1=none/\p.1≠X.env.locals/\p.1∉X.fs/\∀v,p.2.data≠.cell v
 hok:jL X.prog X.w H s.heap
 len:σ.length=X.N.length
section
variable {X:Cx}{ah:List (af×cu)}{σ:List (Option V)}{H H':Hp}{s:ai}{h':aE}
theorem Cx.Ok.nofr (ok:X.Ok){b:af}{o:cu}(e:X.base.get? b=some o):b∉X.fs:=λhb=>by
 have:=(ok.funs.mem hb).1
 rw[e]at this;cases this
theorem Inv.bs (I:Inv X ah σ H s):∀b o,X.base.get? b=some o->s.heap.get? b=some o/\H b=none:=λb o e=>
 ⟨I.base.keep b o (I.ok.bs b o e).1 (I.ok.bs b o e).2 (I.ok.nofr e) (I.ok.noex b o e),I.base.free b o (I.ok.bs b o e).1 (I.ok.bs b o e).2 (I.ok.noex b o e)⟩
theorem Inv.bk (I:Inv X ah σ H s):∀b o,X.base.get? b=some o->s.heap.get? b=some o:=λb o e=>(I.bs b o e).1
theorem Inv.mod (I:Inv X ah σ H s):Mod X.K X.mg X.base:=I.ok.mod
theorem Inv.kIn (I:Inv X ah σ H s):X.K.In s.heap:=I.ok.mod.kin.keeps I.bk
theorem Inv.fr (I:Inv X ah σ H s):∃m,Fr X.base X.env.locals s.heap m :=
 let⟨m,hn,_⟩:=I.loc
 ⟨m,hn,I.bk,bH I.ok.bsz I.ok.above⟩
theorem Inv.lt (I:Inv X ah σ H s):X.env.locals<s.heap.objs.size:=let⟨_,hn,_⟩:=I.loc;hn.lt
theorem Inv.sz (I:Inv X ah σ H s):X.s₀.heap.objs.size<=s.heap.objs.size:=bH I.ok.above (kJ I.lt)
theorem Inv.nofs (I:Inv X ah σ H s){a:af}(h:s.heap.objs.size<=a):a∉X.fs:=λhb=>by
 obtain⟨_,o,ho,_⟩:=I.ok.funs.mem hb
 exact absurd (bg (aG ho) (bH I.sz h)) (d8 _)
theorem Inv.cne (I:Inv X ah σ H s):∀x c,X.env.cells.lookup x=some c->c≠X.env.locals:=λx c e z=>by
 obtain⟨v,o,ho,hd⟩:=I.cell x c e
 obtain⟨m,⟨o',es,ep,wX,GW,_⟩,_⟩:=I.loc
 rw[z,wX]at ho;cases ho;rw[GW]at hd;cases hd
theorem Inv.funs (I:Inv X ah σ H s):s.heap.FunFrames X.base X.outer:=by
 have all:∀(l:List Env),(∀b∈qK l,b∈X.fs)->X.s₀.heap.FunFrames X.base l->s.heap.FunFrames X.base l:=by
  intro l
  induction l with
  |nil=>intro _ _;trivial
  |cons env r ih=>
   intro hs hl
   obtain⟨hk,⟨L,o,hf,hn,ho,hd⟩,hr⟩:=hl
   have hL:L∈X.fs:=hs L (by unfold qK;rw[jI,hf];exact am)
   obtain⟨sl,e⟩:=I.base.slot L o ho (I.ok.frf L hL) hL λz=>I.ok.exfs L z hL
   exact⟨hk,⟨L,_,hf,hn,e,hd⟩,ih (λb hb=>hs b (by unfold qK;rw[jI,hf];exact ao _ hb)) hr⟩
 exact all X.outer (λ_ hb=>hb) I.ok.funs
theorem Inv.stack (I:Inv X ah σ H s):s.heap.FunFrames X.base X.stack:=by
 rcases I.ok.stk with e|⟨e,hf⟩
 ·rw[e];exact I.funs
 ·rw[e]
  obtain⟨m,hn,_⟩:=I.loc
  refine .cons (by rw[I.ok.kind];decide) hf hn ?_ I.funs
  exact iT (bH I.ok.bsz I.ok.above)
theorem Inv.stkSub (I:Inv X ah σ H s):∀b∈qK X.stack,b∈X.env.locals::X.fs:=λb hb=>by
 rcases I.ok.stk with e|⟨e,hf⟩
 ·rw[e]at hb;exact ao _ hb
 ·rw[e]at hb
  unfold qK at hb
  rw[jI,hf]at hb
  exact hb
theorem Inv.stkFree (I:Inv X ah σ H s):∀b∈qK X.stack,H b=none:=λb hb=>by
 rcases az.mp (I.stkSub b hb)with e|hb
 ·rw[e];exact I.free
 ·obtain⟨_,o,ho,_⟩:=I.ok.funs.mem hb
  exact I.base.free b o ho (I.ok.frf b hb) λz=>I.ok.exfs b z hb
theorem Inv.step {g':Array GenState}{t':Nat}{d':Drawn}{ch:List af}(I:Inv X ah σ H s)
  (lC:∀b∈ch,(b∈X.ex\/X.s₀.heap.objs.size<=b)/\b≠X.env.locals/\(∀x c,X.env.cells.lookup x=some c->c≠b)/\∀p∈X.pn++ah,p.1≠b)
  (keep:∀b o,b≠X.env.locals->b∉X.fs->b∉ch->s.heap.get? b=some o->H b=none->h'.get? b=some o)
  (slot:∀b o,b≠X.env.locals->b∈X.fs->b∉ch->s.heap.get? b=some o->H b=none->∃sl,h'.get? b=some { o with slots:=sl }) (free:∀b o,b∉ch->s.heap.get? b=some o->H b=none->H' b=none)
  (there:∀b o,b∉ch->s.heap.get? b=some o->∃o',h'.get? b=some o')
  (tups:∀b xs,H b=some (.tup xs)->H' b=some (.tup xs)) (frzs:∀b o u,H b=some (.frz o u)->H' b=some (.frz o u)) (tbls:∀b ps,H b=some (.tbl ps)->∃more,H' b=some (.tbl (ps++more)))
  (ns:∀m,s.heap.Ns X.env.locals m->h'.Ns X.env.locals m) (hok:jL X.prog X.w H' h') (hg:AllBare g') :
  Inv X ah σ H' { s with heap:=h',gens:=g',drawn:=d',toks:=t' }:=by
 have zC:∀b o,X.s₀.heap.get? b=some o->b≠X.env.locals:=λb o e=>aY (bg (aG e) I.ok.above)
 have EO:∀b o,X.s₀.heap.get? b=some o->b∉X.ex->b∉ch:=λb o e hx hb=>by
  rcases(lC b hb).1 with z|z
  ·exact hx z
  ·exact absurd (bg (aG e) z) (d8 _)
 have cellK:∀x c,X.env.cells.lookup x=some c->∀v,s.heap.IsCell c v->h'.IsCell c v:=λx c e v ⟨o,ho,hd⟩=>by
  have CC:c∉ch:=λz=>(lC c z).2.2.1 x c e rfl
  by_cases hc:c∈X.fs
  ·obtain⟨sl,q⟩:=slot c o (I.cne x c e) hc CC ho (I.freeC x c e)
   exact⟨_,q,hd⟩
  ·exact⟨o,keep c o (I.cne x c e) hc CC ho (I.freeC x c e),hd⟩
 refine⟨I.ok,I.os,hg,⟨λb o e n hb hx=>?_,λb o e n hb hx=>?_,λb o e n hx=>?_,λb o e hx=>?_,λb xs e=>tups b xs (I.base.tups b xs e),λb o xs e=>frzs b o xs (I.base.frzs b o xs e),λb ps e=>?_⟩,?_,λx c e=>?_,?_,λx c e=>?_,λp hp=>?_,hok,I.len⟩
 ·exact keep b o (zC b o e) hb (EO b o e hx) (I.base.keep b o e n hb hx) (I.base.free b o e n hx)
 ·obtain⟨sl,e1⟩:=I.base.slot b o e n hb hx
  obtain⟨Ib,e2⟩:=slot b _ (zC b o e) hb (EO b o e hx) e1 (I.base.free b o e n hx)
  exact⟨Ib,e2⟩
 ·obtain⟨o',e1⟩:=I.base.there b o e hx
  exact free b o' (EO b o e hx) e1 (I.base.free b o e n hx)
 ·obtain⟨o',e1⟩:=I.base.there b o e hx
  exact there b o' (EO b o e hx) e1
 ·obtain⟨m1,e1⟩:=I.base.tbls b ps e
  obtain⟨m2,e2⟩:=tbls b _ e1
  exact⟨m1++m2,by rw[e2,oV]⟩
 ·obtain⟨m,hn,hl⟩:=I.loc
  refine⟨m,ns m hn,λi x v e1 e2 e3=>?_⟩
  obtain⟨u,r,l⟩:=hl i x v e1 e2 e3
  refine⟨u,r,?_⟩
  rcases l with l|⟨k,c,e,z⟩
  ·exact .inl l
  ·exact .inr ⟨k,c,e,cellK x c e _ z⟩
 ·obtain⟨v,z⟩:=I.cell x c e
  exact⟨v,cellK x c e v z⟩
 ·obtain⟨m,⟨o,_,_,ho,_⟩,_⟩:=I.loc
  exact free _ o (λz=>(lC _ z).2.1 rfl) ho I.free
 ·obtain⟨v,o,ho,hd⟩:=I.cell x c e
  exact free c o (λz=>(lC c z).2.2.1 x c e rfl) ho (I.freeC x c e)
 ·obtain⟨e,n,ne,nf,d⟩:=I.pin p hp
  have CC:p.1∉ch:=λz=>(lC p.1 z).2.2.2 p hp rfl
  exact⟨keep p.1 p.2 ne nf CC e n,free p.1 p.2 CC e n,ne,nf,d⟩
theorem Inv.un {t':Nat}(I:Inv X ah σ H s)(u:Un X.fs [] H H' s.heap h')(hok:jL X.prog X.w H' h'):Inv X ah σ H' { s with heap:=h',toks:=t' }:=by
 obtain⟨m,⟨o,es,ep,ho,r⟩,_⟩:=id I.loc
 obtain⟨sl,hL⟩:=u.any ho I.free (by simp)
 exact I.step (g':=s.gens) (d':=s.drawn) (ch:=[]) (λ_ z=>nomatch z) (λb o _ hb _ e n=>u.keep b o e n hb (by simp)) (λb o _ hb _ e n=>u.slot b o e n hb (by simp)) (λb o _ e n=>u.free b o e n (by simp)) (λb o _ e=>u.there b o e (by simp)) u.tups u.frzs u.tbls (λm' hm=>by
  obtain⟨o',Gp,Gn,wX,r'⟩:=hm
  rw[ho]at wX;cases wX
  exact⟨_,Gp,Gn,hL,r'⟩) hok I.bare
theorem Inv.call {g':Array GenState}{t':Nat}{d':Drawn}{ch:List af}(I:Inv X ah σ H s)(u:Un (qK X.stack) ch H H' s.heap h')(hok:jL X.prog X.w H' h')(hg:AllBare g')
  (lC:∀b∈ch,(b∈X.ex\/X.s₀.heap.objs.size<=b)/\b≠X.env.locals/\(∀x c,X.env.cells.lookup x=some c->c≠b)/\∀p∈X.pn++ah,p.1≠b) :
  Inv X ah σ H' { s with heap:=h',gens:=g',drawn:=d',toks:=t' }:=by
 obtain⟨m,⟨o,es,ep,ho,r⟩,_⟩:=id I.loc
 obtain⟨sl,hL⟩:=u.any ho I.free λz=>(lC _ z).2.1 rfl
 exact I.step (ch:=ch) lC (λb o hL hb hc e n=>u.keep b o e n (λz=>(az.mp (I.stkSub b z)).elim hL hb) hc) (λb o _ _ hc e n=>u.any e n hc) (λb o hc e n=>u.free b o e n hc) (λb o hc e=>u.there b o e hc) u.tups u.frzs u.tbls (λm' hm=>by
  obtain⟨o',Gp,Gn,wX,r'⟩:=hm
  rw[ho]at wX;cases wX
  exact⟨_,Gp,Gn,hL,r'⟩) hok hg
theorem Inv.turned {t':Nat}{it:af}(I:Inv X ah σ H s)(k:∀b o,b≠it->s.heap.get? b=some o->h'.get? b=some o)(hn:H it=none)(hL:it≠X.env.locals)
  (h1:it∈X.ex\/X.s₀.heap.objs.size<=it) (h2:∀x c,X.env.cells.lookup x=some c->c≠it) (h3:∀p∈X.pn++ah,p.1≠it):Inv X ah σ H { s with heap:=h',toks:=t' }:=by
 have KO:∀b u,H b=some u->b≠it:=λb u e z=>by rw[z,hn]at e;cases e
 refine I.step (g':=s.gens) (d':=s.drawn) (ch:=[it]) (λb hb=>?_) (λb o _ _ hc e _=>k b o (λz=>hc (by simp[z])) e) (λb o _ _ hc e _=>⟨o.slots,k b o (λz=>hc (by simp[z])) e⟩) (λ_ _ _ _ n=>n)
  (λb o hc e=>⟨o,k b o (λz=>hc (by simp[z])) e⟩) (λ_ _ e=>e) (λ_ _ _ e=>e) (λb ps e=>⟨#[],by rw[e];simp⟩) (λm hm=>?_) (λb u e=>?_) I.bare
 ·have e:b=it:=by simpa using hb
  subst e
  exact⟨h1,hL,h2,h3⟩
 ·obtain⟨o,es,ep,ho,r⟩:=hm
  exact⟨o,es,ep,k _ o (Ne.symm hL) ho,r⟩
 ·refine(I.hok b u e).stay (λc v hc q=>k c v ?_ q) (λ_ q=>q) λ_ _ q=>q
  rcases hc with z|z
  ·rw[z];exact KO b u e
  ·exact KO c _ z
theorem Inv.tok (I:Inv X ah σ H s)(t:Nat):Inv X ah σ H { s with toks:=t }:=I.un (h':=s.heap) (t':=t) Un.refl I.hok
theorem Inv.kept {t':Nat}(I:Inv X ah σ H s)(k:∀b u,s.heap.get? b=some u->h'.get? b=some u):Inv X ah σ H { s with heap:=h',toks:=t' }:=I.un (Un.kept k) (I.hok.kept k)
theorem Inv.laid {a:af}{o:HO}{t':Nat}(I:Inv X ah σ H s)(k:∀b u,s.heap.get? b=some u->h'.get? b=some u)(hp:s.heap.objs.size<=a)(new:dF X.prog X.w (upd H a o) h' a o) :
  Inv X ah σ (upd H a o) { s with heap:=h',toks:=t' }:=I.un (Un.laid k hp (I.hok.fresh hp)) (I.hok.laid k hp new)
theorem Inv.write {x e:af}{o:HO}{t':Nat}(I:Inv X ah σ H s)(mu:Aa (H x))(he:e=x\/H e=some (.own x))(k:∀b u,b≠e->s.heap.get? b=some u->h'.get? b=some u)(yU:∃u,h'.get? e=some u)
  (new:dF X.prog X.w (upd H x o) h' x o):Inv X ah σ (upd H x o) { s with heap:=h',toks:=t' }:=I.un (Un.write mu he k yU) (I.hok.write mu he k yU new)
theorem Inv.weak {σ':List (Option V)}(I:Inv X ah σ H s)(hl:σ'.length = σ.length)(w:∀(i:Nat) v,σ'[i]?=some (some v)->σ[i]?=some (some v)):Inv X ah σ' H s :=
 ⟨I.ok,I.os,I.bare,I.base,let⟨m,hn,He⟩:=I.loc;⟨m,hn,λi x v e1 e2 e3=>He i x v e1 (w i v e2) e3⟩,I.cell,I.free,I.freeC,I.pin,I.hok,hl.trans I.len⟩
theorem Inv.pins_of {uL:List (af×cu)}(I:Inv X ah σ H s)(h:∀p∈uL,s.heap.get? p.1=some p.2/\H p.1=none/\p.1≠X.env.locals/\p.1∉X.fs/\∀v,p.2.data≠.cell v):Inv X uL σ H s :=
 ⟨I.ok,I.os,I.bare,I.base,I.loc,I.cell,I.free,I.freeC,λp hp=>(bj.mp hp).elim (λz=>I.pin p (bb _ z)) (h p),I.hok,I.len⟩
theorem IL {N:List aK}(hN:N.Nodup){i j:Nat}{x:aK}(a:N[i]?=some x)(b:N[j]?=some x):i=j:=by
 obtain⟨h1,e1⟩:=aS.mp a
 obtain⟨h2,e2⟩:=aS.mp b
 exact(lg hN).mp (e1.trans e2.symm)
theorem LI {M:Model}{A:bi}{E:aa->ai->Prop}{i:Nat}{x:aK}{v:V}{u:aa}{Q:Unit->ai->Prop}(I:Inv X ah σ H s)(hN:X.N.Nodup)(hi:X.N[i]?=some x)(hx:Loc X.env.scope x)(r:RelV v u)
  (h:∀s',Inv X ah (σ.set i (some v)) H s'->(∃a,dB a s.heap s'.heap/\(a=X.env.locals\/X.env.cells.lookup x=some a))->Q () s') (hf:X.fn x=true\/X.env.scope.names.lookup x=some .local:=by first|exact .inl rfl|exact .inr rfl|assumption):aN M A (storeName X.env x u) Q E s:=by
 obtain⟨m,hn,hl⟩:=id I.loc
 have wM:(X.env.scope.kind==.class || (X.env.scope.kind==.module&&X.env.locals != X.env.globals))=false:=by rw[I.ok.kind];rfl
 have Kq:i < σ.length:=by rw[I.len];exact(aS.mp hi).1
 have cne:=I.cne
 have tracked:∀{a:af} {h':aE},(∃o,s.heap.get? a=some o/\H a=none)->dB a s.heap h'->jL X.prog X.w H h':=λ{a h'} ha hs b ob e=>by
  obtain⟨_,_,t5⟩:=ha
  refine(I.hok b ob e).stay (λc w' hc q=>(hs.2 c ?_).trans q) (λ_ q=>q) λ_ _ q=>q
  rintro rfl
  rcases hc with rfl|hc
  ·rw[t5]at e;cases e
  ·rw[t5]at hc;cases hc
 rcases hx with hk|hk
 ·refine wpAny_storeName_local hk hn (λh' uA hs=>?_) wM
  obtain⟨oL,_,_,su,_⟩:=id hn
  refine h _ ⟨I.ok,I.os,I.bare,⟨λb o e n hb hx=>?_,λb o e n hb hx=>?_,I.base.free,λb o e hx=>?_,I.base.tups,I.base.frzs,I.base.tbls⟩,⟨_,uA,λj y v' e1 e2 e3=>?_⟩,λy c e=>?_,I.free,I.freeC,λp hp=>?_,tracked ⟨oL,su,I.free⟩ hs,by simpa using I.len⟩ ⟨_,hs,.inl rfl⟩
  ·exact(hs.2 b (aY (bg (aG e) I.ok.above))).trans (I.base.keep b o e n hb hx)
  ·obtain⟨sl,e1⟩:=I.base.slot b o e n hb hx
   exact⟨sl,(hs.2 b (aY (bg (aG e) I.ok.above))).trans e1⟩
  ·obtain⟨o',e1⟩:=I.base.there b o e hx
   exact⟨o',(hs.2 b (aY (bg (aG e) I.ok.above))).trans e1⟩
  ·by_cases hj:j=i
   ·subst hj
    rw[hi]at e1;cases e1
    rw[df Kq]at e2
    cases e2
    exact⟨u,r,.inl ⟨hk,by simp⟩⟩
   ·rw[et (Ne.symm hj)]at e2
    obtain⟨u',r',q⟩:=hl j y v' e1 e2 e3
    refine⟨u',r',?_⟩
    rcases q with⟨k,e⟩|⟨k,c,e,z⟩
    ·refine .inl ⟨k,?_⟩
     have:y≠x:=λe=>hj (IL hN e1 (e▸hi))
     simp[this,e]
    ·exact .inr ⟨k,c,e,z.sameBut hs (cne y c e)⟩
  ·obtain⟨w',z⟩:=I.cell y c e
   exact⟨w',z.sameBut hs (cne y c e)⟩
  ·obtain⟨e,n,ne,nf,d⟩:=I.pin p hp
   exact⟨(hs.2 p.1 ne).trans e,n,ne,nf,d⟩
 ·have qM:X.fn x=true:=by
   rcases hf with z|z
   ·exact z
   ·rw[z]at hk;cases hk
  obtain⟨c,hc⟩:=I.ok.has x (.inl hk)
  obtain⟨w',z⟩:=I.cell x c hc
  refine wpAny_storeName_cell I.ok.kind hk hc z (λh' tZ hs=>?_)
  obtain⟨oc,Ku,Hj⟩:=id z
  refine h { s with heap:=h' } ⟨I.ok,I.os,I.bare,⟨λb o e n hb hx=>?_,λb o e n hb hx=>?_,I.base.free,λb o e hx=>?_,I.base.tups,I.base.frzs,I.base.tbls⟩,⟨m,hn.sameBut hs (Ne.symm (cne x c hc)),λj y v' e1 e2 e3=>?_⟩,λy c' e=>?_,I.free,I.freeC,λp hp=>?_,tracked ⟨oc,Ku,I.freeC x c hc⟩ hs,by simpa using I.len⟩ ⟨c,hs,.inr hc⟩
  ·exact(hs.2 b (aY (bg (aG e) (I.ok.cab x c qM hc)))).trans (I.base.keep b o e n hb hx)
  ·obtain⟨sl,e1⟩:=I.base.slot b o e n hb hx
   exact⟨sl,(hs.2 b (aY (bg (aG e) (I.ok.cab x c qM hc)))).trans e1⟩
  ·obtain⟨o',e1⟩:=I.base.there b o e hx
   exact⟨o',(hs.2 b (aY (bg (aG e) (I.ok.cab x c qM hc)))).trans e1⟩
  ·by_cases hj:j=i
   ·subst hj
    rw[hi]at e1;cases e1
    rw[df Kq]at e2
    cases e2
    exact⟨u,r,.inr ⟨.inl hk,c,hc,tZ⟩⟩
   ·rw[et (Ne.symm hj)]at e2
    obtain⟨u',r',q⟩:=hl j y v' e1 e2 e3
    refine⟨u',r',?_⟩
    rcases q with q|⟨k,c',e,z'⟩
    ·exact .inl q
    ·refine .inr ⟨k,c',e,z'.sameBut hs ?_⟩
     rintro rfl
     exact hj (IL hN e1 (I.ok.inj _ _ _ e hc▸hi))
  ·by_cases Kl:c'=c
   ·subst Kl;exact⟨_,tZ⟩
   ·obtain⟨w2,z2⟩:=I.cell y c' e
    exact⟨w2,z2.sameBut hs Kl⟩
  ·obtain⟨e,n,ne,nf,d⟩:=I.pin p hp
   refine⟨(hs.2 p.1 ?_).trans e,n,ne,nf,d⟩
   intro q
   rw[q,Ku]at e
   have q':oc=p.2:=Option.some.inj e
   exact d w' (by rw[←q'];exact Hj)
theorem j5 {M:Model}{A:bi}{E:aa->ai->Prop}{i:Nat}{x:aK}{v:V}{u:aa}{Q:Unit->ai->Prop}(I:Inv X ah σ H s)(hN:X.N.Nodup)(hi:X.N[i]?=some x)(hx:Loc X.env.scope x)(r:RelV v u)
  (h:∀s',Inv X ah (σ.set i (some v)) H s'->Q () s') (hf:X.fn x=true\/X.env.scope.names.lookup x=some .local:=by first|exact .inl rfl|exact .inr rfl|assumption):aN M A (storeName X.env x u) Q E s :=
 LI I hN hi hx r (λs' I' _=>h s' I') hf
theorem Inv.call' {s':ai}{ch:List af}(I:Inv X ah σ H s)(ho:s'.os=s.os)(u:Un (qK X.stack) ch H H' s.heap s'.heap)(hok:jL X.prog X.w H' s'.heap)(hg:AllBare s'.gens)
  (lC:∀b∈ch,(b∈X.ex\/X.s₀.heap.objs.size<=b)/\b≠X.env.locals/\(∀x c,X.env.cells.lookup x=some c->c≠b)/\∀p∈X.pn++ah,p.1≠b):Inv X ah σ H' s':=by
 obtain⟨h',g',d',t',o'⟩:=s'
 have e:o'=s.os:=ho
 subst e
 exact I.call (g':=g') (t':=t') (d':=d') u hok hg lC
end
abbrev XK:=aa->Option af->Hp->Prop
abbrev St:=List (Option V)
abbrev VK:=V->Hp->Prop
abbrev TE:=St->Hp->VK->Prop
abbrev TT:=St->Hp->(Bool->Hp->Prop)->Prop
abbrev TA:=St->Hp->(List V->Hp->Prop)->Prop
structure gH where
 nx:St->Hp->Prop
 rt:VK
 bk:St->Hp->Prop:=λ_ _=>False
 ct:St->Hp->Prop:=λ_ _=>False
abbrev TS:=gH->St->Hp->Prop
def EP (X:Cx)(ah:List (af×cu))(σ:St)(Q:VK)(u:aa)(s':ai):Prop:=∃v H',Inv X ah σ H' s'/\RelV v u/\Q v H'
def TP (X:Cx)(ah:List (af×cu))(σ:St)(Q:Bool->Hp->Prop)(b:Bool)(s':ai):Prop:=∃H',Inv X ah σ H' s'/\Q b H'
def AP (X:Cx)(ah:List (af×cu))(σ:St)(Q:List V->Hp->Prop)(us:List aa)(s':ai):Prop:=∃vs H',Inv X ah σ H' s'/\bR vs us/\Q vs H'
def SP (X:Cx)(ah:List (af×cu))(D:gH)(f:Flow)(s':ai):Prop :=
 match f with
 |.next=>∃σ' H',Inv X ah σ' H' s'/\D.nx σ' H'
 |.brk=>∃σ' H',Inv X ah σ' H' s'/\D.bk σ' H'
 |.cont=>∃σ' H',Inv X ah σ' H' s'/\D.ct σ' H'
 |.ret u=>∃v σ' H',Inv X ah σ' H' s'/\RelV v u/\D.rt v H'
def PE (X:Cx)(e:Expr)(t:TE):Prop :=
 ∀(ah:List (af×cu)) (s:ai) (σ:St) (H:Hp) (Q:VK),Inv X ah σ H s->t σ H Q->aN (aA X.prog X.w) X.A (bB e X.env) (EP X ah σ Q) X.xe s
def PT (X:Cx)(e:Expr)(t:TT):Prop :=
 ∀(ah:List (af×cu)) (s:ai) (σ:St) (H:Hp) (Q:Bool->Hp->Prop),Inv X ah σ H s->t σ H Q->aN (aA X.prog X.w) X.A (qF e X.env (bB e X.env)) (TP X ah σ Q) X.xe s
def PW (X:Cx)(e:Expr)(t:TT):Prop :=
 ∀(whole:gU aa) (ah:List (af×cu)) (s:ai) (σ:St) (H:Hp) (Q:Bool->Hp->Prop),Inv X ah σ H s->t σ H Q->aN (aA X.prog X.w) X.A (qF e X.env whole) (TP X ah σ Q) X.xe s
theorem PW.pt {X:Cx}{e:Expr}{t:TT}(h:PW X e t):PT X e t:=h _
def PA (X:Cx)(es:List Expr)(t:TA):Prop :=
 ∀(pos:cy) (ah:List (af×cu)) (s:ai) (σ:St) (H:Hp) (Q:List V->Hp->Prop),Inv X ah σ H s->t σ H Q->aN (aA X.prog X.w) X.A (spliced (bZ pos (ap es X.env))) (AP X ah σ Q) X.xe s
def PS (X:Cx)(st:bI)(t:TS):Prop :=
 ∀(ah:List (af×cu)) (s:ai) (σ:St) (H:Hp) (D:gH),Inv X ah σ H s->t D σ H->aN (aA X.prog X.w) X.A (exec st X.env) (SP X ah D) X.xe s
def nr (X:Cx)(st:List bI)(t:TS):Prop :=
 ∀(ah:List (af×cu)) (s:ai) (σ:St) (H:Hp) (D:gH),Inv X ah σ H s->t D σ H->aN (aA X.prog X.w) X.A (execs st X.env) (SP X ah D) X.xe s
theorem cO {α:Type}{t:gU α}{Q Q':α->ai->Prop}{M:Model}{A:bi}{E:aa->ai->Prop}{s:ai}(h:aN M A t Q E s)(hQ:∀a s,Q a s->Q' a s):aN M A t Q' E s:=cV h hQ λ_ _ x=>x
end L2
namespace L2
open PySem PySem.Spec PyProof.Rows
section
variable {X:Cx}
theorem bin {a b:Expr}{ta tb:TE}(ha:PE X a ta)(hb:PE X b tb){ah:List (af×cu)}{s:ai}{σ:St}{H:Hp}{R:V->V->Hp->Prop}(I:Inv X ah σ H s)(h:ta σ H λx H1=>tb σ H1 λy H2=>R x y H2)
  {α:Type} {Q:α->ai->Prop} {f:aa->aa->gU α}
  (hf:∀v u s2 x y H2,Inv X ah σ H2 s2->RelV x v->RelV y u->R x y H2->aN (aA X.prog X.w) X.A (f v u) Q X.xe s2) :
  aN (aA X.prog X.w) X.A (bB a X.env) (λv s₁=>aN (aA X.prog X.w) X.A (bB b X.env) (λu s₂=>aN (aA X.prog X.w) X.A (f v u) Q X.xe s₂) X.xe s₁) X.xe s:=by
 refine cO (ha ah s σ H _ I h) λv s1 cS=>?_
 obtain⟨x,H1,I1,r1,q1⟩:=cS
 refine cO (hb ah s1 σ H1 _ I1 q1) λu s2 cS=>?_
 obtain⟨y,H2,I2,r2,q2⟩:=cS
 exact hf v u s2 x y H2 I2 r1 r2 q2
def rX (i:Nat):TE:=λσ H Q=>∃v,σ[i]?=some (some v)/\Q v H
def tC (v:V):TE:=λ_ H Q=>Q v H
theorem uv {i:Nat}{x:aK}{pos:cy}(hN:X.N[i]?=some x)(hv:qZ X.env.scope x)(hd:(x==("__debug__":aK))=false:=by decide)(jP:(x==("__classdict__":aK))=false:=by decide):PE X (.Name x pos) (rX i):=by
 intro ah s σ H Q I h
 obtain⟨v,e,h⟩:=h
 obtain⟨m,hn,hl⟩:=I.loc
 obtain⟨u,r,l⟩:=hl i x v hN e hv
 have fin:EP X ah σ Q u s:=⟨v,H,I,r,h⟩
 rcases l with⟨hk,hm⟩|⟨hk,c,hc,o4⟩
 ·exact tO (wpAny_loadName_local I.ok.kind hk hn hm fin) hd
 ·rcases hk with hk|hk
  ·exact tO (wpAny_loadName_cell I.ok.kind hk hc o4 fin) hd
  ·exact tO (wpAny_loadName_free I.ok.kind hk hc o4 fin jP) hd
theorem VI {i j pos}:PE X (.Constant (.int i) j pos) (tC (.int i)):=λ_ _ _ H _ I h=>wpAny_Constant_int ⟨.int i,H,I.tok _,⟨_,rfl⟩,h⟩
theorem XQ {b j pos}:PE X (.Constant (.bool b) j pos) (tC (.bl b)):=λ_ _ _ H _ I h=>Constant_bool ⟨.bl b,H,I,rfl,h⟩
theorem VJ {j pos}:PE X (.Constant .none j pos) (tC .non):=λ_ _ _ H _ I h=>Constant_none ⟨.non,H,I,rfl,h⟩
theorem VL {x j pos}:PE X (.Constant (.str x) j pos) (tC (.str x)):=λ_ _ _ H _ I h=>Calls.Constant_str ⟨.str x,H,I.tok _,⟨_,rfl⟩,h⟩
def Gl (X:Cx)(x:aK):Prop:=X.env.kindOf x=some .globalImplicit
theorem u5 {E:aa->ai->Prop}{ah:List (af×cu)}{s:ai}{σ:St}{H:Hp}{x:aK}{u:aa}{pos:cy}{Q:aa->ai->Prop}(I:Inv X ah σ H s)(hg:Gl X x)(hm:X.mg x=some u)(h:Q u s)
  (hd:(x==("__debug__":aK))=false:=by decide):aN (aA X.prog X.w) X.A (bB (.Name x pos) X.env) Q E s :=
 Calls.Name_function_global I.ok.kind hg (Calls.loadGlobal_global (by rw[I.ok.glob];exact I.mod.glob.keeps I.bk) hm h) hd
theorem yE {E:aa->ai->Prop}{ah:List (af×cu)}{s:ai}{σ:St}{H:Hp}{x:aK}{u:aa}{pos:cy}{Q:aa->ai->Prop}(I:Inv X ah σ H s)(hg:Gl X x)(hm:X.mg x=none)(hv:bY x=some u)(h:Q u s)
  (hn:x≠"__name__":=by decide) (hd:(x==("__debug__":aK))=false:=by decide):aN (aA X.prog X.w) X.A (bB (.Name x pos) X.env) Q E s:=by
 obtain⟨mb,h1,h2⟩:=I.mod.blt
 exact Calls.Name_function_global I.ok.kind hg (Calls.loadGlobal_builtin (by rw[I.ok.glob];exact I.mod.glob.keeps I.bk) hm (by rw[I.ok.blt];exact h1.keeps I.bk) ((h2 x hn).trans hv) h) hd
theorem Fc {x:aK}{v:V}{u:aa}{pos:cy}(hg:Gl X x)(hm:X.mg x=some u)(r:RelV v u)(hd:(x==("__debug__":aK))=false:=by decide):PE X (.Name x pos) (tC v) :=
 λ_ _ _ H _ I h=>u5 I hg hm ⟨v,H,I,r,h⟩ hd
theorem MC {x:aK}{v:V}{u:aa}{pos:cy}(hg:Gl X x)(hm:X.mg x=none)(hv:bY x=some u)(r:RelV v u)(hn:x≠"__name__":=by decide)(hd:(x==("__debug__":aK))=false:=by decide):PE X (.Name x pos) (tC v) :=
 λ_ _ _ H _ I h=>yE I hg hm hv ⟨v,H,I,r,h⟩ hn hd
variable {a b:Expr}{ta tb:TE}{pos:cy}
def PC (X:Cx)(op:lm)(a b:Expr)(t:TE):Prop :=
 ∀(ah:List (af×cu)) (s:ai) (σ:St) (H:Hp) (Q:VK),Inv X ah σ H s->t σ H Q ->
  aN (aA X.prog X.w) X.A (bB a X.env) (λv s₁=>aN (aA X.prog X.w) X.A (bB b X.env) (λu s₂=>aN (aA X.prog X.w) X.A (cF op v u) (EP X ah σ Q) X.xe s₂) X.xe s₁) X.xe s
theorem rN (b:Expr){op:lm}(h:op≠.In)(h2:op≠.NotIn):dm op b=false:=by
 have e1:(op==lm.In)=false:=by cases op<;>first|rfl|exact absurd rfl h
 have e2:(op==lm.NotIn)=false:=by cases op<;>first|rfl|exact absurd rfl h2
 cases b<;>simp[dm,e1,e2]
def tB (t:TE):TT:=λσ H Q=>t σ H λx H1=>∃c,x=.bl c/\Q c H1
theorem Wm {op:lm}{t:TE}(h:PC X op a b t)(h1:dm op b=false:=by first|exact rN _ (by decide) (by decide)|rfl):PT X (.Compare a [op] [b] pos) (tB t):=by
 intro ah s σ H Q I hw
 refine wpAny_isTrue_Compare1 (cO (h ah s σ H _ I hw) λv s1 h1=>cO h1 λu s2 h2=>cO h2 λc s3 ⟨x,H1,I1,r1,q1⟩=>?_) h1
 obtain⟨d,rfl,q⟩:=q1
 cases r1
 exact dM ⟨H1,I1,q⟩
theorem Wn {e:Expr}{t:TE}(h:PE X e t)(he:∀whole,qF e X.env whole=(do let v ← whole;eQ e.pos;dD [v] (truthy v)):=by intro _;rfl):PT X e (tB t):=by
 intro ah s σ H Q I hw
 refine isTrue_plain (cO (h ah s σ H _ I hw) λv s1 ⟨x,H1,I1,r1,q1⟩=>?_) (he _)
 obtain⟨d,rfl,q⟩:=q1
 cases r1
 exact dM ⟨H1,I1,q⟩
variable {tA ES:TT}{rest:List Expr}
def Ie (t u:TT):TT:=λσ H Q=>t σ H λc H1=>if c=true then u σ H1 Q else Q false H1
def Q3 (t u:TT):TT:=λσ H Q=>t σ H λc H1=>if c=true then Q true H1 else u σ H1 Q
def Im (t:TT):TT:=λσ H Q=>t σ H λc H1=>Q (!c) H1
theorem UO (ha:PT X a tA):PW X (.BoolOp .And [a] pos) tA:=by
 intro wh ah s σ H Q I h
 refine isTrue_and (cO (ha ah s σ H Q I h) λc s1 e=>?_)
 cases c with
 |true=>exact isTrue_and_nil e
 |false=>exact e
theorem Wo (ha:PT X a tA):PW X (.BoolOp .Or [a] pos) tA:=by
 intro wh ah s σ H Q I h
 refine isTrue_or (cO (ha ah s σ H Q I h) λc s1 e=>?_)
 cases c with
 |false=>exact isTrue_or_nil e
 |true=>exact e
theorem Wp (ha:PT X a tA)(hb:PW X (.BoolOp .And (b::rest) pos) ES):PW X (.BoolOp .And (a::b::rest) pos) (Ie tA ES):=by
 intro wh ah s σ H Q I h
 refine isTrue_and (cO (ha ah s σ H _ I h) λc s1 cS=>?_)
 obtain⟨H1,I1,q1⟩:=cS
 cases c with
 |true=>exact hb wh ah s1 σ H1 Q I1 q1
 |false=>exact⟨H1,I1,q1⟩
theorem XU (ha:PT X a tA)(hb:PW X (.BoolOp .Or (b::rest) pos) ES):PW X (.BoolOp .Or (a::b::rest) pos) (Q3 tA ES):=by
 intro wh ah s σ H Q I h
 refine isTrue_or (cO (ha ah s σ H _ I h) λc s1 cS=>?_)
 obtain⟨H1,I1,q1⟩:=cS
 cases c with
 |true=>exact⟨H1,I1,q1⟩
 |false=>exact hb wh ah s1 σ H1 Q I1 q1
theorem Wq (ha:PT X a tA):PT X (.UnaryOp .Not a pos) (Im tA):=by
 intro ah s σ H Q I h
 exact isTrue_not (ha ah s σ H (λc H1=>Q (!c) H1) I h)
def Dw (ta tb:TE):TE:=λσ H Q=>ta σ H λx H1=>∃c,x=.bl c/\if c=true then tb σ H1 Q else Q (.bl false) H1
def Io (ta tb:TE):TE:=λσ H Q=>ta σ H λx H1=>∃c,x=.bl c/\if c=true then Q (.bl true) H1 else tb σ H1 Q
def DC (ta:TE):TE:=λσ H Q=>ta σ H λx H1=>∃c,x=.bl c/\Q (.bl (!c)) H1
theorem Wr {op}{t:TE}(h:PE X a t):PE X (.BoolOp op [a] pos) t:=λah s σ H Q I hw=>BoolOp_one (h ah s σ H Q I hw)
theorem Ws (ha:PE X a ta)(hb:PE X (.BoolOp .And (b::rest) pos) tb):PE X (.BoolOp .And (a::b::rest) pos) (Dw ta tb):=by
 intro ah s σ H Q I h
 refine BoolOp_and (cO (ha ah s σ H _ I h) λv s1 cS=>?_)
 obtain⟨x,H1,I1,r1,q1⟩:=cS
 obtain⟨c,rfl,q1⟩:=q1
 cases r1
 refine dM ?_
 cases c with
 |true=>exact hb ah s1 σ H1 Q I1 q1
 |false=>exact⟨.bl false,H1,I1,rfl,q1⟩
theorem XX (ha:PE X a ta)(hb:PE X (.BoolOp .Or (b::rest) pos) tb):PE X (.BoolOp .Or (a::b::rest) pos) (Io ta tb):=by
 intro ah s σ H Q I h
 refine BoolOp_or (cO (ha ah s σ H _ I h) λv s1 cS=>?_)
 obtain⟨x,H1,I1,r1,q1⟩:=cS
 obtain⟨c,rfl,q1⟩:=q1
 cases r1
 refine dM ?_
 cases c with
 |false=>exact hb ah s1 σ H1 Q I1 q1
 |true=>exact⟨.bl true,H1,I1,rfl,q1⟩
theorem Wt (ha:PE X a ta):PE X (.UnaryOp .Not a pos) (DC ta):=by
 intro ah s σ H Q I h
 refine UnaryOp_ (cO (ha ah s σ H _ I h) λv s1 cS=>?_)
 obtain⟨x,H1,I1,r1,q1⟩:=cS
 obtain⟨c,rfl,q1⟩:=q1
 cases r1
 exact not_of (dM ⟨.bl (!c),H1,I1,rfl,q1⟩)
def Q2 (t:TT)(ta tb:TE):TE:=λσ H Q=>t σ H λc H1=>if c=true then ta σ H1 Q else tb σ H1 Q
theorem Ta {c:Expr}(hc:PT X c tA)(ha:PE X a ta)(hb:PE X b tb):PE X (.IfExp c a b pos) (Q2 tA ta tb):=by
 intro ah s σ H Q I h
 refine wpAny_IfExp (cO (hc ah s σ H _ I h) λd s1 cS=>?_)
 obtain⟨H1,I1,q1⟩:=cS
 cases d with
 |true=>exact ha ah s1 σ H1 Q I1 q1
 |false=>exact hb ah s1 σ H1 Q I1 q1
end
end L2
namespace L2
open PySem PySem.Spec PyProof.Rows
def fN (K:ae)(H:Hp)(a:af)(xs:List V):Prop :=
 Rd H a (.lst xs) \/
  ∃(o:cu) (bW:Array aa) (n:Nat),K.lookup a=some o/\o.cls=.type "list"/\o.dict=none/\o.data=.seq bW n/\bW.size<=sizeLine/\bR xs bW.toList
def kc (K:ae)(H:Hp)(a:af)(xs:List V):Prop :=
 Rd H a (.tup xs) \/
  ∃(o:cu) (bW:Array aa) (n:Nat),K.lookup a=some o/\o.cls=.type "tuple"/\o.data=.seq bW n/\bW.size<=sizeLine/\bR xs bW.toList
def FE:aa->Option V
 |.none=>some .non
 |.bool b=>some (.bl b)
 |.int i _=>some (.int i)
 |.str x _=>some (.str x)
 |.bytes b _=>some (.byt b)
 |.float b _=>some (.flt b)
 |.ref a=>some (.ref a)
 |.type n=>some (.ty n)
 |_=>none
theorem RelV.abs {x:V}{u:aa}(r:RelV x u):FE u=some x:=by
 cases x with
 |non=>cases r;rfl
 |bl _=>cases r;rfl
 |int _=>obtain⟨t,rfl⟩:=r;rfl
 |str _=>obtain⟨t,rfl⟩:=r;rfl
 |byt _=>obtain⟨t,rfl⟩:=r;rfl
 |flt _=>obtain⟨t,rfl⟩:=r;rfl
 |ref _=>cases r;rfl
 |ty _=>cases r;rfl
theorem RelV.inj {x y:V}{u:aa}(r:RelV x u)(q:RelV y u):x=y:=Option.some.inj (r.abs.symm.trans q.abs)
theorem bR.inj:∀{xs ys:List V} {us:List aa},bR xs us->bR ys us->xs=ys
 |_,_,_,.nil,.nil=>rfl
 |_,_,_,.cons r t,.cons r' t'=>by rw[r.inj r',bR.inj t t']
section
variable {X:Cx}{ah:List (af×cu)}{σ:St}{H:Hp}{s:ai}{a:af}{xs ys:List V}
theorem fN.of {K:ae}(h:H a=some (.lst xs)):fN K H a xs:=.inl (.inl h)
theorem kc.of {K:ae}(h:H a=some (.tup xs)):kc K H a xs:=.inl (.inl h)
theorem Inv.list (I:Inv X ah σ H s)(h:fN X.K H a xs):∃bW:List aa,bR xs bW/\PlainL s.heap a bW.toArray/\xs.length<=sizeLine:=by
 rcases h with h|⟨o,bW,n,hk,hc,hd,hs,hz,r⟩
 ·obtain⟨z,bW,n,r,e⟩:=h.ok I.hok
  exact⟨bW,r,⟨_,n,e,rfl,rfl,rfl⟩,z⟩
 ·refine⟨bW.toList,r,⟨o,n,I.kIn a o hk,hc,hd,by simpa using hs⟩,?_⟩
  have e:=r.length
  simp only[bQ]at e
  omega
theorem Inv.tuple (I:Inv X ah σ H s)(h:kc X.K H a xs):∃bW:List aa,bR xs bW/\IsTup s.heap a bW.toArray/\xs.length<=sizeLine:=by
 rcases h with h|⟨o,bW,n,hk,hc,hs,hz,r⟩
 ·obtain⟨z,bW,r,p⟩:=h.ok I.hok
  exact⟨bW,r,p,z⟩
 ·refine⟨bW.toList,r,⟨o,I.kIn a o hk,hc,n,by simpa using hs⟩,?_⟩
  have e:=r.length
  simp only[bQ]at e
  omega
theorem Inv.list_inj (I:Inv X ah σ H s)(h:fN X.K H a xs)(h':fN X.K H a ys):xs=ys:=by
 obtain⟨bW,r,⟨o,n,e,_,_,d⟩,_⟩:=I.list h
 obtain⟨its',r',⟨o',n',e',_,_,d'⟩,_⟩:=I.list h'
 rw[e]at e';cases e'
 rw[d]at d'
 injection d' with d1 _
 have:bW=its':=by simpa using congrArg Array.toList d1
 subst this
 exact r.inj r'
end
abbrev Cx.wish (X:Cx)(E:aa->ai->Prop):Cx:={ X with xe:=E }
abbrev Cx.nox (X:Cx):Cx:=X.wish λ_ _=>False
theorem Cx.Ok.wish {X:Cx}(ok:X.Ok)(E:aa->ai->Prop):(X.wish E).Ok :=
 ⟨ok.mod,ok.kind,ok.glob,ok.blt,ok.above,ok.inj,ok.has,ok.cab,ok.hd,ok.frames,ok.stk,ok.exf,ok.bs,ok.bsz,ok.noex,ok.exfs,ok.funs,ok.frf⟩
theorem Cx.Ok.unwish {X:Cx}{E:aa->ai->Prop}(ok:(X.wish E).Ok):X.Ok :=
 ⟨ok.mod,ok.kind,ok.glob,ok.blt,ok.above,ok.inj,ok.has,ok.cab,ok.hd,ok.frames,ok.stk,ok.exf,ok.bs,ok.bsz,ok.noex,ok.exfs,ok.funs,ok.frf⟩
section
variable {X:Cx}{ah:List (af×cu)}{σ:St}{H:Hp}{s:ai}{E:aa->ai->Prop}
theorem Inv.wish (I:Inv X ah σ H s)(E:aa->ai->Prop):Inv (X.wish E) ah σ H s:=⟨I.ok.wish E,I.os,I.bare,I.base,I.loc,I.cell,I.free,I.freeC,I.pin,I.hok,I.len⟩
theorem Inv.unwish (I:Inv (X.wish E) ah σ H s):Inv X ah σ H s:=⟨I.ok.unwish,I.os,I.bare,I.base,I.loc,I.cell,I.free,I.freeC,I.pin,I.hok,I.len⟩
theorem SP.unwish {D:gH}{f:Flow}{s':ai}(h:SP (X.wish E) ah D f s'):SP X ah D f s':=by
 cases f with
 |next=>obtain⟨σ',H',I,q⟩:=h;exact⟨σ',H',I.unwish,q⟩
 |brk=>obtain⟨σ',H',I,q⟩:=h;exact⟨σ',H',I.unwish,q⟩
 |cont=>obtain⟨σ',H',I,q⟩:=h;exact⟨σ',H',I.unwish,q⟩
 |ret u=>obtain⟨v,σ',H',I,r,q⟩:=h;exact⟨v,σ',H',I.unwish,r,q⟩
theorem nr.nox {st:List bI}{t:TS}(h:nr X.nox st t):nr X st t:=λah s σ H D I hw=>
 cV (h ah s σ H D (I.wish _) hw) (λ_ _ q=>q.unwish) λ_ _ z=>False.elim z
end
section
variable {X:Cx}{st:bI}{rest:List bI}{t u:TS}{e:Expr}{te:TE}{pos:cy}
def DA:TS:=λD σ H=>D.nx σ H
def DE (t u:TS):TS:=λD σ H=>t { D with nx:=u D } σ H
theorem UQ:nr X [] DA:=λ_ _ σ H _ I h=>jJ ⟨σ,H,I,h⟩
theorem IM (h1:PS X st t)(h2:nr X rest u):nr X (st::rest) (DE t u):=by
 intro ah s σ H D I h
 refine wpAny_execs_cons (cO (h1 ah s σ H { D with nx:=u D } I h) λf s1 q=>?_)
 cases f with
 |next=>
  obtain⟨σ',H',I',q⟩:=q
  exact h2 ah s1 σ' H' D I' q
 |ret v=>exact q
 |brk=>exact q
 |cont=>exact q
theorem Jg (h1:PS X st t):nr X [st] t:=by
 intro ah s σ H D I h
 refine wpAny_execs_cons (cO (h1 ah s σ H D I h) λf s1 q=>?_)
 cases f with
 |next=>exact jJ q
 |ret v=>exact q
 |brk=>exact q
 |cont=>exact q
theorem Inv.quiet {ah:List (af×cu)}{σ:St}{H:Hp}{s:ai}(I:Inv X ah σ H s):interactive X.env=false:=by simp[interactive,I.ok.kind]
def uQ (te:TE):TS:=λD σ H=>te σ H λ_ H1=>D.nx σ H1
theorem Fd (he:PE X e te)(hs:dI e none pos.line X.env=pure false:=by rfl):PS X (.Expr e pos) (uQ te):=by
 intro ah s σ H D I h
 exact wpAny_Expr_any (cO (he ah s σ H _ I h) λv s1 ⟨x,H1,I1,r1,q1⟩=>⟨σ,H1,I1,q1⟩) I.quiet hs
def Ip (te:TE):TS:=λD σ H=>te σ H D.rt
theorem Nf (he:PE X e te):PS X (.Return (some e) pos) (Ip te):=by
 intro ah s σ H D I h
 exact wpAny_Return_some (cO (he ah s σ H _ I h) λv s1 ⟨x,H1,I1,r1,q1⟩=>⟨x,σ,H1,I1,r1,q1⟩)
def Ik (c:TT)(t u:TS):TS:=λD σ H=>c σ H λb H1=>if b=true then t D σ H1 else u D σ H1
theorem Nu {c:Expr}{a b:List bI}{tc:TT}(hc:PT X c tc)(ha:nr X a t)(hb:nr X b u):PS X (.If c a b pos) (Ik tc t u):=by
 intro ah s σ H D I h
 refine wpAny_If (cO (hc ah s σ H _ I h) λd s1 cS=>?_)
 obtain⟨H1,I1,q1⟩:=cS
 cases d with
 |true=>exact ha ah s1 σ H1 D I1 q1
 |false=>exact hb ah s1 σ H1 D I1 q1
def xZ:TS:=λ_ _ _=>False
theorem Tb:PS X st xZ:=λ_ _ _ _ _ _ h=>h.elim
end
abbrev TG:=V->St->Hp->(St->Hp->Prop)->Prop
abbrev tS:=List V->St->Hp->(St->Hp->Prop)->Prop
def PG (X:Cx)(target:Expr)(t:TG):Prop :=
 ∀(ah:List (af×cu)) (s:ai) (σ:St) (H:Hp) (v:V) (u:aa) (Q:St->Hp->Prop),Inv X ah σ H s->RelV v u->t v σ H Q ->
  aN (aA X.prog X.w) X.A (iw target X.env u) (λ_ s'=>∃σ' H',Inv X ah σ' H' s'/\Q σ' H') X.xe s
def yL (X:Cx)(ts:List Expr)(t:tS):Prop :=
 ∀(ah:List (af×cu)) (s:ai) (σ:St) (H:Hp) (vs:List V) (us:List aa) (Q:St->Hp->Prop),Inv X ah σ H s->bR vs us->t vs σ H Q ->
  aN (aA X.prog X.w) X.A (assignInOrder ((cU ts X.env).map (·.2)) us) (λ_ s'=>∃σ' H',Inv X ah σ' H' s'/\Q σ' H') X.xe s
abbrev qY:=V->V->V->Hp->(Hp->Prop)->Prop
def uZ (X:Cx)(t:qY):Prop :=
 ∀(ah:List (af×cu)) (s:ai) (σ:St) (H:Hp) (o i v:V) (ov iv u:aa) (Q:Hp->Prop),Inv X ah σ H s->RelV o ov->RelV i iv->RelV v u->t o i v H Q ->
  aN (aA X.prog X.w) X.A (nB ov iv u) (λ_ s'=>∃H',Inv X ah σ H' s'/\Q H') X.xe s
abbrev yN:=V->V->Hp->VK->Prop
def yM (X:Cx)(op:iJ)(t:yN):Prop :=
 ∀(ah:List (af×cu)) (s:ai) (σ:St) (H:Hp) (x y:V) (v u:aa) (Q:VK),Inv X ah σ H s->RelV x v->RelV y u->t x y H Q ->
  aN (aA X.prog X.w) X.A (inplaceOp op v u) (EP X ah σ Q) X.xe s
section
variable {X:Cx}{pos:cy}
def o3 (i:Nat):TG:=λv σ H Q=>Q (σ.set i (some v)) H
theorem MD {i:Nat}{x:aK}(hN:X.N.Nodup)(hi:X.N[i]?=some x)(hx:Loc X.env.scope x)(hf:X.fn x=true\/X.env.scope.names.lookup x=some .local:=by first|exact .inl rfl|exact .inr rfl|assumption):PG X (.Name x pos) (o3 i):=by
 intro ah s σ H v u Q I r h
 exact wpAny_assign_Name (j5 I hN hi hx r (λs' I'=>⟨_,H,I',h⟩) hf)
def GF:tS:=λvs σ H Q=>vs=[]/\Q σ H
def Bz (t:TG)(u:tS):tS:=λvs σ H Q=>∃v r,vs=v::r/\t v σ H λσ' H'=>u r σ' H' Q
theorem ME:yL X [] GF:=by
 intro ah s σ H vs us Q I r h
 obtain⟨e,h⟩:=h
 subst e
 cases r
 exact assignInOrder_nil ⟨σ,H,I,h⟩
theorem Md {e:Expr}{es:List Expr}{t:TG}{u:tS}(h1:PG X e t)(h2:yL X es u)
  (hs:(cU (e::es) X.env).map (·.2)=iw e X.env::(cU es X.env).map (·.2):=by rfl):yL X (e::es) (Bz t u):=by
 intro ah s σ H vs us Q I r h
 obtain⟨v,vr,e1,h⟩:=h
 subst e1
 cases r with
 |cons r rr=>
  rw[hs]
  refine assignInOrder_cons (cO (h1 ah s σ H _ _ _ I r h) λ_ s1 cS=>?_)
  obtain⟨σ1,H1,I1,q1⟩:=cS
  exact h2 ah s1 σ1 H1 _ _ Q I1 rr q1
def GH (K:ae)(n:Nat)(t:tS):TG:=λv σ H Q=>∃a xs,v=.ref a/\kc K H a xs/\xs.length=n/\t xs σ H Q
theorem Ng {es:List Expr}{k:Nat}{t:tS}{n:Nat}(hc:X.calm=true)(h:yL X es t)
  (hn:(cU es X.env).length=n:=by rfl) (iR:(cU es X.env).findIdx? (·.1)=none:=by rfl):PG X (.Tuple es k pos) (GH X.K n t):=by
 intro ah s σ H v u Q I r hw
 obtain⟨a,xs,e1,hq,hl,hw⟩:=hw
 subst e1
 cases r
 obtain⟨bW,rv,ht,hz⟩:=I.tuple hq
 refine assign_Tuple_tuple (I.ok.hd hc) ht (by simp[hn,←hl,rv.length]) iR λh' hx=>?_
 have I1:Inv X ah σ H { s with heap:=h' }:=I.kept (t':=s.toks) λb o e=>hx b o (aY (aG e)) e
 exact h ah _ σ H xs _ Q I1 (by simpa using rv) hw
def GG (to ti:TE)(t:qY):TG:=λv σ H Q=>to σ H λo H1=>ti σ H1 λi H2=>t o i v H2 λH3=>Q σ H3
theorem Wu {o i:Expr}{to ti:TE}{t:qY}(ho:PE X o to)(hi:PE X i ti)(hs:uZ X t)
  (ha:∀v,iw (.Subscript o i pos) X.env v=(do
   let ov ← dD [v] (bB o X.env)
   let iv ← dD [v,ov] (bB i X.env)
   eQ pos
   dD [v,ov,iv] (nB ov iv v)
   release [v,ov,iv] []):=by intro _;rfl):PG X (.Subscript o i pos) (GG to ti t):=by
 intro ah s σ H v u Q I r h
 rw[ha]
 refine ak (dq (cO (ho ah s σ H _ I h) λov s1 cS=>?_))
 obtain⟨x,H1,I1,r1,q1⟩:=cS
 refine ak (dq (cO (hi ah s1 σ H1 _ I1 q1) λiv s2 cS=>?_))
 obtain⟨y,H2,I2,r2,q2⟩:=cS
 refine ak (e8 (ak (dq (cO (hs ah s2 σ H2 x y v ov iv u _ I2 r1 r2 r q2) λ_ s3 cS=>?_))))
 obtain⟨H3,I3,q3⟩:=cS
 exact wpAny_release ⟨σ,H3,I3,q3⟩
def xT (te:TE)(g:TG):TS:=λD σ H=>te σ H λx H1=>g x σ H1 D.nx
theorem Wv {tg e:Expr}{te:TE}{g:TG}(he:PE X e te)(hg:PG X tg g)(hs:swapsWithSole [tg] e pos.line X.env=pure false:=by rfl)(hw:swappedStores [tg] e X.env=pure none:=by rfl)
  (h1:(cU [tg] X.env).map (·.2)=[iw tg X.env]:=by rfl):PS X (.Assign [tg] e pos) (xT te g):=by
 intro ah s σ H D I h
 refine wpAny_Assign_stores (cO (he ah s σ H _ I h) λv s1 ⟨x,H1,I1,r1,q1⟩=>?_) hs hw
 rw[h1]
 exact cO (hg ah s1 σ H1 x v _ I1 r1 q1) λ_ s2 q=>q
theorem Ww {i:Nat}{x:aK}{e:Expr}{te:TE}{pos':cy}(hN:X.N.Nodup)(hi:X.N[i]?=some x)(hx:Loc X.env.scope x)(he:PE X e te)(hs:dI e (some (.Name x pos')) pos.line X.env=pure false:=by rfl)(hf:X.fn x=true\/X.env.scope.names.lookup x=some .local:=by first|exact .inl rfl|exact .inr rfl|assumption) :
  PS X (.Assign [.Name x pos'] e pos) (xT te (o3 i)):=by
 intro ah s σ H D I h
 refine wpAny_Assign_Name (cO (he ah s σ H _ I h) λv s1 ⟨y,H1,I1,r1,q1⟩=>?_) hs
 exact j5 I1 hN hi hx r1 (λs2 I2=>⟨_,H1,I2,q1⟩) hf
def Ig (i:Nat)(te:TE)(ti:yN):TS:=λD σ H=>∃x,σ[i]?=some (some x)/\te σ H λy H1=>ti x y H1 λz H2=>D.nx (σ.set i (some z)) H2
theorem Wx {i:Nat}{x:aK}{e:Expr}{te:TE}{op:iJ}{ti:yN}{pos':cy}(hN:X.N.Nodup)(hi:X.N[i]?=some x)(hx:Loc X.env.scope x)(he:PE X e te)(ho:yM X op ti)(hf:X.fn x=true\/X.env.scope.names.lookup x=some .local:=by first|exact .inl rfl|exact .inr rfl|assumption) :
  PS X (.AugAssign (.Name x pos') op e pos) (Ig i te ti):=by
 intro ah s σ H D I h
 obtain⟨v,e1,h⟩:=h
 obtain⟨m,hn,hl⟩:=I.loc
 have Rg:qZ X.env.scope x:=by rcases hx with k|k;exact .inl k;exact .inr (.inl k)
 obtain⟨u,r,l⟩:=hl i x v hi e1 Rg
 refine wpAny_AugAssign_Name ?_
 have go:aN (aA X.prog X.w) X.A (bB e X.env) (λw s₂=>aN (aA X.prog X.w) X.A (inplaceOp op u w) (λr s₃=>aN (aA X.prog X.w) X.A (storeName X.env x r) (λ_=>SP X ah D .next) X.xe s₃) X.xe s₂) X.xe s:=by
  refine cO (he ah s σ H _ I h) λw s1 cS=>?_
  obtain⟨y,H1,I1,r1,q1⟩:=cS
  refine cO (ho ah s1 σ H1 v y u w _ I1 r r1 q1) λz s2 cS=>?_
  obtain⟨zv,H2,I2,r2,q2⟩:=cS
  exact j5 I2 hN hi hx r2 (λs3 I3=>⟨_,H2,I3,q2⟩) hf
 rcases l with⟨hk,hm⟩|⟨hk,c,hc,o4⟩
 ·exact wpAny_loadName_local I.ok.kind hk hn hm go
 ·rcases hk with hk|hk
  ·exact wpAny_loadName_cell I.ok.kind hk hc o4 go
  ·rcases hx with k|k
   ·have:X.env.scope.names.lookup x=some .free:=hk
    rw[k]at this;cases this
   ·have:X.env.scope.names.lookup x=some .free:=hk
    rw[k]at this;cases this
def Dx (to ti te:TE)(tH:V->V->Hp->VK->Prop)(EW:yN)(tI:qY):TS:=λD σ H=>to σ H λo H1=>ti σ H1 λi H2=>tH o i H2 λx H3=>te σ H3 λy H4=>EW x y H4 λz H5=>tI o i z H5 λH6=>D.nx σ H6
def Ad (X:Cx)(t:V->V->Hp->VK->Prop):Prop :=
 ∀(ah:List (af×cu)) (s:ai) (σ:St) (H:Hp) (o i:V) (ov iv:aa) (Q:VK),Inv X ah σ H s->RelV o ov->RelV i iv->t o i H Q ->
  aN (aA X.prog X.w) X.A (getItem ov iv) (EP X ah σ Q) X.xe s
theorem UR {o i e:Expr}{to ti te:TE}{tH:V->V->Hp->VK->Prop}{EW:yN}{tI:qY}{op:iJ}{i9:cy}(ho:PE X o to)(hi:PE X i ti)(hg:Ad X tH)(he:PE X e te)(hp:yM X op EW)(hs:uZ X tI)
  (ha:∀ov iv new,augStore i ov iv new=(do dD [new,ov,iv] (nB ov iv new);release [new,ov,iv] [];pure .next):=by intros;rfl):PS X (.AugAssign (.Subscript o i i9) op e pos) (Dx to ti te tH EW tI):=by
 intro ah s σ H D I h
 refine wpAny_AugAssign_SubscriptAny (cO (ho ah s σ H _ I h) λov s1 ⟨x1,H1,I1,r1,q1⟩=>?_) ha
 refine cO (hi ah s1 σ H1 _ I1 q1) λiv s2 cS=>?_
 obtain⟨x2,H2,I2,r2,q2⟩:=cS
 refine cO (hg ah s2 σ H2 x1 x2 ov iv _ I2 r1 r2 q2) λold s3 cS=>?_
 obtain⟨x3,H3,I3,r3,q3⟩:=cS
 refine cO (he ah s3 σ H3 _ I3 q3) λv s4 cS=>?_
 obtain⟨x4,H4,I4,r4,q4⟩:=cS
 refine cO (hp ah s4 σ H4 x3 x4 old v _ I4 r3 r4 q4) λnew s5 cS=>?_
 obtain⟨x5,H5,I5,r5,q5⟩:=cS
 exact cO (hs ah s5 σ H5 x1 x2 x5 ov iv new _ I5 r1 r2 r5 q5) λ_ s6 ⟨H6,I6,q6⟩=>⟨σ,H6,I6,q6⟩
def EL (f:Int->Int->Int):yN:=λx y H Q=>∃i j,x=.int i/\y=.int j/\Q (.int (f i j)) H
theorem Nh:yM X .Add (EL λi j=>i+j):=by
 intro ah s σ H x y v u Q I r1 r2 h
 obtain⟨i,j,e1,e2,q⟩:=h
 subst e1;subst e2
 obtain⟨t,rfl⟩:=r1
 obtain⟨t',rfl⟩:=r2
 exact iadd_int ⟨.int _,H,I.tok _,⟨_,rfl⟩,q⟩
theorem Wy:yM X .Sub (EL λi j=>i-j):=by
 intro ah s σ H x y v u Q I r1 r2 h
 obtain⟨i,j,e1,e2,q⟩:=h
 subst e1;subst e2
 obtain⟨t,rfl⟩:=r1
 obtain⟨t',rfl⟩:=r2
 exact isub_int ⟨.int _,H,I.tok _,⟨_,rfl⟩,q⟩
end
section
variable {X:Cx}{pos:cy}
def yB (c:TT)(tb:TS):TS:=λD σ H=>∃W:Nat->St->Hp->Prop,(∃m,W m σ H)/\∀m σ H,W m σ H ->
 c σ H λb H1=>if b=true then∃N:St->Hp->Prop,(∀σ' H',N σ' H'->∃m',m'<m/\W m' σ' H')/\tb { D with nx:=N,ct:=N,bk:=D.nx } σ H1 else D.nx σ H1
theorem Tc {c:Expr}{body:List bI}{tc:TT}{tb:TS}(hp:cn (aA X.prog X.w) X.A X.env X.xe)(hc:PT X c tc)(hb:nr X body tb):PS X (.While c body [] pos) (yB tc tb):=by
 intro ah s σ H D I h
 obtain⟨W,⟨m0,w0⟩,ng⟩:=h
 refine wpAny_While (codeAny_whileLoop (λn s'=>∃σ' H',Inv X ah σ' H' s'/\W n σ' H') ?_ m0 ⟨σ,H,I,w0⟩)
 rintro n s1 ⟨σ1,H1,I1,w1⟩
 refine er hp (cO (hc ah s1 σ1 H1 _ I1 (ng n σ1 H1 w1)) λb s2 cS=>?_)
 obtain⟨H2,I2,q2⟩:=cS
 cases b with
 |true=>
  obtain⟨N,hN,q2⟩:=q2
  rw[if_pos rfl]
  refine er hp (cO (hb ah s2 σ1 H2 _ I2 q2) λf s3 q3=>?_)
  cases f with
  |next=>
   obtain⟨σ3,H3,I3,n3⟩:=q3
   obtain⟨m',hm,w3⟩:=hN σ3 H3 n3
   exact⟨m',hm,σ3,H3,I3,w3⟩
  |cont=>
   obtain⟨σ3,H3,I3,n3⟩:=q3
   obtain⟨m',hm,w3⟩:=hN σ3 H3 n3
   exact⟨m',hm,σ3,H3,I3,w3⟩
  |brk=>exact q3
  |ret v=>exact q3
 |false=>
  rw[if_neg aD]
  exact jJ ⟨σ1,H2,I2,q2⟩
end
structure It where
 go:Nat->Hp->Prop
 yld:Nat->Hp->V->Hp->Prop
 stop:Nat->Hp->Prop
def ka (X:Cx)(ah:List (af×cu))(H:Hp)(b:af):Prop :=
 H b=none/\b≠X.env.locals/\b∉X.fs/\(b∈X.ex\/X.s₀.heap.objs.size<=b)/\(∀x c,X.env.cells.lookup x=some c->c≠b)/\∀p∈X.pn++ah,p.1≠b
theorem Inv.fpOk {X:Cx}{ah:List (af×cu)}{σ:St}{H H':Hp}{s:ai}{b:af}(I:Inv X ah σ H s)(hb:s.heap.objs.size<=b)(hn:H' b=none):ka X ah H' b:=by
 refine⟨hn,iu (bg I.lt hb),I.nofs hb,.inr (bH I.sz hb),λx c e z=>?_,λp hp z=>?_⟩
 ·obtain⟨v,q⟩:=I.cell x c e
  exact absurd (bg q.lt (by rw[z];exact hb)) (d8 _)
 ·exact absurd (bg (aG (I.pin p hp).1) (by rw[z];exact hb)) (d8 _)
structure Turn (P:aT)(w:bt)(K:ae)(tg:Expr)(J:It)(fp:List af)(it:af)(tn:Nat->aE->Prop):Prop where
 mem:it∈fp
 obj:∀i h,tn i h->∀b∈fp,∃o,h.get? b=some o/\∀v,o.data≠.cell v
 keep:∀i h h',tn i h->(∀b∈fp,∀o,h.get? b=some o->h'.get? b=some o)->tn i h'
 item:∀(X:Cx),X.prog=P->X.w=w->X.K=K->X.calm=true->∀(i:Nat) (ah:List (af×cu)) (s:ai) (σ:St) (H:Hp) (E:aa->ai->Prop),Inv X ah σ H s->(∀b∈fp,ka X ah H b)->tn i s.heap->J.go i H ->
  aN (aA P w) X.A (pyNext (.ref it)) (λr s1=>∃u,r=some u /\
   aN (aA P w) X.A (gI tg (.ref it) u) (λ_ s2=>∃x H',Inv X ah σ H' s2/\RelV x u/\J.yld i H x H'/\tn (i+1) s2.heap/\∀b∈fp,H' b=none) E s1) E s
 done:∀(X:Cx),X.prog=P->X.w=w->X.K=K->X.calm=true->∀(i:Nat) (ah:List (af×cu)) (s:ai) (σ:St) (H:Hp) (E:aa->ai->Prop),Inv X ah σ H s->(∀b∈fp,ka X ah H b)->tn i s.heap->J.stop i H ->
  aN (aA P w) X.A (pyNext (.ref it)) (λr s1=>r=none/\Inv X ah σ H s1) E s
 self:∀(A:bi) (i:Nat) (s:ai) (Q:aa->ai->Prop) (E:aa->ai->Prop),tn i s.heap->Q (.ref it) s->aN (aA P w) A (pyIter (.ref it)) Q E s
abbrev TI:=St->Hp->(It->Hp->Prop)->Prop
def JB (X:Cx)(ah:List (af×cu))(σ:St)(tg:Expr)(R:It->Hp->Prop)(EM:aa)(s2:ai):Prop :=
 ∃(it:af) (fp:List af) (tn:Nat->aE->Prop) (J:It) (H':Hp),EM=.ref it/\Inv X ah σ H' s2/\Turn X.prog X.w X.K tg J fp it tn/\tn 0 s2.heap/\(∀b∈fp,ka X ah H' b)/\R J H'
def PI (X:Cx)(tg iter:Expr)(wi:TI):Prop :=
 ∀(ah:List (af×cu)) (s:ai) (σ:St) (H:Hp) (R:It->Hp->Prop),Inv X ah σ H s->wi σ H R ->
  aN (aA X.prog X.w) X.A (bB iter X.env) (λv s1=>aN (aA X.prog X.w) X.A (pyIter v) (JB X ah σ tg R) X.xe s1) X.xe s
theorem Jv {M:Model}{A:bi}{E:aa->ai->Prop}{s:ai}{tg:Expr}{it:af}{u:aa}{o:cu}{n:String}{vs:Array aa}{Q:Unit->ai->Prop}(ho:s.heap.get? it=some o)(hc:o.cls=.type n)(hd:o.data=.fields vs)
    (hn:["enumerate","zip","dict_itemiterator","dict_reverseitemiterator","odict_iterator","itertools.zip_longest","itertools.pairwise"].contains n=false) (hQ:Q () s):aN M A (gI tg (.ref it) u) Q E s:=by
  unfold gI
  cases tg<;>first
    |exact aJ hQ
    |(cases u<;>first
        |exact aJ hQ
        |(refine ak (wpAny_load ho ?_)
          rw[hc,hd]
          show aN M A (if(["enumerate","zip","dict_itemiterator","dict_reverseitemiterator","odict_iterator","itertools.zip_longest","itertools.pairwise"].contains n&&vs[0]?==some (rawInt _))=true then _ else _) Q E s
          rw[if_neg (by intro h;rw[hn,Bool.false_and]at h;cases h)]
          exact aJ hQ))
def FA (K:ae)(a:af):It :=
 ⟨λi H=>∃xs x,fN K H a xs/\xs[i]?=some x,λi H x H'=>H'=H/\∀xs,fN K H a xs->xs[i]?=some x,λi H=>∃xs,fN K H a xs/\xs.length<=i⟩
def DX (lo:Int)(n:Nat):It:=⟨λi _=>i<n,λi H x H'=>H'=H/\x=.int (lo+i),λi _=>n<=i⟩
theorem SJ {P:aT}{w:bt}{K:ae}{tg:Expr}(a it:af):Turn P w K tg (FA K a) [it] it (λi h=>h.IsListIter it a i) where
 mem:=by simp
 obj:=λi h st b hb=>by
  have e:b=it:=by simpa using hb
  subst e
  obtain⟨o,e,c,d⟩:=st
  exact⟨o,e,λv z=>by rw[d]at z;cases z⟩
 keep:=λi h h' st k=>st.at λo e=>k it (by simp) o e
 item:=by
  intro X hP hw hK hc i ah s σ H E I hf st hg
  subst hP hw hK
  obtain⟨xs,x,hq,hx⟩:=hg
  obtain⟨bW,rv,p,hz⟩:=I.list hq
  obtain⟨u,hu,ru⟩:=rv.get hx
  obtain⟨f0,f1,f2,f3,f4,f5⟩:=hf it (by simp)
  refine wpAny_pyNext_list_item st p.isList (x:=u) (by simpa using hu) λh' mm sb=>?_
  have I1:Inv X ah σ H { s with heap:=h' }:=I.turned (t':=s.toks) (λb o hb e=>(sb.2 b hb).trans e) f0 f1 f3 f4 f5
  obtain⟨o,e,c,d⟩:=id mm
  exact⟨u,rfl,Jv (s:={ s with heap:=h' }) e c d (by decide) ⟨x,H,I1,ru,⟨rfl,λys hy=>by rw[I.list_inj hy hq];exact hx⟩,mm,λb hb=>(hf b hb).1⟩⟩
 done:=by
  intro X hP hw hK hc i ah s σ H E I hf st hg
  subst hP hw hK
  obtain⟨xs,hq,hx⟩:=hg
  obtain⟨bW,rv,p,hz⟩:=I.list hq
  obtain⟨f0,f1,f2,f3,f4,f5⟩:=hf it (by simp)
  have hl:=rv.length
  exact wpAny_pyNext_list_end (I.ok.hd hc) st p.isList (by simp;omega) λh' eb=>⟨rfl,I.turned (t':=s.toks) (λb o hb e=>eb b o hb e) f0 f1 f3 f4 f5⟩
 self:=λ_ _ _ _ _ st h=>wpAny_pyIter_listiter st h
theorem Sm {P:aT}{w:bt}{K:ae}{tg:Expr}(it:af)(lo:Int)(n:Nat):Turn P w K tg (DX lo n) [it] it (λi h=>IsRangeIter h it (lo+(i:Nat)*1) ((n:Int)-(i:Nat)) 1) where
 mem:=by simp
 obj:=λi h st b hb=>by
  have e:b=it:=by simpa using hb
  subst e
  exact⟨_,st,λv z=>by
   have z':oX.fields _=oX.cell v:=z
   cases z'⟩
 keep:=λi h h' st k=>k it (by simp) _ st
 item:=by
  intro X hP hw hK hc i ah s σ H E I hf st hg
  subst hP hw hK
  obtain⟨f0,f1,f2,f3,f4,f5⟩:=hf it (by simp)
  have W:=Walks.range (prog:=X.prog) (w:=X.w) (I.ok.hd hc) it lo 1 n
  refine W.item i s _ _ hg st λv h' tk hv mm kk=>?_
  obtain⟨t,rfl⟩:=hv
  have I1:Inv X ah σ H { s with heap:=h',toks:=tk }:=I.turned (λb o hb e=>kk b o (by simpa using hb) e) f0 f1 f3 f4 f5
  refine⟨_,rfl,Jv (s:={ s with heap:=h',toks:=tk }) (n:="range_iterator") mm rfl rfl (by decide) ⟨.int (lo+i),H,I1,⟨t,?_⟩,⟨rfl,rfl⟩,mm,λb hb=>(hf b hb).1⟩⟩
  rw[Int.mul_one]
 done:=by
  intro X hP hw hK hc i ah s σ H E I hf st hg
  subst hP hw hK
  obtain⟨f0,f1,f2,f3,f4,f5⟩:=hf it (by simp)
  exact wpAny_pyNext_range_end (I.ok.hd hc) st (by have:n<=i:=hg;omega) λh' eb=>⟨rfl,I.turned (t':=s.toks) (λb o hb e=>eb b o hb e) f0 f1 f3 f4 f5⟩
 self:=λ_ _ _ _ _ st h=>wpAny_pyIter_rangeiter st h
end L2
namespace L2
open PySem PySem.Spec PyProof.Rows
section
variable {X:Cx}{tg:Expr}
def BZ (K:ae)(tl:TE):TI:=λσ H R=>tl σ H λx H1=>∃a,x=.ref a/\(∃xs,fN K H1 a xs)/\R (FA K a) H1
theorem MF {l:Expr}{tl:TE}(hl:PE X l tl):PI X tg l (BZ X.K tl):=by
 intro ah s σ H R I h
 refine cO (hl ah s σ H _ I h) λv s1 cS=>?_
 obtain⟨x,H1,I1,r1,q1⟩:=cS
 obtain⟨a,e,⟨xs,hq⟩,q⟩:=q1
 subst e
 cases r1
 obtain⟨bW,rv,p,hz⟩:=I1.list hq
 refine wpAny_pyIter_list p.isList ?_
 refine⟨s1.heap.objs.size,[s1.heap.objs.size],_,_,H1,rfl,I1.kept (t':=s1.toks) λb o e=>aq _ e,SJ a _,⟨_,br _ rfl,rfl,rfl⟩,λb hb=>?_,q⟩
 have e:b=s1.heap.objs.size:=by simpa using hb
 subst e
 exact I1.fpOk (aH _) (I1.hok.fresh (aH _))
theorem Td {ah:List (af×cu)}{σ:St}{H:Hp}{s:ai}{R:It->Hp->Prop}{E:aa->ai->Prop}{lo hi:Int}{t u v:Tok}{tk:Nat}(I:Inv X ah σ H s)(h1:-(2 ^ 62)<=lo)(h2:lo<2 ^ 62)(h3:-(2 ^ 62)<=hi)(h4:hi<2 ^ 62)
    (q:R (DX lo (hi-lo).toNat) H):aN (aA X.prog X.w) X.A (pyIter (.ref s.heap.objs.size)) (JB X ah σ tg R) E { s with heap:=s.heap.push { cls:=.type "range",data:=.fields #[.int lo t,.int hi u,.int 1 v] },toks:=tk }:=by
  refine wpAny_pyIter_range (IsRange.new ..) (small_one h1 h2 h3 h4) ?_
  have I1:Inv X ah σ H { s with heap:=s.heap.push { cls:=.type "range",data:=.fields #[.int lo t,.int hi u,.int 1 v] },toks:=tk }:=I.kept λb o e=>aq _ e
  refine⟨(s.heap.push { cls:=.type "range",data:=.fields #[.int lo t,.int hi u,.int 1 v] }).objs.size,[(s.heap.push { cls:=.type "range",data:=.fields #[.int lo t,.int hi u,.int 1 v] }).objs.size],_,_,H,rfl,
    I1.kept (t':=tk) λb o e=>aq _ e,Sm _ lo (hi-lo).toNat,?_,λb hb=>?_,q⟩
  · have e1:lo+((0:Nat):Int)*1=lo:=by simp
    have e2:(((hi-lo).toNat:Nat):Int)-((0:Nat):Int)=Builtin.Range.rangeSize lo hi 1:=by rw[rangeSize_one];split<;>omega
    show IsRangeIter _ _ (lo+((0:Nat):Int)*1) ((((hi-lo).toNat:Nat):Int)-((0:Nat):Int)) 1
    rw[e1,e2]
    exact br _ rfl
  · have e:b=(s.heap.push { cls:=.type "range",data:=.fields #[.int lo t,.int hi u,.int 1 v] }).objs.size:=by simpa using hb
    subst e
    exact I1.fpOk (aH _) (I1.hok.fresh (aH _))
def B0 (ta:TA):TI:=λσ H R=>ta σ H λvs H1=>∃j:Int,vs=[.int j]/\-(2 ^ 62)<=j/\j<2 ^ 62/\R (DX 0 j.toNat) H1
theorem SK {a:Expr}{ta:TA}{p pos:cy}(hg:Gl X "range")(hm:X.mg "range"=none)(ha:PA X [a] ta)(hs:ap [a] X.env=[(false,bB a X.env)]:=by rfl):PI X tg (.Call (.Name "range" p) [a] [] pos) (B0 ta):=by
 intro ah s σ H R I h
 refine Call_ (yE I hg hm boot_range (fF (cO (ha pos ah s σ H _ I h) λus s1 ⟨vs,H1,I1,r1,q1⟩=>?_) hs rfl))
 obtain⟨j,e,q1,q2,q⟩:=q1
 subst e
 cases r1 with
 |cons r rr=>
  cases rr
  obtain⟨t,rfl⟩:=r
  exact call_range_1 (Td I1 (by omega) (by omega) q1 q2 (by simpa using q))
def Ij (wi:TI)(g:TG)(tb:TS):TS:=λD σ H=>wi σ H λJ H1=>∃W:Nat->Nat->St->Hp->Prop,(∃m,W 0 m σ H1)/\∀i m σ H,W i m σ H ->
 (J.stop i H/\D.nx σ H)\/(J.go i H/\∃N:St->Hp->Prop,(∀σ' H',N σ' H'->∃m',m'<m/\W (i+1) m' σ' H')/\∀x H',J.yld i H x H'->g x σ H' λσ2 H2=>tb { D with nx:=N,ct:=N,bk:=D.nx } σ2 H2)
def kE (fp:List af)(h:aE):List (af×cu):=fp.filterMap λb=>(h.get? b).map λo=>(b,o)
theorem vd {fp:List af}{h:aE}{b:af}{o:cu}(hb:b∈fp)(e:h.get? b=some o):(b,o)∈kE fp h:=pB.mpr ⟨b,hb,by rw[e];rfl⟩
theorem SM {fp:List af}{h:aE}{p:af×cu}(hp:p∈kE fp h):p.1∈fp/\h.get? p.1=some p.2:=by
 obtain⟨b,hb,e⟩:=pB.mp hp
 cases q:h.get? b with
 |none=>rw[q]at e;cases e
 |some o=>
  rw[q]at e
  have e':(b,o)=p:=Option.some.inj e
  subst e'
  exact⟨hb,q⟩
theorem Inv.pinned {ah:List (af×cu)}{σ:St}{H:Hp}{s:ai}{fp:List af}(I:Inv X ah σ H s)(hf:∀b∈fp,ka X ah H b)(ho:∀b∈fp,∃o,s.heap.get? b=some o/\∀v,o.data≠.cell v):Inv X (ah++kE fp s.heap) σ H s :=
 I.pins_of λp hp=>(bj.mp hp).elim (λz=>I.pin p (av _ z)) λz=>by
  obtain⟨hb,e⟩:=SM z
  obtain⟨f0,f1,f2,_⟩:=hf p.1 hb
  obtain⟨o,e',d⟩:=ho p.1 hb
  rw[e]at e';cases e'
  exact⟨e,f0,f1,f2,d⟩
theorem Inv.unpinned {ah pl:List (af×cu)}{σ:St}{H:Hp}{s:ai}(I:Inv X (ah++pl) σ H s):Inv X ah σ H s:=I.pins_of λp hp=>I.pin p (av _ (bb _ hp))
theorem Wz {iter:Expr}{body:List bI}{wi:TI}{g:TG}{tb:TS}{pos:cy}(hp:cn (aA X.prog X.w) X.A X.env X.xe)(hc:X.calm=true)(hi:PI X tg iter wi)(hg:PG X tg g)(hb:nr X body tb)
  (hs:∀x,dg iter X.env x=pure x:=by intro _;rfl):PS X (.For tg iter body [] pos) (Ij wi g tb):=by
 intro ah s σ H D I h
 refine wpAny_For (cO (hi ah s σ H _ I h) λv s1 h1=>cO h1 λEM s2 h2=>?_) hs
 obtain⟨it,fp,tn,J,H2,e,I2,T,pZ,f2,W,⟨m0,w0⟩,ng⟩:=h2
 subst e
 have lY:∀{H':Hp},(∀b∈fp,H' b=none)->∀b∈fp,ka X ah H' b:=λhn b hb=>⟨hn b hb,(f2 b hb).2⟩
 refine codeAny_forLoop_any (λn s'=>∃i σ' H',Inv X ah σ' H' s'/\tn i s'.heap/\(∀b∈fp,H' b=none)/\W i n σ' H') ?_ m0 ⟨0,σ,H2,I2,pZ,λb hb=>(f2 b hb).1,w0⟩
 rintro n s3 ⟨i,σ3,H3,I3,K7,Kc,w3⟩
 rcases ng i n σ3 H3 w3 with⟨stop,qn⟩|⟨go,N,hN,step⟩
 ·refine er hp (cO (T.done X rfl rfl rfl hc i ah s3 σ3 H3 X.xe I3 (lY Kc) K7 stop) λr s4 cS=>?_)
  obtain⟨hr,I4⟩:=cS
  subst hr
  exact jJ ⟨σ3,H3,I4,qn⟩
 ·refine er hp (cO (T.item X rfl rfl rfl hc i ah s3 σ3 H3 X.xe I3 (lY Kc) K7 go) λr s4 cS=>?_)
  obtain⟨u,hr,h4⟩:=cS
  subst hr
  refine er hp (cO h4 λ_ s5 cS=>?_)
  obtain⟨x,H5,I5,r5,y5,tD,wH⟩:=cS
  have NX:=I5.pinned (lY wH) (T.obj _ _ tD)
  refine er hp (cO (hg _ s5 σ3 H5 x u _ NX r5 (step x H5 y5)) λ_ s6 cS=>?_)
  obtain⟨σ6,H6,I6,q6⟩:=cS
  refine er hp (cO (hb _ s6 σ6 H6 _ I6 q6) λf s7 q7=>?_)
  have again:∀{σ7:St} {H7:Hp},Inv X (ah++kE fp s5.heap) σ7 H7 s7->N σ7 H7->∃m,m<n/\∃i σ' H',Inv X ah σ' H' s7/\tn i s7.heap/\(∀b∈fp,H' b=none)/\W i m σ' H':=λ{σ7 H7} I7 n7=>by
   obtain⟨m',hm,w7⟩:=hN σ7 H7 n7
   refine⟨m',hm,i+1,σ7,H7,I7.unpinned,T.keep _ _ _ tD λb hb o e=>(I7.pin (b,o) (av _ (av _ (vd hb e)))).1,λb hb=>?_,w7⟩
   obtain⟨o,e,d⟩:=T.obj _ _ tD b hb
   exact(I7.pin (b,o) (av _ (av _ (vd hb e)))).2.1
  cases f with
  |next=>obtain⟨σ7,H7,I7,n7⟩:=q7;exact again I7 n7
  |cont=>obtain⟨σ7,H7,I7,n7⟩:=q7;exact again I7 n7
  |brk=>obtain⟨σ7,H7,I7,q7⟩:=q7;exact⟨σ7,H7,I7.unpinned,q7⟩
  |ret v=>obtain⟨x7,σ7,H7,I7,r7,q7⟩:=q7;exact⟨x7,σ7,H7,I7.unpinned,r7,q7⟩
end
end L2
namespace L2
open PySem PySem.Spec PyProof.Rows
abbrev R2:=V->V->Hp->VK->Prop
def gh (X:Cx)(f:aa->aa->gU aa)(r:R2):Prop :=
 ∀(ah:List (af×cu)) (s:ai) (σ:St) (H:Hp) (x y:V) (v u:aa) (Q:VK),Inv X ah σ H s->RelV x v->RelV y u->r x y H Q ->
  aN (aA X.prog X.w) X.A (f v u) (EP X ah σ Q) X.xe s
def D2 (X:Cx)(f:aa->gU aa)(r:V->Hp->VK->Prop):Prop :=
 ∀(ah:List (af×cu)) (s:ai) (σ:St) (H:Hp) (x:V) (v:aa) (Q:VK),Inv X ah σ H s->RelV x v->r x H Q ->
  aN (aA X.prog X.w) X.A (f v) (EP X ah σ Q) X.xe s
def eI (X:Cx)(f:aa)(r:List V->Hp->VK->Prop):Prop :=
 ∀(ah:List (af×cu)) (s:ai) (σ:St) (H:Hp) (xs:List V) (us:List aa) (Q:VK),Inv X ah σ H s->bR xs us->r xs H Q ->
  aN (aA X.prog X.w) X.A (call f us) (EP X ah σ Q) X.xe s
def ET (r:R2)(ta tb:TE):TE:=λσ H Q=>ta σ H λx H1=>tb σ H1 λy H2=>r x y H2 Q
def Q5 (r:V->Hp->VK->Prop)(ta:TE):TE:=λσ H Q=>ta σ H λx H1=>r x H1 Q
def rI (C:Int->Int->Prop)(g:Int->Int->V):R2:=λx y H Q=>∃i j,x=.int i/\y=.int j/\C i j/\Q (g i j) H
def oa (g:Int->Int->V):R2:=λx y H Q=>∃i j,x=.int i/\y=.int j/\Q (g i j) H
def rU (g:Int->V):V->Hp->VK->Prop:=λx H Q=>∃i,x=.int i/\Q (g i) H
section
variable {X:Cx}{a b c:Expr}{ta tb tc:TE}{pos:cy}
theorem vE (ha:PE X a ta)(hb:PE X b tb){ah:List (af×cu)}{s:ai}{σ:St}{H:Hp}{R:V->V->Hp->Prop}(I:Inv X ah σ H s)
  (h:ta σ H λx H1=>tb σ H1 λy H2=>R x y H2) {Q:aa->ai->Prop} {f:aa->aa->gU aa}
  (hf:∀v u s2 x y H2,Inv X ah σ H2 s2->RelV x v->RelV y u->R x y H2->aN (aA X.prog X.w) X.A (f v u) Q X.xe s2) :
  aN (aA X.prog X.w) X.A (bB a X.env) (λv s₁=>aN (aA X.prog X.w) X.A (bB b X.env) (λu s₂=>aN (aA X.prog X.w) X.A (f v u) Q X.xe s₂) X.xe s₁) X.xe s:=by
 refine cO (ha ah s σ H _ I h) λv s1 cS=>?_
 obtain⟨x,H1,I1,r1,q1⟩:=cS
 refine cO (hb ah s1 σ H1 _ I1 q1) λu s2 cS=>?_
 obtain⟨y,H2,I2,r2,q2⟩:=cS
 exact hf v u s2 x y H2 I2 r1 r2 q2
theorem Jw {op:iJ}{r:R2}(ho:gh X (dL op) r)(ha:PE X a ta)(hb:PE X b tb):PE X (.BinOp a op b pos) (ET r ta tb):=by
 intro ah s σ H Q I h
 exact wpAny_BinOp (vE ha hb I h λv u s2 x y H2 I2 rx ry q=>ho ah s2 σ H2 x y v u Q I2 rx ry q)
theorem XY {op:UnaryOp}{r:V->Hp->VK->Prop}(ho:D2 X (unaryOp op) r)(ha:PE X a ta):PE X (.UnaryOp op a pos) (Q5 r ta):=by
 intro ah s σ H Q I h
 exact UnaryOp_ (cO (ha ah s σ H _ I h) λv s1 ⟨x,H1,I1,r1,q1⟩=>ho ah s1 σ H1 x v Q I1 r1 q1)
theorem CI {f:aa->aa->gU aa}{C:Int->Int->Prop}{g:Int->Int->Int}
  (rule:∀(i j:Int) (t u:Tok) (s:ai) (Q:aa->ai->Prop) (E:aa->ai->Prop),C i j->Q (.int (g i j) s.toks) { s with toks:=s.toks+1 }->aN (aA X.prog X.w) X.A (f (.int i t) (.int j u)) Q E s) :
  gh X f (rI C λi j=>.int (g i j)):=by
 intro ah s σ H x y v u Q I rx ry h
 obtain⟨i,j,rfl,rfl,hc,q⟩:=h
 obtain⟨t,rfl⟩:=rx
 obtain⟨t',rfl⟩:=ry
 exact rule i j t t' s _ _ hc ⟨.int (g i j),H,I.tok _,⟨_,rfl⟩,q⟩
theorem CJ {f:aa->aa->gU aa}{g:Int->Int->Int}
  (rule:∀(i j:Int) (t u:Tok) (s:ai) (Q:aa->ai->Prop) (E:aa->ai->Prop),Q (.int (g i j) s.toks) { s with toks:=s.toks+1 }->aN (aA X.prog X.w) X.A (f (.int i t) (.int j u)) Q E s) :
  gh X f (oa λi j=>.int (g i j)):=by
 intro ah s σ H x y v u Q I rx ry h
 obtain⟨i,j,rfl,rfl,q⟩:=h
 obtain⟨t,rfl⟩:=rx
 obtain⟨t',rfl⟩:=ry
 exact rule i j t t' s _ _ ⟨.int (g i j),H,I.tok _,⟨_,rfl⟩,q⟩
theorem sW {f:aa->aa->gU aa}{g:Int->Int->Bool}
  (rule:∀(i j:Int) (t u:Tok) (s:ai) (Q:aa->ai->Prop) (E:aa->ai->Prop),Q (.bool (g i j)) s->aN (aA X.prog X.w) X.A (f (.int i t) (.int j u)) Q E s) :
  gh X f (oa λi j=>.bl (g i j)):=by
 intro ah s σ H x y v u Q I rx ry h
 obtain⟨i,j,rfl,rfl,q⟩:=h
 obtain⟨t,rfl⟩:=rx
 obtain⟨t',rfl⟩:=ry
 exact rule i j t t' s _ _ ⟨.bl (g i j),H,I,rfl,q⟩
def zV (i j:Int):Prop:=0<=j/\j<=1000000/\i.natAbs<2 ^ 64
def uW (i j:Int):Prop:=(-(2 ^ 64)<i/\i<2 ^ 64)\/(-(2 ^ 64)<j/\j<2 ^ 64)
theorem uW.ok {i j:Int}(h:uW i j):IntMulOk i j:=by
 rcases h with⟨h1,h2⟩|⟨h1,h2⟩
 ·exact .of_left (intBits_le_64 h1 h2)
 ·exact .of_right (intBits_le_64 h1 h2)
theorem Sn (k:Nat):(0:Int)<=2 ^ k:=by
 rw[two_pow_cast]
 exact Int.natCast_nonneg _
theorem WA:gh X (dL .Add) (oa λi j=>.int (i+j)):=CJ λ_ _ _ _ _ _ _ q=>add_int q
theorem zK:gh X (dL .Sub) (oa λi j=>.int (i-j)):=CJ λ_ _ _ _ _ _ _ q=>sub_int q
theorem wa:gh X (dL .Mod) (rI (λ_ j=>j≠0) λi j=>.int (i.fmod j)):=CI λ_ _ _ _ _ _ _ hc q=>mod_int' hc q
theorem WB:gh X (dL .LShift) (rI zV λi j=>.int (i*2 ^ j.toNat)):=CI λ_ _ _ _ _ _ _ hc q=>lshift_int_small hc.1 hc.2.1 hc.2.2 q
theorem Ni:gh X (dL .RShift) (rI (λ_ j=>0<=j) λi j=>.int (i/2 ^ j.toNat)):=CI λi j _ _ _ _ _ hc q=>
 rshift_int hc (by rw[mG i (Sn _)];exact q)
theorem Re {f:aa->gU aa}{g:Int->Int}
  (rule:∀(i:Int) (t:Tok) (s:ai) (Q:aa->ai->Prop) (E:aa->ai->Prop),Q (.int (g i) s.toks) { s with toks:=s.toks+1 }->aN (aA X.prog X.w) X.A (f (.int i t)) Q E s) :
  D2 X f (rU λi=>.int (g i)):=by
 intro ah s σ H x v Q I rx h
 obtain⟨i,rfl,q⟩:=h
 obtain⟨t,rfl⟩:=rx
 exact rule i t s _ _ ⟨.int (g i),H,I.tok _,⟨_,rfl⟩,q⟩
theorem WC:D2 X (unaryOp .USub) (rU λi=>.int (-i)):=Re λ_ _ _ _ _ q=>neg_int q
end
section
variable {X:Cx}{a b c:Expr}{ta tb tc:TE}{pos:cy}
theorem Fi {ah:List (af×cu)}{σ:St}{H:Hp}{s:ai}{Q:VK}{k k':Bool}(I:Inv X ah σ H s)(q:Q (.bl k) H)(e:k=k'):EP X ah σ Q (.bool k') s:=by
 subst e
 exact⟨.bl k,H,I,rfl,q⟩
theorem zQ:gh X (cF .Lt) (oa λi j=>.bl (decide (i<j))):=sW λ_ _ _ _ _ _ _ q=>lt_int q
theorem XZ:gh X (cF .LtE) (oa λi j=>.bl (decide (i<=j))):=sW λ_ _ _ _ _ _ _ q=>le_int q
theorem tK:gh X (cF .Gt) (oa λi j=>.bl (decide (j<i))):=sW λ_ _ _ _ _ _ _ q=>gt_int q
theorem X0:gh X (cF .GtE) (oa λi j=>.bl (decide (j<=i))):=sW λ_ _ _ _ _ _ _ q=>ge_int q
theorem WD:gh X (cF .Is) (λx y H Q=>y=.non/\Q (.bl (decide (x=.non))) H):=by
 intro ah s σ H x y v u Q I rx ry h
 obtain⟨rfl,q⟩:=h
 cases ry
 refine is_none_gen (Fi I q ?_)
 cases x<;>first
  |(cases rx;rfl)
  |(obtain⟨t,rfl⟩:=rx;rfl)
theorem US:gh X (cF .IsNot) (λx y H Q=>y=.non/\Q (.bl (!decide (x=.non))) H):=by
 intro ah s σ H x y v u Q I rx ry h
 obtain⟨rfl,q⟩:=h
 cases ry
 refine isnot_none_gen (Fi I q ?_)
 cases x<;>first
  |(cases rx;rfl)
  |(obtain⟨t,rfl⟩:=rx;rfl)
theorem gh.or {f:aa->aa->gU aa}{r r':R2}(h:gh X f r)(h':gh X f r'):gh X f (λx y H Q=>r x y H Q\/r' x y H Q):=by
 intro ah s σ H x y v u Q I rx ry q
 rcases q with q|q
 ·exact h ah s σ H x y v u Q I rx ry q
 ·exact h' ah s σ H x y v u Q I rx ry q
theorem cr (b:Expr){op:lm}(h:op≠.In:=by decide)(h2:op≠.NotIn:=by decide):dm op b=false:=by
 have e1:(op==lm.In)=false:=by cases op<;>first|rfl|exact absurd rfl h
 have e2:(op==lm.NotIn)=false:=by cases op<;>first|rfl|exact absurd rfl h2
 cases b<;>simp[dm,e1,e2]
theorem UT {op:lm}{r:R2}(ho:gh X (cF op) r)(ha:PE X a ta)(hb:PE X b tb)(hm:dm op b=false):PE X (.Compare a [op] [b] pos) (ET r ta tb):=by
 intro ah s σ H Q I h
 exact wpAny_Compare1 (vE ha hb I h λv u s2 x y H2 I2 rx ry q=>ho ah s2 σ H2 x y v u Q I2 rx ry q) hm
def DF (t:TE):TT:=λσ H Q=>t σ H λx H'=>∃k,x=.bl k/\Q k H'
theorem UU {op:lm}{r:R2}(ho:gh X (cF op) r)(ha:PE X a ta)(hb:PE X b tb)(hm:dm op b=false):PT X (.Compare a [op] [b] pos) (DF (ET r ta tb)):=by
 intro ah s σ H Q I h
 refine wpAny_isTrue_Compare1 (cO (ha ah s σ H _ I h) λv s1 ⟨x,H1,I1,r1,q1⟩=>cO (hb ah s1 σ H1 _ I1 q1) λu s2 ⟨y,H2,I2,r2,q2⟩=>
  cO (ho ah s2 σ H2 x y v u _ I2 r1 r2 q2) λc s3 ⟨z,H3,I3,r3,k,e,q3⟩=>?_) hm
 subst e
 cases r3
 exact dM ⟨H3,I3,q3⟩
theorem iD:(sizeLine:Nat)<2 ^ 63:=by rw[bu];decide
theorem So:gh X (dL .Add) (λx y H Q=>∃i j,x=.str i/\y=.str j/\i.length+j.length<=sizeLine/\Q (.str (i++j)) H):=by
 intro ah s σ H x y v u Q I rx ry h
 obtain⟨i,j,rfl,rfl,hz,q⟩:=h
 obtain⟨t,rfl⟩:=rx
 obtain⟨t',rfl⟩:=ry
 exact add_str (λt' tk=>⟨.str (i++j),H,I.tok _,⟨_,rfl⟩,q⟩) hz
theorem pd {x:V}{us:List aa}(r:bR [x] us):∃u,us=[u]/\RelV x u:=by
 cases r with
 |cons r1 r2=>cases r2;exact⟨_,rfl,r1⟩
theorem vals2 {x y:V}{us:List aa}(r:bR [x,y] us):∃u w',us=[u,w']/\RelV x u/\RelV y w':=by
 cases r with
 |cons r1 r2=>
  cases r2 with
  |cons r3 r4=>cases r4;exact⟨_,_,rfl,r1,r3⟩
theorem Iw (hc:X.calm=true):eI X (.builtin "max") (λxs H Q=>∃i j,xs=[.int i,.int j]/\Q (.int (if j > i then j else i)) H):=by
 intro ah s σ H xs us Q I r h
 obtain⟨i,j,rfl,q⟩:=h
 obtain⟨u,w',rfl,⟨t,rfl⟩,⟨t',rfl⟩⟩:=vals2 r
 refine max_two_ints (I.ok.hd hc) λh' tk k=>⟨_,H,I.kept k,?_,q⟩
 by_cases hj:j > i
 ·rw[if_pos hj,if_pos hj];exact⟨_,rfl⟩
 ·rw[if_neg hj,if_neg hj];exact⟨_,rfl⟩
end
end L2
namespace L2
open PySem PySem.Spec PyProof.Rows
structure oC (h:aE)(x dx C:af)(mA:aK->Option aa):Prop where
 obj:h.get? x=some (dr C dx)
 ns:h.Ns1 dx mA
 ne:dx≠x
theorem LJ {h:aE}{dx:af}{mA:aK->Option aa}(n:h.Ns1 dx mA):∃od,h.get? dx=some od/\∀name,ix name od=some (mA name):=by
 obtain⟨o,es,ep,ho,hd,hk,_,hm⟩:=n
 refine⟨o,ho,λname=>?_⟩
 have e:=hm name
 unfold nsFind findBy at e
 rw[←Array.find?_toList]at e
 unfold ix
 rw[hd]
 dsimp only
 split
 ·rename_i y q
  rw[q]at e
  exact congrArg some e
 ·rename_i q
  rw[q]at e
  have a:es.toList.any (·.refKey)=false:=by
   rw[List.any_eq_false]
   intro y hy
   obtain⟨z,t,Hd⟩:=hk y (Array.mem_toList_iff.mp hy)
   simp[DictEntry.refKey,Hd]
  have a':¬es.toList.any (·.refKey)=true:=by rw[a];exact aD
  rw[if_neg a']
  exact congrArg some e
theorem oC.look {h:aE}{x dx C:af}{mA:aK->Option aa}(I:oC h x dx C mA):∃od,dG h x (dr C dx) C (some od)/\∀name,ix name od=some (mA name) :=
 let⟨od,ho,hl⟩:=LJ I.ns
 ⟨od,⟨I.obj,rfl,rfl,ho⟩,hl⟩
section
variable {prog:aT}{w:bt}{A:bi}{E:aa->ai->Prop}{s:ai}{K:ae}{x dx C f:af}{mA:aK->Option aa}{name:aK}{v:aa}
theorem UV {expr:Bool}{Q:aa->ai->Prop}(X:K.In s.heap)(I:oC s.heap x dx C mA)(hg:cE K C name=true)(hh:bv K C=true)
  (ha:aj K (.ref C) name=some none) (hv:mA name=some v) (Hu:kr v=true) (h:Q v { s with toks:=s.toks+1 }) :
  aN (aA prog w) A (getAttr (.ref x) name expr) Q E s:=by
 obtain⟨od,J,hl⟩:=I.look
 exact PySem.W.get_value X J (iN hg).1 (nE hh ha rfl (by rw[hl,hv])) Hu h
theorem Te {pl:gU Bool}{Q:aa×List aa->ai->Prop}(X:K.In s.heap)(I:oC s.heap x dx C mA)(hg:cE K C name=true)
  (hf:aj K (.ref C) name=some (some (.ref f))) (ht:bP K (.ref f)=true) (hv:mA name=none) (h:Q (.ref f,[.ref x]) s) :
  aN (aA prog w) A (fG (.ref x) name pl) Q E s:=by
 obtain⟨od,J,hl⟩:=I.look
 exact PySem.W.method_fn X J (iN hg).1 (iN hg).2 hf (beq_iff_eq.mp ht) (by show(ix name od).map (·.isSome)=some false;rw[hl,hv];rfl) h
theorem UW {ns:List aK}{Q:Unit->ai->Prop}(X:K.In s.heap)(I:oC s.heap x dx C mA)
  (hs:aj K (.ref C) "__setattr__"=some (some (.builtin "object.__setattr__"))) (hp:cR K C=true) (ht:dv K C name=some none) (hh:bv K C=true)
  (hw:PySem.Within mA ns) (hsz:ns.length<=sizeLine)
  (h:∀h',oC h' x dx C (λy=>if y=name then some v else mA y)->dB dx s.heap h'->Q () { s with heap:=h',toks:=s.toks+2 }) :
  aN (aA prog w) A (setAttr (.ref x) name v) Q E s:=by
 obtain⟨od,J,hl⟩:=I.look
 refine oj X J hs (PySem.W.osa_open (s:={ s with toks:=s.toks+1 }) (r:=none) X J hp ht λb=>?_)
 obtain⟨cd,hc,GW⟩:=gO hh
 have hx:s.heap.get? x=some ⟨.ref C,some dx,.plain,#[]⟩:=I.obj
 refine ak (aJ (ak (ak (wpAny_loadPart hx (ak (cm.here (s:={ s with toks:=s.toks+1 }) (iL X hc) ?_))))))
 rw[GW]
 refine aJ (a:=some dx) (ak (aJ (ak ?_)))
 refine wpAny_nsSet1 (s:={ s with toks:=s.toks+1 }) I.ns λh' uB qN=>?_
 obtain⟨oD,Ox,Ov,Hi,GX,GS⟩:=uB.count (PySem.Within.cons name v hw)
 refine ak (wpAny_lookBehind Hi (by rw[GX];exact pastItsLine_dict (bH GS (by rw[aB];omega))) ?_)
 exact aJ (h _ ⟨(qN.2 _ (Ne.symm I.ne)).trans I.obj,uB,I.ne⟩ qN)
theorem Tf {R:Result->ai->Prop}{vs:List aa}{kw:List (aK×aa)}(X:K.In s.heap)(hm:cW K C=true)
  (hi:aj K (.ref C) "__init__"=some (some (.ref f))) (hf:lz K (.ref f)=some (.type "function"))
  (h:eF (aA prog w) (A.under (.builtin "type.__call__" ⟨.ref C::vs,kw⟩)) (.call (.ref f) ⟨.ref (s.heap.objs.size+1)::vs,kw⟩) (oY (s.heap.objs.size+1) R)
   { s with heap:=(s.heap.push cH).push (dr C s.heap.objs.size) }) :
  eF (aA prog w) A (.call (.ref C) ⟨vs,kw⟩) R s:=by
 obtain⟨hh,g,d,t,os⟩:=s
 exact PySem.W.make_core (PySem.W.makes_of X hm) (cQ X hi) (λself=>pH X self hf) (.inl rfl) h
end
def iq (f:aK)(v:V):List (aK×V)->List (aK×V)
 |[]=>[(f,v)]
 |(g,x)::r=>if g=f then(g,v)::r else(g,x)::iq f v r
theorem Lk (f g:aK)(v:V):∀fs:List (aK×V),(iq f v fs).lookup g=if g=f then some v else fs.lookup g
 |[]=>by
  show eu g [(f,v)]=_
  by_cases h:g=f
  ·have hb:(g==f)=true:=beq_iff_eq.mpr h
   simp only[eu,hb,if_pos h]
  ·have hb:(g==f)=false:=beq_eq_false_iff_ne.mpr h
   simp only[eu,hb,if_neg h]
 |(k,x)::r=>by
  have ih:=Lk f g v r
  rw[show iq f v ((k,x)::r)=(if k=f then(k,v)::r else(k,x)::iq f v r)from rfl]
  by_cases hk:k=f
  ·rw[if_pos hk]
   by_cases h:g=k
   ·have hb:(g==k)=true:=beq_iff_eq.mpr h
    simp only[eu,hb,if_pos (h.trans hk)]
   ·have hb:(g==k)=false:=beq_eq_false_iff_ne.mpr h
    simp only[eu,hb,if_neg (λe:g=f=>h (e.trans hk.symm))]
  ·rw[if_neg hk]
   by_cases h:g=k
   ·have hb:(g==k)=true:=beq_iff_eq.mpr h
    simp only[eu,hb,if_neg (λe:g=f=>hk (h.symm.trans e))]
   ·have hb:(g==k)=false:=beq_eq_false_iff_ne.mpr h
    simp only[eu,hb]
    exact ih
theorem Iy (f:aK)(v:V):∀fs:List (aK×V),f∈(iq f v fs).map (·.1)/\∀g,g∈fs.map (·.1)->g∈(iq f v fs).map (·.1)
 |[]=>⟨by simp[iq],λg h=>by simp at h⟩
 |(k,x)::r=>by
  obtain⟨i1,i2⟩:=Iy f v r
  rw[show iq f v ((k,x)::r)=(if k=f then(k,v)::r else(k,x)::iq f v r)from rfl]
  by_cases hk:k=f
  ·rw[if_pos hk]
   subst hk
   exact⟨by simp,λg h=>by simpa using h⟩
  ·rw[if_neg hk]
   refine⟨?_,λg h=>?_⟩
   ·rw[bq]
    exact ao _ i1
   ·rw[bq]at h ⊢
    rcases az.mp h with e|e
    ·exact az.mpr (.inl e)
    ·exact ao _ (i2 g e)
theorem Ll (f:aK)(v:V):∀fs:List (aK×V),(iq f v fs).length<=fs.length+1
 |[]=>by simp[iq]
 |(k,x)::r=>by
  have ih:=Ll f v r
  rw[show iq f v ((k,x)::r)=(if k=f then(k,v)::r else(k,x)::iq f v r)from rfl]
  by_cases hk:k=f
  ·rw[if_pos hk,aB,aB];omega
  ·rw[if_neg hk,aB,aB];omega
theorem iZ.some_of {v:V}{o:Option aa}(r:iZ (some v) o):∃u,o=some u/\RelV v u:=by
 cases o with
 |none=>exact(show False from r).elim
 |some u=>exact⟨u,rfl,r⟩
theorem iZ.none_of {o:Option aa}(r:iZ none o):o=none:=by
 cases o with
 |none=>rfl
 |some u=>exact(show False from r).elim
theorem LM {v:V}{u:aa}(r:RelV v u):kr u=true:=by
 cases v with
 |non=>cases(show u=aa.none from r);rfl
 |bl b=>cases(show u=aa.bool b from r);rfl
 |int i=>obtain⟨t,e⟩:=(show∃t,u=aa.int i t from r);cases e;rfl
 |str x=>obtain⟨t,e⟩:=(show∃t,u=aa.str x t from r);cases e;rfl
 |byt b=>obtain⟨t,e⟩:=(show∃t,u=aa.bytes b t from r);cases e;rfl
 |flt b=>obtain⟨t,e⟩:=(show∃t,u=aa.float b t from r);cases e;rfl
 |ref a=>cases(show u=aa.ref a from r);rfl
 |ty n=>cases(show u=aa.type n from r);rfl
section
variable {P:aT}{w:bt}{H H':Hp}{h h':aE}{a C dx:af}{fs OA:List (aK×V)}
theorem Fe (hok:jL P w H h)(e:H a=some (.ins C dx fs)):∃mA,oC h a dx C mA/\(∀f,iZ (fs.lookup f) (mA f))/\PySem.Within mA (fs.map (·.1))/\fs.length<=1000/\H dx=some (.own a):=by
 obtain⟨d,z,ne,ob,mA,n,r,q⟩:=(show dF P w H h a (.ins C dx fs)from hok a _ e)
 exact⟨mA,⟨ob,n,ne⟩,r,q,z,d⟩
end
structure kP (K:ae)(C:af):Prop where
 pg:cE K C aK.empty=true
 hd:bv K C=true
 po:cR K C=true
 sa:aj K (.ref C) "__setattr__"=some (some (.builtin "object.__setattr__"))
theorem kP.get {K:ae}{C:af}(c:kP K C)(f:aK):cE K C f=true:=c.pg
def ej (K:ae)(C:af)(f:aK):Prop:=aj K (.ref C) f=some none
theorem ej.taker {K:ae}{C:af}{f:aK}(n:ej K C f):dv K C f=some none:=by
 unfold dv
 rw[show aj K (.ref C) f=some none from n]
 rfl
structure oB (K:ae)(C:af)(m:aK)(f:af):Prop where
 at_:aj K (.ref C) m=some (some (.ref f))
 fn:bP K (.ref f)=true
 kp:ar K (.ref f)=true
section
variable {X:Cx}{ah:List (af×cu)}{σ:St}{H:Hp}{s:ai}{a C dx:af}{fs:List (aK×V)}{f:aK}{v:V}{A:bi}{E:aa->ai->Prop}
theorem Sq {b:Bool}{Q:aa->ai->Prop}(I:Inv X ah σ H s)(e:H a=some (.ins C dx fs))(c:kP X.K C)(n:ej X.K C f)(l:fs.lookup f=some v)
  (h:∀u s',Inv X ah σ H s'->RelV v u->Q u s'):aN (aA X.prog X.w) A (getAttr (.ref a) f b) Q E s:=by
 obtain⟨mA,O,r,_,_,_⟩:=Fe I.hok e
 obtain⟨u,hu,ru⟩:=iZ.some_of (v:=v) (o:=mA f) (by rw[←l];exact r f)
 exact UV I.kIn O (c.get f) c.hd n hu (LM ru) (h u _ (I.tok _) ru)
theorem qv {m:aK}{g:af}{pl:gU Bool}{Q:aa×List aa->ai->Prop}(I:Inv X ah σ H s)(e:H a=some (.ins C dx fs))(c:kP X.K C)(k:oB X.K C m g)(l:fs.lookup m=none)
  (h:Q (.ref g,[.ref a]) s):aN (aA X.prog X.w) A (fG (.ref a) m pl) Q E s:=by
 obtain⟨mA,O,r,_,_,_⟩:=Fe I.hok e
 have hn:mA m=none:=iZ.none_of (by rw[←l];exact r m)
 exact Te I.kIn O (c.get m) k.at_ k.fn hn h
theorem Sr {y:V}{u:aa}{Q:Unit->ai->Prop}(I:Inv X ah σ H s)(e:H a=some (.ins C dx fs))(c:kP X.K C)(n:ej X.K C f)(hl:fs.length<1000)(ry:RelV y u)
  (h:∀s',Inv X ah σ (upd H a (.ins C dx (iq f y fs))) s'->Q () s'):aN (aA X.prog X.w) A (setAttr (.ref a) f u) Q E s:=by
 obtain⟨mA,O,r,wi,_,ho⟩:=Fe I.hok e
 have hz:(fs.map (·.1)).length<=sizeLine:=by rw[aM,bu];omega
 refine UW I.kIn O c.sa c.po n.taker c.hd wi hz λh' O' sb=>h _ ?_
 have hd:∃o,h'.get? dx=some o:=let⟨o,_,_,e',_⟩:=O'.ns;⟨o,e'⟩
 refine I.write (x:=a) (e:=dx) (by rw[e];exact True.intro) (.inr ho) (λb q hb z=>(sb.2 b hb).trans z) hd ?_
 refine⟨by rw[zg O.ne];exact ho,?_,O.ne,O'.obj,_,O'.ns,λg=>?_,λg hg=>?_⟩
 ·have:=Ll f y fs;omega
 ·show iZ ((iq f y fs).lookup g) (if g=f then some u else mA g)
  rw[Lk]
  by_cases q:g=f
  ·rw[if_pos q,if_pos q];exact ry
  ·rw[if_neg q,if_neg q];exact r g
 ·by_cases q:g=f
  ·rw[q];exact(Iy f y fs).1
  ·refine(Iy f y fs).2 g (wi g λz=>hg ?_)
   show(if g=f then some u else mA g)=none
   rw[if_neg q];exact z
theorem Inv.made (I:Inv X ah σ H s):Inv X ah σ (upd (upd H s.heap.objs.size (.own (s.heap.objs.size+1))) (s.heap.objs.size+1) (.ins C s.heap.objs.size []))
  { s with heap:=(s.heap.push cH).push (dr C s.heap.objs.size) }:=by
 have e1:(s.heap.push cH).get? s.heap.objs.size=some cH:=br s.heap rfl
 have e2:((s.heap.push cH).push (dr C s.heap.objs.size)).get? (s.heap.objs.size+1)=some (dr C s.heap.objs.size):=by
  have:=br (s.heap.push cH) (o:=dr C s.heap.objs.size) rfl
  rwa[dO]at this
 have e3:(s.heap.push cH).Ns s.heap.objs.size (λ_=>none):=⟨cH,#[],_,e1,rfl,(λe he=>absurd he (by simp)),λ_=>rfl⟩
 have I1:=I.laid (a:=s.heap.objs.size) (o:=.own (s.heap.objs.size+1)) (h':=s.heap.push cH) (t':=s.toks) (λb u q=>aq _ q) (aH _) ⟨_,e1⟩
 refine I1.laid (a:=s.heap.objs.size+1) (o:=.ins C s.heap.objs.size []) (t':=s.toks) (λb u q=>aq _ q) (kI (dO _ _)) ?_
 have ne:s.heap.objs.size≠s.heap.objs.size+1:=aY (hX _)
 refine⟨by rw[zg ne,zm],dh _,ne,e2,λ_=>none,(aE.Ns1.of_empty e3).at λo q=>aq _ q,λ_=>True.intro,λy hy=>absurd rfl hy⟩
theorem MG {prog:aT}{w:bt}{env:Env}{e:Expr}{f:aK}{pos:cy}{s:ai}{Q:aa->ai->Prop}(hb:dP e f env (bB e env)=bB e env)
  (h:aN (aA prog w) A (bB e env) (λo s₁=>aN (aA prog w) A (getAttr o f true) Q E s₁) E s):aN (aA prog w) A (bB (.Attribute e f pos) env) Q E s :=
 Attribute_any_ h (by rw[arm_eval_Attribute,hb])
end
def Ii (K:ae)(ta:TE)(f:aK):TE:=λσ H Q=>ta σ H λx H1=>∃a C dx fs v,x=.ref a/\H1 a=some (.ins C dx fs)/\kP K C/\ej K C f/\fs.lookup f=some v/\Q v H1
def HZ (K:ae)(ta tv:TE)(f:aK):TS:=λD σ H=>tv σ H λy H1=>ta σ H1 λx H2=>∃a C dx fs,x=.ref a/\H2 a=some (.ins C dx fs)/\kP K C/\ej K C f/\fs.length<1000 /\
 D.nx σ (upd H2 a (.ins C dx (iq f y fs)))
section
variable {X:Cx}{o e value:Expr}{f:aK}{pos pos' i9:cy}{ta tv:TE}
theorem WE (he:PE X e ta)(hb:dP e f X.env (bB e X.env)=bB e X.env):PE X (.Attribute e f pos) (Ii X.K ta f):=by
 intro ah s σ H Q I h
 refine MG hb (cO (he ah s σ H _ I h) λu s1 cS=>?_)
 obtain⟨x,H1,I1,rx,a,C,dx,fs,v,ex,ea,c,n,l,q⟩:=cS
 subst ex
 obtain rfl:u=aa.ref a:=rx
 exact Sq I1 ea c n l λu' s2 I2 ru=>⟨v,H1,I2,ru,q⟩
theorem WF (ha:PE X o ta)(hv:PE X value tv)(hs:dI value (some (.Attribute o f pos')) pos.line X.env=pure false):PS X (.Assign [.Attribute o f pos'] value pos) (HZ X.K ta tv f):=by
 intro ah s σ H D I h
 refine plainObj_wpAny_Assign_Attribute (cO (hv ah s σ H _ I h) λu s1 ⟨y,H1,I1,ry,q⟩=>cO (ha ah s1 σ H1 _ I1 q) λov s2 ⟨x,H2,I2,rx,a,C,dx,fs,ex,ea,c,n,l,q2⟩=>?_) hs
 subst ex
 obtain rfl:ov=aa.ref a:=rx
 exact Sr I2 ea c n l ry λs3 I3=>⟨σ,_,I3,q2⟩
def xP:V->V->Hp->VK->Prop:=λx y H Q=>∃i j,x=.int i/\y=.int j/\Q (.int (i+j)) H
theorem Y7 {pl:gU Bool}{m:aK}{cN:cy}{args:List Expr}{ah:List (af×cu)}{s:ai}{σ:St}{H:Hp}{Q:aa->ai->Prop}{te:TE}(he:PE X e te)(I:Inv X ah σ H s)
  (h:te σ H λx H1=>∃a C dx fs g,x=.ref a/\H1 a=some (.ins C dx fs)/\kP X.K C/\oB X.K C m g/\fs.lookup m=none /\
   ∀s1,Inv X ah σ H1 s1->aN (aA X.prog X.w) X.A (gX pos (.ref g) [.ref a] (bZ pos (ap args X.env)) (eK pos (dc [] X.env))) Q X.xe s1)
  (ht:bB (.Call (.Attribute e m cN) args [] pos) X.env=(do
   let ov ← bB e X.env
   eQ cN.atName
   let(f,first) ← dD [ov] (fG ov m pl)
   gX pos f first (bZ pos (ap args X.env)) (eK pos (dc [] X.env)))) :
  aN (aA X.prog X.w) X.A (bB (.Call (.Attribute e m cN) args [] pos) X.env) Q X.xe s:=by
 refine dZ (pl:=pl) (cO (he ah s σ H _ I h) λu s1 ⟨x,H1,I1,rx,a,C,dx,fs,g,ex,ea,c,k,l,q⟩=>?_) ht
 subst ex
 obtain rfl:u=aa.ref a:=rx
 exact qv I1 ea c k l (q s1 I1)
end
section
variable {X:Cx}{ah:List (af×cu)}{σ:St}{H:Hp}{s:ai}{A:bi}{E:aa->ai->Prop}{Q:aa->ai->Prop}{c:aa}{b:Bool}
inductive jN (K:ae)(H:Hp):V->aa->Prop where
 |non:jN K H .non (.type "NoneType")
 |bl (x:Bool):jN K H (.bl x) (.type "bool")
 |int (i:Int):jN K H (.int i) (.type "int")
 |str (x:aK):jN K H (.str x) (.type "str")
 |flt (x:UInt64):jN K H (.flt x) (.type "float")
 |lst {a:af} {xs:List V} (e:H a=some (.lst xs)):jN K H (.ref a) (.type "list")
 |frz {a:af} {o:cu} {xs:List V} (e:H a=some (.frz o (.lst xs))):jN K H (.ref a) (.type "list")
 |tup {a:af} {xs:List V} (e:H a=some (.tup xs)):jN K H (.ref a) (.type "tuple")
 |dK {a:af} {cq:List (eA×V)} (e:H a=some (.dK cq)):jN K H (.ref a) (.type "dict")
 |dT {a:af} {cq:List (List eA×V)} (e:H a=some (.dT cq)):jN K H (.ref a) (.type "dict")
 |ins {a C dx:af} {fs:List (aK×V)} (e:H a=some (.ins C dx fs)) (cl:kP K C) (ha:aj K (.ref C) "__class__"=some (some (.builtin "object.__class__")))
   (hn:bK K (.builtin "object.__class__") "__get__"=some (some (.builtin "getset_descriptor.__get__"))) (EE:fV K (.builtin "object.__class__")=some true)
   (hm:bp K C (.type "object")=some true):jN K H (.ref a) (.ref C)
theorem LN {x:V}{u t:aa}(I:Inv X ah σ H s)(rx:RelV x u)(ty:jN X.K H x t)(e:aO X.K t c=some b)(h:∀tk,Q (.bool b) { s with toks:=tk }) :
  aN (aA X.prog X.w) A (call (.builtin "isinstance") [u,c]) Q E s:=by
 cases ty with
 |non=>cases(show u=aa.none from rx);exact bV jT I.kIn True.intro e (λz=>nomatch z) h
 |bl y=>cases(show u=aa.bool y from rx);exact bV PySem.W.kitx_bool I.kIn True.intro e (λz=>nomatch z) h
 |int i=>obtain⟨t,q⟩:=(show∃t,u=aa.int i t from rx);cases q;exact bV PySem.W.kitx_int I.kIn True.intro e (λz=>nomatch z) h
 |str y=>obtain⟨t,q⟩:=(show∃t,u=aa.str y t from rx);cases q;exact bV PySem.W.kitx_str I.kIn True.intro e (λz=>nomatch z) h
 |flt y=>obtain⟨t,q⟩:=(show∃t,u=aa.float y t from rx);cases q;exact bV PySem.W.kitx_float I.kIn True.intro e (λz=>nomatch z) h
 |@lst a xs ea=>
  cases(show u=aa.ref a from rx)
  obtain⟨_,_,n,_,h1⟩:=(show dF X.prog X.w H s.heap a (.lst xs)from I.hok a _ ea)
  exact bV jS I.kIn ⟨_,h1,rfl⟩ e (λz=>nomatch z) h
 |@frz a ob xs ea=>
  cases(show u=aa.ref a from rx)
  obtain⟨_,_,_,n,_,h1⟩:=(show dF X.prog X.w H s.heap a (.frz ob (.lst xs))from I.hok a _ ea)
  exact bV jS I.kIn ⟨_,h1,rfl⟩ e (λz=>nomatch z) h
 |@tup a xs ea=>
  cases(show u=aa.ref a from rx)
  obtain⟨_,_,_,p⟩:=(show dF X.prog X.w H s.heap a (.tup xs)from I.hok a _ ea)
  obtain⟨o,h1,h2,_⟩:=p
  exact bV PySem.W.kitx_tuple I.kIn ⟨o,h1,h2⟩ e (λz=>nomatch z) h
 |@dK a cq ea=>
  cases(show u=aa.ref a from rx)
  obtain⟨_,_,vs,_,p⟩:=(show dF X.prog X.w H s.heap a (.dK cq)from I.hok a _ ea)
  obtain⟨o,es,ep,h1,h2,_⟩:=p
  exact bV oi I.kIn ⟨o,h1,h2.1⟩ e (λz=>nomatch z) h
 |@dT a cq ea=>
  cases(show u=aa.ref a from rx)
  obtain⟨_,_,xs,_,o,es,ep,h1,h2,_⟩:=(show dF X.prog X.w H s.heap a (.dT cq)from I.hok a _ ea)
  exact bV oi I.kIn ⟨o,h1,h2.1⟩ e (λz=>nomatch z) h
 |@ins a C dx fs ea cl ha hn EE hm=>
  cases(show u=aa.ref a from rx)
  obtain⟨mA,O,_⟩:=Fe I.hok ea
  obtain⟨od,J,_⟩:=O.look
  exact bV (PySem.W.kitx_own (cl.get _) cl.hd ha hn EE hm) I.kIn J e (λz=>nomatch z) h
end
end L2
namespace L2
open PySem PySem.Spec PyProof.Rows
structure dw (k:Nat)(A:bi):Prop where
 hd:A.handled=none
 dp:A.depth+3*k+5<recursionLimit
 un:A.units+16*k+200<gW
 gd:A.guards=some []
theorem dw.mono {j k:Nat}{A:bi}(r:dw k A)(h:j<=k):dw j A:=⟨r.hd,by have:=r.dp;omega,by have:=r.un;omega,r.gd⟩
theorem dw.deeper {k:Nat}{A:bi}(r:dw (k+1) A)(env:Env):dw k (A.deeper env) :=
 ⟨r.hd,by have:=r.dp;show A.depth+1+3*k+5<_;omega,by have:=r.un;show A.units+3+16*k+200<_;omega,r.gd⟩
theorem Ss {A:bi}{C:af}{us:List aa}{kw:List (aK×aa)}:(A.under (.builtin "type.__call__" ⟨.ref C::us,kw⟩)).depth=A.depth+1:=by
 first|rfl|simp[bi.under,mJ.weight,mJ.isCreation,mJ.isGuard,mJ.isCaller,mJ.frames,mJ.isFrame,guardIds]
theorem Su {A:bi}{C:af}{us:List aa}{kw:List (aK×aa)}:(A.under (.builtin "type.__call__" ⟨.ref C::us,kw⟩)).units=A.units+1:=by
 first|rfl|simp[bi.under,mJ.cUnits,mJ.frames,mJ.isFrame]
theorem R5 {A:bi}{C:af}{us:List aa}{kw:List (aK×aa)}:(A.under (.builtin "type.__call__" ⟨.ref C::us,kw⟩)).guards=A.guards:=by
 first|rfl|simp[bi.under,mJ.guards,mJ.isGuard,guardIds,pushGuards]
theorem dw.make {k:Nat}{A:bi}(r:dw (k+1) A)(C:af)(us:List aa)(kw:List (aK×aa)):dw k (A.under (.builtin "type.__call__" ⟨.ref C::us,kw⟩)) :=
 ⟨r.hd,by have:=r.dp;rw[Ss];omega,by have:=r.un;rw[Su];omega,by rw[R5];exact r.gd⟩
theorem dw.depth {k:Nat}{A:bi}(r:dw k A):A.depth<recursionLimit:=by have:=r.dp;omega
theorem dw.units {k:Nat}{A:bi}(r:dw k A):A.units+64<gW:=by have:=r.un;omega
def DB:TA:=λ_ H Q=>Q [] H
def Dy (ta:TE)(tr:TA):TA:=λσ H Q=>ta σ H λx H1=>tr σ H1 λxs H2=>Q (x::xs) H2
section
variable {X:Cx}{e:Expr}{es:List Expr}{te:TE}{t:TA}{pos:cy}
theorem uw:PA X [] DB:=λ_ _ _ _ H Q I h=>Calls.spliced_nil ⟨[],H,I,.nil,h⟩
theorem xn (ha:PE X e te)(hr:PA X es t)(hs:ap (e::es) X.env=(false,bB e X.env)::ap es X.env:=by rfl):PA X (e::es) (Dy te t):=by
 intro pos ah s σ H Q I h
 rw[hs]
 show aN _ _ (spliced ((false,bB e X.env)::bZ pos (ap es X.env))) _ _ s
 refine Calls.spliced_cons (cO (ha ah s σ H _ I h) λu s1 cS=>?_)
 obtain⟨x,H1,I1,r1,q1⟩:=cS
 exact cO (hr pos ah s1 σ H1 _ I1 q1) λus s2 ⟨xs,H2,I2,r2,q2⟩=>⟨x::xs,H2,I2,.cons r1 r2,q2⟩
def Iq (t:TA):TE:=λσ H Q=>t σ H λxs H1=>xs.length<=sizeLine/\∀p,H1 p=none->Q (.ref p) (upd H1 p (.tup xs))
def Il (t:TA):TE:=λσ H Q=>t σ H λxs H1=>xs.length<=sizeLine/\∀p,H1 p=none->Q (.ref p) (upd H1 p (.lst xs))
theorem Nj {x1}(h:PA X es t):PE X (.Tuple es x1 pos) (Iq t):=by
 intro ah s σ H Q I hq
 refine wpAny_Tuple_spliced (cO (h pos ah s σ H _ I hq) λus s1 ⟨xs,H1,I1,r,z,q⟩=>⟨by rw[←r.length];exact z,?_⟩)
 have hf:H1 s1.heap.objs.size=none:=I1.hok.fresh (aH _)
 refine⟨.ref s1.heap.objs.size,upd H1 s1.heap.objs.size (.tup xs),I1.laid (t':=s1.toks) (λb u e=>aq _ e) (aH _) ?_,rfl,q _ hf⟩
 exact⟨z,us,r,⟨_,br _ rfl,rfl,_,rfl⟩⟩
theorem WG (h:PA X es t):PE X (.List es pos) (Il t):=by
 intro ah s σ H Q I hq
 refine wpAny_List_spliced (cO (h pos ah s σ H _ I hq) λus s1 ⟨xs,H1,I1,r,z,q⟩=>⟨by rw[←r.length];exact z,?_⟩)
 have hf:H1 s1.heap.objs.size=none:=I1.hok.fresh (aH _)
 refine⟨.ref s1.heap.objs.size,upd H1 s1.heap.objs.size (.lst xs),I1.laid (t':=s1.toks) (λb u e=>aq _ e) (aH _) ?_,rfl,q _ hf⟩
 exact⟨z,us,0,r,br _ rfl⟩
end
abbrev Sp:=List V->Hp->VK->XK->Prop
abbrev pJ:=List Env->Hp->ai->XK->aa->ai->Prop
structure oq (P:aT)(w:bt)(K:ae)(mg:aK->Option aa)(base:aE)(A:bi)(outer:List Env)(s:ai)(H:Hp):Prop where
 frames:A.frames=some outer
 mod:Mod K mg base
 bs:∀b o,base.get? b=some o->s.heap.get? b=some o/\H b=none
 bsz:base.objs.size<=s.heap.objs.size
 funs:s.heap.FunFrames base outer
 frf:∀b∈qK outer,H b=none
 hok:jL P w H s.heap
 bare:AllBare s.gens
def CE (outer:List Env)(P:aT)(w:bt)(H:Hp)(s:ai)(Q:VK)(u:aa)(s':ai):Prop :=
 ∃v H',s'.os=s.os/\AllBare s'.gens/\Un (qK outer) [] H H' s.heap s'.heap/\jL P w H' s'.heap/\RelV v u/\Q v H'
def CR (CX:pJ)(outer:List Env)(P:aT)(w:bt)(H:Hp)(s:ai)(Q:VK)(E:XK)(r:Result)(s':ai):Prop :=
 match r with
 |.ok (.ret u)=>CE outer P w H s Q u s'
 |.ok _=>False
 |.error e=>CX outer H s E e s'
structure cB (P:aT)(w:bt)(K:ae)(mg:aK->Option aa)(base:aE)(CX:pJ)(k:Nat)(f:af)(fd:aP)(ps:List aK)(sp:Sp):Prop where
 len:∀vs H Q E,sp vs H Q E->vs.length=ps.length
 run:∀(A:bi) (outer:List Env) (s:ai) (H:Hp) (args:Args) (us:List aa) (vs:List V) (Q:VK) (E:XK),dw k A->oq P w K mg base A outer s H->nz s fd args (ps.zip us)->bR vs us->sp vs H Q E ->
  eF (aA P w) A (.call (.ref f) args) (CR CX outer P w H s Q E) s
theorem oq.make {P:aT}{w:bt}{K:ae}{mg:aK->Option aa}{base:aE}{A:bi}{outer:List Env}{s:ai}{H:Hp}(e:oq P w K mg base A outer s H)(C:af)(us:List aa)(kw:List (aK×aa)) :
  oq P w K mg base (A.under (.builtin "type.__call__" ⟨.ref C::us,kw⟩)) outer s H:=⟨by first|exact e.frames|(simpa[bi.under,mJ.envs,mJ.isFrame,pushEnvs]using e.frames),e.mod,e.bs,e.bsz,e.funs,e.frf,e.hok,e.bare⟩
section
variable {X:Cx}{ah:List (af×cu)}{σ:St}{H:Hp}{s s':ai}
theorem Inv.env0 (I:Inv X ah σ H s):oq X.prog X.w X.K X.mg X.base X.A X.stack s H :=
 ⟨I.ok.frames,I.ok.mod,I.bs,bH I.ok.bsz I.sz,I.stack,I.stkFree,I.hok,I.bare⟩
theorem Inv.after {Q:VK}{u:aa}(I:Inv X ah σ H s)(h:CE X.stack X.prog X.w H s Q u s'):EP X ah σ Q u s':=by
 obtain⟨v,H',os,bare,un,hok,r,q⟩:=h
 obtain⟨hh,g,d,t,KP⟩:=s'
 obtain rfl:KP=s.os:=os
 exact⟨v,H',I.call (h':=hh) (g':=g) (d':=d) (t':=t) (ch:=[]) un hok bare (λb z=>absurd z (by simp)),r,q⟩
end
def uP (sp:Sp)(gp:List V)(E:XK)(t:TA):TE:=λσ H Q=>t σ H λvs H1=>sp (vs++gp) H1 Q E
def uR (C:af)(m:aK)(sp:Sp)(gp:List V)(E:XK)(ta:TE)(t:TA):TE:=λσ H Q=>ta σ H λx H1=>∃a dx fs,x=.ref a/\H1 a=some (.ins C dx fs)/\fs.lookup m=none /\
 t σ H1 λvs H2=>sp (x::(vs++gp)) H2 Q E
def Dz (C:af)(sp:Sp)(gp:List V)(E:XK)(t:TA):TE:=λσ H Q=>t σ H λvs H1=>∀x dx,H1 x=none->H1 dx=none->dx≠x ->
 sp (.ref x::(vs++gp)) (upd (upd H1 dx (.own x)) x (.ins C dx [])) (λv H2=>v=.non/\Q (.ref x) H2) E
def bO (K:ae)(fd:aP)(ps:List aK)(ds:List aa):Prop :=
 ∀(s:ai) (us:List aa),K.In s.heap->(us++ds).length=ps.length->nz s fd ⟨us,[]⟩ (ps.zip (us++ds))
theorem bO.all {K:ae}{fd:aP}{ps:List aK}(h:∀us:List aa,us.length=ps.length->bindArgs fd ⟨us,[]⟩=pure (ps.zip us)):bO K fd ps []:=λs us _ hl=>by
 rw[bX]at hl ⊢
 exact .of_eq (h us hl)
def iz (CX:pJ)(X:Cx)(E:XK):Prop:=∀(ah:List (af×cu)) (σ:St) (H:Hp) (s:ai) (e:aa) (s':ai),Inv X ah σ H s->CX X.stack H s E e s'->X.xe e s'
section
variable {X:Cx}{CX:pJ}{k:Nat}{f C:af}{fd:aP}{ps:List aK}{sp:Sp}{gp:List V}{ds:List aa}{E:XK}{x m:aK}{p pos cN:cy}{e o:Expr}{es:List Expr}{ta:TE}{t:TA}
theorem Fj {ah:List (af×cu)}{σ:St}{H:Hp}{s:ai}{Q:VK}{us:List aa}{vs:List V}(F:cB X.prog X.w X.K X.mg X.base CX k f fd ps sp)(hr:dw k X.A)(hb:bO X.K fd ps ds)(hd:bR gp ds)(hx:iz CX X E)
  (I:Inv X ah σ H s) (r:bR vs us) (h:sp (vs++gp) H Q E):aN (aA X.prog X.w) X.A (call (.ref f) us) (EP X ah σ Q) X.xe s:=by
 have r2:bR (vs++gp) (us++ds):=r.append hd
 have hl:(us++ds).length=ps.length:=by rw[←r2.length];exact F.len _ _ _ _ h
 refine wpAny_call (fU (F.run X.A X.stack s H ⟨us,[]⟩ (us++ds) (vs++gp) Q E hr I.env0 (hb s us I.kIn hl) r2 h) λr s' hq=>?_)
 cases r with
 |error e=>exact hx ah σ H s e s' I hq
 |ok fl=>
  cases fl with
  |ret u=>exact I.after hq
  |next=>exact False.elim hq
  |brk=>exact False.elim hq
  |cont=>exact False.elim hq
theorem UX (F:cB X.prog X.w X.K X.mg X.base CX k f fd ps sp)(hr:dw k X.A)(hg:Gl X x)(hm:X.mg x=some (.ref f))(hk:ar X.K (.ref f)=true)(hb:bO X.K fd ps ds)(hd:bR gp ds)(hx:iz CX X E)
  (ha:PA X (e::es) t) (iB:(x==("__debug__":aK))=false:=by decide) (he:ap (e::es) X.env=(false,bB e X.env)::ap es X.env:=by rfl) (el:(bZ pos (ap es X.env)).any (·.1)=false:=by rfl) :
  PE X (.Call (.Name x p) (e::es) [] pos) (uP sp gp E t):=by
 intro ah s σ H Q I h
 refine dA (u5 I hg hm ?_ iB)
 refine dQ (h₀:=X.base) I.ok.mod.kin hk (cO (ha pos ah s σ H _ I h) λus s1 ⟨vs,H1,I1,r,q⟩=>⟨I1.kIn,?_⟩) he el
 exact Fj F hr hb hd hx I1 r q
theorem UY {pl:gU Bool}(he:PE X o ta)(c:kP X.K C)(hm:oB X.K C m f)(F:cB X.prog X.w X.K X.mg X.base CX k f fd ps sp)(hr:dw k X.A)(hb:bO X.K fd ps ds)(hd:bR gp ds)(hx:iz CX X E)(ha:PA X (e::es) t)
  (iR:ap (e::es) X.env=(false,bB e X.env)::ap es X.env:=by rfl) (el:(bZ pos (ap es X.env)).any (·.1)=false:=by rfl)
  (ht:bB (.Call (.Attribute o m cN) (e::es) [] pos) X.env=(do
   let ov ← bB o X.env
   eQ cN.atName
   let(f,first) ← dD [ov] (fG ov m pl)
   gX pos f first (bZ pos (ap (e::es) X.env)) (eK pos (dc [] X.env))):=by rfl) :
  PE X (.Call (.Attribute o m cN) (e::es) [] pos) (uR C m sp gp E ta t):=by
 intro ah s σ H Q I h
 refine dZ (pl:=pl) (cO (he ah s σ H _ I h) λu s1 ⟨x,H1,I1,rx,a,dx,fs,ex,ea,l,q⟩=>?_) ht
 subst ex
 obtain rfl:u=aa.ref a:=rx
 refine qv I1 ea c hm l ?_
 refine dQ (first:=[.ref a]) (h₀:=X.base) I.ok.mod.kin hm.kp (cO (ha pos ah s1 σ H1 _ I1 q) λus s2 ⟨vs,H2,I2,r,q2⟩=>⟨I2.kIn,?_⟩) iR el
 exact Fj (us:=.ref a::us) (vs:=.ref a::vs) F hr hb hd hx I2 (.cons rfl r) q2
theorem Tg {pl:gU Bool}(he:PE X o ta)(c:kP X.K C)(hm:oB X.K C m f)(F:cB X.prog X.w X.K X.mg X.base CX k f fd ps sp)(hr:dw k X.A)(hb:bO X.K fd ps ds)(hd:bR gp ds)(hx:iz CX X E)
  (ht:bB (.Call (.Attribute o m cN) [] [] pos) X.env=(do
   let ov ← bB o X.env
   eQ cN.atName
   let(f,first) ← dD [ov] (fG ov m pl)
   gX pos f first (bZ pos (ap [] X.env)) (eK pos (dc [] X.env))):=by rfl) :
  PE X (.Call (.Attribute o m cN) [] [] pos) (uR C m sp gp E ta DB):=by
 intro ah s σ H Q I h
 refine dZ (pl:=pl) (cO (he ah s σ H _ I h) λu s1 ⟨x,H1,I1,rx,a,dx,fs,ex,ea,l,q⟩=>?_) ht
 subst ex
 obtain rfl:u=aa.ref a:=rx
 refine qv I1 ea c hm l ?_
 exact PySem.W.callWith_K0 (first:=[.ref a]) I1.kIn hm.kp (Fj (us:=[.ref a]) (vs:=[.ref a]) F hr hb hd hx I1 (.cons rfl .nil) q)
structure Mk (K:ae)(C f:af):Prop where
 makes:cW K C=true
 init:aj K (.ref C) "__init__"=some (some (.ref f))
 fn:bP K (.ref f)=true
 kp:ar K (.ref C)=true
theorem Th {ah:List (af×cu)}{σ:St}{H:Hp}{s:ai}{Q:VK}{us:List aa}{vs:List V}(M:Mk X.K C f)(F:cB X.prog X.w X.K X.mg X.base CX k f fd ps sp)(hr:dw (k+1) X.A)(hb:bO X.K fd ps ds)(hd:bR gp ds)
  (hx:iz CX X E) (I:Inv X ah σ H s) (r:bR vs us)
  (h:∀x dx,H x=none->H dx=none->dx≠x->sp (.ref x::(vs++gp)) (upd (upd H dx (.own x)) x (.ins C dx [])) (λv H2=>v=.non/\Q (.ref x) H2) E) :
  aN (aA X.prog X.w) X.A (call (.ref C) us) (EP X ah σ Q) X.xe s:=by
 have hq:=h (s.heap.objs.size+1) s.heap.objs.size (I.hok.fresh (eY _)) (I.hok.fresh (aH _)) (aY (hX _))
 have I2:=Inv.made (C:=C) I
 have r2:bR (V.ref (s.heap.objs.size+1)::(vs++gp)) (aa.ref (s.heap.objs.size+1)::(us++ds)):=.cons rfl (r.append hd)
 have hl:(aa.ref (s.heap.objs.size+1)::us++ds).length=ps.length:=by
  have e:=r2.length
  rw[F.len _ _ _ _ hq]at e
  exact e.symm
 refine wpAny_call (Tf (f:=f) I.kIn M.makes M.init (beq_iff_eq.mp M.fn) (fU (F.run _ X.stack _ _ ⟨aa.ref (s.heap.objs.size+1)::us,[]⟩ (aa.ref (s.heap.objs.size+1)::(us++ds)) _ _ E (hr.make C us [])
  (I2.env0.make C us []) (hb _ (aa.ref (s.heap.objs.size+1)::us) I2.kIn hl) r2 hq) λr s' rG=>?_))
 cases r with
 |error e=>exact hx ah σ _ _ e s' I2 rG
 |ok fl=>
  cases fl with
  |ret u=>
   obtain⟨v,H',I3,rv,ev,q3⟩:=I2.after rG
   subst ev
   exact⟨rv,⟨V.ref (s.heap.objs.size+1),H',I3,rfl,q3⟩⟩
  |next=>exact False.elim rG
  |brk=>exact False.elim rG
  |cont=>exact False.elim rG
theorem UZ (M:Mk X.K C f)(F:cB X.prog X.w X.K X.mg X.base CX k f fd ps sp)(hr:dw (k+1) X.A)(hg:Gl X x)(hm:X.mg x=some (.ref C))(hb:bO X.K fd ps ds)(hd:bR gp ds)(hx:iz CX X E)
  (ha:PA X (e::es) t) (iB:(x==("__debug__":aK))=false:=by decide) (he:ap (e::es) X.env=(false,bB e X.env)::ap es X.env:=by rfl) (el:(bZ pos (ap es X.env)).any (·.1)=false:=by rfl) :
  PE X (.Call (.Name x p) (e::es) [] pos) (Dz C sp gp E t):=by
 intro ah s σ H Q I h
 refine dA (u5 I hg hm ?_ iB)
 refine dQ (h₀:=X.base) I.ok.mod.kin M.kp (cO (ha pos ah s σ H _ I h) λus s1 ⟨vs,H1,I1,r,q⟩=>⟨I1.kIn,?_⟩) he el
 exact Th M F hr hb hd hx I1 r q
end
section
variable {X:Cx}{CX:pJ}{k:Nat}{f C:af}{fd:aP}{ps ks:List aK}{sp:Sp}{E:XK}{x m:aK}{p pos cN xH:cy}{e o:Expr}{es:List Expr}{kws:List ij}{te ta:TE}{t tk:TA}{nm:Option aK}
variable {g:List aa->List aa->List aa}{gV:List V->List V->List V}
end
structure bE (N P:List aK)(sc:eZ):Prop where
 kind:sc.kind=.function
 co:sc.isCoroutine=false
 gen:sc.isGenerator=false
 nd:N.Nodup
 pre:N.take P.length=P
 par:∀x∈P,sc.names.lookup x=some .local\/sc.names.lookup x=some .cell
 nofree:∀y∈sc.names,y.2≠.free
theorem LO {kindOf:aK->Option ba}{x:aK}:∀{binds:List (aK×aa)} {m:aK->Option aa},(∀v,(x,v)∉binds)->pG kindOf binds m x=m x
 |[],_,_=>rfl
 |(n,v)::r,m,h=>by
  unfold pG
  rw[LO λw hw=>h w (ao _ hw)]
  split
  ·have:x≠n:=by rintro rfl;exact h v am
   simp[this]
  ·rfl
theorem LP {kindOf:aK->Option ba}{x:aK}:∀{binds:List (aK×aa)} {m:aK->Option aa},(∀v,(x,v)∉binds)->pF kindOf binds m x=m x
 |[],_,_=>rfl
 |(n,v)::r,m,h=>by
  unfold pF
  rw[LP λw hw=>h w (ao _ hw)]
  split
  ·rfl
  ·have:x≠n:=by rintro rfl;exact h v am
   simp[this]
theorem LQ {kindOf:aK->Option ba}{x:aK}{v:aa}:∀{P:List aK} {vs:List aa} {i:Nat} {m:aK->Option aa},P.Nodup->P[i]?=some x->vs[i]?=some v->kindOf x=some .local ->
  pG kindOf (P.zip vs) m x=some v
 |[],_,_,_,_,h,_,_=>by simp at h
 |_::_,[],_,_,_,_,h,_=>by simp at h
 |p::P,w::vs,0,m,nd,h1,h2,hk=>by
  simp at h1 h2;subst h1;subst h2
  show pG kindOf ((p,w)::P.zip vs) m p=_
  unfold pG
  rw[LO λv hv=>(bz.mp nd).1 (gm hv).1,if_pos hk]
  simp
 |p::P,w::vs,i+1,m,nd,h1,h2,hk=>by
  show pG kindOf ((p,w)::P.zip vs) m x=_
  unfold pG
  exact LQ (i:=i) (bz.mp nd).2 (by simpa using h1) (by simpa using h2) hk
theorem LR {kindOf:aK->Option ba}{x:aK}{v:aa}:∀{P:List aK} {vs:List aa} {i:Nat} {m:aK->Option aa},P.Nodup->P[i]?=some x->vs[i]?=some v->kindOf x≠some .local ->
  pF kindOf (P.zip vs) m x=some v
 |[],_,_,_,_,h,_,_=>by simp at h
 |_::_,[],_,_,_,_,h,_=>by simp at h
 |p::P,w::vs,0,m,nd,h1,h2,hk=>by
  simp at h1 h2;subst h1;subst h2
  show pF kindOf ((p,w)::P.zip vs) m p=_
  unfold pF
  rw[LP λv hv=>(bz.mp nd).1 (gm hv).1,if_neg hk]
  simp
 |p::P,w::vs,i+1,m,nd,h1,h2,hk=>by
  show pF kindOf ((p,w)::P.zip vs) m x=_
  unfold pF
  exact LR (i:=i) (bz.mp nd).2 (by simpa using h1) (by simpa using h2) hk
def start (N:List aK)(vs:List V):St:=vs.map some++aC (N.length-vs.length) none
def lr (CX:pJ)(P:aT)(w:bt)(K:ae)(mg:aK->Option aa)(base:aE)(N:List aK)(qual:aK)(scope:eZ)(f:af)(cd:aa)(A:bi)(outer:List Env)(s:ai)(H:Hp)(E:XK):Cx where
 prog:=P
 w:=w
 K:=K
 mg:=mg
 base:=base
 A:=A.deeper (envOfC qual scope s.heap.objs.size f cd)
 N:=N
 s₀:=s
 H₀:=H
 env:=envOfC qual scope s.heap.objs.size f cd
 outer:=outer
 stack:=envOfC qual scope s.heap.objs.size f cd::outer
 ex:=[]
 calm:=true
 fn:=λ_=>true
 pn:=[]
 xe:=λe s'=>aN (aA P w) (A.deeper (envOfC qual scope s.heap.objs.size f cd)) (leaving (envOfC qual scope s.heap.objs.size f cd) e) (λ_ s''=>CX outer H s E e s'') (λe' s''=>CX outer H s E e' s'') s'
theorem Me {sc:eZ}{n:Nat}{x:aK}(h:sc.names.lookup x=some .cell):∃c,(cellsFrom n sc.names []).lookup x=some c:=by
 have q:=gZ sc.names n [] (.inl h)
 exact mq.mp q
theorem SN {CX:pJ}{P:aT}{w:bt}{K:ae}{mg:aK->Option aa}{base:aE}{N ps:List aK}{qual:aK}{scope:eZ}{f:af}{cd:aa}{A:bi}{outer:List Env}{s s1:ai}{H:Hp}{E:XK}{us:List aa}{vs:List V}
  (S:bE N ps scope) (hd:A.handled=none) (e0:oq P w K mg base A outer s H) (hl:vs.length=ps.length) (r:bR vs us)
  (x:InCallC s s.heap.objs.size (pG (envOfC qual scope s.heap.objs.size f cd).kindOf (ps.zip us) λ_=>none) (cellsFrom (s.heap.objs.size+1) scope.names []) (pF (envOfC qual scope s.heap.objs.size f cd).kindOf (ps.zip us) λ_=>none) s1) :
  Inv (lr CX P w K mg base N qual scope f cd A outer s H E) [] (start N vs) H s1:=by
 have el:ps.length<=N.length:=by have:=congrArg iV S.pre;rw[cG]at this;omega
 obtain⟨h1,tk,rfl,hk⟩:=x.done
 have CG:∀b:af,b∉(lr CX P w K mg base N qual scope f cd A outer s H E).ex:=λb z=>absurd (show b∈([]:List af)from z) (by simp)
 refine⟨⟨e0.mod,S.kind,rfl,rfl,aH _,λy z c h1 h2=>?_,λy hy=>?_,λy c _ h=>?_,λ_=>hd,bi.frames_deeper e0.frames,.inr ⟨rfl,rfl⟩,λb z=>absurd z (CG b),e0.bs,e0.bsz,λb _ _=>CG b,λb z=>absurd z (CG b),e0.funs,e0.frf⟩,
  rfl,e0.bare,Un.kept hk,⟨_,x.toInCall.ns,λi y v h1 h2 h3=>?_⟩,λy c h=>⟨_,x.cell y c h⟩,e0.hok.fresh (aH _),λy c h=>?_,λp hp=>absurd (show p∈([]:List (af×cu))from hp) (by simp),e0.hok.kept hk,?_⟩
 ·exact name_of_addr x.apart (PySem.mem_of_lookup h1) (PySem.mem_of_lookup h2)
 ·have hy:scope.names.lookup y=some .cell\/scope.names.lookup y=some .free:=hy
  rcases hy with hy|hy
  ·exact Me hy
  ·exact absurd rfl (S.nofree _ (PySem.mem_of_lookup hy))
 ·exact kJ (x.above y c (PySem.mem_of_lookup h))
 ·have hi:i<vs.length:=by
   unfold start at h2
   by_cases hi:i<vs.length
   ·exact hi
   ·rw[cJ (by simpa using hi)]at h2
    rw[eU]at h2
    split at h2<;>cases h2
  have ha:vs[i]?=some v:=by
   unfold start at h2
   rw[bS (by simpa using hi),bn]at h2
   cases e:vs[i]? with
   |none=>rw[e]at h2;cases h2
   |some a=>rw[e]at h2;cases h2;rfl
  obtain⟨u,hu,rv⟩:=r.get ha
  have hp:ps[i]?=some y:=by
   rw[←S.pre,eM (by omega)];exact h1
  have KN:ps.Nodup:=by rw[←S.pre];exact S.nd.sublist (List.take_sublist _ _)
  refine⟨u,rv,?_⟩
  rcases S.par y (og hp)with k|k
  ·exact .inl ⟨k,LQ KN hp hu k⟩
  ·obtain⟨c,e⟩:=Me (n:=s.heap.objs.size+1) k
   refine .inr ⟨.inl k,c,e,?_⟩
   have q:=x.cell y c e
   rw[LR KN hp hu (by show scope.names.lookup y≠_;rw[k];decide)]at q
   exact q
 ·exact e0.hok.fresh (kJ (x.above y c (PySem.mem_of_lookup h)))
 ·unfold start
  show _=N.length
  rw[aV,aM,cP]
  omega
theorem Nv {CX:pJ}{P:aT}{w:bt}{K:ae}{mg:aK->Option aa}{base:aE}{k:Nat}{f:af}{name qual:aK}{params:Arguments}{body:List bI}{scope:eZ}{dV kV doc pm gx ct oc:aa}{an od:Option af}
    {sX:Array (Option aa)} {N ps:List aK} {sp:Sp} (lk:K.lookup f=some ⟨oc,od,.func (gc name qual params body scope dV kV doc pm an gx ct),sX⟩) (jP:aL K gx qual=true) (S:bE N ps scope)
    (len:∀vs H Q E,sp vs H Q E->vs.length=ps.length)
    (rl:∀(A:bi) (outer:List Env) (s:ai) (H:Hp) (vs:List V) (Q:VK) (E:XK),dw k (A.deeper (envOfC qual scope s.heap.objs.size f gx))->sp vs H Q E ->
      ∃t,nr (lr CX P w K mg base N qual scope f gx A outer s H E) body t/\t { nx:=λ_ H'=>Q .non H',rt:=Q } (start N vs) H) :
    cB P w K mg base CX (k+1) f (gc name qual params body scope dV kV doc pm an gx ct) ps sp:=by
  refine⟨len,λA outer s H args us vs Q E hr e0 hb r uC=>?_⟩
  have hl:=len _ _ _ _ uC
  have KX:K.In s.heap:=e0.mod.kin.keeps λb o e=>(e0.bs b o e).1
  have lim:s.heap.NoLimit:=e0.mod.nolimit.keeps λb o e=>(e0.bs b o e).1
  have BL:∀y∈ps.zip us,scope.names.lookup y.1=some .local\/(scope.names.lookup y.1=some .cell/\((cellsFrom (s.heap.objs.size+1) scope.names []).lookup y.1).isSome=true):=λ⟨n,v⟩ hy=>by
    rcases S.par n (gm hy).1 with q|q
    · exact .inl q
    · exact .inr ⟨q,gZ _ _ _ (.inl q)⟩
  refine codeAny_call_function hr.depth (KX _ _ lk) rfl S.co S.gen rfl (PySem.W.codeRec_of KX jP) (hb _ _ _ _ ?_)
  refine wpAny_newFunctionEnv_cells S.kind BL λenv he s1 x=>?_
  subst he
  refine⟨lim.keeps x.toInCall.keep,codeAny_func ?_⟩
  obtain⟨t,ht,hq⟩:=rl A outer s H vs Q E (hr.deeper _) uC
  have I:Inv (lr CX P w K mg base N qual scope f gx A outer s H E) [] (start N vs) H s1:=SN S hr.hd e0 hl r x
  refine cV (ht [] s1 (start N vs) H _ I hq) (λfl s' hs=>?_) λe s' hs=>hs
  have fin:∀{σ':St} {H':Hp} {v:V} {u:aa},Inv (lr CX P w K mg base N qual scope f gx A outer s H E) [] σ' H' s'->RelV v u->Q v H'->CE outer P w H s Q u s' :=
    λ{σ' H' v u} J rv q=>⟨v,H',J.os,J.bare,J.base,J.hok,rv,q⟩
  cases fl with
  |ret u=>
    obtain⟨v,σ',H',J,rv,q⟩:=hs
    exact fin J rv q
  |next=>
    obtain⟨σ',H',J,q⟩:=hs
    exact fin (v:=V.non) (u:=aa.none) J rfl q
  |brk=>
    obtain⟨_,_,_,q⟩:=hs
    exact False.elim q
  |cont=>
    obtain⟨_,_,_,q⟩:=hs
    exact False.elim q
end L2
namespace L2
open PySem PySem.Spec PyProof.Rows
section
variable {X:Cx}{x:aK}{p pos:cy}{e:Expr}{es:List Expr}{t:TA}{id T:String}{r:List V->Hp->VK->Prop}
def La (r:List V->Hp->VK->Prop)(t:TA):TE:=λσ H Q=>t σ H λvs H1=>r vs H1 Q
theorem je (hc:eI X (.builtin id) r)(hg:Gl X x)(hm:X.mg x=none)(hv:bY x=some (.builtin id))(ha:PA X (e::es) t)(hn:x≠"__name__":=by decide)(iB:(x==("__debug__":aK))=false:=by decide)
  (he:ap (e::es) X.env=(false,bB e X.env)::ap es X.env:=by rfl) (el:(bZ pos (ap es X.env)).any (·.1)=false:=by rfl):PE X (.Call (.Name x p) (e::es) [] pos) (La r t):=by
 intro ah s σ H Q I h
 refine dA (yE I hg hm hv ?_ hn iB)
 exact iX (cO (ha pos ah s σ H _ I h) λus s1 ⟨vs,H1,I1,r1,q1⟩=>hc ah s1 σ H1 vs us Q I1 r1 q1) he el
theorem SO (hc:eI X (.type T) r)(hg:Gl X x)(hm:X.mg x=none)(hv:bY x=some (.type T))(ha:PA X (e::es) t)(hn:x≠"__name__":=by decide)(iB:(x==("__debug__":aK))=false:=by decide)
  (he:ap (e::es) X.env=(false,bB e X.env)::ap es X.env:=by rfl) (el:(bZ pos (ap es X.env)).any (·.1)=false:=by rfl):PE X (.Call (.Name x p) (e::es) [] pos) (La r t):=by
 intro ah s σ H Q I h
 refine dA (yE I hg hm hv ?_ hn iB)
 exact fF (cO (ha pos ah s σ H _ I h) λus s1 ⟨vs,H1,I1,r1,q1⟩=>hc ah s1 σ H1 vs us Q I1 r1 q1) he el
end
end L2
namespace HT
open PySem PyProof.Rows
section
open PySem.SeqAt
open PySem.AutoSeq1 (wpAny_loadPart')
open PySem.MeetsSeq PySem.MeetsSeq2 PySem.MeetsSeq3
end
section
variable {prog:aT}{w:bt}{A:bi}{E:aa->ai->Prop}{s:ai}
theorem cat_tup {t b:af}{vs ws:List aa}{Q:aa->ai->Prop}(ht:IsTup s.heap t vs.toArray)(hb:IsTup s.heap b ws.toArray)(hv:vs≠[])
    (h1:ws=[]->Q (.ref t) s) (h2:ws≠[]->Q (.ref s.heap.objs.size) { s with heap:=s.heap.push { cls:=.type "tuple",data:=.seq (vs++ws).toArray } })
    (hsz:vs.length+ws.length<=sizeLine):aN (aA prog w) A (dL .Add (.ref t) (.ref b)) Q E s:=by
  obtain⟨⟨cls,dd,data,sl⟩,ho,hc,n,hd⟩:=id ht
  obtain⟨⟨Gc,Ea,data2,Du⟩,EA,qL,n2,hd2⟩:=id hb
  simp only at hc hd qL hd2
  subst hc hd qL hd2
  have e:vs.toArray++ws.toArray=(vs++ws).toArray:=by simp
  by_cases hw:ws=[]
  · exact qE ⟨_,ho,rfl⟩ ⟨_,EA,rfl⟩ noFill_tuple_add seq_tuple_add PySem.F.slot_tuple_add PySem.F.entry_tuple_add (PySem.F.args_tuple_add_2 _ _)
      (tuple_addW1 t b vs.toArray ws.toArray n n2 dd Ea sl Du (by simpa using hv) (by simp[hw])) ⟨ho,EA,h1 hw⟩
  · refine qE ⟨_,ho,rfl⟩ ⟨_,EA,rfl⟩ noFill_tuple_add seq_tuple_add PySem.F.slot_tuple_add PySem.F.entry_tuple_add (PySem.F.args_tuple_add_2 _ _)
      (tuple_addW2 t b vs.toArray ws.toArray n n2 dd Ea sl Du (by simpa using hv) (by simpa using hw) (by rw[aI,aI];exact hsz)) ⟨ho,EA,?_⟩
    rw[e]
    exact h2 hw
def sIx (n d:Nat):Option Int->Nat
 |none=>d
 |some v=>if v<0 then(v+(n:Int)).toNat else min v.toNat n
theorem sIx_none (n d:Nat):sIx n d none=d:=rfl
theorem sIx_nat (n d k:Nat):sIx n d (some (k:Int))=min k n:=by
 show(if(k:Int)<0 then((k:Int)+(n:Int)).toNat else min (k:Int).toNat n)=min k n
 rw[if_neg (by omega),Int.toNat_natCast]
end
end HT
namespace L2
open PySem PySem.Spec PyProof.Rows
abbrev TO:=St->Hp->(Option Int->Hp->Prop)->Prop
def PO (X:Cx)(e:Option Expr)(t:TO):Prop :=
 ∀(ah:List (af×cu)) (s:ai) (σ:St) (H:Hp) (Q:Option Int->Hp->Prop),Inv X ah σ H s->t σ H Q ->
  aN (aA X.prog X.w) X.A (evalPart e X.env) (λu s'=>∃o H',Inv X ah σ H' s'/\IsPart u o/\Q o H') X.xe s
def tE:TO:=λ_ H Q=>Q none H
def DD (t:TE):TO:=λσ H Q=>t σ H λx H1=>∃i,x=.int i/\Q (some i) H1
theorem Sv {ns:List Int}:∀{us:List aa},bR (ns.map V.int) us->IntsAre us ns:=by
 induction ns with
 |nil=>intro us r;rw[kx]at r;cases r;exact .nil
 |cons n ns ih=>
  intro us r
  rw[bq]at r
  cases r with
  |cons r1 r2=>
   obtain⟨t,e⟩:=r1
   subst e
   exact .cons n t (ih r2)
section
variable {X:Cx}{e:Expr}{te:TE}{lo hi:Option Expr}{tl th:TO}{pos p2:cy}
theorem U0:PO X none tE:=by
 intro ah s σ H Q I h
 rw[evalPart_none]
 exact aJ ⟨none,H,I,.none,h⟩
theorem U1 (h:PE X e te):PO X (some e) (DD te):=by
 intro ah s σ H Q I hw
 rw[evalPart_some]
 refine cO (h ah s σ H _ I hw) λu s1 cS=>?_
 obtain⟨x,H1,I1,r1,q1⟩:=cS
 obtain⟨i,rfl,q⟩:=q1
 obtain⟨t,rfl⟩:=r1
 exact⟨some i,H1,I1,.int i t,q⟩
def JC (X:Cx)(r:V->Option Int->Option Int->Hp->VK->Prop):Prop :=
 ∀(ah:List (af×cu)) (s:ai) (σ:St) (H:Hp) (x:V) (v vl vu:aa) (lo hi:Option Int) (sl:af) (Q:VK),Inv X ah σ H s->RelV x v->s.heap.IsSliceOf sl vl vu .none->IsPart vl lo->IsPart vu hi->r x lo hi H Q ->
  ∃T id,typeLookup (.type T) "__getitem__"=pure (some (.builtin id))/\s.TypeIs v T/\aN (aA X.prog X.w) X.A (getItem v (.ref sl)) (EP X ah σ Q) X.xe s
def Q4 (r:V->Option Int->Option Int->Hp->VK->Prop)(te:TE)(tl th:TO):TE:=λσ H Q=>te σ H λx H1=>tl σ H1 λl H2=>th σ H2 λu H3=>r x l u H3 Q
theorem Ti {r:V->Option Int->Option Int->Hp->VK->Prop}(hr:JC X r)(he:PE X e te)(hl:PO X lo tl)(hu:PO X hi th):PE X (.Subscript e (.Slice lo hi none p2) pos) (Q4 r te tl th):=by
  intro ah s σ H Q I h
  refine Subscript_ (cO (he ah s σ H _ I h) λv s1 cS=>?_)
  obtain⟨x,H1,I1,r1,q1⟩:=cS
  refine wpAny_Slice (cO (hl ah s1 σ H1 _ I1 q1) λvl s2 ⟨l,H2,I2,pl,q2⟩=>cO (hu ah s2 σ H2 _ I2 q2) λvu s3 cS=>?_)
  obtain⟨u,H3,I3,pu,q3⟩:=cS
  rw[evalPart_none]
  refine aJ ?_
  have I4:Inv X ah σ H3 { s3 with heap:=s3.heap.push { cls:=.type "slice",data:=.fields #[vl,vu,.none] } }:=I3.kept (t':=s3.toks) λb ob q=>aq _ q
  obtain⟨T,id,hT,ht,hg⟩:=hr ah { s3 with heap:=s3.heap.push { cls:=.type "slice",data:=.fields #[vl,vu,.none] } } σ H3 x v vl vu l u s3.heap.objs.size Q I4 r1 (aE.IsSliceOf.new ..) pl pu q3
  show aN (aA X.prog X.w) X.A (subscriptTail e (.Slice lo hi none p2) v (.ref s3.heap.objs.size)) (EP X ah σ Q) X.xe { s3 with heap:=s3.heap.push { cls:=.type "slice",data:=.fields #[vl,vu,.none] } }
  exact tail_any (ops:=[.ref s3.heap.objs.size,v]) ht hT hg (by with_unfolding_all rfl)
def pO (xs:List V)(lo hi:Option Int):List V:=(xs.drop (HT.sIx xs.length 0 lo)).take (HT.sIx xs.length xs.length hi-HT.sIx xs.length 0 lo)
theorem R6 (xs:List V)(lo hi:Option Int):(pO xs lo hi).length<=xs.length:=by
 unfold pO
 rw[cG,eE]
 omega
def uN (K:ae):R2:=λx y H Q=>∃a b xs ys,x=.ref a/\y=.ref b/\kc K H a xs/\kc K H b ys/\xs≠[]/\xs.length+ys.length<=sizeLine /\
 (ys=[]->Q (.ref a) H)/\(ys≠[]->∀p,H p=none->Q (.ref p) (upd H p (.tup (xs++ys))))
theorem bR.nil_iff {xs:List V}{us:List aa}(r:bR xs us):us=[]↔xs=[]:=by
 cases r with
 |nil=>simp
 |cons _ _=>simp
theorem U2:gh X (dL .Add) (uN X.K):=by
 intro ah s σ H x y v u Q I rx ry h
 obtain⟨a,b,xs,ys,rfl,rfl,ha,hb,hx,hz,q1,q2⟩:=h
 cases rx
 cases ry
 obtain⟨bW,r1,p1,_⟩:=I.tuple ha
 obtain⟨sQ,r2,p2,_⟩:=I.tuple hb
 refine HT.cat_tup p1 p2 (λz=>hx (r1.nil_iff.mp z)) (λz=>⟨.ref a,H,I,rfl,q1 (r2.nil_iff.mp z)⟩) (λz=>?_) (by rw[←r1.length,←r2.length];exact hz)
 refine⟨.ref s.heap.objs.size,_,I.laid (t':=s.toks) (o:=.tup (xs++ys)) (λb ob q=>aq _ q) (aH _) ?_,rfl,q2 (λw=>z (r2.nil_iff.mpr w)) _ (I.hok.fresh (aH _))⟩
 exact⟨by rw[aV];exact hz,_,r1.append r2,IsTup.new _ _⟩
end
end L2
namespace L2
open PySem PySem.Spec PyProof.Rows
def ixN (n:Nat)(i:Int):Option Nat:=if 0<=i then(if i<n then some i.toNat else none)else if -(n:Int)<=i then some (i+n).toNat else none
def atI {α:Type}(xs:List α)(i:Int):Option α:=(ixN xs.length i).bind λj=>xs[j]?
theorem MH {n:Nat}{i:Int}{j:Nat}(h:ixN n i=some j):seqIndex? i n=some j/\j<n/\-(n:Int)<=i/\i<n:=by
 unfold ixN at h
 by_cases h0:0<=i
 ·rw[if_pos h0]at h
  by_cases h1:i<n
  ·rw[if_pos h1]at h
   have e:i.toNat=j:=Option.some.inj h
   exact⟨by rw[mZ h0 h1,e],by omega,by omega,h1⟩
  ·rw[if_neg h1]at h;cases h
 ·rw[if_neg h0]at h
  by_cases h1:-(n:Int)<=i
  ·rw[if_pos h1]at h
   have e:(i+n).toNat=j:=Option.some.inj h
   exact⟨by rw[mh (by omega) h1,e],by omega,h1,by omega⟩
  ·rw[if_neg h1]at h;cases h
theorem Ff {α:Type}{xs:List α}{i:Int}{v:α}(h:atI xs i=some v):∃j,seqIndex? i xs.length=some j/\xs[j]?=some v/\j<xs.length/\-(xs.length:Int)<=i/\i<xs.length:=by
 unfold atI at h
 cases e:ixN xs.length i with
 |none=>rw[e]at h;cases h
 |some j=>
  rw[e]at h
  obtain⟨h1,h2,h3,h4⟩:=MH e
  exact⟨j,h1,h,h2,h3,h4⟩
theorem jx {α:Type}{xs:List α}{j:Nat}{v:α}(h:xs[j]?=some v):atI xs (j:Int)=some v:=by
 have hj:j<xs.length:=(aS.mp h).1
 have e:ixN xs.length (j:Int)=some j:=by
  unfold ixN
  rw[if_pos (by omega),if_pos (by omega)];simp
 unfold atI;rw[e];exact h
def lA (b:Expr):Prop:=∀o i,subscripted b false o i=operate [o,i] (getItem o i)
def sk (X:Cx)(r:R2):Prop :=
 ∀(value slice:Expr) (ah:List (af×cu)) (s:ai) (σ:St) (H:Hp) (x y:V) (v u:aa) (Q:VK),Inv X ah σ H s->RelV x v->RelV y u->r x y H Q ->
  subscripted slice false v u=operate [v,u] (getItem v u)->aN (aA X.prog X.w) X.A (subscriptTail value slice v u) (EP X ah σ Q) X.xe s
def NZ (X:Cx)(id:String)(r:V->List V->Hp->VK->Prop):Prop :=
 ∀(ah:List (af×cu)) (s:ai) (σ:St) (H:Hp) (x:V) (xs:List V) (v:aa) (us:List aa) (Q:VK),Inv X ah σ H s->RelV x v->bR xs us->r x xs H Q ->
  aN (aA X.prog X.w) X.A (call (.builtin id) (v::us)) (EP X ah σ Q) X.xe s
section
variable {X:Cx}{a b:Expr}{ta tb:TE}{pos:cy}
theorem sk.or {r r':R2}(h:sk X r)(h':sk X r'):sk X (λx y H Q=>r x y H Q\/r' x y H Q):=by
 intro value slice ah s σ H x y v u Q I rx ry q hs
 rcases q with q|q
 ·exact h value slice ah s σ H x y v u Q I rx ry q hs
 ·exact h' value slice ah s σ H x y v u Q I rx ry q hs
theorem Nw {r:R2}(hr:sk X r)(ha:PE X a ta)(hb:PE X b tb)(hs:lA b):PE X (.Subscript a b pos) (ET r ta tb):=by
 intro ah s σ H Q I h
 exact Subscript_ (vE ha hb I h λv u s2 x y H2 I2 rx ry q=>hr a b ah s2 σ H2 x y v u Q I2 rx ry q (hs _ _))
def Dj (K:ae):R2:=λx y H Q=>∃p xs i v,x=.ref p/\y=.int i/\fN K H p xs/\atI xs i=some v/\Q v H
def Dl (K:ae):R2:=λx y H Q=>∃p xs i v,x=.ref p/\y=.int i/\kc K H p xs/\atI xs i=some v/\Q v H
def Dk:R2:=λx y H Q=>∃z i c,x=.str z/\y=.int i/\z.length<=sizeLine/\atI z.cps.toList i=some c/\Q (.str ⟨#[c]⟩) H
theorem MI:sk X (Dj X.K):=by
 intro value slice ah s σ H x y v u Q I rx ry h hs
 obtain⟨p,xs,i,z,rfl,rfl,hq,he,q⟩:=h
 cases rx
 obtain⟨t,rfl⟩:=ry
 obtain⟨bW,r,pl,hz⟩:=I.list hq
 obtain⟨j,h1,h2,h3,h4,h5⟩:=Ff he
 obtain⟨w,ew,oO⟩:=r.get h2
 have hl:=r.length
 have hn:=iD
 have fin:EP X ah σ Q w s:=⟨z,H,I,oO,q⟩
 by_cases h0:0<=i
 ·have hj:i.toNat=j:=by
   rw[mZ h0 h5]at h1
   exact Option.some.inj h1
  exact item_listR pl.isList h0 (by omega) (by rw[hj];simpa using ew) fin hs
 ·have hj:(i+(bW.toArray.size:Int)).toNat=j:=by
   rw[mh (by omega) h4]at h1
   rw[aI,←hl]
   exact Option.some.inj h1
  exact subscriptTail_builtinR (x:=w) pl.isList.typeIs slot_list_getitem.lookup
   (wpAny_getItem_list_neg (Q:=λr s'=>r=w/\EP X ah σ Q r s') pl.isList (by omega) (by rw[aI]<;>omega) (by omega) (by rw[hj];simpa using ew) ⟨rfl,fin⟩) hs
theorem WH:sk X (Dl X.K):=by
 intro value slice ah s σ H x y v u Q I rx ry h hs
 obtain⟨p,xs,i,z,rfl,rfl,hq,he,q⟩:=h
 cases rx
 obtain⟨t,rfl⟩:=ry
 obtain⟨bW,r,pl,hz⟩:=I.tuple hq
 obtain⟨j,h1,h2,h3,h4,h5⟩:=Ff he
 obtain⟨w,ew,oO⟩:=r.get h2
 have hl:=r.length
 have hn:=iD
 have fin:EP X ah σ Q w s:=⟨z,H,I,oO,q⟩
 exact subscriptTail_builtinR (x:=w) pl.typeIs slot_tuple_getitem.lookup
  (getItem_tuple (j:=j) (Q:=λr s'=>r=w/\EP X ah σ Q r s') pl (by omega) (by omega) (by rw[aI,←hl];exact h1) (by simpa using ew) ⟨rfl,fin⟩) hs
theorem WI:sk X Dk:=by
 intro value slice ah s σ H x y v u Q I rx ry h hs
 obtain⟨z,i,c,rfl,rfl,hz,he,q⟩:=h
 obtain⟨t,rfl⟩:=rx
 obtain⟨t',rfl⟩:=ry
 obtain⟨j,h1,h2,h3,h4,h5⟩:=Ff he
 have hl:z.cps.toList.length=z.length:=by simp[aK.length]
 rw[hl]at h1 h4 h5
 have hn:=iD
 exact tail_any (typeIs_str s z t) slot_str_getitem.lookup (getItem_str (c:=c) (by
  have e1:decide (i < -(2 ^ 63:Int))=false:=decide_eq_false (by omega)
  have e2:decide (i >= 2 ^ 63)=false:=decide_eq_false (by omega)
  rw[e1,e2,Bool.or_false]) (by rw[h1];simpa using h2) ⟨.str ⟨#[c]⟩,H,I.tok _,⟨_,rfl⟩,q⟩) hs
def K6 (K:ae):R2:=λx y H Q=>Dj K x y H Q\/Dl K x y H Q\/Dk x y H Q
theorem zL:sk X (K6 X.K):=MI.or (WH.or WI)
theorem Sw (bW:List aa)(n j:Nat)(u:aa):cu.mapSeq (·.setIfInBounds j u) { cls:=.type "list",data:=.seq bW.toArray n } = { cls:=.type "list",data:=.seq (bW.set j u).toArray n }:=by
  simp[cu.mapSeq]
theorem Inv.lst {ah:List (af×cu)}{σ:St}{H:Hp}{s:ai}{p:af}{xs:List V}(I:Inv X ah σ H s)(h:H p=some (.lst xs)) :
    ∃(bW:List aa) (n:Nat),bR xs bW/\s.heap.get? p=some { cls:=.type "list",data:=.seq bW.toArray n }/\xs.length<=sizeLine:=by
  obtain⟨z,bW,n,r,e⟩:=I.hok p _ h
  exact⟨bW,n,r,e,z⟩
theorem Inv.lstUpd {ah:List (af×cu)}{σ:St}{H:Hp}{s:ai}{p:af}{xs ys:List V}{bW its':List aa}{n n':Nat}{f:cu->cu}(I:Inv X ah σ H s)(h:H p=some (.lst xs))
    (ho:s.heap.get? p=some { cls:=.type "list",data:=.seq bW.toArray n }) (hf:f { cls:=.type "list",data:=.seq bW.toArray n } = { cls:=.type "list",data:=.seq its'.toArray n' }) (r:bR ys its') (hz:ys.length<=sizeLine) (t:Nat) :
    Inv X ah σ (upd H p (.lst ys)) { s with heap:=s.heap.update p f,toks:=t }:=by
  have e:(s.heap.update p f).get? p=some { cls:=.type "list",data:=.seq its'.toArray n' }:=by
    rw[d7 f ho (by rw[hf]<;>rfl),hf]
  refine I.write (x:=p) (e:=p) (by rw[h];trivial) (.inl rfl) (λb u hb q=>(cI _ _ (Ne.symm hb)).trans q) ⟨_,e⟩ ?_
  exact⟨hz,its',n',r,e⟩
def Dp:V->V->V->Hp->(Hp->Prop)->Prop:=λo i v H Q=>∃p xs k j,o=.ref p/\i=.int k/\H p=some (.lst xs)/\ixN xs.length k=some j/\Q (upd H p (.lst (xs.set j v)))
theorem Mf:uZ X Dp:=by
 intro ah s σ H o i v ov iv u Q I ro ri rv h
 obtain⟨p,xs,k,j,rfl,rfl,hp,hj,q⟩:=h
 cases ro
 obtain⟨t,rfl⟩:=ri
 obtain⟨bW,n,r,ho,hz⟩:=I.lst hp
 obtain⟨h1,h2,h3,h4⟩:=MH hj
 have hl:=r.length
 have hn:=iD
 have I':Inv X ah σ (upd H p (.lst (xs.set j v))) { s with heap:=s.heap.update p (cu.mapSeq (·.setIfInBounds j u)) } :=
  I.lstUpd hp ho (Sw bW n j u) (r.set rv j) (by rw[lF];exact hz) s.toks
 by_cases h0:0<=k
 ·have hk:k.toNat=j:=by
   rw[mZ h0 h4]at h1
   exact Option.some.inj h1
  exact PySem.W.ki_setAt ho h0 (by omega) (by rw[aI,←hl];exact h4) (by rw[hk];exact⟨_,I',q⟩)
 ·have hk:(k+(bW.toArray.size:Int)).toNat=j:=by
   rw[mh (by omega) h3]at h1
   rw[aI,←hl]
   exact Option.some.inj h1
  exact PySem.W.ki_setBack ho (by omega) (by rw[aI,←hl];exact h3) (by omega) (by rw[hk];exact⟨_,I',q⟩)
theorem RL (lo hi:Option Int)(n:Nat):(gG lo hi none n).1=((HT.sIx n 0 lo:Nat):Int)/\(gG lo hi none n).2.1=((HT.sIx n n hi:Nat):Int)/\(gG lo hi none n).2.2=1:=by
 refine⟨?_,?_,rfl⟩
 ·cases lo with
  |none=>simp[gG,HT.sIx]
  |some i=>
   simp only[gG,HT.sIx,pC,show(1:Int) > 0 by decide,if_true]
   by_cases h:i<0
   ·simp only[h,if_true]<;>omega
   ·simp only[h,if_false]<;>omega
 ·cases hi with
  |none=>simp[gG,HT.sIx]
  |some i=>
   simp only[gG,HT.sIx,pC,show(1:Int) > 0 by decide,if_true]
   by_cases h:i<0
   ·simp only[h,if_true]<;>omega
   ·simp only[h,if_false]<;>omega
theorem RF (bW:List aa)(lo hi:Option Int):slicePick bW.toArray lo hi none=((bW.drop (HT.sIx bW.length 0 lo)).take (HT.sIx bW.length bW.length hi-HT.sIx bW.length 0 lo)).toArray:=by
 obtain⟨h1,h2,h3⟩:=RL lo hi bW.toArray.size
 unfold slicePick
 rw[h1,h2,h3]
 simp only[sliceRange_one,pick_run,aI]<;>rfl
def HW (K:ae):V->Option Int->Option Int->Hp->VK->Prop:=λx lo hi H Q=>∃a xs,x=.ref a/\fN K H a xs/\∀p,H p=none->Q (.ref p) (upd H p (.lst (pO xs lo hi)))
theorem U3:JC X (HW X.K):=by
 intro ah s σ H x v vl vu lo hi sl Q I rx hs pl pu h
 obtain⟨a,xs,rfl,hx,q⟩:=h
 cases rx
 obtain⟨bW,r,ht,hz⟩:=I.list hx
 have hlen:=r.length
 refine⟨"list",_,slot_list_getitem.lookup,ht.isList.typeIs,?_⟩
 refine wpAny_getItem_list_slice ht.isList hs pl pu .none (by simp) ?_ (by rw[aI]<;>omega)
 rw[RF,←hlen]
 refine⟨.ref s.heap.objs.size,_,I.laid (t':=s.toks) (o:=.lst (pO xs lo hi)) (λb ob q=>aq _ q) (aH _) ?_,rfl,q _ (I.hok.fresh (aH _))⟩
 exact⟨bH (R6 xs lo hi) hz,_,0,(r.drop (HT.sIx xs.length 0 lo)).take (HT.sIx xs.length xs.length hi-HT.sIx xs.length 0 lo),br _ rfl⟩
def jF:V->Bool
 |.non=>true
 |.bl _=>true
 |.int _=>true
 |.str _=>true
 |_=>false
def sM:V->V->Bool
 |.non,.non=>true
 |.bl a,.bl b=>a==b
 |.bl a,.int b=>(if a then 1 else 0)==b
 |.int a,.bl b=>a==(if b then 1 else 0)
 |.int a,.int b=>a==b
 |.str a,.str b=>a==b
 |_,_=>false
theorem Wc {A:bi}{s:ai}{y x:V}{u v:aa}(ry:RelV y u)(rx:RelV x v)(fy:jF y=true)(fx:jF x=true):SeqAt.EqAt A s u v (sM y x):=by
 cases y with
 |non=>
  cases ry
  cases x with
  |non=>cases rx;exact SeqAt.EqAt.same _
  |bl b=>cases rx;exact SeqAt.EqAt.none_bool b
  |int b=>obtain⟨t,rfl⟩:=rx;exact SeqAt.EqAt.none_int b t
  |str b=>obtain⟨t,rfl⟩:=rx;exact SeqAt.EqAt.none_str b t
  |_=>exact absurd (show false=true from fx) aD
 |bl a=>
  cases ry
  cases x with
  |non=>cases rx;exact SeqAt.EqAt.bool_none a
  |bl b=>cases rx;exact SeqAt.EqAt.bool_bool a b
  |int b=>obtain⟨t,rfl⟩:=rx;exact SeqAt.EqAt.bool_int a b t
  |str b=>obtain⟨t,rfl⟩:=rx;exact SeqAt.EqAt.bool_str a b t
  |_=>exact absurd (show false=true from fx) aD
 |int a=>
  obtain⟨t',rfl⟩:=ry
  cases x with
  |non=>cases rx;exact SeqAt.EqAt.int_none a t'
  |bl b=>cases rx;exact SeqAt.EqAt.int_bool a t' b
  |int b=>obtain⟨t,rfl⟩:=rx;exact SeqAt.EqAt.int_int a t' b t
  |str b=>obtain⟨t,rfl⟩:=rx;exact SeqAt.EqAt.int_str a t' b t
  |_=>exact absurd (show false=true from fx) aD
 |str a=>
  obtain⟨t',rfl⟩:=ry
  cases x with
  |non=>cases rx;exact SeqAt.EqAt.str_none a t'
  |bl b=>cases rx;exact SeqAt.EqAt.str_bool a t' b
  |int b=>obtain⟨t,rfl⟩:=rx;exact SeqAt.EqAt.str_int a t' b t
  |str b=>obtain⟨t,rfl⟩:=rx;exact SeqAt.EqAt.str_str a t' b t
  |_=>exact absurd (show false=true from fx) aD
 |_=>exact absurd (show false=true from fy) aD
def sL (x:V)(u:aa):Bool:=match u with
 |.none=>sM .non x
 |.bool b=>sM (.bl b) x
 |.int i _=>sM (.int i) x
 |.str z _=>sM (.str z) x
 |_=>false
theorem Nk {x y:V}{u:aa}(r:RelV y u)(f:jF y=true):sL x u=sM y x:=by
 cases y with
 |non=>cases r;rfl
 |bl b=>cases r;rfl
 |int i=>obtain⟨t,rfl⟩:=r;rfl
 |str z=>obtain⟨t,rfl⟩:=r;rfl
 |_=>exact absurd (show false=true from f) aD
theorem Jh {x:V}:∀{xs:List V} {us:List aa},bR xs us->xs.all jF=true->us.any (sL x)=xs.any λy=>sM y x
 |_,_,.nil,_=>rfl
 |y::xs,u::us,.cons r t,f=>by
  rw[eL,bT]at f
  rw[d6,d6,Nk r f.1,Jh t f.2]
theorem IN {A:bi}{s:ai}{x:V}{v:aa}(rx:RelV x v)(fx:jF x=true):∀{xs:List V} {us:List aa},bR xs us->xs.all jF=true->∀u∈us,SeqAt.EqAt A s u v (sL x u)
 |_,_,.nil,_=>λu hu=>by cases hu
 |y::xs,u::us,.cons r t,f=>λu' hu=>by
  rw[eL,bT]at f
  rcases az.mp hu with rfl|hu
  ·rw[Nk r f.1];exact Wc r rx f.1 fx
  ·exact IN rx fx t f.2 u' hu
def EK (x:V)(xs:List V):Bool:=xs.any λy=>sM y x
def K4 (K:ae)(neg:Bool):R2:=λx y H Q=>∃p xs,y=.ref p/\(fN K H p xs\/kc K H p xs)/\jF x=true/\xs.all jF=true/\Q (.bl (if neg then !EK x xs else EK x xs)) H
theorem RM:gh X (cF .NotIn) (K4 X.K true):=by
 intro ah s σ H x y v u Q I rx ry h
 obtain⟨p,xs,rfl,hq,fx,fs,q⟩:=h
 cases ry
 rcases hq with hq|hq
 ·obtain⟨bW,r,pl,hz⟩:=I.list hq
  refine SeqAt.notIn_listAt (sL x) pl.isList (λw hw=>IN rx fx r fs w (by simpa using hw)) ⟨.bl _,H,I,rfl,?_⟩
  rw[show bW.toArray.any (sL x)=bW.any (sL x)by simp,Jh r fs]
  exact q
 ·obtain⟨bW,r,pl,hz⟩:=I.tuple hq
  refine SeqAt.notIn_tupleAt (sL x) pl (λw hw=>IN rx fx r fs w (by simpa using hw)) ⟨.bl _,H,I,rfl,?_⟩
  rw[show bW.toArray.any (sL x)=bW.any (sL x)by simp,Jh r fs]
  exact q
theorem RN:eI X (.builtin "len") (λxs H Q=>∃p ys,xs=[.ref p]/\(fN X.K H p ys\/kc X.K H p ys)/\Q (.int ys.length) H):=by
 intro ah s σ H xs us Q I r h
 obtain⟨p,ys,rfl,hq,q⟩:=h
 obtain⟨u,rfl,rx⟩:=pd r
 cases rx
 have hn:=iD
 rcases hq with hq|hq
 ·obtain⟨bW,r',pl,hz⟩:=I.list hq
  have hlen:=r'.length
  exact Calls.call_len_list pl.isList (by simp only[aI]<;>omega) ⟨.int ys.length,H,I.tok _,⟨s.toks+1,by rw[aI,hlen]⟩,q⟩
 ·obtain⟨bW,r',pl,hz⟩:=I.tuple hq
  have hlen:=r'.length
  exact len_tuple pl (by simp only[aI]<;>omega) ⟨.int ys.length,H,I.tok _,⟨s.toks+1,by rw[aI,hlen]⟩,q⟩
theorem RP:eI X (.builtin "len") (λxs H Q=>∃z,xs=[.str z]/\z.length<=sizeLine/\Q (.int z.length) H):=by
 intro ah s σ H xs us Q I r h
 obtain⟨z,rfl,hz,q⟩:=h
 obtain⟨u,rfl,t,rfl⟩:=pd r
 have hn:=iD
 exact len_str (by omega) ⟨.int z.length,H,I.tok _,⟨_,rfl⟩,q⟩
theorem eI.or {f:aa}{r r':List V->Hp->VK->Prop}(h:eI X f r)(h':eI X f r'):eI X f (λxs H Q=>r xs H Q\/r' xs H Q):=by
 intro ah s σ H xs us Q I rs q
 rcases q with q|q
 ·exact h ah s σ H xs us Q I rs q
 ·exact h' ah s σ H xs us Q I rs q
theorem vv:eI X (.type "list") (λxs H Q=>∃p ys,xs=[.ref p]/\(fN X.K H p ys\/kc X.K H p ys)/\∀l,H l=none->Q (.ref l) (upd H l (.lst ys))):=by
  intro ah s σ H xs us Q I r h
  obtain⟨p,ys,rfl,hq,q⟩:=h
  obtain⟨u,rfl,rx⟩:=pd r
  cases rx
  have fin:∀(bW:List aa),bR ys bW->ys.length<=sizeLine->∀(h':aE) (c':Nat),(∀b o',s.heap.get? b=some o'->h'.get? b=some o') ->
      h'.get? s.heap.objs.size=some { cls:=.type "list",dict:=none,data:=.seq bW.toArray c',slots:=#[] }->EP X ah σ Q (.ref s.heap.objs.size) { s with heap:=h' }:=λbW r' hz h' c' kp e=>
    ⟨.ref s.heap.objs.size,_,I.laid (t':=s.toks) kp (aH _) (show dF X.prog X.w _ h' _ (.lst ys)from⟨hz,bW,c',r',e⟩),rfl,q _ (I.hok.fresh (aH _))⟩
  rcases hq with hq|hq
  · obtain⟨bW,r',pl,hz⟩:=I.list hq
    have hlen:=r'.length
    obtain⟨o,ho,hc,n,hd⟩:=pl.isList
    exact call_list_seq p (.inl rfl) ho hc hd (λh' c' kp e=>fin bW r' hz h' c' kp e) (by simp only[aI]<;>omega)
  · obtain⟨bW,r',pl,hz⟩:=I.tuple hq
    have hlen:=r'.length
    obtain⟨o,ho,hc,n,hd⟩:=pl
    exact call_list_seq p (.inr rfl) ho hc hd (λh' c' kp e=>fin bW r' hz h' c' kp e) (by simp only[aI]<;>omega)
def Lg (K:ae)(T:String)(x:V)(H:Hp):Prop:=match x with
 |.str _=>T = "str"
 |.int _=>T = "int"
 |.ref p=>(T = "list"/\∃xs,fN K H p xs)\/(T = "tuple"/\∃o,K.lookup p=some o/\o.cls=.type "tuple"/\o.dict=none) \/
   (T = "dict"/\((∃cq,H p=some (.dK cq))\/∃cq,H p=some (.dT cq)))\/(T = "set"/\∃S n,H p=some (.set S n))
 |_=>False
theorem Wd {ah:List (af×cu)}{σ:St}{H:Hp}{s:ai}{T:String}{x:V}{v:aa}(I:Inv X ah σ H s)(r:RelV x v)(ty:Lg X.K T x H) :
  s.TypeIs v T/\∀a,v=.ref a->∃ob,s.heap.get? a=some ob/\ob.dict=none:=by
 cases x with
 |str z=>
  obtain⟨t,rfl⟩:=r
  cases(show T = "str" from ty)
  exact⟨typeIs_str s z t,λ_ e=>nomatch e⟩
 |int i=>
  obtain⟨t,rfl⟩:=r
  cases(show T = "int" from ty)
  exact⟨tN s i t,λ_ e=>nomatch e⟩
 |ref p=>
  cases r
  rcases ty with⟨rfl,xs,hq⟩|⟨rfl,o,hk,hc,hd⟩|⟨rfl,hk⟩|⟨rfl,S,n,hk⟩
  ·obtain⟨bW,_,pl,_⟩:=I.list hq
   refine⟨pl.isList.typeIs,λa e=>?_⟩
   cases e
   obtain⟨o,n,e,c,hd,_⟩:=pl
   exact⟨o,e,hd⟩
  ·refine⟨⟨o,I.kIn p o hk,hc⟩,λa e=>?_⟩
   cases e
   exact⟨o,I.kIn _ o hk,hd⟩
  ·have z:∃o,s.heap.get? p=some o/\o.ExactDict:=by
    rcases hk with⟨cq,hk⟩|⟨cq,hk⟩
    ·obtain⟨_,_,_,_,o,_,_,e,ex,_⟩:=I.hok p _ hk
     exact⟨o,e,ex⟩
    ·obtain⟨_,_,_,_,o,_,_,e,ex,_⟩:=I.hok p _ hk
     exact⟨o,e,ex⟩
   obtain⟨o,e,ex⟩:=z
   refine⟨⟨o,e,ex.1⟩,λa e2=>?_⟩
   cases e2
   exact⟨o,e,ex.2.1⟩
  ·obtain⟨o,_,_,_,e,ex,_⟩:=I.hok p _ hk
   refine⟨⟨o,e,ex.1⟩,λa e2=>?_⟩
   cases e2
   exact⟨o,e,ex.2.1⟩
 |_=>exact False.elim ty
def QZ (K:ae)(T:String)(r:V->List V->Hp->VK->Prop)(to:TE)(t:TA):TE:=λσ H Q=>to σ H λx H1=>Lg K T x H1/\t σ H1 λxs H2=>r x xs H2 Q
variable {o e:Expr}{es:List Expr}{to:TE}{t:TA}{name:aK}{cN dE:cy}{T id:String}{r:V->List V->Hp->VK->Prop}
theorem X1 (pa:PlainAttrs T)(slot:Slot T name id)(Pd:typeOf (.builtin id)=pure (.type "method_descriptor"))(hm:NZ X id r)(ho:PE X o to)(ha:PA X (e::es) t)
  (rj:dP o name X.env (bB o X.env)=bB o X.env:=by rfl)
  (wO:((bZ dE (ap (e::es) X.env)).all (λx=>!x.1)&&(eK dE (dc [] X.env)).all (λx=>x.1.isSome)
   && decide ((e::es).length+([]:List ij).length+(if([]:List ij).isEmpty then 0 else 1)<30))=true:=by rfl)
  (rE:(cN.endLine==dE.line)=true:=by rfl) (hs:ap (e::es) X.env=(false,bB e X.env)::ap es X.env:=by rfl) (oJ:(bZ dE (ap es X.env)).any (·.1)=false:=by rfl) :
  PE X (.Call (.Attribute o name cN) (e::es) [] dE) (QZ X.K T r to t):=by
 intro ah s σ H Q I h
 refine wpAny_Call_method_late rj wO rE rfl (cO (ho ah s σ H _ I h) λv s1 cS=>?_)
 obtain⟨x,H1,I1,r1,ty,q1⟩:=cS
 obtain⟨h1,h2⟩:=Wd I1 r1 ty
 refine⟨T,id,pa,slot,Pd,h1,h2,?_⟩
 have hA:=ha dE ah s1 σ H1 _ I1 q1
 rw[hs]at hA ⊢
 refine Calls.callWith_builtin (by show(false || (bZ dE (ap es X.env)).any (·.1))=false;rw[oJ]<;>rfl) (Calls.evalArgs_plain ?_)
 exact cO hA λus s2 ⟨vs,H2,I2,r2,q2⟩=>hm ah s2 σ H2 x vs v us Q I2 r1 r2 q2
end
end L2
namespace L2
open PySem PySem.Spec PyProof.Rows
def NY (X:Cx)(id:String)(r:V->List V->Hp->VK->Prop):Prop :=
 ∀(ah:List (af×cu)) (s:ai) (σ:St) (H:Hp) (x:V) (xs:List V) (v:aa) (us:List aa) (Q:VK),Inv X ah σ H s->RelV x v->bR xs us->r x xs H Q ->
  aN (aA X.prog X.w) X.A (call (.builtin id) (v::us)) (EP X ah σ Q) X.xe s
theorem bR.one:∀{x:V} {us:List aa},bR [x] us->∃u,us=[u]/\RelV x u
 |_,_,.cons r .nil=>⟨_,rfl,r⟩
theorem bR.rep {xs:List V}{us:List aa}(h:bR xs us):∀k:Nat,bR (aC k xs).flatten (aC k us).flatten
 |0=>.nil
 |k+1=>by
  rw[cA,cA,ee,ee]
  exact bR.append h (bR.rep h k)
theorem foldl_rep (bW:List aa):∀(k:Nat) (eX:List aa),
  pz (λx1 x2=>x1++x2) eX.toArray (aC k bW.toArray)=(eX++(aC k bW).flatten).toArray
 |0,eX=>by simp
 |k+1,eX=>by
  have e:eX.toArray++bW.toArray=(eX++bW).toArray:=by simp
  have e2:(eX++bW)++(aC k bW).flatten=eX++(aC (k+1) bW).flatten:=by
   rw[cA,ee,fq]
  rw[←e2,←foldl_rep bW k (eX++bW),←e,cA,bM]
section
variable {X:Cx}{ah:List (af×cu)}{σ:St}{H:Hp}{s:ai}{l b:af}{xs ys zs:List V}
theorem Inv.lset {bW its':List aa}{n:Nat}{f:Array aa->Array aa}{t':Nat}(I:Inv X ah σ H s)(hH:H l=some (.lst xs))
    (e:s.heap.get? l=some { cls:=.type "list",data:=.seq bW.toArray n }) (hf:f bW.toArray=its'.toArray) (hv:bR ys its') (hz:ys.length<=sizeLine) :
    Inv X ah σ (upd H l (.lst ys)) { s with heap:=s.heap.update l (cu.mapSeq f),toks:=t' }:=by
  have q:=PySem.IsL.update e f
  rw[hf]at q
  refine I.write (x:=l) (e:=l) (by rw[hH];exact trivial) (.inl rfl) (λb' u hb hu=>(cI s.heap (cu.mapSeq f) (Ne.symm hb)).trans hu) ⟨_,q⟩ ?_
  exact⟨hz,its',_,hv,q⟩
theorem Inv.lnew {bW:List aa}{t':Nat}(I:Inv X ah σ H s)(hv:bR ys bW)(hz:ys.length<=sizeLine) :
    Inv X ah σ (upd H s.heap.objs.size (.lst ys)) { s with heap:=s.heap.push { cls:=.type "list",data:=.seq bW.toArray },toks:=t' } :=
  I.laid (λ_ _ q=>aq _ q) (aH _) ⟨hz,bW,0,hv,br _ rfl⟩
theorem Inv.fresh (I:Inv X ah σ H s):H s.heap.objs.size=none:=I.hok.fresh (aH _)
theorem Inv.lstM (I:Inv X ah σ H s)(hH:H l=some (.lst xs)):xs.length<=sizeLine/\∃(bW:List aa) (n:Nat),bR xs bW/\xs.length=bW.length/\s.heap.get? l=some { cls:=.type "list",data:=.seq bW.toArray n }:=by
  obtain⟨z,bW,n,r,e⟩:=I.hok l _ hH
  exact⟨z,bW,n,r,r.length,e⟩
theorem rO {n:Nat}(h:n<=sizeLine):Builtin.List.listTooLong n=false:=by
 unfold Builtin.List.listTooLong
 exact decide_eq_false (by omega)
end
section
variable {X:Cx}
def tu:V->List V->Hp->VK->Prop:=λx vs H Q=>∃l xs y,x=.ref l/\vs=[y]/\H l=some (.lst xs)/\xs.length<sizeLine/\Q .non (upd H l (.lst (xs++[y])))
theorem Iz:NY X "list.append" tu:=by
 intro ah s σ H x vs v us Q I rx rv h
 obtain⟨l,xs,y,rfl,rfl,hH,hz,q⟩:=h
 cases rx
 obtain⟨u,rfl,ru⟩:=rv.one
 obtain⟨z,bW,n,r,hl,e⟩:=I.lstM hH
 refine tM F.slot_list_append ⟨_,e,rfl⟩ F.entry_list_append (F.args_list_append_2 _ _) (PySem.list_append l bW.toArray n u (by rw[aI];omega)) ⟨e,?_⟩
 refine⟨.non,_,I.lset (its':=bW++[u]) hH e (by simp) (r.append (.cons ru .nil)) ?_,rfl,q⟩
 rw[aV,fL]
 omega
theorem UD {α:Type}(xs:List α)(k:Nat):(aC k xs).flatten.length=k*xs.length:=by
 induction k with
 |zero=>simp
 |succ k ih=>rw[cA,ee,aV,ih,Nat.succ_mul,Nat.add_comm]
end
section
variable {prog:aT}{w:bt}{A:bi}{E:aa->ai->Prop}{s:ai}
end
section
variable {X:Cx}
end
end L2
namespace Att
open PySem PySem.W PySem.Calls PyProof.Rows
theorem Rj {P:Params}{h:aE}:∀(ns:List Int) (vs:List aa),WellAll P h vs (ns.map WData.int)->IntsAre vs ns:=by
 intro ns
 induction ns with
 |nil=>
  intro vs w
  rw[kx]at w
  cases w
  exact .nil
 |cons n ns ih=>
  intro vs w
  rw[bq]at w
  cases w with
  |cons a b=>
   cases a
   exact .cons _ _ (ih _ b)
theorem SQ {l:OpenLaw}{n:Nat}(hn:l.most=some n){P:Params}{h:aE}{args:List WData}{vals:List aa}
    (pS:l.row.toRowW.claim.pre args=true) (Hw:WellAll P h vals args) :
    ∃a vs ns,vals=[aa.ref a]/\args=[WData.list (ns.map WData.int)]/\h.get? a=some { cls:=.type "list",data:=.seq vs.toArray }/\IntsAre vs ns/\ns.length<=n:=by
  have Pa:WShape.hasAll [] args [.list .int]=true:=(pre_splitW pS).1
  have hc:l.pre.holds [] { args:=args }=true:=(pre_splitW pS).2
  obtain⟨d,r,rfl,h1,h2⟩:=hasAllW_cons Pa
  obtain rfl:=hasAllW_nil h2
  obtain⟨xs,rfl,h3⟩:=hasW_list h1
  obtain⟨ns,rfl⟩:=items_int h3
  have hlen:ns.length<=n:=by
    unfold OpenLaw.pre at hc
    have h4:(WTm.not (.lt (.lit (.int (n:Int))) (.len (.arg 0)))).holds [] { args:=[.list (ns.map .int)] }=true:=by
      have h4:=(holds_andW hc).1
      rw[hn]at h4
      exact h4
    have h5:=condW_of h4 (w_not (w_lt w_lit (w_len_list (w_arg rfl))))
    rw[aM]at h5
    refine Nat.le_of_not_lt λq=>?_
    have q':(n:Int)<((ns.length:Nat):Int):=by omega
    first
      |(rw[decide_eq_true q']at h5;exact absurd h5 (by decide))
      |(simp at h5;omega)
  cases Hw with
  |cons w1 w2=>
    cases w2
    cases w1 with
    |list ho nL=>exact⟨_,_,ns,rfl,rfl,ho,Rj ns _ nL,hlen⟩
theorem SR (l:OpenLaw)(args:List WData):l.row.toRowW.claim.post args (.bool true) args=true :=
  postW_of (r:=l.row.toRowW) (X:=(true==true))
    (show WShape.has [] (.bool true) .bool=true by first|rfl|decide|simp[WShape.has,WShape.arms,WShape.armsAll])
    (show(WTm.eq .res (.lit (.bool true))).value [] { args:=args,res:=some (.bool true),after:=args }=some (.bool (true==true))from w_eq_bool (w_res rfl) w_lit) rfl
theorem attach_call {l:OpenLaw}{n:Nat}{q:aT}{loose:List aK}{XP:(aK->Option aa)->aE->Prop}{YP:bt->aE->Prop}{d:DefRec}
    (hn:l.most=some n) (BD:d.params.defaults=[])
    (call:∀(w:bt) (s₀ s₁:ai) (mg mb:aK->Option aa) (fa:af) (o:cu) (pm cd doc:aa) (a:af) (vs:List aa) (ns:List Int),
      Ground q loose [] XP w s₀ mg mb s₁.heap->YP w s₁.heap ->
      s₁.heap.get? fa=some o->o.data=.func (docDef d.name d.params d.body d.scope pm cd doc)->s₁.heap.CodeRec cd d.name->mg d.name=some (.ref fa) ->
      s₁.heap.get? a=some { cls:=.type "list",data:=.seq vs.toArray }->IntsAre vs ns->ns.length<=n->s₁.gens = #[] ->
      eF (aA l.prog w) md (.call (.ref fa) ⟨[.ref a],[]⟩) (λr s'=>r=.ok (.ret (.bool true))/\OldK s₁.heap s'.heap/\s'.os=s₁.os/\AllBare s'.gens) s₁) :
    WalkO q loose XP YP l.row.toRowW d [] (λf vs=>PySem.call f vs):=by
  intro w s₀ s₁ mg mb G Y fa o pm cd doc dV kV ho hd jP hD hmg hg args vals as pS O1 Yr Hw Yn
  obtain rfl:dV=.none:=Dflts.none hD BD
  obtain rfl:kV=.none:=Dflts.noKw hD
  obtain⟨a,vs,ns,rfl,rfl,wY,rD,hlen⟩:=SQ hn pS Hw
  refine enter_call (fU (call w s₀ s₁ mg mb fa o pm cd doc a vs ns G Y ho (fd_plain hd) jP hmg wY rD hlen hg) λr s' hq=>?_)
  obtain⟨rfl,h2,h3,h4⟩:=hq
  exact⟨.inl ⟨.bool true,.bool true,[],rfl,λ_=>rfl,.bool true,SR l _,λ_=>⟨List.Pairwise.nil,λ_ hm=>(nomatch hm)⟩⟩,h2,h3,h4⟩
section
variable {prog:aT}{w:bt}{A:bi}{E:aa->ai->Prop}{s:ai}{K:Frag}
end
end Att
namespace L2
open PySem PySem.Spec PyProof.Rows
theorem LU:∀{vs:List aa} {ns:List Int},IntsAre vs ns->bR (ns.map V.int) vs
 |_,_,.nil=>.nil
 |_,_,.cons n t h=>.cons ⟨t,rfl⟩ (LU h)
def uY (H:Hp):Prop:=∀b,H b=none\/∃o xs,H b=some (.frz o (.lst xs))
theorem Tj {P:aT}{w:bt}{K:ae}{mg mb:aK->Option aa}{CX:pJ}{k:Nat}{fa a:af}{fd:aP}{x:aK}{sp:Sp}{s₁:ai}{vs:List aa}{ns:List Int}
    (KX:K.In s₁.heap) (n9:s₁.heap.Ns ax mg) (hb:s₁.heap.Ns tL mb) (Et:∀x:aK,x≠"__name__"->mb x=bY x) (Hf:s₁.heap.NoLimit) (hg:s₁.gens = #[])
    (ha:s₁.heap.get? a=some { cls:=.type "list",data:=.seq vs.toArray }) (hi:IntsAre vs ns) (hl:ns.length<=sizeLine) (hr:dw k md)
    (F:∀base:aE,K.In base->base.Ns ax mg->cB P w K mg base CX k fa fd [x] sp) (BC:∀(s:ai) (u:aa),nz s fd ⟨[u],[]⟩ [(x,u)])
    (uC:∀H:Hp,uY H->fN K H a (ns.map V.int)->sp [.ref a] H (λv _=>v=.bl true) λ_ _ _=>False)
    (GM:∀H e s',CX [] H s₁ (λ_ _ _=>False) e s'->False) :
    eF (aA P w) md (.call (.ref fa) ⟨[.ref a],[]⟩) (λr s'=>r=.ok (.ret (.bool true))/\OldK s₁.heap s'.heap/\s'.os=s₁.os/\AllBare s'.gens) s₁:=by
  have rv:=LU hi
  have HJ:=hi.length
  have core:∀H:Hp,uY H->fN K H a (ns.map V.int)->jL P w H s₁.heap->(∀b,H b≠none->b=a)->(H a≠none->K.lookup a=none) ->
      eF (aA P w) md (.call (.ref fa) ⟨[.ref a],[]⟩) (λr s'=>r=.ok (.ret (.bool true))/\OldK s₁.heap s'.heap/\s'.os=s₁.os/\AllBare s'.gens) s₁:=by
    intro H hO hS hok hA hK
    have oZ:∀{b:af} {o:cu},s₁.heap.get? b=some o->H b=none->(m9 s₁.heap H).get? b=some o:=λe n=>Tw e n
    have CG:∀{b:af} {o:cu} {es:Array DictEntry} {ep:Nat},s₁.heap.get? b=some o->o.data=.dict es ep->H b=none:=λ{b o es ep} e d=>by
      cases q:H b with
      |none=>rfl
      |some u=>
        have e':b=a:=hA b (by rw[q];simp)
        subst e'
        rw[ha]at e;cases e
        have d':oX.seq vs.toArray _=oX.dict es ep:=d
        cases d'
    have ER:∀{b:af} {m:aK->Option aa},s₁.heap.Ns b m->(m9 s₁.heap H).Ns b m:=λ{b m} ⟨o,es,ep,e,d,r⟩=>⟨o,es,ep,oZ e (CG e d),d,r⟩
    have Kg:K.In (m9 s₁.heap H):=λb o e=>oZ (KX b o e) (by
      cases q:H b with
      |none=>rfl
      |some u=>
        have e':b=a:=hA b (by rw[q];simp)
        subst e'
        rw[hK (by rw[q];simp)]at e;cases e)
    have hM:Mod K mg (m9 s₁.heap H):=⟨Kg,ER n9,⟨mb,ER hb,Et⟩,let⟨mc,h1,h2⟩:=Hf;⟨mc,ER h1,h2⟩⟩
    have e0:oq P w K mg (m9 s₁.heap H) md [] s₁ H:=⟨rfl,hM,λb o e=>UN e,kI (SI _ _),trivial,λb hb=>absurd (show b∈([]:List af)from hb) (by simp),hok,.of_eq hg⟩
    refine fU ((F _ Kg (ER n9)).run md [] s₁ H ⟨[.ref a],[]⟩ [.ref a] [.ref a] _ _ hr e0 (BC s₁ (.ref a)) (.cons rfl .nil) (uC H hO hS)) λr s' h=>?_
    cases r with
    |error e=>exact(GM H e s' h).elim
    |ok fl=>
      cases fl with
      |next=>exact False.elim h
      |brk=>exact False.elim h
      |cont=>exact False.elim h
      |ret u=>
        obtain⟨v,H',os,bare,un,Hk,r',q⟩:=h
        have q':v=.bl true:=q
        subst q'
        obtain rfl:u=aa.bool true:=r'
        refine⟨rfl,OldK.of_keep λb o e=>?_,os,bare⟩
        cases q:H b with
        |none=>exact un.keep b o e q (by intro z;exact absurd (show b∈([]:List af)from z) (by simp)) (by simp)
        |some u=>
          rcases hO b with z|⟨ob,xs,z⟩
          · rw[q]at z;cases z
          · have z2:=un.frzs b ob _ z
            obtain⟨e1,_⟩:=hok b _ z
            obtain⟨e2,_⟩:=Hk b _ z2
            rw[e]at e1;cases e1
            exact e2
  cases hk:K.lookup a with
  |some o=>
    have e:=KX a o hk
    rw[ha]at e
    cases e
    refine core (λ_=>none) (λ_=>.inl rfl) (.inr ⟨_,vs.toArray,_,hk,rfl,rfl,rfl,by rw[aI,HJ];exact hl,by simpa using rv⟩) (λb u z=>by have z':(none:Option HO)=some u:=z;cases z') (λb z=>absurd rfl z) λz=>absurd rfl z
  |none=>
    refine core (λb=>if b=a then some (.frz { cls:=.type "list",data:=.seq vs.toArray } (.lst (ns.map V.int)))else none) (λb=>?_) (.inl (.inr ⟨{ cls:=.type "list",data:=.seq vs.toArray },if_pos rfl⟩)) (λb u z=>?_) (λb z=>?_) λ_=>hk
    · by_cases hb:b=a
      · exact .inr ⟨_,_,if_pos hb⟩
      · exact .inl (if_neg hb)
    · by_cases hb:b=a
      · have z':=(if_pos hb).symm.trans z
        cases z'
        subst hb
        exact⟨ha,by rw[aM];exact hl,vs,_,rv,ha⟩
      · have z':=(if_neg hb).symm.trans z
        cases z'
    · by_cases hb:b=a
      · exact hb
      · exact absurd (if_neg hb) z
end L2
namespace L2
open PySem PySem.Spec PyProof.Rows
theorem walk_of {l:kM}{n k:Nat}{q:aT}{loose:List aK}{XP:(aK->Option aa)->aE->Prop}{YP:bt->aE->Prop}{d:DefRec}{K:Params->ae}{CX:bt->pJ}{sp:bt->Sp}{x:aK}
  (hn:l.most=some n) (uB:n<=sizeLine) (BD:d.params.defaults=[]) (hr:dw k md)
  (hY:∀(w:bt) (h:aE),YP w h->(K w.params).In h)
  (F:∀(w:bt) (mg:aK->Option aa) (fa:af) (h:aE),(K w.params).In h->h.Ns ax mg->mg d.name=some (.ref fa) ->
   ∃fd:aP,(∀(s:ai) (u:aa),nz s fd ⟨[u],[]⟩ [(x,u)]) /\
    ∀base:aE,(K w.params).In base->base.Ns ax mg->cB l.prog w (K w.params) mg base (CX w) k fa fd [x] (sp w))
  (uC:∀(w:bt) (H:Hp) (a:af) (ns:List Int),ns.length<=n->uY H->fN (K w.params) H a (ns.map V.int)->sp w [.ref a] H (λv _=>v=.bl true) λ_ _ _=>False)
  (GM:∀(w:bt) (H:Hp) (s:ai) (e:aa) (s':ai),CX w [] H s (λ_ _ _=>False) e s'->False) :
  qT q loose XP YP l.row.toRowW d [] (λf vs=>PySem.call f vs):=by
 refine Att.attach_call hn BD λw s₀ s₁ mg mb fa o pm cd doc a vs ns G Y ho hd jP hmg wY rD hlen hg=>?_
 have KX:=hY w _ Y
 obtain⟨fd,hb,hF⟩:=F w mg fa _ KX G.T.g hmg
 exact Tj KX G.T.g G.T.b G.T.builtins G.T.nolimit hg wY rD (bH hlen uB) hr hF hb (λH hO hS=>uC w H a ns hlen hO hS) λH e s'=>GM w H s₁ e s'
end L2
namespace L2
open PySem PySem.Spec PyProof.Rows
def inClass (s:bI)(j:Nat):bI:=match s with
 |.ClassDef _ _ _ body _ _ _ _ _ _ _=>body.getD j (.Pass ⟨0,0,0,0⟩)
 |_=>.Pass ⟨0,0,0,0⟩
def lB (s:bI):Arguments:=match s with
  |.FunctionDef _ a _ _ _ _ _ _ _ _=>a
  |_=>{ posonlyargs:=[],args:=[],vararg:=none,kwonlyargs:=[],kw_defaults:=[],kwarg:=none,defaults:=[] }
def fO (s:bI):List bI:=match s with
 |.FunctionDef _ _ b _ _ _ _ _ _ _=>b
 |_=>[]
def aU (s:bI):eZ:=match s with
  |.FunctionDef _ _ _ _ _ _ sc _ _ _=>sc
  |_=>{ kind:=.function,names:=[],isGenerator:=false,isCoroutine:=false }
abbrev eW:pJ:=λ_ _ _ _ _ _=>False
abbrev E0:XK:=λ_ _ _=>False
theorem nM {X:Cx}:iz eW X E0:=λ_ _ _ _ _ _ _ h=>h.elim
section
variable {P:aT}{w:bt}{K:ae}{mg:aK->Option aa}{base:aE}
end
theorem DT {A:bi}{k:Nat}(hr:dw k A):A.units+1<gW:=kn (Nat.add_le_add_left (by decide:1<=64) _) hr.units
theorem pY {n:Nat}(h:n<=1000):n<sizeLine:=kn h (by decide)
section
variable {X:Cx}
end
def bL (H H':Hp):Prop:=∀b o,H b=some o->H' b=some o
theorem bL.refl (H:Hp):bL H H:=λ_ _ h=>h
theorem bL.trans {H H1 H2:Hp}(a:bL H H1)(b:bL H1 H2):bL H H2:=λc o h=>b c o (a c o h)
theorem bL.free {H H':Hp}(e:bL H H'){l:af}(h:H' l=Option.none):H l=Option.none:=by
 cases q:H l with
 |none=>rfl
 |some o=>
  rw[e l o q]at h
  cases h
theorem bL.seq {K:ae}{H H':Hp}{a:af}{xs:List V}(e:bL H H')(h:fN K H a xs):fN K H' a xs:=by
 rcases h with(h|⟨o,h⟩)|h
 ·exact .inl (.inl (e _ _ h))
 ·exact .inl (.inr ⟨o,e _ _ h⟩)
 ·exact .inr h
end L2
namespace L2
open PySem PySem.Spec PyProof.Rows
def yP (a C:af)(dx tb:Option af)(h:aE):Prop :=
  ∃a0,h.get? a=some { cls:=.ref C,dict:=dx,data:=.fields #[a0,tb.elim aa.none .ref,.none,.none,.bool false,.none] }
def Ae (T:af)(h:aE):Prop:=∃ts,h.get? T=some { cls:=.type "traceback",data:=.fields ts }/\ts[3]?=some .none
theorem yP.stay {a C:af}{dx tb:Option af}{h h':aE}(x:yP a C dx tb h)(k:∀o,h.get? a=some o->h'.get? a=some o):yP a C dx tb h' :=
 let⟨a0,e⟩:=x;⟨a0,k _ e⟩
theorem Ae.stay {T:af}{h h':aE}(x:Ae T h)(k:∀o,h.get? T=some o->h'.get? T=some o):Ae T h' :=
 let⟨ts,e,q⟩:=x;⟨ts,k _ e,q⟩
abbrev lf (a C:af)(dx tb:Option af):HO:=.ext (yP a C dx tb)
abbrev Lb (T:af):HO:=.ext (Ae T)
def n4 (H:Hp)(a C:af)(dx tb:Option af):Prop:=H a=some (lf a C dx tb)/\∀T,tb=some T->H T=some (Lb T)/\T≠a
def dR (H:Hp)(a C:af)(dx:Option af)(T:af):Hp:=upd (upd H T (Lb T)) a (lf a C dx (some T))
theorem Ji {H:Hp}{a C T:af}{dx tb:Option af}(x:n4 H a C dx tb)(hT:H T=none):n4 (dR H a C dx T) a C dx (some T):=by
 have ne:T≠a:=λe=>by rw[e,x.1]at hT;cases hT
 refine⟨zm,λT' e=>?_⟩
 cases e
 exact⟨by unfold dR;rw[zg ne,zm],ne⟩
section
variable {X:Cx}{ah:List (af×cu)}{σ:St}{H:Hp}{s:ai}{a C:af}{dx tb:Option af}{M:Model}{A1 A2:bi}{E1 E2:aa->ai->Prop}
theorem Inv.xc (I:Inv X ah σ H s)(x:n4 H a C dx tb):yP a C dx tb s.heap:=(I.hok a _ x.1).1
theorem Inv.tbo {T:af}(I:Inv X ah σ H s)(x:n4 H a C dx (some T)):Ae T s.heap:=(I.hok T _ (x.2 T rfl).1).1
theorem Inv.entry {head:aa}{Es:Bool}{Q:Unit->ai->Prop}(I:Inv X ah σ H s)(iR:X.stack=X.env::X.outer)(hf:X.env.frame=some X.env.locals)(hA:A1.frames=some X.stack)(x:n4 H a C dx tb)
    (h:∀s' T,H T=none->Inv X ah σ (dR H a C dx T) s'->Q () s') :
    aN M A1 (do let fr ← frameOf X.env;let pl ← entryPlaceOf X.env.locals Es;let b ← EntryCells.newEntry head fr .none (rawInt X.env.locals) .none pl;setField (.ref a) 1 b) (λ_ s1=>aN M A2 (setFlight (.ref a) none) Q E1 s1) E2 s:=by
  have BH:=I.stack
  rw[iR]at BH hA
  refine ak (wpAny_frameOf_fun hA BH hf λh1 uO=>ak (wpAny_entryPlaceOf λpl el=>?_))
  unfold EntryCells.newEntry newFields
  refine ak (ik ?_ (el.sizeOk5 _ _ _ _ _))
  have fr:∀b,H b≠none->b∉(X.env::X.outer).filterMap (·.frame):=λb hb hm=>hb (I.stkFree b (by rw[iR];exact hm))
  obtain⟨a0,he⟩:=I.xc x
  have e1:=(uO.2.1 a (fr a (by rw[x.1];simp))).trans he
  generalize Pc:([head,aa.ref X.env.locals,.none,rawInt X.env.locals,.none]++(if pl.isEmpty then aC 6 aa.none else pl)).toArray=ts
  have OM:ts[3]?=some (rawInt X.env.locals):=by rw[←Pc];simp
  have Kh:3<ts.size:=(gF.mp OM).1
  have e2:=aq (h:=h1) { cls:=.type "traceback",dict:=none,data:=.fields ts } e1
  refine wpAny_setField e2 rfl (by simp) ?_
  have neT:h1.objs.size≠a:=iu (aG e1)
  have e3:=d7 (cu.mapFields (·.setIfInBounds 1 (aa.ref h1.objs.size))) e2 rfl
  have t3:=(cI (h1.push { cls:=.type "traceback",dict:=none,data:=.fields ts }) (cu.mapFields (·.setIfInBounds 1 (aa.ref h1.objs.size))) (Ne.symm neT)).trans (br h1 rfl)
  unfold setFlight
  refine ak (wpAny_field e3 rfl (x:=.ref h1.objs.size) (by simp) ?_)
  rw[if_pos (show(aa.ref h1.objs.size != aa.none)=true from by simp)]
  refine wpAny_setField t3 rfl Kh ?_
  suffices z:∀h4,h4=((h1.push { cls:=.type "traceback",dict:=none,data:=.fields ts }).update a (cu.mapFields (·.setIfInBounds 1 (aa.ref h1.objs.size)))).update h1.objs.size (cu.mapFields (·.setIfInBounds 3 ((none:Option af).elim aa.none λf=>rawInt f)))->Q () ⟨h4,s.gens,s.drawn,s.toks,s.os⟩from z _ rfl
  intro h4 BI
  have G6:=BI.symm
  clear BI
  have Kz:h1.objs.size=s.heap.objs.size:=uO.1
  have up:∀b o,b≠a->h1.get? b=some o->h4.get? b=some o:=λb o hb q=>by
    rw[←G6,cI _ _ (iu (aG q)),cI _ _ (Ne.symm hb)]
    exact aq _ q
  have yQ:H h1.objs.size=none:=I.hok.fresh (by rw[Kz];exact aH _)
  have e4:h4.get? a=some { cls:=.ref C,dict:=dx,data:=.fields #[a0,.ref h1.objs.size,.none,.none,.bool false,.none] }:=by
    rw[←G6,cI _ _ neT,e3];simp[cu.mapFields]
  have t4:h4.get? h1.objs.size=some { cls:=.type "traceback",data:=.fields (ts.setIfInBounds 3 .none) }:=by
    rw[←G6,d7 _ t3 rfl];simp[cu.mapFields]
  have kp:∀b o,H b≠none->b≠a->s.heap.get? b=some o->h4.get? b=some o:=λb o hb ha q=>up b o ha ((uO.2.1 b (fr b hb)).trans q)
  have nn:∀b,H b=none->b≠a:=λb hb q=>by rw[q,x.1]at hb;cases hb
  have nT:∀b o,s.heap.get? b=some o->b≠h1.objs.size:=λb o q=>by rw[Kz];exact aY (aG q)
  have hm:∀b,b∈(X.env::X.outer).filterMap (·.frame)->b=X.env.locals\/b∈X.fs:=λb hb=>az.mp (I.stkSub b (by rw[iR];exact hb))
  refine h _ h1.objs.size yQ (I.step (g':=s.gens) (t':=s.toks) (d':=s.drawn) (ch:=[]) (λb z=>nomatch z) (λb o En GJ _ q n=>up b o (nn b n) ((uO.2.1 b λz=>(hm b z).elim En GJ).trans q)) (λb o _ _ _ q n=>?_) (λb o _ q n=>?_) (λb o _ q=>?_) (λb xs q=>?_) (λb o u q=>?_) (λb ps q=>?_) (λm q=>?_) (λb u q=>?_) I.bare)
  · obtain⟨sl,q'⟩:=uO.2.2 b o q
    exact⟨sl,up b _ (nn b n) q'⟩
  · unfold dR;rw[zg (nn b n),zg (nT b o q)];exact n
  · by_cases hb:b=a
    · rw[hb];exact⟨_,e4⟩
    · obtain⟨sl,q'⟩:=uO.2.2 b o q
      exact⟨_,up b _ hb q'⟩
  · unfold dR;rw[zg (λz=>by rw[z,x.1]at q;cases q),zg (zk q yQ)];exact q
  · unfold dR;rw[zg (λz=>by rw[z,x.1]at q;cases q),zg (zk q yQ)];exact q
  · exact⟨#[],by unfold dR;rw[zg (λz=>by rw[z,x.1]at q;cases q),zg (zk q yQ),q];simp⟩
  · obtain⟨o,es,ep,ho,r⟩:=q
    obtain⟨sl,q'⟩:=uO.2.2 _ o ho
    exact⟨_,es,ep,up _ _ (nn _ I.free) q',r⟩
  · by_cases hb:b=a
    · subst hb
      have q:dR H b C dx h1.objs.size b=some u:=q
      unfold dR at q
      rw[zm]at q
      cases q
      exact⟨⟨a0,e4⟩,⟨_,e4⟩,λ_ _ z k=>z.stay k⟩
    · unfold dR at q
      rw[zg hb]at q
      by_cases sq:b=h1.objs.size
      · rw[sq,zm]at q
        cases q
        rw[sq]
        exact⟨⟨_,t4,by simp[Kh]⟩,⟨_,t4⟩,λ_ _ z k=>z.stay k⟩
      · rw[zg sq]at q
        refine(I.hok b u q).stay (λc v hc z=>kp c v ?_ ?_ z) (λc z=>?_) (λc xs z=>?_)
        · rcases hc with rfl|hc
          · rw[q];simp
          · rw[hc];simp
        · rcases hc with rfl|hc
          · exact hb
          · intro e;rw[e,x.1]at hc;cases hc
        · unfold dR;rw[zg (λe=>by rw[e,x.1]at z;cases z),zg (zk z yQ)];exact z
        · unfold dR;rw[zg (λe=>by rw[e,x.1]at z;cases z),zg (zk z yQ)];exact z
theorem Inv.note {Q:Unit->ai->Prop}(I:Inv X ah σ H s)(iR:X.stack=X.env::X.outer)(hf:X.env.frame=some X.env.locals)(hA:A1.frames=some X.stack)(x:n4 H a C dx tb)
  (h:∀s' T,H T=none->Inv X ah σ (dR H a C dx T) s'->Q () s') :
  aN M A1 (noteFrame (.ref a) X.env) (λ_ s1=>aN M A2 (setFlight (.ref a) none) Q E1 s1) E2 s:=by
 obtain⟨a0,he⟩:=I.xc x
 unfold noteFrame
 simp only[hf]
 cases tb with
 |none=>
  refine ak (wpAny_field he rfl (x:=.none) (by simp) ?_)
  rw[if_neg (by decide)]
  exact I.entry iR hf hA x h
 |some T=>
  obtain⟨ts,ht,h3⟩:=I.tbo x
  refine ak (wpAny_field he rfl (x:=.ref T) (by simp) ?_)
  rw[if_pos (show(aa.ref T != aa.none)=true from by simp)]
  refine ak (wpAny_field ht rfl h3 ?_)
  rw[if_neg (show¬((aa.none==rawInt X.env.locals)=true)from by simp[rawInt])]
  refine ak (wpAny_setField ht rfl (gF.mp h3).1 ?_)
  rw[mF s.heap T _ ts 3 .none ht rfl h3]
  exact I.entry iR hf hA x h
end
def tP (P:aT)(w:bt):pJ:=λouter H s E u s'=>∃(a C:af) (dx:Option af) (T:af) (H':Hp),u=.ref a/\s'.os=s.os/\AllBare s'.gens/\Un (qK outer) [] H H' s.heap s'.heap/\jL P w H' s'.heap/\n4 H' a C dx (some T)/\E u none H'
abbrev GK:=St->af->Hp->Prop
def jE (X:Cx)(G:GK):Prop:=∀(ah:List (af×cu)) (σ:St) (H:Hp) (s:ai) (a C:af) (dx tb:Option af),Inv X ah σ H s->n4 H a C dx tb->(∀T,H T=none->G σ a (dR H a C dx T))->X.xe (.ref a) s
theorem SS {P:aT}{w:bt}{K:ae}{mg:aK->Option aa}{base:aE}{N:List aK}{qual:aK}{scope:eZ}{f:af}{cd:aa}{A:bi}{outer:List Env}{s:ai}{H:Hp}{E:XK} :
  jE (lr (tP P w) P w K mg base N qual scope f cd A outer s H E) (λ_ a H'=>E (.ref a) none H'):=by
 intro ah σ H1 s1 a C dx tb I x g
 show aN _ _ (leaving _ _) _ _ _
 unfold leaving
 refine ak (I.note rfl rfl I.ok.frames x λs2 T hT J=>?_)
 exact⟨a,C,dx,T,_,rfl,J.os,J.bare,J.base,J.hok,Ji x hT,g T hT⟩
def EX (G:GK)(σ:St):XK:=λu _ H'=>∃a C dx T,u=.ref a/\n4 H' a C dx (some T)/\∀T',H' T'=none->G σ a (dR H' a C dx T')
section
variable {X:Cx}{k:Nat}{f C:af}{fd:aP}{ps:List aK}{sp:Sp}{gp:List V}{ds:List aa}{G:GK}{x m:aK}{p pos cN:cy}{e o:Expr}{es:List Expr}{ta:TE}{t:TA}
theorem Inv.raised {ah:List (af×cu)}{σ:St}{H:Hp}{s:ai}{u:aa}{s':ai}(I:Inv X ah σ H s)(hx:jE X G)(h:tP X.prog X.w X.stack H s (EX G σ) u s'):X.xe u s':=by
 obtain⟨a,C,dx,T,H',rfl,ho,hg,un,hok,xr,w⟩:=h
 have J:Inv X ah σ H' s':=I.call' (ch:=[]) ho un hok hg (λb z=>nomatch z)
 obtain⟨a2,C2,Gk,T2,e2,Iu,w⟩:=w
 cases e2
 exact hx ah σ H' s' a C2 Gk (some T2) J Iu w
theorem UE {ah:List (af×cu)}{σ:St}{H:Hp}{s:ai}{Q:VK}{us:List aa}{vs:List V}(F:cB X.prog X.w X.K X.mg X.base (tP X.prog X.w) k f fd ps sp)(hr:dw k X.A)(hb:bO X.K fd ps ds)(hd:bR gp ds)(hx:jE X G)
  (I:Inv X ah σ H s) (r:bR vs us) (h:sp (vs++gp) H Q (EX G σ)):aN (aA X.prog X.w) X.A (call (.ref f) us) (EP X ah σ Q) X.xe s:=by
 have r2:=r.append hd
 have hl:(us++ds).length=ps.length:=by rw[←r2.length];exact F.len _ _ _ _ h
 refine wpAny_call (fU (F.run X.A X.stack s H ⟨us,[]⟩ (us++ds) (vs++gp) Q (EX G σ) hr I.env0 (hb s us I.kIn hl) r2 h) λz s' hq=>?_)
 cases z with
 |error u=>exact I.raised hx hq
 |ok fl=>cases fl<;>first|exact I.after hq|exact False.elim hq
def xU (sp:Sp)(gp:List V)(G:GK)(t:TA):TE:=λσ H Q=>t σ H λvs H1=>sp (vs++gp) H1 Q (EX G σ)
theorem TU (F:cB X.prog X.w X.K X.mg X.base (tP X.prog X.w) k f fd ps sp)(hr:dw k X.A)(hg:Gl X x)(hm:X.mg x=some (.ref f))(hk:ar X.K (.ref f)=true)(hb:bO X.K fd ps ds)(hd:bR gp ds)(hx:jE X G)
  (ha:PA X (e::es) t) (iB:(x==("__debug__":aK))=false:=by decide) (he:ap (e::es) X.env=(false,bB e X.env)::ap es X.env:=by rfl) (el:(bZ pos (ap es X.env)).any (·.1)=false:=by rfl) :
  PE X (.Call (.Name x p) (e::es) [] pos) (xU sp gp G t):=by
 intro ah s σ H Q I h
 refine dA (u5 I hg hm (dQ (h₀:=X.base) I.ok.mod.kin hk (cO (ha pos ah s σ H _ I h) λus s1 ⟨vs,H1,I1,r,q⟩=>⟨I1.kIn,?_⟩) he el) iB)
 exact UE F hr hb hd hx I1 r q
end
end L2
namespace L2
open PySem PySem.Spec PyProof.Rows
abbrev oE:=PySem.F.excBase_ValueError
inductive fI:List aa->Prop
 |base:fI [.type "ValueError",.type "Exception",.type "BaseException",.type "object"]
 |own {c:af} {r:List aa}:fI r->fI (.ref c::r)
theorem fI.refuse {l:List aa}(self:aa)(h:fI l):refuseLoop self "__setattr__" l=pure ():=by
 induction h with
 |base=>exact PySem.F.store_ValueError.passes self
 |own h ih=>rw[refuseLoop_ref];exact ih
theorem fI.obj {l:List aa}(h:fI l):l.contains (.type "object")=true:=by
 induction h with
 |base=>decide
 |own h ih=>rw[jW,ih,Bool.or_true]
structure rf (K:ae)(C:af):Prop where
 ob:∃(nm q:aK) (N:af) (bs bm:List aa) (i7:Bool) (sn:List aK) (sub:List aa) (ab:Bool) (col:Option Bool) (dd:Option af) (k0 k1 k2 k3 k5:Option aa),
  K.lookup C=some (excClassObj nm q C N bs bm i7 sn sub ab col dd k0 k1 k2 k3 k5 "ValueError.__new__")/\fI bm
 mV:bp K C (.type "ValueError")=some true
 mB:bp K C (.type "BaseException")=some true
 mA:bp K C (.type "AttributeError")=some false
 mN:bp K C (.type "NameError")=some false
 sp:bK K (.ref C) "__call__"=some (some (.builtin "type.__call__"))
 ty:qG K (.ref C) (.type "type")=some true
section
variable {nm q:aK}{C N:af}{bs bm:List aa}{i7:Bool}{sn:List aK}{sub:List aa}{ab:Bool}{col:Option Bool}{dd:Option af}{k0 k1 k2 k3 k5:Option aa}
theorem Fg {K:ae}{b:aa}{v:Bool}(ho:K.lookup C=some (excClassObj nm q C N bs bm i7 sn sub ab col dd k0 k1 k2 k3 k5 "ValueError.__new__"))(h:bp K C b=some v):(aa.ref C::bm).contains b=v:=by
 unfold bp fH at h
 rw[ho]at h
 simpa using h
variable {prog:aT}{w:bt}{A:bi}{R:Result->ai->Prop}{h:aE}{g:Array GenState}{d:Drawn}{t:Nat}{os:OsState}
theorem We {rest:List aa}(yS:(aa.ref C::bm).contains (.type "ValueError")=true)(GR:(aa.ref C::bm).contains (.type "AttributeError")=false)(GU:(aa.ref C::bm).contains (.type "NameError")=false)
    (hC:h.get? C=some (excClassObj nm q C N bs bm i7 sn sub ab col dd k0 k1 k2 k3 k5 "ValueError.__new__")) (hz:rest.length<=sizeLine)
    (hq:R (.ok (.ret (.ref (h.objs.size+1)))) ⟨(h.push { cls:=.type "tuple",data:=.seq rest.toArray }).push { cls:=.ref C,data:=.fields #[.ref h.objs.size,.none,.none,.none,.bool false,.none] },g,d,t,os⟩) :
    eF (aA prog w) A (.call (.builtin "ValueError.__new__") ⟨.ref C::rest,[]⟩) R ⟨h,g,d,t,os⟩:=by
  have Kw:=oE.noStar
  refine codeAny_call_builtin_code (mJ.quiet_builtin _ oE.quiet) ?_
  simp only[checkBuiltinCall,oE.newKind,oE.newSplit,oE.newRow]
  repeat (first|refine wpAny_loadPart_at hC ?_|(refine wpAny_isSubtype_exc hC ?_;rw[yS])|refine wpAny_staticBase_exc hC ?_|refine wpAny_madeBy_exc hC ?_|simp only[bne_self_eq_false,cj,if_false]|wp_step)
  have Ko:=oE.ends
  refine codeAny_builtinAt oE.entry ?_
  unfold Builtin.«BaseException.__new__»
  refine PySem.wpAt_bind ?_
  show PySem.wpAt _ _ _ (stack >>= _) _ _ _
  refine PySem.wpAt_bind (PySem.wpAt_stack λp below=>PySem.wpAt_of_wpAny ?_)
  wp_walk
  refine PySem.wpAt_of_wpAny ?_
  rw[oE.owner]
  repeat (first|with_reducible refine wpAny_madeHere_exc oE.canon hC ?_|with_reducible refine wpAny_loadPart_at hC ?_|(with_reducible refine wpAny_isSubtype_exc hC ?_;first|rw[yS]|rw[GR]|rw[GU])|wp_step)
  show R _ _
  rw[dO]
  exact hq
theorem UF {rest:List aa}{init:aa}(yS:(aa.ref C::bm).contains (.type "ValueError")=true)(GR:(aa.ref C::bm).contains (.type "AttributeError")=false)(GU:(aa.ref C::bm).contains (.type "NameError")=false)
    (hC:h.get? C=some (excClassObj nm q C N bs bm i7 sn sub ab col dd k0 k1 k2 k3 k5 "ValueError.__new__")) (call:cm (aA prog w) h (specialOf (.ref C) "__call__") (some (.builtin "type.__call__"))) (typ:cm (aA prog w) h (isInstance (.ref C) (.type "type")) true)
    (hi:cm (aA prog w) h (typeLookup (.ref C) "__init__") (some init)) (hb:∀self,cm (aA prog w) h (bindSpecial init self) (init,[self])) (hz:rest.length<=sizeLine)
    (hq:eF (aA prog w) (A.under (.builtin "type.__call__" ⟨.ref C::rest,[]⟩)) (.call init ⟨.ref (h.objs.size+1)::rest,[]⟩) (oY (h.objs.size+1) R)
      ⟨(h.push { cls:=.type "tuple",data:=.seq rest.toArray }).push { cls:=.ref C,data:=.fields #[.ref h.objs.size,.none,.none,.none,.bool false,.none] },g,d,t,os⟩) :
    eF (aA prog w) A (.call (.ref C) ⟨rest,[]⟩) R ⟨h,g,d,t,os⟩:=by
  have self:cm (aA prog w) h (isSubtype (.ref C) (.ref C)) true:=λA Q E s k z=>by
    obtain⟨hh,g',d',t',KP⟩:=s
    refine wpAny_isSubtype_exc (k _ _ hC) ?_
    rw[show(aa.ref C::bm).contains (.ref C)=true by simp];exact z
  refine codeAny_of_tree ?_
  show aN _ _ (callAny (.ref C) _) _ _ _
  refine PySem.W.nd_load hC ?_
  show aN _ _ (callAny.viaDunder (.ref C) _) _ _ _
  unfold callAny.viaDunder
  refine ak (call.at ?_)
  dsimp only
  rw[tc_bind]
  refine ak (aJ (ak (aJ ?_)))
  refine aJ (a:=Fin.again (.call (.builtin "type.__call__") ⟨.ref C::rest,[]⟩)) (And.intro rfl ?_)
  refine codeAny_call_builtin_at (mJ.quiet_builtin _ (by decide +kernel)) entry_typeCall (gw tc_kind tc_split typ (PySem.W.tc_args _ _ _) ?_)
  unfold Builtin.«type.__call__»
  repeat (first|with_reducible refine wpAny_loadPart_at hC ?_|with_reducible refine wpAny_madeBy_exc hC ?_|with_reducible refine wpAny_mroOf_exc hC ?_|simp only[List.isEmpty_cons,cj,if_false]|with_reducible refine wpAny_call ?_|wp_step)
  refine We yS GR GU hC hz ?_
  have k:∀b o,h.get? b=some o->((h.push { cls:=.type "tuple",data:=.seq rest.toArray }).push { cls:=.ref C,data:=.fields #[.ref h.objs.size,.none,.none,.none,.bool false,.none] }).get? b=some o:=λb o e=>aq _ (aq _ e)
  have hx:((h.push { cls:=.type "tuple",data:=.seq rest.toArray }).push { cls:=.ref C,data:=.fields #[.ref h.objs.size,.none,.none,.none,.bool false,.none] }).get? (h.objs.size+1)=some { cls:=.ref C,data:=.fields #[.ref h.objs.size,.none,.none,.none,.bool false,.none] }:=by heap_get
  have t1:cm (aA prog w) ((h.push { cls:=.type "tuple",data:=.seq rest.toArray }).push { cls:=.ref C,data:=.fields #[.ref h.objs.size,.none,.none,.none,.bool false,.none] }) (typeOf (.ref (h.objs.size+1))) (.ref C):=(cm.ld hx).andThen .now
  have s1:=self.keeps k
  have i1:=hi.keeps k
  have b1:=(hb (.ref (h.objs.size+1))).keeps k
  unfold isInstance callSpecial? specialOf
  repeat (first|with_reducible refine wpAny_call ?_|lk)
  refine fU hq λr s' z=>?_
  rcases r with e|(v|_|_|_)<;>first|exact z|exact z.elim|skip
  obtain⟨rfl,z⟩:=z
  exact aJ (aJ z)
end
end L2
namespace L2
open PySem PySem.Spec PyProof.Rows
section
variable {nm q:aK}{C N:af}{bs bm:List aa}{i7:Bool}{sn:List aK}{sub:List aa}{ab:Bool}{col:Option Bool}{dd:Option af}{k0 k1 k2 k3 k5:Option aa}
variable {prog:aT}{w:bt}{A:bi}{E:aa->ai->Prop}{h:aE}{g:Array GenState}{d:Drawn}{t:Nat}{os:OsState}
theorem TV {e:af}{dx:Option af}{a0 v1 v2 v3 v4 v5:aa}{rest:List aa}{R:Result->ai->Prop}(yS:(aa.ref C::bm).contains (.type "ValueError")=true)
    (hC:h.get? C=some (excClassObj nm q C N bs bm i7 sn sub ab col dd k0 k1 k2 k3 k5 "ValueError.__new__")) (he:h.get? e=some { cls:=.ref C,dict:=dx,data:=.fields #[a0,v1,v2,v3,v4,v5] }) (hz:rest.length<=sizeLine)
    (hq:∀h' a1,(∀b o,b≠e->h.get? b=some o->h'.get? b=some o)->h'.get? e=some { cls:=.ref C,dict:=dx,data:=.fields #[a1,v1,v2,v3,v4,v5] }->R (.ok (.ret .none)) ⟨h',g,d,t,os⟩) :
    eF (aA prog w) A (.call (.builtin "ValueError.__init__") ⟨.ref e::rest,[]⟩) R ⟨h,g,d,t,os⟩:=by
  have Hq:=oE.noStar
  refine codeAny_call_builtin oE.init.plain oE.initEntry ?_
  simp only[checkBuiltinCall,oE.initKind,oE.initSplit,oE.initRow]
  repeat (first|with_reducible refine wpAny_loadPart_at he ?_|with_reducible refine wpAny_loadPart_at hC ?_|(with_reducible refine wpAny_isSubtype_exc hC ?_;rw[yS])|wp_step)
  refine wpAny_onRaise ?_
  rw[show∀(a b:String) (n:Nat),Bind.check ⟨.positional,"*","ValueError",.self,[⟨"args",.varPos,false⟩]⟩ a b n (List.map (λx=>x.fst) ({ pos:=aa.ref e::rest }:Args).kw)=pure ()from
    λa b n=>check_star_args _ _ _ _ _ _]
  refine aJ ?_
  unfold Builtin.«BaseException.__init__»
  dsimp only
  rw[if_neg (by decide)]
  unfold newTuple
  refine ak (ik ?_ (by show rest.toArray.size<=sizeLine;rw[aI];exact hz))
  have e1:=aq (h:=h) { cls:=.type "tuple",data:=.seq rest.toArray } he
  unfold Builtin.BaseException.bexcPut
  refine ak (ak (wpAny_field e1 rfl (x:=a0) (by simp) ?_))
  refine ak (wpAny_setField e1 rfl (by simp) ?_)
  have e2:=d7 (cu.mapFields (·.setIfInBounds 0 (aa.ref h.objs.size))) e1 rfl
  have fin:R (.ok (.ret .none)) ⟨(h.push { cls:=.type "tuple",data:=.seq rest.toArray }).update e (cu.mapFields (·.setIfInBounds 0 (aa.ref h.objs.size))),g,d,t,os⟩:=by
    refine hq _ (.ref h.objs.size) (λb o hb ho=>?_) ?_
    · rw[cI _ _ (Ne.symm hb)]
      exact aq _ ho
    · rw[e2];simp[cu.mapFields]
  cases a0<;>first|exact wpAny_letGo (aJ fin)|exact aJ (aJ fin)
end
section
variable {nm q:aK}{C N:af}{bs bm:List aa}{sn:List aK}{sub:List aa}{ab:Bool}{col:Option Bool}{dd:Option af}{k0 k1 k2 k3 k5:Option aa}
variable {prog:aT}{w:bt}{A:bi}{E:aa->ai->Prop}{s:ai}{K:ae}{x:af}{dt:oX}{sl:Array (Option aa)}{name:aK}{v:aa}
theorem Wf {Q:Unit->ai->Prop}(X:K.In s.heap)(hK:K.lookup C=some (excClassObj nm q C N bs bm true sn sub ab col dd k0 k1 k2 k3 k5 "ValueError.__new__"))(hm:fI bm)(hx:s.heap.get? x=some ⟨.ref C,none,dt,sl⟩)(hd:∀cd,dt≠.cls cd)(BG:(⟨.ref C,none,dt,sl⟩:cu).isFreed=false)
    (hs:aj K (.ref C) "__setattr__"=some (some (.builtin "object.__setattr__"))) (ht:dv K C name=some none)
    (h:∀h' dx,s.heap.get? dx=none->dx≠x->s.heap.objs.size<=dx->h'.get? x=some ⟨.ref C,some dx,dt,sl⟩->h'.Ns1 dx (λy=>if y=name then some v else none)->(∀b o,b≠x->s.heap.get? b=some o->h'.get? b=some o)->Q () { s with heap:=h',toks:=s.toks+2 }) :
    aN (aA prog w) A (setAttr (.ref x) name v) Q E s:=by
  have hn:qH ⟨.ref C,none,dt,sl⟩=true:=by
    unfold qH
    cases dt<;>first|rfl|exact absurd rfl (hd _)
  have J:dG s.heap x ⟨.ref C,none,dt,sl⟩ C none:=⟨hx,rfl,hn,trivial⟩
  refine oj X J hs ?_
  have SF:=PySem.F.store_object
  obtain⟨cd,hc,BQ,BE⟩:∃cd,fH K C=some cd/\cd.mro=.ref C::bm/\cd.hasDict=true:=⟨_,by unfold fH;rw[hK],rfl,rfl⟩
  have sub:cm (aA prog w) s.heap (isInstance (.ref x) (.type "object")) true:=J.type.andThen (iM X (by unfold bp;rw[hc,bw,BQ,if_neg (by simp),(fI.own hm).obj]))
  refine codeAny_call_builtin SF.slot.plain SF.entry (@gw (aA prog w) _ _ { s with toks:=s.toks+1 } "object.__setattr__" "object" "__setattr__" (.ref x) [.str name s.toks,v] [] _ SF.kind SF.split sub (SF.args (.ref x) (.str name s.toks) v) ?_)
  obtain⟨attr,ha,hr⟩:=mI.mp ht
  have hM:cm (aA prog w) s.heap (mroOf (.ref C)) (.ref C::bm):=BQ▸(iL X hc).andThen .now
  have L3:cm (aA prog w) s.heap (Builtin.ObjectAttr.storeTaker? attr) none:=by
    cases attr with
    |none=>exact .now
    |some a=>
      obtain⟨b,hb,OO⟩:=bF.mp hr
      refine(PySem.W.looks_takesIn X hb).andThen ?_
      cases b
      · exact .now
      · cases OO
  rw[PySem.W.osa_eq,refuse_eq]
  refine ak (ak (J.type.here (s:={ s with toks:=s.toks+1 }) (ak (hM.here (s:={ s with toks:=s.toks+1 }) ?_))))
  rw[(fI.own hm).refuse]
  refine aJ (ak (J.type.here (s:={ s with toks:=s.toks+1 }) (ak ((cQ X ha).here (s:={ s with toks:=s.toks+1 }) (ak (L3.here (s:={ s with toks:=s.toks+1 }) ?_))))))
  refine ak (aJ (ak (ak (wpAny_loadPart (s:={ s with toks:=s.toks+1 }) hx (ak ((iL X hc).here (s:={ s with toks:=s.toks+1 }) ?_))))))
  rw[BE]
  have Ky:(s.heap.push { cls:=.type "dict",data:=.dict #[] }).get? x=some ⟨.ref C,none,dt,sl⟩:=aq _ hx
  have Hz:x≠s.heap.objs.size:=aY (aG hx)
  show aN _ _ (if(!true || !typeHasDict (.ref C))=true then _ else _) _ _ _
  rw[if_neg (by simp[typeHasDict])]
  have go:aN (aA prog w) A.in1 (do
      let d ← alloc { cls:=.type "dict",data:=.dict #[] }
      update x λo=>{ o with dict:=some d }
      dictMade (.ref C) x d) (λa s'=>aN (aA prog w) A.in1 (match a with
        |some d=>Builtin.ObjectAttr.storeInDict d (.str name s.toks) name v
        |none=>Builtin.ObjectAttr.noDictFor (.ref x) (.ref C) name attr.isSome) (λfin s'=>match fin with|.done f=>(match Except.ok f with|.ok (.ret _)=>Q () s'|.ok _=>False|.error e=>E e s')|.again c'=>c'.quiet=true/\eF (aA prog w) A c' (λr s'=>match r with|.ok (.ret _)=>Q () s'|.ok _=>False|.error e=>E e s') s') E s') E { s with toks:=s.toks+1 }:=by
    refine ak (wpAny_alloc' ?_)
    refine ak (wpAny_update' Ky ?_)
    refine aJ ?_
    have OW:((s.heap.push { cls:=.type "dict",data:=.dict #[] }).update x λo=>{ cls:=o.cls,dict:=some s.heap.objs.size,data:=o.data,slots:=o.slots }).get? s.heap.objs.size=some { cls:=.type "dict",data:=.dict #[] } :=
      (jH _ _ _ _ Hz.symm).trans (p9 rfl rfl)
    have O2:((s.heap.push { cls:=.type "dict",data:=.dict #[] }).update x λo=>{ cls:=o.cls,dict:=some s.heap.objs.size,data:=o.data,slots:=o.slots }).Ns s.heap.objs.size (λ_=>none):=⟨_,#[],_,OW,rfl,λe he=>absurd he (by simp),λ_=>rfl⟩
    show aN _ _ (Builtin.ObjectAttr.storeInDict s.heap.objs.size (.str name s.toks) name v) _ _ _
    unfold Builtin.ObjectAttr.storeInDict Builtin.ObjectAttr.newKeyGuard
    refine ak (aJ (ak (wpAny_nsSet1 (aE.Ns1.of_empty O2) λh' uA ED=>?_)))
    obtain⟨oD,Ox,Ov,Hi,GX,GS⟩:=uA.count (Within.cons name v Within.nil)
    refine ak (wpAny_lookBehind Hi (by rw[GX];exact pastItsLine_dict (bH GS (by rw[aB,si,bu];omega))) ?_)
    refine aJ (h h' s.heap.objs.size (iT (aH _)) Hz.symm (aH _) ?_ uA λb o hb ho=>?_)
    · refine(ED.2 x Hz).trans (d7 _ Ky ?_)
      cases dt<;>first|rfl|exact BG
    · exact(ED.2 b (aY (aG ho))).trans ((jH _ _ _ _ hb).trans (aq _ ho))
  cases dt<;>first|exact absurd rfl (hd _)|exact go
theorem Wg {expr:Bool}{Q:aa->ai->Prop}{ox:cu}{od:Option cu}(X:K.In s.heap)(J:dG s.heap x ox C od)(OV:aj K (.ref C) "__getattribute__"=some (some (.builtin "BaseException.__getattribute__")))
  (hk:aj K (.ref C) "__getattr__"=some none) (hB:bp K C (.type "BaseException")=some true) (hf:kN K C od name=some (.value v)) (hv:kr v=true) (h:Q v { s with toks:=s.toks+1 }) :
  aN (aA prog w) A (getAttr (.ref x) name expr) Q E s:=by
 obtain⟨hh,g,d,t,os⟩:=s
 have L0:=J.type (M:=aA prog w)
 have L1:=cQ (M:=aA prog w) X OV
 have L2:=cQ (M:=aA prog w) X hk
 have L3:=nY (M:=aA prog w) X J hf
 have FX:=PySem.F.excAttr_ValueError
 have Hx:(aa.builtin "BaseException.__getattribute__" == aa.builtin "object.__getattribute__")=false:=by decide +kernel
 unfold getAttr getAttrBy
 refine ak (wpAny_mkText (dq (ak (L0.at (ak (L1.at ?_))))))
 dsimp only
 rw[Hx,sA,if_neg aD]
 unfold getAttrByItsOwn hookBefore
 rw[if_pos (show onTheHeap (aa.ref C)=true from rfl)]
 refine ak (L2.at ?_)
 refine ak (wpAny_attempt (dq ?_))
 unfold callGetattribute
 rw[if_neg (show¬((expr&&onTheHeap (aa.builtin "BaseException.__getattribute__"))=true)by cases expr<;>decide)]
 unfold boundAndCalled
 rw[FX.ga.bind (.ref x)]
 refine ak (aJ ?_)
 have hi:cm (aA prog w) hh (isInstance (.ref x) (.type "BaseException")) true:=L0.andThen (iM X hB)
 refine wpAny_call (codeAny_call_builtin FX.ga.plain PySem.F.entry_bexc_ga (@gw (aA prog w) _ _ ⟨hh,g,d,t+1,os⟩ "BaseException.__getattribute__" "BaseException" "__getattribute__" (.ref x) [.str name t] [] _ (by decide +kernel) (by decide +kernel) hi (PySem.F.args_bexc_ga _ _) ?_))
 unfold Builtin.«object.__getattribute__»
 refine ak (aJ (ak (aJ (ak (L0.at (ak (L3.at ?_)))))))
 refine aJ ?_
 show aN _ _ (handedOut v) _ _ _
 rw[PySem.W.handedOut_of hv]
 exact aJ h
end
end L2
set_option maxHeartbeats 4000000
namespace L2
open PySem PySem.Spec PyProof.Rows
section
variable {X:Cx}{ah:List (af×cu)}{σ:St}{H:Hp}{s:ai}{C:af}
theorem Inv.xmade (I:Inv X ah σ H s)(us:List aa):H (s.heap.objs.size+1)=none/\Inv X ah σ (upd H (s.heap.objs.size+1) (lf (s.heap.objs.size+1) C none none)) { s with heap:=(s.heap.push { cls:=.type "tuple",data:=.seq us.toArray }).push { cls:=.ref C,data:=.fields #[.ref s.heap.objs.size,.none,.none,.none,.bool false,.none] } }:=by
  have I1:Inv X ah σ H { s with heap:=s.heap.push { cls:=.type "tuple",data:=.seq us.toArray } }:=I.kept (t':=s.toks) λb o e=>aq _ e
  have z:(s.heap.push { cls:=.type "tuple",data:=.seq us.toArray }).objs.size=s.heap.objs.size+1:=dO ..
  have e:((s.heap.push { cls:=.type "tuple",data:=.seq us.toArray }).push { cls:=.ref C,data:=.fields #[.ref s.heap.objs.size,.none,.none,.none,.bool false,.none] }).get? (s.heap.objs.size+1)=some { cls:=.ref C,data:=.fields #[.ref s.heap.objs.size,.none,.none,.none,.bool false,.none] }:=p9 z.symm rfl
  refine⟨I.hok.fresh (eY _),I1.laid (t':=s.toks) (λb o e=>aq _ e) (kI z) ⟨⟨_,e⟩,⟨_,e⟩,λ_ _ q k=>q.stay k⟩⟩
theorem Inv.xwrite {a:af}{dx Gj tb tb':Option af}{h':aE}{t':Nat}(I:Inv X ah σ H s)(he:H a=some (lf a C dx tb))(k:∀b u,b≠a->s.heap.get? b=some u->h'.get? b=some u)(new:yP a C Gj tb' h') :
  Inv X ah σ (upd H a (lf a C Gj tb')) { s with heap:=h',toks:=t' }:=by
 obtain⟨a1,e⟩:=id new
 exact I.write (x:=a) (e:=a) (by rw[he];trivial) (.inl rfl) k ⟨_,e⟩ ⟨new,⟨_,e⟩,λ_ _ q k=>q.stay k⟩
variable {k:Nat}{f:af}{fd:aP}{ps:List aK}{sp:Sp}{x:aK}{p pos:cy}{e:Expr}{es:List Expr}{t:TA}{te:TE}{G:GK}
def yC (C:af)(sp:Sp)(t:TA):TE:=λσ H Q=>t σ H λvs H1=>vs.length<=1000/\∀a,H1 a=none->sp (.ref a::vs) (upd H1 a (lf a C none none)) (λv H2=>v=.non/\Q (.ref a) H2) E0
theorem ui {K:ae}(c:rf K C):∃(nm q:aK) (N:af) (bs bm:List aa) (i7:Bool) (sn:List aK) (sub:List aa) (ab:Bool) (col:Option Bool) (dd:Option af) (k0 k1 k2 k3 k5:Option aa),
  K.lookup C=some (excClassObj nm q C N bs bm i7 sn sub ab col dd k0 k1 k2 k3 k5 "ValueError.__new__")/\fI bm/\(aa.ref C::bm).contains (.type "ValueError")=true/\(aa.ref C::bm).contains (.type "BaseException")=true/\(aa.ref C::bm).contains (.type "AttributeError")=false/\(aa.ref C::bm).contains (.type "NameError")=false:=by
 obtain⟨nm,q,N,bs,bm,i7,sn,sub,ab,col,dd,k0,k1,k2,k3,k5,ho,hm⟩:=c.ob
 exact⟨nm,q,N,bs,bm,i7,sn,sub,ab,col,dd,k0,k1,k2,k3,k5,ho,hm,Fg ho c.mV,Fg ho c.mB,Fg ho c.mA,Fg ho c.mN⟩
theorem SU {Q:VK}{us:List aa}{vs:List V}(c:rf X.K C)(hi:aj X.K (.ref C) "__init__"=some (some (.ref f)))(qM:bP X.K (.ref f)=true)(F:cB X.prog X.w X.K X.mg X.base eW k f fd ps sp)(hr:dw (k+1) X.A)(hb:bO X.K fd ps [])
  (I:Inv X ah σ H s) (r:bR vs us) (hz:vs.length<=1000) (h:∀a,H a=none->sp (.ref a::vs) (upd H a (lf a C none none)) (λv H2=>v=.non/\Q (.ref a) H2) E0) :
  aN (aA X.prog X.w) X.A (call (.ref C) us) (EP X ah σ Q) X.xe s:=by
 obtain⟨hn,I2⟩:=I.xmade (C:=C) us
 have hq:=h _ hn
 obtain⟨nm,q,N,bs,bm,i7,sn,sub,ab,col,dd,k0,k1,k2,k3,k5,ho,hm,c1,c2,c3,c4⟩:=ui c
 have r2:bR (V.ref (s.heap.objs.size+1)::vs) (aa.ref (s.heap.objs.size+1)::us):=.cons rfl r
 have hl:(aa.ref (s.heap.objs.size+1)::us++[]).length=ps.length:=by rw[bX,←r2.length];exact F.len _ _ _ _ hq
 have Et:=hb _ (aa.ref (s.heap.objs.size+1)::us) I2.kIn hl
 rw[bX]at Et
 have Pf:us.length<=sizeLine:=by rw[←r.length];exact bH hz (by rw[bu];omega)
 obtain⟨h0,g,d,t,os⟩:=s
 refine wpAny_call (UF c1 c3 c4 (I.kIn _ _ ho) (PySem.W.looks_specialIn I.kIn c.sp) (PySem.W.looks_instIn I.kIn c.ty) (cQ I.kIn hi) (λself=>pH I.kIn self (beq_iff_eq.mp qM)) Pf (fU (F.run _ X.stack _ _ ⟨aa.ref (h0.objs.size+1)::us,[]⟩ _ _ _ E0 (hr.make C us []) (I2.env0.make C us []) Et r2 hq) λz s' rG=>?_))
 cases z with
 |error u=>exact False.elim rG
 |ok fl=>
  cases fl with
  |ret u=>
   obtain⟨v,H',I3,rv,ev,q3⟩:=I2.after rG
   subst ev
   exact⟨rv,V.ref (h0.objs.size+1),H',I3,rfl,q3⟩
  |_=>exact False.elim rG
theorem TX (c:rf X.K C)(Hc:ar X.K (.ref C)=true)(hi:aj X.K (.ref C) "__init__"=some (some (.ref f)))(qM:bP X.K (.ref f)=true)(F:cB X.prog X.w X.K X.mg X.base eW k f fd ps sp)(hr:dw (k+1) X.A)(hg:Gl X x)(hm:X.mg x=some (.ref C))(hb:bO X.K fd ps [])
  (ha:PA X (e::es) t) (iB:(x==("__debug__":aK))=false:=by decide) (he:ap (e::es) X.env=(false,bB e X.env)::ap es X.env:=by rfl) (el:(bZ pos (ap es X.env)).any (·.1)=false:=by rfl) :
  PE X (.Call (.Name x p) (e::es) [] pos) (yC C sp t):=by
 intro ah s σ H Q I h
 refine dA (u5 I hg hm (dQ (h₀:=X.base) I.ok.mod.kin Hc (cO (ha pos ah s σ H _ I h) λus s1 ⟨vs,H1,I1,r,q⟩=>⟨I1.kIn,?_⟩) he el) iB)
 exact SU c hi qM F hr hb I1 r q.1 q.2
def yA (K:ae)(G:GK)(te:TE):TS:=λD σ H=>te σ H λv H1=>∃a C dx,v=.ref a/\rf K C/\n4 H1 a C dx none/\∀T,H1 T=none->G σ a (dR H1 a C dx T)
theorem TY (hc:X.calm=true)(hx:jE X G)(he:PE X e te):PS X (.Raise (some e) none pos) (yA X.K G te):=by
 intro ah s σ H D I h
 have main:aN (aA X.prog X.w) X.A (raiseStmt X.env (some (do let v ← bB e X.env;eQ pos;pure v)) none) (SP X ah D) X.xe s:=by
  unfold raiseStmt
  refine ak (ak (cO (he ah s σ H _ I h) λv s1 ⟨v',H1,I1,r1,a,C,dx,e1,c,xr,w⟩=>ak (e8 (aJ ?_))))
  subst e1
  cases r1
  obtain⟨nm,q,N,bs,bm,i7,sn,sub,ab,col,dd,k0,k1,k2,k3,k5,ho,hm,c1,c2,c3,c4⟩:=ui c
  obtain⟨a0,ha⟩:=I1.xc xr
  have hC:=I1.kIn _ _ ho
  have fin:X.xe (.ref a) s1:=hx ah σ H1 s1 a C dx none I1 xr w
  have hh:=I.ok.hd hc
  obtain⟨h0,g,d,t,os⟩:=s1
  repeat (first|with_reducible refine wpAny_loadPart_at ha ?_|with_reducible refine wpAny_loadPart_at hC ?_|(with_reducible refine wpAny_isSubtype_exc hC ?_;rw[c2])|wp_step)
  exact wpAny_raiseNew_none hh fin
 rw[arm_exec_Raise]
 exact ak (e8 main)
def rY (K:ae)(to:TE)(te:TE):TE:=λσ H Q=>to σ H λv H1=>te σ H1 λu H2=>∃a C dx tb,v=.ref a/\rf K C/\H2 a=some (lf a C dx tb)/\Q .non H2
theorem TZ {B:af}{o:Expr}{to:TE}{cN:cy}{pl:gU Bool}{m:aK}(hg:Gl X x)(hm:X.mg x=some (.ref B))
  (h1:bK X.K (.ref B) "__getattribute__"=some (some (.builtin "type.__getattribute__"))) (h2:dU X.K B (.type "type")=true) (h3:dS X.K (.ref B) (.type "type") m=some (.val (.builtin "ValueError.__init__"))) (ho:PE X o to) (he:PE X e te)
  (iB:(x==("__debug__":aK))=false:=by decide) (iR:ap [o,e] X.env=[(false,bB o X.env),(false,bB e X.env)]:=by rfl) (sP:ap [e] X.env=[(false,bB e X.env)]:=by rfl)
  (ht:bB (.Call (.Attribute (.Name x p) m cN) [o,e] [] pos) X.env=(do
   let ov ← bB (.Name x p) X.env
   eQ cN.atName
   let(f,first) ← dD [ov] (fG ov m pl)
   gX pos f first (bZ pos (ap [o,e] X.env)) (eK pos (dc [] X.env))):=by rfl) :
  PE X (.Call (.Attribute (.Name x p) m cN) [o,e] [] pos) (rY X.K to te):=by
 intro ah s σ H Q I h
 refine dZ (pl:=pl) (u5 I hg hm ?_ iB) ht
 refine nZ I.kIn h1 (oh I.kIn h2 h3 rfl ?_)
 have I1:Inv X ah σ H { s with toks:=s.toks+1 }:=I.tok _
 refine iX (cO ((xn ho (xn he uw sP) (by rw[iR,sP])) pos ah _ σ H (λvs H2=>match vs with|[v,u]=>∃a C dx tb,v=.ref a/\rf X.K C/\H2 a=some (lf a C dx tb)/\Q .non H2|_=>False) I1 h) λus s2 ⟨vs,H2,I2,r,q2⟩=>?_) (by rw[iR,sP]) (by rw[sP];rfl)
 cases r with
 |nil=>exact False.elim q2
 |cons rv r=>
  cases r with
  |nil=>exact False.elim q2
  |cons ru r=>
   cases r with
   |cons _ _=>exact False.elim q2
   |nil=>
    obtain⟨a,C,dx,tb,e1,c,ha,q3⟩:=q2
    subst e1
    cases rv
    obtain⟨nm,q,N,bs,bm,i7,sn,sub,ab,col,dd,k0,k1,k2,k3,k5,EB,Yo,c1,c2,c3,c4⟩:=ui c
    obtain⟨a0,ea⟩:=(I2.hok a _ ha).1
    refine wpAny_call (TV c1 (I2.kIn _ _ EB) ea (by show 1<=sizeLine;rw[bu];omega) λh' a1 kp e2=>?_)
    have I3:=I2.xwrite (tb':=tb) (Gj:=dx) ha (h':=h') (t':=s2.toks) kp ⟨a1,e2⟩
    have hH:upd H2 a (lf a C dx tb)=H2:=by
     funext b
     by_cases hb:b=a
     ·rw[hb,zm,ha]
     ·rw[zg hb]
    rw[hH]at I3
    exact⟨.non,H2,I3,rfl,q3⟩
def uS (K:ae)(f:aK)(te to:TE):TS:=λD σ H=>te σ H λu H1=>to σ H1 λv H2=>∃a C tb,v=.ref a/\rf K C/\bv K C=true/\aj K (.ref C) "__setattr__"=some (some (.builtin "object.__setattr__"))/\dv K C f=some none/\H2 a=some (lf a C none tb) /\
 ∀dx,H2 dx=none->dx≠a->D.nx σ (upd (upd H2 dx (.xd [(f,u)])) a (lf a C (some dx) tb))
theorem UG {f:aK}{o value:Expr}{to tv:TE}{pos':cy}(ho:PE X o to)(hv:PE X value tv)(hs:dI value (some (.Attribute o f pos')) pos.line X.env=pure false:=by rfl):PS X (.Assign [.Attribute o f pos'] value pos) (uS X.K f tv to):=by
 intro ah s σ H D I h
 refine plainObj_wpAny_Assign_Attribute (cO (hv ah s σ H _ I h) λu s1 ⟨u',H1,I1,r1,q1⟩=>cO (ho ah s1 σ H1 _ I1 q1) λov s2 ⟨v',H2,I2,r2,q2⟩=>?_) hs
 obtain⟨a,C,tb,e1,c,hd,O7,EE,ha,w⟩:=q2
 subst e1
 cases r2
 obtain⟨nm,q,N,bs,bm,i7,sn,sub,ab,col,dd,k0,k1,k2,k3,k5,EB,hm,c1,c2,c3,c4⟩:=ui c
 obtain rfl:i7=true:=by unfold bv fH at hd;rw[EB]at hd;simpa using hd
 obtain⟨a0,ea⟩:=(I2.hok a _ ha).1
 refine Wf I2.kIn EB hm ea (λ_ z=>by cases z) rfl O7 EE λh' dx Ew kU n8 rJ n9 kp=>?_
 have nn:∀b,H2 b=none->b≠a:=λb hb q=>by rw[q,ha]at hb;cases hb
 have yT:H2 dx=none:=I2.hok.fresh n8
 have nT:∀b o,s2.heap.get? b=some o->b≠dx:=λb o q z=>by rw[z,Ew]at q;cases q
 refine⟨σ,upd (upd H2 dx (.xd [(f,u')])) a (lf a C (some dx) tb),I2.step (g':=s2.gens) (t':=s2.toks+2) (d':=s2.drawn) (ch:=[]) (λb z=>nomatch z) (λb o _ _ _ q n=>kp b o (nn b n) q) (λb o _ _ _ q n=>⟨o.slots,kp b o (nn b n) q⟩) (λb o _ q n=>?_) (λb o _ q=>?_) (λb xs q=>?_) (λb o u q=>?_) (λb ps q=>?_) (λm q=>?_) (λb u q=>?_) I2.bare,w dx yT kU⟩
 ·rw[zg (nn b n),zg (nT b o q)];exact n
 ·by_cases hb:b=a
  ·rw[hb];exact⟨_,rJ⟩
  ·exact⟨o,kp b o hb q⟩
 ·rw[zg (λz=>by rw[z,ha]at q;cases q),zg (zk q yT)];exact q
 ·rw[zg (λz=>by rw[z,ha]at q;cases q),zg (zk q yT)];exact q
 ·exact⟨#[],by rw[zg (λz=>by rw[z,ha]at q;cases q),zg (zk q yT),q];simp⟩
 ·obtain⟨o,es,ep,ho,r⟩:=q
  exact⟨o,es,ep,kp _ _ (nn _ I2.free) ho,r⟩
 ·by_cases hb:b=a
  ·subst hb
   rw[zm]at q
   cases q
   exact⟨⟨a0,rJ⟩,⟨_,rJ⟩,λ_ _ z k=>z.stay k⟩
  ·rw[zg hb]at q
   by_cases sq:b=dx
   ·rw[sq,zm]at q
    cases q
    rw[sq]
    refine⟨_,n9,λy=>?_⟩
    by_cases hy:y=f
    ·subst hy
     rw[if_pos rfl]
     have:(y==y)=true:=beq_self_eq_true y
     simp only[eu,this]
     exact r1
    ·rw[if_neg hy]
     have:(y==f)=false:=beq_eq_false_iff_ne.mpr hy
     simp only[eu,this]
     trivial
   ·rw[zg sq]at q
    refine(I2.hok b u q).stay (λc v hc z=>kp c v ?_ z) (λc z=>?_) (λc xs z=>?_)
    ·rcases hc with rfl|hc
     ·exact hb
     ·intro e;rw[e,ha]at hc;cases hc
    ·rw[zg (λe=>by rw[e,ha]at z;cases z),zg (zk z yT)];exact z
    ·rw[zg (λe=>by rw[e,ha]at z;cases z),zg (zk z yT)];exact z
end
end L2
set_option maxHeartbeats 4000000
namespace L2
open PySem PySem.Spec PyProof.Rows
section
variable {X:Cx}{e:Expr}{es:List Expr}{te:TE}{pos:cy}
abbrev TF:=St->Hp->(Hp->Prop)->Prop
def PF (X:Cx)(e:Expr)(n:Nat)(t:TF):Prop:=∀(ah:List (af×cu)) (s:ai) (σ:St) (H:Hp) (Q:Hp->Prop),Inv X ah σ H s->t σ H Q ->
 aN (aA X.prog X.w) X.A (bB e X.env) (λv s1=>∃y tk H1,v=.str y tk/\y.length<=n/\Inv X ah σ H1 s1/\Q H1) X.xe s
theorem T3 {c:aK}{j}(hz:c.length<=2000:=by decide):PF X (.Constant (.str c) j pos) 2000 (λ_ H Q=>Q H):=λ_ _ _ H _ I h=>Calls.Constant_str ⟨c,_,H,rfl,hz,I.tok _,h⟩
def mM (v:V):Prop:=v=.non\/∃i:Int,v=.int i/\i.natAbs.log2<1920
theorem X2 (he:PE X e te):PF X (.FormattedValue e (-1) none pos) 2000 (λσ H Q=>te σ H λv H1=>mM v/\Q H1):=by
 intro ah s σ H Q I h
 refine wpAny_FormattedValue_plain (cO (he ah s σ H _ I h) λu s1 cS=>?_)
 obtain⟨v,H1,I1,r1,f,q⟩:=cS
 rcases f with rfl|⟨i,rfl,hi⟩
 ·cases r1
  exact wpAny_formatField_none ⟨_,_,H1,rfl,by decide,I1.tok _,q⟩
 ·obtain⟨t,rfl⟩:=r1
  refine wpAny_formatField_int hi ⟨_,_,H1,rfl,?_,I1.tok _,q⟩
  have z:=int_text_length_le (k:=1920) (by decide) hi
  rw[PySem.ofString_length];omega
def D0 (X:Cx)(es:List Expr)(t:TF):Prop:=∀(ah:List (af×cu)) (s:ai) (σ:St) (H:Hp) (eX:aK) (Q:VK),Inv X ah σ H s->eX.length+2000*es.length<=100000->t σ H (λH1=>∀x,Q (.str x) H1) ->
 Joins (aA X.prog X.w) X.A X.xe (evalEach es X.env) eX (λout s1=>out.length<=sizeLine/\EP X ah σ Q (.str out s1.toks) { s1 with toks:=s1.toks+1 }) s
theorem UH:D0 X [] (λ_ H Q=>Q H):=by
 intro ah s σ H eX Q I hz h
 exact⟨by rw[bu];omega,.str eX,H,I.tok _,⟨_,rfl⟩,h eX⟩
theorem Mg {t1 t2:TF}(h1:PF X e 2000 t1)(h2:D0 X es t2)(hs:evalEach (e::es) X.env=bB e X.env::evalEach es X.env:=by rfl):D0 X (e::es) (λσ H Q=>t1 σ H λH1=>t2 σ H1 Q):=by
 intro ah s σ H eX Q I hz h
 rw[hs]
 refine cV (h1 ah s σ H _ I h) (λv s1 ⟨y,tk,H1,e1,hy,I1,q⟩=>?_) λ_ _ x=>x
 have hl:(eX++y).length=eX.length+y.length:=strLen_append _ _
 rw[aB]at hz
 exact⟨y,tk,e1,by rw[hl,bu];omega,h2 ah s1 σ H1 (eX++y) Q I1 (by rw[hl];omega) q⟩
theorem UI {a b:Expr}{t:TF}(h:D0 X (a::b::es) t)(hl:(a::b::es).length<=40:=by decide):PE X (.JoinedStr (a::b::es) pos) (λσ H Q=>t σ H λH1=>∀x,Q (.str x) H1):=by
 intro ah s σ H Q I hq
 refine wpAny_JoinedStr (h ah s σ H aK.empty Q I ?_ hq)
 have:(aK.empty:aK).length=0:=rfl
 omega
structure FC (K:ae)(C:af)(f:aK):Prop where
 ga:aj K (.ref C) "__getattribute__"=some (some (.builtin "BaseException.__getattribute__"))
 gn:aj K (.ref C) "__getattr__"=some none
 mB:bp K C (.type "BaseException")=some true
 hd:bv K C=true
 no:aj K (.ref C) f=some none
def DG (K:ae)(ta:TE)(f:aK):TE:=λσ H Q=>ta σ H λx H1=>∃a C dx tb fs v,x=.ref a/\H1 a=some (lf a C (some dx) tb)/\H1 dx=some (.xd fs)/\FC K C f/\fs.lookup f=some v/\Q v H1
theorem UJ {f:aK}(he:PE X e te)(hb:dP e f X.env (bB e X.env)=bB e X.env):PE X (.Attribute e f pos) (DG X.K te f):=by
 intro ah s σ H Q I h
 refine MG hb (cO (he ah s σ H _ I h) λu s1 cS=>?_)
 obtain⟨x,H1,I1,rx,a,C,dx,tb,fs,v,ex,ea,ed,c,l,q⟩:=cS
 subst ex
 cases rx
 obtain⟨a0,eo⟩:=(I1.hok a _ ea).1
 obtain⟨mA,n9,Hn⟩:=I1.hok dx _ ed
 obtain⟨od,ho,hl⟩:=LJ n9
 have J:dG s1.heap a _ C (some od):=⟨eo,rfl,rfl,ho⟩
 have hv:=Hn f
 rw[l]at hv
 cases hm:mA f with
 |none=>rw[hm]at hv;exact False.elim hv
 |some w=>
  rw[hm]at hv
  exact Wg I1.kIn J c.ga c.gn c.mB (nE c.hd c.no rfl (by rw[hl,hm])) (LM hv) ⟨v,H1,I1.tok _,hv,q⟩
end
structure XIc (K:ae)(C:af):Prop where
 ga:aj K (.ref C) "__getattribute__"=some (some (.builtin "BaseException.__getattribute__"))
 gn:aj K (.ref C) "__getattr__"=some none
 mB:bp K C (.type "BaseException")=some true
 hd:bv K C=true
 ca:aj K (.ref C) "__class__"=some (some (.builtin "object.__class__"))
 cg:bK K (.builtin "object.__class__") "__get__"=some (some (.builtin "getset_descriptor.__get__"))
 ct:fV K (.builtin "object.__class__")=some true
 mO:bp K C (.type "object")=some true
section
variable {prog:aT}{w:bt}{A:bi}{E:aa->ai->Prop}{s:ai}{K:ae}{x C:af}{ox:cu}{od:Option cu}
theorem T4 {Q:Option aa->ai->Prop}(c:XIc K C)(X:K.In s.heap)(J:dG s.heap x ox C od)(h:Q (some (.ref C)) { s with toks:=s.toks+1 }):aN (aA prog w) A (getAttr? (.ref x) "__class__") Q E s:=by
 have hf:kN K C od "__class__"=some (.bind (.builtin "getset_descriptor.__get__") (.builtin "object.__class__")):=by
  obtain⟨cd,hc,_⟩:=gO c.hd
  unfold kN
  rw[hc,bw,c.ca,bw]
  dsimp only
  rw[c.cg,bw]
  dsimp only
  rw[c.ct,bw]
 obtain⟨hh,g,d,t,os⟩:=s
 have L0:=J.type (M:=aA prog w)
 have L1:=cQ (M:=aA prog w) X c.ga
 have L2:=cQ (M:=aA prog w) X c.gn
 have L3:=nY (M:=aA prog w) X J hf
 have FX:=PySem.F.excAttr_ValueError
 have Hx:(aa.builtin "BaseException.__getattribute__" == aa.builtin "object.__getattribute__")=false:=by decide +kernel
 unfold getAttr? getAttrBy? getAttrBy
 refine ak (wpAny_mkText (ak (wpAny_attempt (dq (ak (L0.at (ak (L1.at ?_))))))))
 dsimp only
 rw[Hx,sA,if_neg aD]
 unfold getAttrByItsOwn hookBefore
 rw[if_pos (show onTheHeap (aa.ref C)=true from rfl)]
 refine ak (L2.at ?_)
 refine ak (wpAny_attempt (dq ?_))
 unfold callGetattribute
 rw[if_neg (by decide)]
 unfold boundAndCalled
 rw[FX.ga.bind (.ref x)]
 refine ak (aJ ?_)
 have hi:cm (aA prog w) hh (isInstance (.ref x) (.type "BaseException")) true:=L0.andThen (iM X c.mB)
 refine wpAny_call (codeAny_call_builtin FX.ga.plain PySem.F.entry_bexc_ga (@gw (aA prog w) _ _ ⟨hh,g,d,t+1,os⟩ "BaseException.__getattribute__" "BaseException" "__getattribute__" (.ref x) [.str "__class__" t] [] _ (by decide +kernel) (by decide +kernel) hi (PySem.F.args_bexc_ga _ _) ?_))
 unfold Builtin.«object.__getattribute__»
 refine ak (aJ (ak (aJ (ak (L0.at (ak (L3.at ?_)))))))
 show aN _ _ (dD [.builtin "object.__class__"] (call (.builtin "getset_descriptor.__get__") [.builtin "object.__class__",.ref x,.ref C]) >>= ret) _ _ _
 refine ak (dq (wpAny_call (PySem.W.class_get (s:=⟨hh,g,d,t+1,os⟩) X J c.mO ?_)))
 refine aJ ?_
 show aN _ _ (handedOut (.ref C)) _ _ _
 exact PySem.W.handed_on rfl (aJ h)
theorem Mh (c:XIc K C):PySem.W.KitX K (.ref x) (.ref C) (λh=>dG h x ox C od) where
 ty:=λ_ _ _ J=>J.type
 it:=λM h X _=>by
  obtain⟨cd,hc,_⟩:=gO c.hd
  unfold fH at hc
  split at hc
  ·rename_i c' d' Ot Ib ho
   intro A' Q' E' s' k q
   unfold isType loadHead
   exact ak (wpAny_loadPart (k _ _ (X _ _ ho)) (aJ q))
  ·cases hc
 ne:=λh tp dd bW n sl X Hs=>by
  obtain⟨cd,hc,_⟩:=gO c.hd
  refine Bool.eq_false_iff.mpr λq=>?_
  obtain rfl:C=tp:=aa.ref.inj (beq_iff_eq.mp q)
  unfold fH at hc
  split at hc
  ·rename_i c' d' Ot Ib ho
   have z:=(X _ _ ho).symm.trans Hs
   cases z
  ·cases hc
 ca:=λX J k=>T4 c X J k
end
end L2
set_option maxHeartbeats 4000000
namespace L2
open PySem PySem.Spec PyProof.Rows
abbrev Cx.tr (X:Cx)(E:aa->ai->Prop)(ah:List (af×cu)):Cx:={ X with xe:=E,pn:=X.pn++ah }
abbrev Cx.hd (X:Cx)(a:af):Cx:={ X with A:=X.A.mark (some (.ref a)),calm:=false,xe:=λ_ _=>False }
section
variable {X:Cx}{ah:List (af×cu)}{σ:St}{H:Hp}{s:ai}{E:aa->ai->Prop}{a:af}
theorem Inv.tr (I:Inv X ah σ H s)(E:aa->ai->Prop):Inv (X.tr E ah) [] σ H s :=
 ⟨⟨I.ok.mod,I.ok.kind,I.ok.glob,I.ok.blt,I.ok.above,I.ok.inj,I.ok.has,I.ok.cab,I.ok.hd,I.ok.frames,I.ok.stk,I.ok.exf,I.ok.bs,I.ok.bsz,I.ok.noex,I.ok.exfs,I.ok.funs,I.ok.frf⟩,I.os,I.bare,I.base,I.loc,I.cell,I.free,I.freeC,λp hp=>I.pin p (by simpa using hp),I.hok,I.len⟩
theorem Inv.untr {q:List (af×cu)}(I:Inv (X.tr E ah) q σ H s):Inv X ah σ H s :=
 ⟨⟨I.ok.mod,I.ok.kind,I.ok.glob,I.ok.blt,I.ok.above,I.ok.inj,I.ok.has,I.ok.cab,I.ok.hd,I.ok.frames,I.ok.stk,I.ok.exf,I.ok.bs,I.ok.bsz,I.ok.noex,I.ok.exfs,I.ok.funs,I.ok.frf⟩,I.os,I.bare,I.base,I.loc,I.cell,I.free,I.freeC,λp hp=>I.pin p (bb _ hp),I.hok,I.len⟩
theorem Inv.hdl (I:Inv X ah σ H s)(a:af):Inv (X.hd a) ah σ H s :=
 ⟨⟨I.ok.mod,I.ok.kind,I.ok.glob,I.ok.blt,I.ok.above,I.ok.inj,I.ok.has,I.ok.cab,(λz=>by cases z),I.ok.frames,I.ok.stk,I.ok.exf,I.ok.bs,I.ok.bsz,I.ok.noex,I.ok.exfs,I.ok.funs,I.ok.frf⟩,I.os,I.bare,I.base,I.loc,I.cell,I.free,I.freeC,I.pin,I.hok,I.len⟩
theorem Inv.unhd (ok:X.Ok)(I:Inv (X.hd a) ah σ H s):Inv X ah σ H s :=
 ⟨ok,I.os,I.bare,I.base,I.loc,I.cell,I.free,I.freeC,I.pin,I.hok,I.len⟩
theorem SP.untr {D:gH}{f:Flow}{s':ai}(h:SP (X.tr E ah) [] D f s'):SP X ah D f s':=by
 cases f with
 |next=>obtain⟨σ',H',I,q⟩:=h;exact⟨σ',H',I.untr,q⟩
 |brk=>obtain⟨σ',H',I,q⟩:=h;exact⟨σ',H',I.untr,q⟩
 |cont=>obtain⟨σ',H',I,q⟩:=h;exact⟨σ',H',I.untr,q⟩
 |ret u=>obtain⟨v,σ',H',I,r,q⟩:=h;exact⟨v,σ',H',I.untr,r,q⟩
abbrev TH:=af->af->TS
def PH (X:Cx)(hs:List ExceptHandler)(th:TH):Prop:=∀(ah:List (af×cu)) (s:ai) (σ:St) (H:Hp) (D:gH) (a C:af) (dx:Option af) (T:af),Inv X ah σ H s->n4 H a C dx (some T)->th a C D σ H ->
 aN (aA X.prog X.w) X.A (handleBy (.ref a) X.env hs) (SP X ah D) X.xe s
theorem Wi:PH X [] (λ_ _ _ _ _=>False):=λ_ _ _ _ _ _ _ _ _ _ _ h=>h.elim
theorem RQ {M:Model}{A:bi}{E:aa->ai->Prop}{C T:af}{dx:Option af}{Q:Unit->ai->Prop}(I:Inv X ah σ H s)(x:n4 H a C dx (some T))(h:Q () s):aN M A (setFlight (.ref a) none) Q E s:=by
 obtain⟨a0,he⟩:=I.xc x
 obtain⟨ts,ht,h3⟩:=I.tbo x
 unfold setFlight
 refine ak (wpAny_field he rfl (x:=.ref T) (by simp) ?_)
 rw[if_pos (show(aa.ref T != aa.none)=true from by simp)]
 refine wpAny_setField ht rfl (gF.mp h3).1 ?_
 show Q () { s with heap:=s.heap.update T (cu.mapFields (·.setIfInBounds 3 aa.none)) }
 rw[mF s.heap T _ ts 3 .none ht rfl h3]
 exact h
def yD (th:TH)(D:gH):GK:=λσ' a H'=>∃C dx T,n4 H' a C dx (some T)/\th a C D σ' H'
theorem Wj {body:List bI}{h0:ExceptHandler}{hs:List ExceptHandler}{pos:cy}{th:TH}{tb:∀(E:aa->ai->Prop) (ah:List (af×cu)) (G:GK),cn (aA X.prog X.w) X.A X.env E->jE (X.tr E ah) G->TS}(iR:X.stack=X.env::X.outer)(hf:X.env.frame=some X.env.locals)
  (hb:∀E ah G h1 h2,nr (X.tr E ah) body (tb E ah G h1 h2)) (hh:PH X (h0::hs) th):PS X (.Try body (h0::hs) [] [] pos) (λD σ H=>∀E ah h1 h2,tb E ah (yD th D) h1 h2 D σ H):=by
 intro ah s σ H D I h
 refine wpAny_Try_except ?_
 have key:aN (aA X.prog X.w) X.A (execs body X.env) (SP (X.tr (λe s1=>aN (aA X.prog X.w) X.A (noteFrame e X.env) (λ_ s2=>aN (aA X.prog X.w) X.A (setFlight e none) (λ_ s3=>aN (aA X.prog X.w) X.A (handleBy e X.env (h0::hs)) (SP X ah D) X.xe s3) X.xe s2) X.xe s1) ah) [] D)
   (λe s1=>aN (aA X.prog X.w) X.A (noteFrame e X.env) (λ_ s2=>aN (aA X.prog X.w) X.A (setFlight e none) (λ_ s3=>aN (aA X.prog X.w) X.A (handleBy e X.env (h0::hs)) (SP X ah D) X.xe s3) X.xe s2) X.xe s1) s:=by
  have p1:cn (aA X.prog X.w) X.A X.env (λe s1=>aN (aA X.prog X.w) X.A (noteFrame e X.env) (λ_ s2=>aN (aA X.prog X.w) X.A (setFlight e none) (λ_ s3=>aN (aA X.prog X.w) X.A (handleBy e X.env (h0::hs)) (SP X ah D) X.xe s3) X.xe s2) X.xe s1) :=
   cn.looking (K:=λe s2=>aN (aA X.prog X.w) X.A (setFlight e none) (λ_ s3=>aN (aA X.prog X.w) X.A (handleBy e X.env (h0::hs)) (SP X ah D) X.xe s3) X.xe s2)
  have p2:jE (X.tr (λe s1=>aN (aA X.prog X.w) X.A (noteFrame e X.env) (λ_ s2=>aN (aA X.prog X.w) X.A (setFlight e none) (λ_ s3=>aN (aA X.prog X.w) X.A (handleBy e X.env (h0::hs)) (SP X ah D) X.xe s3) X.xe s2) X.xe s1) ah) (yD th D):=by
   intro q σ' H' s' a C dx tb I' xr g
   have J:=I'.untr
   refine J.note iR hf J.ok.frames xr λs2 T hT J2=>?_
   obtain⟨C2,Gk,T2,Iu,h2⟩:=g T hT
   exact hh ah s2 σ' _ D a C2 Gk T2 J2 Iu h2
  exact hb _ ah _ p1 p2 [] s σ H D (I.tr _) (h _ ah p1 p2)
 refine cV key (λf s1 q=>?_) λ_ _ z=>z
 have q:=q.untr
 cases f with
 |next=>exactλΓ p hΓ=>q
 |_=>exact q
theorem Inv.del {M:Model}{A:bi}{E:aa->ai->Prop}{i:Nat}{n:aK}{v:V}{Q:Unit->ai->Prop}(I:Inv X ah σ H s)(hN:X.N.Nodup)(hi:X.N[i]?=some n)(hl:X.env.scope.names.lookup n=some .local)(hσ:σ[i]?=some (some v))
  (h:∀s',Inv X ah (σ.set i none) H s'->Q () s'):aN M A (unbindName X.env n) Q E s:=by
 obtain⟨m,hn,BN⟩:=id I.loc
 obtain⟨u,r,lk⟩:=BN i n v hi hσ (.inl hl)
 have wM:(X.env.scope.kind==.class || (X.env.scope.kind==.module&&X.env.locals != X.env.globals))=false:=by rw[I.ok.kind];rfl
 have hm:m n=some u:=by
  rcases lk with⟨_,q⟩|⟨k,_⟩
  ·exact q
  ·have k:X.env.scope.names.lookup n=some .cell\/X.env.scope.names.lookup n=some .free:=k
   rw[hl]at k
   rcases k with k|k<;>cases k
 refine wpAny_unbindName_local hl hn hm wM λh' u' uA hs=>?_
 have zC:∀b o,X.s₀.heap.get? b=some o->b≠X.env.locals:=λb o e=>aY (bg (aG e) I.ok.above)
 obtain⟨oL,_,_,su,_⟩:=id hn
 refine h _ ⟨I.ok,I.os,I.bare,⟨λb o e nn hb hx=>(hs.2 b (zC b o e)).trans (I.base.keep b o e nn hb hx),λb o e nn hb hx=>?_,I.base.free,λb o e hx=>?_,I.base.tups,I.base.frzs,I.base.tbls⟩,⟨_,uA,λj y v' e1 e2 e3=>?_⟩,λy c e=>?_,I.free,I.freeC,λp hp=>?_,λb ob e=>?_,by simpa using I.len⟩
 ·obtain⟨sl,e1⟩:=I.base.slot b o e nn hb hx
  exact⟨sl,(hs.2 b (zC b o e)).trans e1⟩
 ·obtain⟨o',e1⟩:=I.base.there b o e hx
  exact⟨o',(hs.2 b (zC b o e)).trans e1⟩
 ·by_cases hj:j=i
  ·subst hj
   rw[df (by rw[I.len];exact(aS.mp hi).1)]at e2
   cases e2
  ·rw[et (Ne.symm hj)]at e2
   obtain⟨w,r',q⟩:=BN j y v' e1 e2 e3
   refine⟨w,r',?_⟩
   rcases q with⟨k,e⟩|⟨k,c,e,z⟩
   ·refine .inl ⟨k,?_⟩
    have:y≠n:=λe=>hj (IL hN e1 (e▸hi))
    simp[this,e]
   ·exact .inr ⟨k,c,e,z.sameBut hs (I.cne y c e)⟩
 ·obtain⟨w',z⟩:=I.cell y c e
  exact⟨w',z.sameBut hs (I.cne y c e)⟩
 ·obtain⟨e,nn,ne,nf,d⟩:=I.pin p hp
  exact⟨(hs.2 p.1 ne).trans e,nn,ne,nf,d⟩
 ·refine(I.hok b ob e).stay (λc w' hc q=>(hs.2 c ?_).trans q) (λ_ q=>q) λ_ _ q=>q
  rintro rfl
  rcases hc with rfl|hc
  ·rw[I.free]at e;cases e
  ·rw[I.free]at hc;cases hc
def gH.un (D:gH)(i:Nat):gH:={ nx:=λσ H=>D.nx (σ.set i none) H,rt:=D.rt,bk:=λσ H=>D.bk (σ.set i none) H,ct:=λσ H=>D.ct (σ.set i none) H }
theorem X3 {x n:aK}{i:Nat}{np pos:cy}{B:af}{body:List bI}{rest:List ExceptHandler}{tb:af->TS}{th:TH}(hN:X.N.Nodup)(hi:X.N[i]?=some n)(hl:X.env.scope.names.lookup n=some .local)(hg:Gl X x)(hm:X.mg x=some (.ref B))(hb:∀a,nr (X.hd a) body (tb a))(hr:PH X rest th)(kU:body≠[]:=by simp)(iB:(x==("__debug__":aK))=false:=by decide) :
  PH X (.ExceptHandler (some (.Name x np)) (some n) body pos::rest) (λa C D σ H=>∃b,eh X.K (.ref C) (.ref B)=some b/\if b=true then tb a (D.un i) (σ.set i (some (.ref a))) H else th a C D σ H):=by
 intro ah s σ H D a C dx T I xr h
 obtain⟨b,hx,h⟩:=h
 have I1:=I.hdl a
 obtain⟨a0,he⟩:=I.xc xr
 refine wpAny_handleBy_cons (codeAny_handlers_test (u5 I1 hg hm ?_ iB)) (by intro z;cases z)
 have LT:cm (aA X.prog X.w) s.heap (typeOf (.ref a)) (.ref C):=(cm.ld he).andThen .now
 refine(PySem.W.exm_one I.kIn LT hx).here ?_
 cases b with
 |false=>
  rw[if_neg aD]at h ⊢
  exact hr ah s σ H D a C dx T I xr h
 |true=>
  rw[if_pos rfl]at h ⊢
  have fin:∀{f:Flow} {s':ai} {A:bi} {E:aa->ai->Prop},SP (X.hd a) ah (D.un i) f s'->aN (aA X.prog X.w) A (do bindName X.env n .none;unbindBehindTheSuite X.env n pos) (λ_ s3=>SP X ah D f s3) E s':=by
   intro f s' A E q
   have go:∀{σ':St} {H':Hp},Inv (X.hd a) ah σ' H' s'->(∀s3,Inv X ah (σ'.set i none) H' s3->SP X ah D f s3)->aN (aA X.prog X.w) A (do bindName X.env n .none;unbindBehindTheSuite X.env n pos) (λ_ s3=>SP X ah D f s3) E s':=by
    intro σ' H' J w
    refine ak (wpAny_bindName (j5 (J.unhd I.ok) hN hi (.inl hl) (v:=.non) rfl (λs3 J3=>?_) (.inr hl)))
    unfold unbindBehindTheSuite
    refine wpAny_onRaise (J3.del hN hi hl (v:=.non) (by rw[df (by rw[J.len];exact(aS.mp hi).1)]) λs4 J4=>?_)
    rw[List.set_set]at J4
    exact w s4 J4
   cases f with
   |next=>obtain⟨σ',H',J,q⟩:=q;exact go J λs3 J3=>⟨_,H',J3,q⟩
   |brk=>obtain⟨σ',H',J,q⟩:=q;exact go J λs3 J3=>⟨_,H',J3,q⟩
   |cont=>obtain⟨σ',H',J,q⟩:=q;exact go J λs3 J3=>⟨_,H',J3,q⟩
   |ret u=>obtain⟨v,σ',H',J,r,q⟩:=q;exact go J λs3 J3=>⟨v,_,H',J3,r,q⟩
  refine codeAny_of_tree ?_
  show aN _ (X.A.mark (some (.ref a))) (do return Fin.done (← (handleWith (.ref a) X.env [.ExceptHandler none (some n) body pos]).onRaise (λx=>do noteFrame x X.env;theTreesLotGoes x))) _ _ s
  refine ak (wpAny_noted ?_)
  have hw:handleWith (.ref a) X.env [.ExceptHandler none (some n) body pos]=(do
    eQ pos
    setFlight (.ref a) none
    bindName X.env n (.ref a)
    match ← (execs body X.env).attempt with
    |.ok f=>pure f
    |.error x=>
     noteFrame x X.env
     dD [x] <|(do
      bindName X.env n .none
      unbindBehindTheSuite X.env n pos:gU Unit).onRaise λ_=>setFlight x none
     passOn "try.except-as" x X.env):=by
   cases body with
   |nil=>exact absurd rfl kU
   |cons _ _=>rfl
  rw[hw]
  refine ak (e8 (ak (RQ I xr (ak (wpAny_bindName (j5 (X:=X.hd a) I1 hN hi (.inl hl) (v:=.ref a) rfl (λs3 J3=>?_) (.inr hl)))))))
  refine ak (wpAny_attempt (cV (hb a ah s3 _ H _ J3 h) (λf s4 q=>aJ (aJ ?_)) λ_ _ z=>False.elim z))
  exact fin q
end
end L2
set_option maxHeartbeats 4000000
namespace L2
open PySem PySem.Spec PyProof.Rows
section
variable {X:Cx}{e:Expr}{es:List Expr}{te:TE}{pos:cy}
end
end L2
namespace L2
open PySem PySem.Spec PyProof.Rows
section
variable {κ:Type}[DecidableEq κ]
def hV (cq:List (κ×V))(k:κ):Option V:=(cq.find? λkv=>decide (kv.1=k)).map (·.2)
def putK (cq:List (κ×V))(k:κ)(v:V):List (κ×V) :=
 if(cq.any λkv=>decide (kv.1=k))=true then cq.map (λkv=>if kv.1=k then(kv.1,v)else kv)else cq++[(k,v)]
theorem IP {p:κ×V}{r:List (κ×V)}{k:κ}(e:p.1=k):hV (p::r) k=some p.2:=by simp[hV,cM,e]
theorem IQ {p:κ×V}{r:List (κ×V)}{k:κ}(e:¬p.1=k):hV (p::r) k=hV r k:=by simp[hV,cM,e]
theorem Mi (k:κ):∀cq:List (κ×V),(cq.any λkv=>decide (kv.1=k))=(hV cq k).isSome
 |[]=>rfl
 |p::r=>by
  rw[d6]
  by_cases e:p.1=k
  ·simp only[IP e,decide_eq_true e,Bool.true_or,Option.isSome_some]
  ·rw[IQ e,decide_eq_false e,Bool.false_or];exact Mi k r
theorem Lm (cq:List (κ×V))(k:κ)(v:V):(putK cq k v).length<=cq.length+1:=by
 unfold putK
 split
 ·rw[aM];omega
 ·rw[aV,aB,si];omega
theorem iZ.isSome_eq {o:Option V}{u:Option aa}(r:iZ o u):o.isSome=u.isSome:=by
 cases o with
 |none=>cases u with
  |none=>rfl
  |some _=>exact(show False from r).elim
 |some _=>cases u with
  |none=>exact(show False from r).elim
  |some _=>rfl
theorem iZ.getD {o:Option V}{u:Option aa}{d:V}{d':aa}(r:iZ o u)(rd:RelV d d'):RelV (o.getD d) (u.getD d'):=by
 cases o with
 |none=>cases u with
  |none=>exact rd
  |some _=>exact(show False from r).elim
 |some _=>cases u with
  |none=>exact(show False from r).elim
  |some _=>exact r
theorem KV.val {cq:List (κ×V)}{vs:List (κ×aa)}(r:KV cq vs)(k:κ):iZ (hV cq k) (nD vs k):=by
 unfold KV at r
 induction r with
 |nil=>exact True.intro
 |@cons p q ps qs h t ih=>
  obtain⟨h1,h2⟩:=h
  by_cases e:p.1=k
  ·have e':q.1=k:=h1.symm.trans e
   have b:nD (q::qs) k=some q.2:=by simp[nD,cM,e']
   rw[IP e,b];exact h2
  ·have e':¬q.1=k:=λz=>e (h1.trans z)
   have b:nD (q::qs) k=nD qs k:=by simp[nD,cM,e']
   rw[IQ e,b];exact ih
theorem KV.any {cq:List (κ×V)}{vs:List (κ×aa)}(r:KV cq vs)(k:κ):(cq.any λkv=>decide (kv.1=k))=vs.any λkv=>decide (kv.1=k):=by
 unfold KV at r
 induction r with
 |nil=>rfl
 |cons h t ih=>rw[d6,d6,ih,h.1]
theorem KV.repl {cq:List (κ×V)}{vs:List (κ×aa)}(r:KV cq vs)(k:κ){y:V}{u:aa}(ry:RelV y u) :
  KV (cq.map λkv=>if kv.1=k then(kv.1,y)else kv) (vs.map λkv=>if kv.1=k then(kv.1,u)else kv):=by
 unfold KV at r ⊢
 induction r with
 |nil=>exact .nil
 |@cons p q ps qs h t ih=>
  rw[bq,bq]
  refine .cons ?_ ih
  obtain⟨h1,h2⟩:=h
  by_cases e:p.1=k
  ·rw[if_pos e,if_pos (h1.symm.trans e)];exact⟨h1,ry⟩
  ·rw[if_neg e,if_neg (λz=>e (h1.trans z))];exact⟨h1,h2⟩
theorem KV.put {cq:List (κ×V)}{vs:List (κ×aa)}(r:KV cq vs)(k:κ){y:V}{u:aa}(ry:RelV y u):KV (putK cq k y) (stored vs k u):=by
 unfold putK stored
 rw[r.any k]
 by_cases e:(vs.any λkv=>decide (kv.1=k))=true
 ·rw[if_pos e,if_pos e];exact r.repl k ry
 ·rw[if_neg e,if_neg e];exact Paired.snoc r ⟨rfl,ry⟩
theorem KV.length {cq:List (κ×V)}{vs:List (κ×aa)}(r:KV cq vs):cq.length=vs.length:=Paired.length r
end
theorem DU {P:aT}{w:bt}{k:eA}{u:aa}(r:RelV (kV k) u):(dz P w).is k u=true:=by
 cases k with
 |inl i=>obtain⟨t,e⟩:=(show∃t,u=aa.int i t from r);subst e;exact R3 P w i t
 |inr x=>obtain⟨t,e⟩:=(show∃t,u=aa.str x t from r);subst e;exact R4 P w x t
theorem LV {P:aT}{w:bt}:∀{ks:List eA} {us:List aa},bR (ks.map kV) us->ItemsAre (dz P w) ks us
 |[],_,r=>by rw[kx]at r;cases r;exact .nil
 |k::ks,_,r=>by
  rw[bq]at r
  cases r with
  |cons h t=>exact .cons (DU h) (LV t)
abbrev KT (H:Hp):List (List eA×V)->List (List eA×af×aa)->Prop:=Paired λp q=>p.1=q.1/\H q.2.1=some (.tup (p.1.map kV))/\RelV p.2 q.2.2
theorem KT.val {H:Hp}{cq:List (List eA×V)}{xs:List (List eA×af×aa)}(r:KT H cq xs)(k:List eA):iZ (hV cq k) ((pE xs k).map (·.2)):=by
 induction r with
 |nil=>exact True.intro
 |@cons p q ps qs h t ih=>
  obtain⟨h1,_,h2⟩:=h
  by_cases e:p.1=k
  ·have e':q.1=k:=h1.symm.trans e
   have b:pE (q::qs) k=some q.2:=by simp[pE,cM,e']
   rw[IP e,b];exact h2
  ·have e':¬q.1=k:=λz=>e (h1.trans z)
   have b:pE (q::qs) k=pE qs k:=by simp[pE,cM,e']
   rw[IQ e,b];exact ih
theorem KT.repl {H:Hp}{cq:List (List eA×V)}{xs:List (List eA×af×aa)}(r:KT H cq xs)(k:List eA){y:V}{u:aa}(ry:RelV y u) :
  KT H (cq.map λkv=>if kv.1=k then(kv.1,y)else kv) (xs.map (putAt k u)):=by
 induction r with
 |nil=>exact .nil
 |@cons p q ps qs h t ih=>
  rw[bq,bq]
  refine .cons ?_ ih
  obtain⟨h1,h2,h3⟩:=h
  unfold putAt
  by_cases e:p.1=k
  ·rw[if_pos e,if_pos (h1.symm.trans e)];exact⟨h1,h2,ry⟩
  ·rw[if_neg e,if_neg (λz=>e (h1.trans z))];exact⟨h1,h2,h3⟩
theorem KT.put {H:Hp}{cq:List (List eA×V)}{xs:List (List eA×af×aa)}(r:KT H cq xs)(k:List eA){b:af}{y:V}{u:aa}(hb:H b=some (.tup (k.map kV)))(ry:RelV y u) :
  KT H (putK cq k y) (storedH xs k b u):=by
 have e:(cq.any λkv=>decide (kv.1=k))=(pE xs k).isSome:=by
  rw[Mi,(r.val k).isSome_eq,oW]
 unfold putK storedH
 rw[e]
 by_cases q:(pE xs k).isSome=true
 ·rw[if_pos q,if_pos q];exact r.repl k ry
 ·rw[if_neg q,if_neg q];exact Paired.snoc r ⟨rfl,hb,ry⟩
theorem KT.keeps {H H':Hp}{cq:List (List eA×V)}{xs:List (List eA×af×aa)}(r:KT H cq xs)(ht:∀b ys,H b=some (.tup ys)->H' b=some (.tup ys)):KT H' cq xs :=
 Paired.mapP r λ_ _ z=>⟨z.1,ht _ _ z.2.1,z.2.2⟩
section
variable {P:aT}{w:bt}{H:Hp}{h:aE}{a:af}
theorem Nt {u:HO}(ok:jL P w H h)(e:Rd H a u):dF P w H h a u:=e.ok ok
theorem zR {cq:List (eA×V)}(ok:jL P w H h)(e:Rd H a (.dK cq)):cq.length<=sizeLine/\(a==ef)=false/\∃vs,KV cq vs/\h.DictOf (dz P w) a vs :=
 show dF P w H h a (.dK cq)from Nt ok e
theorem X4 {cq:List (eA×V)}(ok:jL P w H h)(e:H a=some (.dK cq)):cq.length<=sizeLine/\(a==ef)=false/\∃vs,KV cq vs/\h.DictOf (dz P w) a vs:=zR ok (.inl e)
theorem DO {ks:List eA}(ok:jL P w H h)(e:H a=some (.tup (ks.map kV))):(iK (dz P w)).is h ks a:=by
 obtain⟨_,bW,r,o,h1,h2,n,h3⟩:=(show dF P w H h a (.tup (ks.map kV))from ok a _ e)
 exact⟨o,bW.toArray,n,h1,h2,h3,by simpa using LV r⟩
theorem DV {cq:List (List eA×V)}(ok:jL P w H h)(e:Rd H a (.dT cq)):cq.length<=sizeLine/\(a==ef)=false /\
  ∃xs,KT H cq xs/\h.DictOfH (iK (dz P w)) a xs:=by
 obtain⟨z,y,xs,r,o,es,ep,h1,h2,h3,h4,h5⟩:=(show dF P w H h a (.dT cq)from Nt ok e)
 refine⟨z,y,xs,r,o,es,ep,h1,h2,h3,h4,λx hx=>?_,h5⟩
 have all:∀{l:List (List eA×V)} {m:List (List eA×af×aa)},KT H l m->∀x∈m,(iK (dz P w)).is h x.1 x.2.1:=by
  intro l m q
  induction q with
  |nil=>intro x hx;exact nomatch hx
  |@cons p q ps qs hq t ih=>
   intro x hx
   rcases az.mp hx with e|hx
   ·subst e
    exact DO ok (by rw[←hq.1];exact hq.2.1)
   ·exact ih x hx
 exact all r x hx
theorem Xi {cq:List (List eA×V)}(ok:jL P w H h)(e:H a=some (.dT cq)):cq.length<=sizeLine/\(a==ef)=false /\
  ∃xs,KT H cq xs/\h.DictOfH (iK (dz P w)) a xs:=DV ok (.inl e)
end
def mr (H:Hp)(a:af)(y:V)(r:Option V):Prop :=
 (∃cq k,Rd H a (.dK cq)/\y=kV k/\r=hV cq k)\/∃cq k b,Rd H a (.dT cq)/\y=.ref b/\H b=some (.tup (k.map kV))/\r=hV cq k
def nF (H:Hp)(a:af)(y v:V)(H':Hp):Prop :=
 (∃cq k,H a=some (.dK cq)/\y=kV k/\cq.length<sizeLine/\H'=upd H a (.dK (putK cq k v))) \/
 ∃cq k b,H a=some (.dT cq)/\y=.ref b/\H b=some (.tup (k.map kV))/\cq.length<sizeLine/\H'=upd H a (.dT (putK cq k v))
theorem mr.k {H:Hp}{a:af}{cq:List (eA×V)}{k:eA}(e:H a=some (.dK cq)):mr H a (kV k) (hV cq k):=.inl ⟨cq,k,.inl e,rfl,rfl⟩
theorem nF.k {H:Hp}{a:af}{cq:List (eA×V)}{k:eA}{v:V}(e:H a=some (.dK cq))(hl:cq.length<sizeLine):nF H a (kV k) v (upd H a (.dK (putK cq k v))):=.inl ⟨cq,k,e,rfl,hl,rfl⟩
theorem nF.t {H:Hp}{a b:af}{cq:List (List eA×V)}{k:List eA}{v:V}(e:H a=some (.dT cq))(eb:H b=some (.tup (k.map kV)))(hl:cq.length<sizeLine) :
  nF H a (.ref b) v (upd H a (.dT (putK cq k v))):=.inr ⟨cq,k,b,e,rfl,eb,hl,rfl⟩
section
variable {X:Cx}{ah:List (af×cu)}{σ:St}{H:Hp}{s:ai}{a:af}{y v:V}{u r:aa}{o:Option V}{A:bi}{E:aa->ai->Prop}
theorem Inv.big (I:Inv X ah σ H s):ef<s.heap.objs.size:=by
 have h:ax<s.heap.objs.size:=(I.mod.glob.keeps I.bk).lt
 exact Nat.lt_trans (by decide) h
theorem Gf {Q:aa->ai->Prop}(hu:A.units+1<gW)(I:Inv X ah σ H s)(g:mr H a y o)(ry:RelV y u)(h:∀s',Inv X ah σ H s'->Q (.bool o.isSome) s') :
  aN (aA X.prog X.w) A (cF .In u (.ref a)) Q E s:=by
 rcases g with⟨cq,k,e,ey,l⟩|⟨cq,k,b,e,ey,eb,l⟩
 ·subst ey
  obtain⟨z,hd,vs,rel,dd⟩:=zR I.hok e
  refine wpAny_in_of (DU ry) hd dd.mapOf ?_
  rw[←(rel.val k).isSome_eq,←l]
  exact h _ (I.tok _)
 ·subst ey
  cases(show u=aa.ref b from ry)
  obtain⟨z,hd,xs,rel,dd⟩:=DV I.hok e
  refine wpAny_in_heap (gY hu) (DO I.hok eb) hd dd ?_
  have q:=(rel.val k).isSome_eq
  rw[oW]at q
  rw[←q,←l]
  exact h _ (I.tok _)
theorem MJ {h':aE}{t':Nat}{ob:HO}(I:Inv X ah σ H s)(mu:Aa (H a))(hs:dB a s.heap h')(he:∃q,h'.get? a=some q)(new:dF X.prog X.w (upd H a ob) h' a ob) :
  Inv X ah σ (upd H a ob) { s with heap:=h',toks:=t' } :=
 I.write (x:=a) (e:=a) mu (.inl rfl) (λb q hb z=>(hs.2 b hb).trans z) he new
theorem Wk {P:aT}{w:bt}{H':Hp}{h':aE}{cq:List (eA×V)}{vs:List (eA×aa)}(z:cq.length<=sizeLine)(hd:(a==ef)=false)(rel:KV cq vs)(dd:h'.DictOf (dz P w) a vs) :
  dF P w H' h' a (.dK cq):=⟨z,hd,vs,rel,dd⟩
theorem SV {H':Hp}{Q:Unit->ai->Prop}(hu:A.units+1<gW)(I:Inv X ah σ H s)(g:nF H a y v H')(ry:RelV y u)(rv:RelV v r)(h:∀s',Inv X ah σ H' s'->Q () s') :
  aN (aA X.prog X.w) A (nB (.ref a) u r) Q E s:=by
 rcases g with⟨cq,k,e,ey,l,eH⟩|⟨cq,k,b,e,ey,eb,l,eH⟩
 ·subst ey eH
  obtain⟨z,hd,vs,rel,dd⟩:=X4 I.hok e
  have hz:vs.length<=sizeLine:=by rw[←rel.length];exact z
  have hl:(putK cq k v).length<=sizeLine:=by have:=Lm cq k v;omega
  refine wpAny_setItem_pairs (hsz:=hz) (DU ry) dd λh' D9 hs=>h _ ?_
  have he:∃q,h'.get? a=some q:=let⟨q,_,_,hq,_⟩:=D9;⟨q,hq⟩
  exact MJ I (by rw[e];exact True.intro) hs he (Wk hl hd (rel.put k rv) D9)
 ·subst ey eH
  cases(show u=aa.ref b from ry)
  obtain⟨z,hd,xs,rel,dd⟩:=Xi I.hok e
  have hz:xs.length<=sizeLine:=by rw[←Paired.length rel];exact z
  have hl:(putK cq k v).length<=sizeLine:=by have:=Lm cq k v;omega
  refine wpAny_setItem_heap (hsz:=hz) (gY hu) (DO I.hok eb) dd λh' D9 hs=>h _ ?_
  obtain⟨q,es,ep,hq,h2,h3,h4,_,h5⟩:=D9
  refine MJ I (by rw[e];exact True.intro) hs ⟨q,hq⟩ ⟨hl,hd,_,(rel.put k eb rv).keeps λc ys ec=>?_,q,es,ep,hq,h2,h3,h4,h5⟩
  rw[zg (XN ec e (λz=>nomatch z))]
  exact ec
end
section
variable {X:Cx}{ah:List (af×cu)}{σ:St}{H:Hp}{s:ai}{a:af}{cq:List (eA×V)}{k:eA}{u:aa}{A:bi}{E:aa->ai->Prop}
theorem Xj {Q:aa->ai->Prop}(I:Inv X ah σ H s)(e:Rd H a (.dK cq))(h:∀t s',Inv X ah σ H s'->Q (.int cq.length t) s'):aN (aA X.prog X.w) A (call (.builtin "len") [.ref a]) Q E s:=by
 obtain⟨z,hd,vs,rel,dd⟩:=zR I.hok e
 refine call_len_dict hd dd (by rw[←rel.length];rw[bu]at z;omega) ?_
 rw[←rel.length]
 exact h _ _ (I.tok _)
end
def Ih (ty td:TE):TE:=λσ H Q=>ty σ H λy H1=>td σ H1 λx H2=>∃a o,x=.ref a/\mr H2 a y o/\Q (.bl o.isSome) H2
def Ds (td ty tv:TE):TS:=λD σ H=>tv σ H λv H1=>td σ H1 λx H2=>ty σ H2 λy H3=>∃a H4,x=.ref a/\nF H3 a y v H4/\D.nx σ H4
section
variable {X:Cx}{o i e value:Expr}{pos pos' i9:cy}{td ty tv:TE}
theorem Wl (hu:X.A.units+1<gW)(hi:PE X i ty)(ho:PE X o td):PC X .In i o (Ih ty td):=by
 intro ah s σ H Q I h
 refine cO (hi ah s σ H _ I h) λiv s1 ⟨y,H1,I1,ry,q1⟩=>cO (ho ah s1 σ H1 _ I1 q1) λu s2 cS=>?_
 obtain⟨x,H2,I2,rx,a,ov,ex,g,q2⟩:=cS
 subst ex
 obtain rfl:u=aa.ref a:=rx
 exact Gf hu I2 g ry λs3 I3=>⟨.bl ov.isSome,H2,I3,rfl,q2⟩
theorem UK (hu:X.A.units+1<gW)(ho:PE X o td)(hi:PE X i ty)(hv:PE X value tv)(hs:dI value (some (.Subscript o i pos')) pos.line X.env=pure false) :
  PS X (.Assign [.Subscript o i pos'] value pos) (Ds td ty tv):=by
 intro ah s σ H D I h
 refine wpAny_Assign_Subscript (cO (hv ah s σ H _ I h) λr s1 ⟨v,H1,I1,rv,q1⟩=>cO (ho ah s1 σ H1 _ I1 q1) λu s2 ⟨x,H2,I2,rx,q2⟩=>cO (hi ah s2 σ H2 _ I2 q2) λiv s3 ⟨y,H3,I3,ry,a,H4,ex,g,q3⟩=>?_) hs
 subst ex
 obtain rfl:u=aa.ref a:=rx
 exact SV hu I3 g ry rv λs4 I4=>⟨σ,H4,I4,q3⟩
end
theorem T5 {P:aT}{w:bt}{H:Hp}(h:aE)(hb:ef<h.objs.size):dF P w H (h.push { cls:=.type "dict",data:=.dict #[] }) h.objs.size (.dK []) :=
  ⟨dh _,beq_eq_false_iff_ne.mpr (Ne.symm (aY hb)),[],.nil,aE.DictOf.new h⟩
theorem T6 {P:aT}{w:bt}{H:Hp}(h:aE)(hb:ef<h.objs.size):dF P w H (h.push { cls:=.type "dict",data:=.dict #[] }) h.objs.size (.dT []) :=
  ⟨dh _,beq_eq_false_iff_ne.mpr (Ne.symm (aY hb)),[],.nil,_,#[],0,br _ rfl,⟨rfl,rfl,rfl⟩,rfl,rfl,bA⟩
def xX:TE:=λ_ H Q=>∀p,H p=none->Q (.ref p) (upd H p (.dK []))
def xY:TE:=λ_ H Q=>∀p,H p=none->Q (.ref p) (upd H p (.dT []))
section
variable {X:Cx}{pos:cy}
theorem T7:PE X (.Dict [] [] pos) xX:=λah s σ H Q I h=>
 wpAny_Dict_empty ⟨.ref s.heap.objs.size,_,I.laid (a:=s.heap.objs.size) (o:=.dK []) (t':=s.toks) (λ_ _ q=>aq _ q) (aH _) (T5 s.heap I.big),rfl,h _ (I.hok.fresh (aH _))⟩
theorem T8:PE X (.Dict [] [] pos) xY:=λah s σ H Q I h=>
 wpAny_Dict_empty ⟨.ref s.heap.objs.size,_,I.laid (a:=s.heap.objs.size) (o:=.dT []) (t':=s.toks) (λ_ _ q=>aq _ q) (aH _) (T6 s.heap I.big),rfl,h _ (I.hok.fresh (aH _))⟩
end
structure M1 (X:Cx)(o:Expr)(m:aK)(cN:cy)(e:Expr)(dE:cy):Prop where
 base:dP o m X.env (bB o X.env)=bB o X.env
 few:((bZ dE (ap [e] X.env)).all (λx=>!x.1)&&(eK dE (dc [] X.env)).all (λx=>x.1.isSome)
  && decide (([e]:List Expr).length+([]:List ij).length+(if([]:List ij).isEmpty then 0 else 1)<30))=true
 line:(cN.endLine==dE.line)=true
 trees:bZ dE (ap [e] X.env)=[(false,bB e X.env)]
structure M2 (X:Cx)(o:Expr)(m:aK)(cN:cy)(e f:Expr)(dE:cy):Prop where
 base:dP o m X.env (bB o X.env)=bB o X.env
 few:((bZ dE (ap [e,f] X.env)).all (λx=>!x.1)&&(eK dE (dc [] X.env)).all (λx=>x.1.isSome)
  && decide (([e,f]:List Expr).length+([]:List ij).length+(if([]:List ij).isEmpty then 0 else 1)<30))=true
 line:(cN.endLine==dE.line)=true
 trees:bZ dE (ap [e,f] X.env)=[(false,bB e X.env),(false,bB f X.env)]
def yJ (H:Hp)(a:af):Prop:=(∃cq,Rd H a (.dK cq))\/∃cq,Rd H a (.dT cq)
theorem Nl {X:Cx}{ah:List (af×cu)}{σ:St}{H:Hp}{s:ai}{a:af}(I:Inv X ah σ H s)(d:yJ H a) :
  s.TypeIs (.ref a) "dict"/\(∀b,aa.ref a=.ref b->∃ob,s.heap.get? b=some ob/\ob.dict=none)/\(a==ef)=false:=by
 rcases d with⟨cq,e⟩|⟨cq,e⟩
 ·obtain⟨_,hd,vs,_,dd⟩:=zR I.hok e
  refine⟨dd.typeIs,λb q=>?_,hd⟩
  cases q
  obtain⟨ob,_,_,h1,h2,_⟩:=dd
  exact⟨ob,h1,h2.2.1⟩
 ·obtain⟨_,hd,xs,_,dd⟩:=DV I.hok e
  refine⟨dd.typeIs,λb q=>?_,hd⟩
  cases q
  obtain⟨ob,_,_,h1,h2,_⟩:=dd
  exact⟨ob,h1,h2.2.1⟩
section
variable {X:Cx}{ah:List (af×cu)}{σ:St}{H:Hp}{s:ai}{a:af}{y d:V}{u r:aa}{o:Option V}{A:bi}{E:aa->ai->Prop}
theorem WT {Q:aa->ai->Prop}(hu:A.units+1<gW)(I:Inv X ah σ H s)(g:mr H a y o)(ry:RelV y u)(h:∀w' s',Inv X ah σ H s'->RelV (o.getD .non) w'->Q w' s') :
  aN (aA X.prog X.w) A (call (.builtin "dict.get") [.ref a,u]) Q E s:=by
 rcases g with⟨cq,k,e,ey,l⟩|⟨cq,k,b,e,ey,eb,l⟩
 ·subst ey
  obtain⟨z,hd,vs,rel,dd⟩:=zR I.hok e
  refine call_meetsIn PySem.F.slot_dict_get dd.typeIs PySem.F.entry_dict_get (PySem.F.args_dict_get_2 _ _) (meets_dict_get (dz X.prog X.w) a (DU ry) hd) ⟨_,dd.mapOf,h _ _ (I.tok _) ?_⟩
  rw[l]
  exact(rel.val k).getD rfl
 ·subst ey
  cases(show u=aa.ref b from ry)
  obtain⟨z,hd,xs,rel,dd⟩:=DV I.hok e
  refine call_meetsIn PySem.F.slot_dict_get dd.typeIs PySem.F.entry_dict_get (PySem.F.args_dict_get_2 _ _) (meetsH_dict_get (iK (dz X.prog X.w)) a b hd) ⟨gY hu,k,xs,DO I.hok eb,dd,h _ _ (I.tok _) ?_⟩
  rw[l]
  exact(rel.val k).getD rfl
theorem WU {Q:aa->ai->Prop}(hu:A.units+1<gW)(I:Inv X ah σ H s)(g:mr H a y o)(ry:RelV y u)(rd:RelV d r)(h:∀w' s',Inv X ah σ H s'->RelV (o.getD d) w'->Q w' s') :
  aN (aA X.prog X.w) A (call (.builtin "dict.get") [.ref a,u,r]) Q E s:=by
 rcases g with⟨cq,k,e,ey,l⟩|⟨cq,k,b,e,ey,eb,l⟩
 ·subst ey
  obtain⟨z,hd,vs,rel,dd⟩:=zR I.hok e
  refine call_meetsIn PySem.F.slot_dict_get dd.typeIs PySem.F.entry_dict_get (PySem.F.args_dict_get_3 _ _ _) (meets_dict_get_default (dz X.prog X.w) a (DU ry) hd r) ⟨_,dd.mapOf,h _ _ (I.tok _) ?_⟩
  rw[l]
  exact(rel.val k).getD rd
 ·subst ey
  cases(show u=aa.ref b from ry)
  obtain⟨z,hd,xs,rel,dd⟩:=DV I.hok e
  refine call_meetsIn PySem.F.slot_dict_get dd.typeIs PySem.F.entry_dict_get (PySem.F.args_dict_get_3 _ _ _) (meetsH_dict_get_default (iK (dz X.prog X.w)) a b hd r) ⟨gY hu,k,xs,DO I.hok eb,dd,h _ _ (I.tok _) ?_⟩
  rw[l]
  exact(rel.val k).getD rd
end
def xV (td ty:TE):TE:=λσ H Q=>td σ H λx H1=>∃a,x=.ref a/\yJ H1 a/\ty σ H1 λy H2=>∃o,mr H2 a y o/\Q (o.getD .non) H2
def xW (td ty tx:TE):TE:=λσ H Q=>td σ H λx H1=>∃a,x=.ref a/\yJ H1 a/\ty σ H1 λy H2=>tx σ H2 λz H3=>∃o,mr H3 a y o/\Q (o.getD z) H3
section
variable {X:Cx}{o e f:Expr}{cN dE:cy}{td ty tx:TE}
theorem T9 (hu:X.A.units+1<gW)(ho:PE X o td)(he:PE X e ty)(m:M1 X o "get" cN e dE):PE X (.Call (.Attribute o "get" cN) [e] [] dE) (xV td ty):=by
 intro ah s σ H Q I h
 refine wpAny_Call_method m.base m.few m.line PySem.F.plainAttrs_dict PySem.F.slot_dict_get PySem.F.type_dict_get (cO (ho ah s σ H _ I h) λu s1 cS=>?_)
 obtain⟨x,H1,I1,rx,a,ex,d,q1⟩:=cS
 subst ex
 obtain rfl:u=aa.ref a:=rx
 obtain⟨t1,t2,_⟩:=Nl I1 d
 refine⟨t1,t2,?_⟩
 rw[m.trees]
 refine Calls.callWith_builtin rfl (Calls.evalArgs_plain (Calls.spliced_cons (cO (he ah s1 σ H1 _ I1 q1) λiv s2 ⟨y,H2,I2,ry,ov,g,q2⟩=>Calls.spliced_nil ?_)))
 exact WT hu I2 g ry λw' s3 I3 oO=>⟨_,H2,I3,oO,q2⟩
theorem Ua (hu:X.A.units+1<gW)(ho:PE X o td)(he:PE X e ty)(hf:PE X f tx)(m:M2 X o "get" cN e f dE):PE X (.Call (.Attribute o "get" cN) [e,f] [] dE) (xW td ty tx):=by
 intro ah s σ H Q I h
 refine wpAny_Call_method m.base m.few m.line PySem.F.plainAttrs_dict PySem.F.slot_dict_get PySem.F.type_dict_get (cO (ho ah s σ H _ I h) λu s1 cS=>?_)
 obtain⟨x,H1,I1,rx,a,ex,d,q1⟩:=cS
 subst ex
 obtain rfl:u=aa.ref a:=rx
 obtain⟨t1,t2,_⟩:=Nl I1 d
 refine⟨t1,t2,?_⟩
 rw[m.trees]
 refine Calls.callWith_builtin rfl (Calls.evalArgs_plain (Calls.spliced_cons (cO (he ah s1 σ H1 _ I1 q1) λiv s2 ⟨y,H2,I2,ry,q2⟩=>
  Calls.spliced_cons (cO (hf ah s2 σ H2 _ I2 q2) λfv s3 ⟨z,H3,I3,rz,ov,g,q3⟩=>Calls.spliced_nil ?_))))
 exact WU hu I3 g ry rz λw' s4 I4 oO=>⟨_,H3,I4,oO,q3⟩
end
section
variable {X:Cx}{ah:List (af×cu)}{σ:St}{H:Hp}{s:ai}{a:af}{cq:List (eA×V)}{A:bi}{E:aa->ai->Prop}
end
section
variable {X:Cx}{ah:List (af×cu)}{σ:St}{H:Hp}{s:ai}{a:af}{y:V}{u:aa}{A:bi}{E:aa->ai->Prop}
end
end L2
namespace L2
open PySem PySem.Spec PyProof.Rows
section
variable {X:Cx}
theorem SW:eI X (.builtin "len") (λxs H Q=>∃a cq,xs=[V.ref a]/\H a=some (.dK cq)/\Q (.int cq.length) H):=by
 intro ah s σ H xs us Q I r h
 obtain⟨a,cq,rfl,ha,q⟩:=h
 obtain⟨u,rfl,ru⟩:=pd r
 cases ru
 exact Xj I (.inl ha) λt s' I'=>⟨.int cq.length,H,I',⟨t,rfl⟩,q⟩
end
end L2
namespace L2
open PySem
section
variable {κ:Type}[DecidableEq κ]
end
end L2
namespace L2
open PySem PySem.Spec PyProof.Rows
def Sz (n:Nat)(i:Int):Prop:=i.natAbs<2 ^ n
theorem Sz.bits {n:Nat}{i:Int}(h:Sz n i):Builtin.Int.intBits i<=n:=by
 unfold Builtin.Int.intBits
 by_cases h0:(i==0)=true
 ·rw[if_pos h0];exact dh _
 ·rw[if_neg h0]
  have hi:i.natAbs≠0:=by
   have:i≠0:=by simpa using h0
   omega
  exact Nat.succ_le_of_lt ((Nat.log2_lt hi).mpr h)
theorem Sz.log {n:Nat}{i:Int}(h:Sz n i)(hn:0<n):i.natAbs.log2<n:=by
 by_cases hi:i.natAbs=0
 ·rw[hi];exact hn
 ·exact(Nat.log2_lt hi).mpr h
theorem Sz.mono {n m:Nat}{i:Int}(h:Sz n i)(hm:n<=m):Sz m i:=bg h (jA (by decide) hm)
def mK (i j:Int):Prop:=uW i j\/(Sz 100000 i/\Sz 100000 j)
theorem mK.ok {i j:Int}(h:mK i j):IntMulOk i j:=by
 rcases h with h|h
 ·exact h.ok
 ·exact IntMulOk.of_bits (bH h.1.bits (by decide)) (bH h.2.bits (by decide))
section
variable {X:Cx}
theorem jy:gh X (dL .Mult) (rI mK λi j=>.int (i*j)):=CI λ_ _ _ _ _ _ _ hc q=>mul_int q hc.ok
theorem j6:gh X (dL .FloorDiv) (rI (λ_ j=>j≠0/\Sz 9000 j) λi j=>.int (i.fdiv j)) :=
 CI λ_ _ _ _ _ _ _ hc q=>floordiv_int hc.1 q (.inl (PyProof.noPylong_of_log2 (hc.2.log (by decide))))
theorem RelV.bool_iff {x:V}{v:aa}{b:Bool}(r:RelV x v):(v==aa.bool b)=decide (x=.bl b):=by
 cases x with
 |bl c=>
  cases(show v=aa.bool c from r)
  by_cases h:c=b
  ·subst h;simp
  ·have h1:¬V.bl c=V.bl b:=λz=>h (V.bl.inj z)
   rw[decide_eq_false h1]
   exact beq_eq_false_iff_ne.mpr λz=>h (by injection z)
 |non=>cases(show v=aa.none from r);rw[decide_eq_false (λz=>nomatch z)];exact beq_eq_false_iff_ne.mpr λz=>nomatch z
 |int i=>obtain⟨t,rfl⟩:=(show∃t,v=aa.int i t from r);rw[decide_eq_false (λz=>nomatch z)];exact beq_eq_false_iff_ne.mpr λz=>nomatch z
 |str i=>obtain⟨t,rfl⟩:=(show∃t,v=aa.str i t from r);rw[decide_eq_false (λz=>nomatch z)];exact beq_eq_false_iff_ne.mpr λz=>nomatch z
 |byt i=>obtain⟨t,rfl⟩:=(show∃t,v=aa.bytes i t from r);rw[decide_eq_false (λz=>nomatch z)];exact beq_eq_false_iff_ne.mpr λz=>nomatch z
 |flt i=>obtain⟨t,rfl⟩:=(show∃t,v=aa.float i t from r);rw[decide_eq_false (λz=>nomatch z)];exact beq_eq_false_iff_ne.mpr λz=>nomatch z
 |ref i=>cases(show v=aa.ref i from r);rw[decide_eq_false (λz=>nomatch z)];exact beq_eq_false_iff_ne.mpr λz=>nomatch z
 |ty i=>cases(show v=aa.type i from r);rw[decide_eq_false (λz=>nomatch z)];exact beq_eq_false_iff_ne.mpr λz=>nomatch z
theorem Ln {x:V}{v:aa}{b:Bool}(r:RelV x v):plainIs v (.bool b)=true:=by
 cases x with
 |bl c=>cases(show v=aa.bool c from r);rfl
 |non=>cases(show v=aa.none from r);rfl
 |int i=>obtain⟨t,rfl⟩:=(show∃t,v=aa.int i t from r);rfl
 |str i=>obtain⟨t,rfl⟩:=(show∃t,v=aa.str i t from r);rfl
 |byt i=>obtain⟨t,rfl⟩:=(show∃t,v=aa.bytes i t from r);rfl
 |flt i=>obtain⟨t,rfl⟩:=(show∃t,v=aa.float i t from r);rfl
 |ref i=>cases(show v=aa.ref i from r);rfl
 |ty i=>cases(show v=aa.type i from r);rfl
theorem WV:gh X (cF .Is) (λx y H Q=>∃b,y=.bl b/\Q (.bl (decide (x=.bl b))) H):=by
 intro ah s σ H x y v u Q I rx ry h
 obtain⟨b,rfl,q⟩:=h
 cases ry
 exact wpAny_is_plain (Ln rx) (Fi I q (RelV.bool_iff rx).symm)
theorem SX:gh X (cF .IsNot) (λx y H Q=>∃b,y=.bl b/\Q (.bl (!decide (x=.bl b))) H):=by
 intro ah s σ H x y v u Q I rx ry h
 obtain⟨b,rfl,q⟩:=h
 cases ry
 exact wpAny_isNot_plain (Ln rx) (Fi I q (by rw[RelV.bool_iff rx]))
theorem Ub:eI X (.builtin "isinstance") (λxs H Q=>∃x c t b,xs=[x,.ty c]/\jN X.K H x t/\aO X.K t (.type c)=some b/\Q (.bl b) H):=by
 intro ah s σ H xs us Q I r h
 obtain⟨x,c,t,b,rfl,ty,e,q⟩:=h
 obtain⟨u,w',rfl,ru,oO⟩:=vals2 r
 cases(show w'=aa.type c from oO)
 exact LN I ru ty e λtk=>⟨.bl b,H,I.tok tk,rfl,q⟩
theorem SC:eI X (.builtin "isinstance") (λxs H Q=>∃x C t b,xs=[x,.ref C]/\jN X.K H x t/\aO X.K t (.ref C)=some b/\Q (.bl b) H):=by
 intro ah s σ H xs us Q I r h
 obtain⟨x,c,t,b,rfl,ty,e,q⟩:=h
 obtain⟨u,w',rfl,ru,oO⟩:=vals2 r
 cases(show w'=aa.ref c from oO)
 exact LN I ru ty e λtk=>⟨.bl b,H,I.tok tk,rfl,q⟩
end
mutual
inductive Dt (K:ae)(H:Hp):V->cT->Prop
 |non:Dt K H .non .none
 |bl (b:Bool):Dt K H (.bl b) (.bool b)
 |int (i:Int):Dt K H (.int i) (.int i)
 |str (x:aK):Dt K H (.str x) (.str x)
 |lst {a:af} {xs:List V} {ds:List cT}:fN K H a xs->Dts K H xs ds->Dt K H (.ref a) (.list ds)
 |tup {a:af} {xs:List V} {ds:List cT}:kc K H a xs->Dts K H xs ds->Dt K H (.ref a) (.tuple ds)
inductive Dts (K:ae)(H:Hp):List V->List cT->Prop
 |nil:Dts K H [] []
 |cons {v:V} {d:cT} {vs:List V} {ds:List cT}:Dt K H v d->Dts K H vs ds->Dts K H (v::vs) (d::ds)
end
section
variable {X:Cx}{ah:List (af×cu)}{σ:St}{H:Hp}{s:ai}
mutual
theorem Dt.reads (I:Inv X ah σ H s):∀{v:V} {d:cT} {u:aa},Dt X.K H v d->RelV v u->∃as,Reads s.heap u d as
 |_,_,_,.non,r=>by cases r;exact⟨_,.none⟩
 |_,_,_,.bl b,r=>by cases r;exact⟨_,.bool b⟩
 |_,_,_,.int i,r=>by obtain⟨t,rfl⟩:=r;exact⟨_,.int i t⟩
 |_,_,_,.str x,r=>by obtain⟨t,rfl⟩:=r;exact⟨_,.str x t⟩
 |_,_,_,.lst hq ds,r=>by
  obtain⟨bW,rv,⟨o,n,e,c,_,dd⟩,_⟩:=I.list hq
  obtain⟨as,ra⟩:=Dts.reads I ds rv
  cases r
  exact⟨_,.list e c dd (by simpa using ra)⟩
 |_,_,_,.tup hq ds,r=>by
  obtain⟨bW,rv,⟨o,e,c,n,dd⟩,_⟩:=I.tuple hq
  obtain⟨as,ra⟩:=Dts.reads I ds rv
  cases r
  exact⟨_,.tuple e c dd (by simpa using ra)⟩
theorem Dts.reads (I:Inv X ah σ H s):∀{vs:List V} {ds:List cT} {us:List aa},Dts X.K H vs ds->bR vs us->∃as,ReadsAll s.heap us ds as
 |_,_,_,.nil,r=>by cases r;exact⟨_,.nil⟩
 |_,_,_,.cons h t,r=>by
  cases r with
  |cons p q=>
   obtain⟨as,ra⟩:=Dt.reads I h p
   obtain⟨bs,rb⟩:=Dts.reads I t q
   exact⟨_,.cons ra rb⟩
end
end
section
variable {X:Cx}
def Dh (K:ae)(neg:Bool):R2:=λx y H Q=>∃d e,Dt K H x d/\Dt K H y e/\d.canLay0=true/\e.canLay0=true/\min d.depth e.depth<=60/\Q (.bl (if neg then !cT.eqv d e else cT.eqv d e)) H
theorem j7 (hu:X.A.units+64<gW):gh X (cF .Eq) (Dh X.K false):=by
 intro ah s σ H x y v u Q I rx ry h
 obtain⟨d,e,hd,he,c1,c2,dp,q⟩:=h
 obtain⟨as,ra⟩:=hd.reads I rx
 obtain⟨bs,rb⟩:=he.reads I ry
 exact SeqAt.compareEq_reads ra rb c1 c2 (by omega) ⟨.bl _,H,I,rfl,q⟩
theorem Dts.ints (K:ae)(H:Hp):∀ns:List Int,Dts K H (ns.map V.int) (ns.map cT.int)
 |[]=>.nil
 |n::r=>.cons (.int n) (Dts.ints K H r)
end
theorem vw {H:Hp}{p:af}(h:H p=none)(o:HO):bL H (upd H p o):=λb u q=>by rw[zg (zk q h)];exact q
theorem dw.u64 {k:Nat}{A:bi}(r:dw k A):A.units+64<gW:=r.units
theorem small {n:Nat}(h:n<=1000):n<=sizeLine:=kJ (pY h)
end L2
namespace L2
open PySem PySem.Spec PyProof.Rows
end L2
namespace L2
open PySem PySem.Spec PyProof.Rows
end L2
namespace L2
open PySem
theorem Nm:bY "int"=some (.type "int"):=by decide +kernel
theorem WW:bY "str"=some (.type "str"):=by decide +kernel
theorem Mz:bY "bool"=some (.type "bool"):=by decide +kernel
theorem qw:bY "list"=some (.type "list"):=by decide +kernel
theorem M9:bY "len"=some (.builtin "len"):=by decide +kernel
theorem Fk:bY "max"=some (.builtin "max"):=by decide +kernel
theorem wm:bY "isinstance"=some (.builtin "isinstance"):=by decide +kernel
theorem SD:bY "sorted"=some (.builtin "sorted"):=by decide +kernel
theorem WX:bY "all"=some (.builtin "all"):=by decide +kernel
end L2
namespace L2
open PySem PySem.Spec PyProof.Rows
section
variable {prog:aT}{w:bt}{A:bi}{R:Result->ai->Prop}{s:ai}
theorem Lo {iQ target iter:Expr}{ifs:List Expr}{scope:eZ}{pos:cy}{it eX:aa}{env:Env}(I:Nat->ai->Prop)
  (ng:∀n s,I n s->aN (aA prog w) A (pyNext it) (λr s₁=>match r with
   |none=>R (.ok .next) s₁
   |some v=>aN (aA prog w) A (gI target it v) (λ_ K9=>aN (aA prog w) A (iw target env v) (λ_ s₂=>
     aN (aA prog w) A (forIn ifs true λc r=>if r=true then do let ok ← qF c env (bB c env);pure (ForInStep.yield ok)else pure (ForInStep.yield r)) (λok s₃=>
      if ok=true then aN (aA prog w) A (bB iQ env) (λx s₄=>
       aN (aA prog w) A (call (.builtin "list.append") [eX,x]) (λ_ s₅=>∃m,m<n/\I m s₅) (λ_ _=>False) s₄) (λ_ _=>False) s₃
      else∃m,m<n/\I m s₃) (λ_ _=>False) s₂) (λ_ _=>False) K9) (λ_ _=>False) s₁) (λ_ _=>False) s)
  (n:Nat) (h:I n s) :
  eF (aA prog w) A (.compLoop (.ListComp iQ [⟨target,iter,ifs,0⟩] scope pos) 0 it eX env) R s:=by
 have up:∀{α:Type} {m:gU α} {Q:α->ai->Prop} {E:aa->ai->Prop} {s:ai},aN (aA prog w) A m Q (λ_ _=>False) s->aN (aA prog w) A m Q E s:=λh=>cV h (λ_ _ q=>q) λ_ _ f=>f.elim
 refine codeAny_loop rfl I (λn s hI=>?_) n h
 show aN _ A ((compTurn (.ListComp iQ [⟨target,iter,ifs,0⟩] scope pos) 0 it eX env).onRaise (λx=>do noteFrame x env;theTreesLotGoes x)) _ _ s
 refine wpAny_noted ?_
 rw[compTurn_list]
 refine ak (e8 (ak (cV (up (ng n s hI)) (λr s₁ h₁=>?_) λ_ _ h'=>h')))
 cases r with
 |none=>exact aJ h₁
 |some v=>
  refine ak (cV (up h₁) (λ_ K9 Pl=>?_) λ_ _ h'=>h')
  refine ak (cV (up Pl) (λ_ s₂ h₂=>ak (cV (up h₂) (λok s₃ h₃=>?_) λ_ _ h'=>h')) λ_ _ h'=>h')
  cases ok with
  |false=>exact aJ ⟨rfl,h₃⟩
  |true=>
   exact ak (ak (cV (up h₃) (λx s₄ h₄=>ak (cV (up h₄) (λ_ s₅ h₅=>aJ (aJ ⟨rfl,h₅⟩)) λ_ _ h'=>h')) λ_ _ h'=>h'))
end
theorem jf {env:Env}:∀(names:List (aK×ba)) (eX:List (aK×af)),(∀x∈names,x.2=.free->∃c,env.cells.lookup x.1=some c)->(∀y c,eX.lookup y=some c->env.cells.lookup y=some c) ->
  ∃cl,(forIn names eX λ(x:aK×ba) (cs:List (aK×af))=>if(x.2==ba.free)=true then do let a ← cellOf env x.1;pure (ForInStep.yield ((x.1,a)::cs))else pure (ForInStep.yield cs):gU (List (aK×af)))=pure cl /\
   (∀y c,cl.lookup y=some c->env.cells.lookup y=some c)/\(∀x∈names,x.2=.free->∃c,cl.lookup x.1=some c)/\∀y c,eX.lookup y=some c->∃c',cl.lookup y=some c'
 |[],eX,_,ha=>⟨eX,rfl,ha,λ_ h=>(nomatch h),λy c h=>⟨c,h⟩⟩
 |(n,k)::r,eX,hn,ha=>by
  by_cases hk:k=.free
  ·subst hk
   obtain⟨c,hc⟩:=hn (n,.free) am rfl
   have e1:cellOf env n=pure c:=by unfold cellOf;rw[hc]
   have Er:∀y d,((n,c)::eX).lookup y=some d->env.cells.lookup y=some d:=λy d h=>by
    rw[aZ]at h
    cases hy:y==n with
    |true=>
     rw[hy]at h
     have:y=n:=eq_of_beq hy
     subst this
     cases h
     exact hc
    |false=>rw[hy]at h;exact ha y d h
   obtain⟨cl,h1,h2,h3,h4⟩:=jf r ((n,c)::eX) (λx hx=>hn x (ao _ hx)) Er
   refine⟨cl,?_,h2,?_,?_⟩
   ·rw[gj]
    simp only[beq_self_eq_true,if_true,e1,pure_bind]
    exact h1
   ·intro x hx hf
    rcases az.mp hx with rfl|hx
    ·exact h4 n c (by rw[aZ,beq_self_eq_true])
    ·exact h3 x hx hf
   ·intro y d hy
    cases hb:y==n with
    |true=>exact h4 y c (by rw[aZ,hb])
    |false=>exact h4 y d (by rw[aZ,hb];exact hy)
  ·have hb:(k==ba.free)=false:=by simpa using hk
   obtain⟨cl,h1,h2,h3,h4⟩:=jf r eX (λx hx=>hn x (ao _ hx)) ha
   refine⟨cl,?_,h2,?_,h4⟩
   ·rw[gj]
    simp only[hb,cj,if_false,pure_bind]
    exact h1
   ·intro x hx hf
    rcases az.mp hx with rfl|hx
    ·exact absurd hf hk
    ·exact h3 x hx hf
theorem Fh (n:Nat)(a:aK)(r:List (aK×ba))(eX:List (aK×af)):cellsFrom n ((a,.cell)::r) eX=cellsFrom (n+1) r ((a,n)::eX):=rfl
theorem Fm {k:ba}(hk:k≠.cell)(n:Nat)(a:aK)(r:List (aK×ba))(eX:List (aK×af)):cellsFrom n ((a,k)::r) eX=cellsFrom n r eX:=by
 cases k<;>first|rfl|exact absurd rfl hk
def iE (names:List (aK×ba)):Nat:=(names.filter λy=>y.2==ba.cell).length
theorem Jj (a:aK)(r:List (aK×ba)):iE ((a,.cell)::r)=iE r+1:=by unfold iE;rw[nj (by rfl),aB]
theorem Na {k:ba}(hk:k≠.cell)(a:aK)(r:List (aK×ba)):iE ((a,k)::r)=iE r:=by unfold iE;rw[ni (by simpa using hk)]
theorem zS:∀(names:List (aK×ba)) (n:Nat) (eX:List (aK×af)) {x:aK} {c:Nat},(cellsFrom n names eX).lookup x=some c->(n<=c/\c<n+iE names/\(x,ba.cell)∈names)\/(eX.lookup x=some c/\(x,ba.cell)∉names)
 |[],_,_,_,_,h=>.inr ⟨h,by simp⟩
 |(a,k)::r,n,eX,x,c,h=>by
  by_cases hk:k=.cell
  ·subst hk
   rw[Fh]at h
   rcases zS r (n+1) _ h with⟨h1,h2,h3⟩|⟨h1,h2⟩
   ·refine .inl ⟨by omega,?_,ao _ h3⟩
    rw[Jj];omega
   ·rw[aZ]at h1
    cases hx:x==a with
    |true=>
     rw[hx]at h1
     cases h1
     refine .inl ⟨aH _,?_,by rw[eq_of_beq hx];exact am⟩
     rw[Jj];omega
    |false=>
     rw[hx]at h1
     refine .inr ⟨h1,λz=>?_⟩
     rcases az.mp z with z|z
     ·cases z;simp at hx
     ·exact h2 z
  ·rw[Fm hk]at h
   have hf:=Na hk a r
   rw[hf]
   rcases zS r n _ h with⟨h1,h2,h3⟩|⟨h1,h2⟩
   ·exact .inl ⟨h1,h2,ao _ h3⟩
   ·refine .inr ⟨h1,λz=>?_⟩
    rcases az.mp z with z|z
    ·cases z;exact hk rfl
    ·exact h2 z
theorem Jm:∀(names:List (aK×ba)) (n:Nat) (eX:List (aK×af)) {x:aK},(x,ba.cell)∉names->(cellsFrom n names eX).lookup x=eX.lookup x
 |[],_,_,_,_=>rfl
 |(a,k)::r,n,eX,x,h=>by
  have hr:(x,ba.cell)∉r:=λz=>h (ao _ z)
  by_cases hk:k=.cell
  ·subst hk
   rw[Fh,Jm r _ _ hr,aZ]
   cases hx:x==a with
   |true=>exact absurd (by rw[eq_of_beq hx];exact am) h
   |false=>rfl
  ·rw[Fm hk,Jm r _ _ hr]
theorem Jn:∀(names:List (aK×ba)) (n:Nat) (eX:List (aK×af)),(∀x y c,eX.lookup x=some c->eX.lookup y=some c->x=y)->(∀x c,eX.lookup x=some c->c<n)->∀x y c,(cellsFrom n names eX).lookup x=some c->(cellsFrom n names eX).lookup y=some c->x=y
 |[],_,_,h,_=>h
 |(a,k)::r,n,eX,h,hb=>by
  by_cases hk:k=.cell
  ·subst hk
   rw[Fh]
   refine Jn r (n+1) _ (λx y c e e'=>?_) λx c e=>?_
   ·rw[aZ]at e e'
    cases hx:x==a with
    |true=>
     rw[hx]at e
     cases e
     cases hy:y==a with
     |true=>rw[eq_of_beq hx,eq_of_beq hy]
     |false=>rw[hy]at e';exact absurd (hb _ _ e') (d8 _)
    |false=>
     rw[hx]at e
     cases hy:y==a with
     |true=>rw[hy]at e';cases e';exact absurd (hb _ _ e) (d8 _)
     |false=>rw[hy]at e';exact h x y c e e'
   ·rw[aZ]at e
    cases hx:x==a with
    |true=>rw[hx]at e;cases e;exact hX _
    |false=>rw[hx]at e;exact cZ (hb _ _ e)
  ·rw[Fm hk]
   exact Jn r n eX h hb
theorem qx {M:Model}{A:bi}{E:aa->ai->Prop}:∀(names:List (aK×ba)) (cells:List (aK×af)) (s:ai) (Q:List (aK×af)->ai->Prop),
    (∀h':aE,(∀b o,s.heap.get? b=some o->h'.get? b=some o)->(∀c,s.heap.objs.size<=c->c<s.heap.objs.size+iE names->h'.IsCell c none)->Q (cellsFrom s.heap.objs.size names cells) { s with heap:=h' }) ->
    aN M A (forIn names cells λ(x:aK×ba) (cells:List (aK×af))=>if(x.2==ba.cell)=true then do let a ← alloc { cls:=aa.type "cell",data:=oX.cell none };pure (ForInStep.yield ((x.1,a)::cells))else pure (ForInStep.yield cells)) Q E s
  |[],cells,s,Q,h=>by
    have:=h s.heap (λ_ _ e=>e) (λc h1 h2=>by rw[show iE []=0 from rfl]at h2;omega)
    rw[iU]
    exact aJ this
  |(a,k)::r,cells,s,Q,h=>by
    rw[gj]
    by_cases hk:k=.cell
    · subst hk
      simp only[beq_self_eq_true,if_true,bind_assoc,pure_bind]
      refine ak (wpAny_alloc ?_)
      have ih:=qx (M:=M) (A:=A) (E:=E) r ((a,s.heap.objs.size)::cells) { s with heap:=s.heap.push { cls:=aa.type "cell",data:=oX.cell none } } Q (λh' k1 k2=>by
        have hz:(s.heap.push { cls:=aa.type "cell",data:=oX.cell none }).objs.size=s.heap.objs.size+1:=dO _ _
        have:=h h' (λb o e=>k1 b o (aq _ e)) (λc h1 h2=>by
          rw[Jj]at h2
          by_cases hc:c=s.heap.objs.size
          · subst hc
            exact⟨_,k1 _ _ (br _ rfl),rfl⟩
          · exact k2 c (by show(s.heap.push _).objs.size<=c;rw[hz];omega) (by show c<(s.heap.push _).objs.size+_;rw[hz];omega))
        rw[Fh]at this
        have e:(({ s with heap:=s.heap.push { cls:=aa.type "cell",data:=oX.cell none } }:ai)).heap.objs.size=s.heap.objs.size+1:=hz
        rw[e]
        exact this)
      exact ih
    · have hb:(k==ba.cell)=false:=by simpa using hk
      simp only[hb,cj,if_false,pure_bind]
      refine qx r cells s Q λh' k1 k2=>?_
      have hf:=Na hk a r
      have:=h h' k1 (by rw[hf];exact k2)
      rw[Fm hk]at this
      exact this
theorem Lp {M:Model}{A:bi}{E:aa->ai->Prop}{s:ai}{scope:eZ}{globals:af}{closure:List (aK×af)}{qual:aK}{code:aa}{out:Env}{builtins:af}{Q:Env->ai->Prop}
    (h:∀h':aE,(∀b o,s.heap.get? b=some o->h'.get? b=some o)->h'.Ns s.heap.objs.size (λ_=>none)->(∀c,s.heap.objs.size+1<=c->c<s.heap.objs.size+1+iE scope.names->h'.IsCell c none) ->
      Q (newEnv scope s.heap.objs.size globals (cellsFrom (s.heap.objs.size+1) scope.names closure) qual none code (some out) builtins) { s with heap:=h' }) :
    aN M A (ko scope globals closure [] qual none code (some out) builtins) Q E s:=by
  unfold ko
  refine ak (wpAny_alloc ?_)
  have hz:(s.heap.push { cls:=aa.type "dict",data:=oX.dict #[] }).objs.size=s.heap.objs.size+1:=dO _ _
  refine ak (qx scope.names closure { s with heap:=s.heap.push { cls:=aa.type "dict",data:=oX.dict #[] } } _ λh' k1 k2=>?_)
  have Ph:(({ s with heap:=s.heap.push { cls:=aa.type "dict",data:=oX.dict #[] } }:ai)).heap.objs.size=s.heap.objs.size+1:=hz
  rw[Ph]at k2 ⊢
  dsimp only
  rw[iU]
  refine ak (aJ (aJ ?_))
  exact h h' (λb o e=>k1 b o (aq _ e)) ((aE.Ns.new s.heap _).keeps k1) k2
def g0 (X:Cx)(scope:eZ)(cl:List (aK×af))(N:List aK)(C:af)(fp:List af)(s₀:ai)(H₀:Hp):Cx :=
 { X with N:=N,s₀:=s₀,H₀:=H₀,env:=nW scope cl C X.env,outer:=X.stack,stack:=X.stack,ex:=fp,fn:=λx=>scope.names.lookup x==some .cell,pn:=[],xe:=λ_ _=>False }
structure jZ (X:Cx)(scope:eZ)(N:List aK)(own:Nat)(cap:List Nat):Prop where
 kind:scope.kind=.function
 cells:∀x∈scope.names,x.2=.cell->scope.names.lookup x.1=some .cell
 locs:∀x∈scope.names,x.2=.local->scope.names.lookup x.1=some .local
 free:∀x∈scope.names,x.2=.free->X.env.kindOf x.1=some .cell\/X.env.kindOf x.1=some .free
 len:N.length=own+cap.length
 caps:∀(j:Nat) (x:aK),N[own+j]?=some x->∃i,cap[j]?=some i/\X.N[i]?=some x/\(scope.names.lookup x=some .free)
theorem jg {α β:Type}[BEq α][LawfulBEq α]{x:α}{y:β}:∀{l:List (α×β)},l.lookup x=some y->(x,y)∈l
 |[],h=>by simp at h
 |(a,b)::r,h=>by
  rw[aZ]at h
  cases hb:x==a with
  |true=>rw[hb]at h;cases h;rw[eq_of_beq hb];exact am
  |false=>rw[hb]at h;exact ao _ (jg h)
theorem Lq {env:Env}{x:aK}:∀{names:List (aK×ba)},names.lookup x=some .free ->
  (names.map λ(n,k)=>if(k==ba.free&&env.scope.kind==.function&&env.kindOf n==some .cell)then(n,ba.cell)else(n,k)).lookup x=some .cell \/
  (names.map λ(n,k)=>if(k==ba.free&&env.scope.kind==.function&&env.kindOf n==some .cell)then(n,ba.cell)else(n,k)).lookup x=some .free
 |[],h=>by simp at h
 |(n,k)::r,h=>by
  rw[aZ]at h
  rw[bq]
  cases hx:x==n with
  |true=>
   rw[hx]at h
   cases h
   by_cases hc:(ba.free==ba.free&&env.scope.kind==.function&&env.kindOf n==some .cell)=true
   ·left
    simp only[hc,if_true,aZ,hx]
   ·right
    simp only[hc,if_false,aZ,hx,cj]
  |false=>
   rw[hx]at h
   rcases Lq (env:=env) h with q|q
   ·left
    by_cases hc:(k==ba.free&&env.scope.kind==.function&&env.kindOf n==some .cell)=true
    ·simp only[hc,if_true,aZ,hx];exact q
    ·simp only[hc,if_false,aZ,hx,cj];exact q
   ·right
    by_cases hc:(k==ba.free&&env.scope.kind==.function&&env.kindOf n==some .cell)=true
    ·simp only[hc,if_true,aZ,hx];exact q
    ·simp only[hc,if_false,aZ,hx,cj];exact q
theorem j8 {env:Env}{x:aK}:∀{names:List (aK×ba)},((names.map λ(n,k)=>if(k==ba.free&&env.scope.kind==.function&&env.kindOf n==some .cell)then(n,ba.cell)else(n,k)).lookup x=some .cell \/
  (names.map λ(n,k)=>if(k==ba.free&&env.scope.kind==.function&&env.kindOf n==some .cell)then(n,ba.cell)else(n,k)).lookup x=some .free)->(x,ba.free)∈names\/(x,ba.cell)∈names
 |[],h=>by simp at h
 |(n,k)::r,h=>by
  rw[bq]at h
  cases hx:x==n with
  |true=>
   have e:x=n:=eq_of_beq hx
   by_cases hc:(k==ba.free&&env.scope.kind==.function&&env.kindOf n==some .cell)=true
   ·have:k=.free:=by
     rw[bT,bT]at hc
     exact eq_of_beq hc.1.1
    left
    rw[e,this];exact am
   ·simp only[hc,if_false,aZ,hx,cj]at h
    rcases h with h|h
    ·cases h;right;rw[e];exact am
    ·cases h;left;rw[e];exact am
  |false=>
   refine(j8 (env:=env) (names:=r) ?_).imp (ao _) (ao _)
   by_cases hc:(k==ba.free&&env.scope.kind==.function&&env.kindOf n==some .cell)=true
   ·simpa only[hc,if_true,aZ,hx]using h
   ·simpa only[hc,if_false,aZ,hx,cj]using h
def fJ (σ:St)(cap:List Nat):St:=cap.map λi=>(σ[i]?).join
theorem Sx {σ:St}{cap:List Nat}{j i:Nat}{v:V}(hj:cap[j]?=some i)(h:(fJ σ cap)[j]?=some (some v)):σ[i]?=some (some v):=by
 unfold fJ at h
 rw[bn,hj]at h
 cases e:σ[i]? with
 |none=>rw[ie,e]at h;cases h
 |some o=>
  rw[ie,e]at h
  cases o with
  |none=>cases h
  |some u=>exact h
section
variable {X:Cx}{ah:List (af×cu)}{σ:St}{H:Hp}{s:ai}
theorem LW {scope:eZ}{cl:List (aK×af)}{N:List aK}{own:Nat}{cap:List Nat}{fp:List af}{h₁:aE}{t':Nat}{m₀:aK->Option aa}(B:jZ X scope N own cap)(I:Inv X ah σ H s)
    (c1:∀y c,cl.lookup y=some c->X.env.cells.lookup y=some c) (c2:∀x∈scope.names,x.2=.free->∃c,cl.lookup x.1=some c)
    (hf:∀b∈fp,ka X ah H b) (Kp:∀b∈fp,b<s.heap.objs.size) (n9:h₁.Ns s.heap.objs.size m₀) (k:∀b o,s.heap.get? b=some o->h₁.get? b=some o)
    (rn:∀c,s.heap.objs.size+1<=c->c<s.heap.objs.size+1+iE scope.names->h₁.IsCell c none) :
    Inv (g0 X scope (cellsFrom (s.heap.objs.size+1) scope.names cl) N s.heap.objs.size fp s H) [] (aC own none++fJ σ cap) H { s with heap:=h₁,toks:=t' } :=
  have low:∀x c,cl.lookup x=some c->c<s.heap.objs.size:=λx c e=>by
    obtain⟨v,o,q,_⟩:=I.cell x c (c1 x c e)
    exact aG q
  { ok:={
      mod:=I.mod
      kind:=B.kind
      glob:=I.ok.glob
      blt:=I.ok.blt
      above:=aH _
      inj:=Jn _ _ _ (λx y c e e'=>I.ok.inj x y c (c1 x c e) (c1 y c e')) λx c e=>cZ (low x c e)
      has:=λx hx=>by
        refine mq.mp (gZ scope.names _ _ ?_)
        rcases j8 hx with q|q
        · right
          obtain⟨c,e⟩:=c2 _ q rfl
          rw[e];rfl
        · exact .inl (B.cells _ q rfl)
      cab:=λx c e e'=>by
        have hx:scope.names.lookup x=some .cell:=eq_of_beq e
        rcases zS _ _ _ e' with⟨h1,_⟩|⟨_,h2⟩
        · exact kK h1
        · exact absurd (jg hx) h2
      hd:=I.ok.hd
      frames:=I.ok.frames
      stk:=.inl rfl
      exf:=λb hb=>⟨aY (Kp b hb),λx c e=>by
        rcases zS _ _ _ e with⟨h1,_⟩|⟨h1,_⟩
        · exactλz=>absurd (Kp b hb) (by rw[←z];exact Nat.not_lt.mpr (kK h1))
        · exact(hf b hb).2.2.2.2.1 x c (c1 x c h1)⟩
      bs:=I.bs
      bsz:=bH I.ok.bsz I.sz
      noex:=λb o e hb=>by
        rcases(hf b hb).2.2.2.1 with q|q
        · exact I.ok.noex b o e q
        · exact absurd (bg (aG e) I.ok.bsz) (Nat.not_lt.mpr q)
      exfs:=λb hb hz=>by
        rcases az.mp (I.stkSub b hz)with q|q
        · exact(hf b hb).2.1 q
        · exact(hf b hb).2.2.1 q
      funs:=I.stack
      frf:=I.stkFree }
    os:=rfl
    bare:=I.bare
    base:=Un.kept k
    loc:=by
      refine⟨m₀,n9,λi x v hN hσ hv=>?_⟩
      by_cases hi:i<own
      · rw[bS (by rw[cP];exact hi),eU,if_pos hi]at hσ
        cases hσ
      · obtain⟨j,rfl⟩:∃j,i=own+j:=⟨i-own,by omega⟩
        obtain⟨i',e1,e2,e3⟩:=B.caps j x hN
        rw[cJ (by rw[cP];omega),cP,Nat.add_sub_cancel_left]at hσ
        have Pk:=Sx e1 hσ
        have hk:=B.free (x,.free) (jg e3) rfl
        obtain⟨m,hm,hl⟩:=I.loc
        obtain⟨u,ru,hu⟩:=hl i' x v e2 Pk (.inr hk)
        refine⟨u,ru,?_⟩
        rcases hu with⟨q,_⟩|⟨_,c,hc,ic⟩
        · rcases hk with hk|hk
          · rw[hk]at q;cases q
          · rw[hk]at q;cases q
        · obtain⟨c',tZ⟩:=c2 (x,.free) (jg e3) rfl
          have ec:=c1 x c' tZ
          rw[hc]at ec
          cases ec
          have hn:(x,ba.cell)∉scope.names:=λz=>by
            have:=B.cells _ z rfl
            rw[e3]at this
            cases this
          exact .inr ⟨Lq e3,c,by show(cellsFrom _ _ _).lookup x=_;rw[Jm _ _ _ hn];exact tZ,ic.keeps k⟩
    cell:=λx c e=>by
      rcases zS _ _ _ e with⟨h1,h2,_⟩|⟨h1,_⟩
      · exact⟨none,rn c h1 h2⟩
      · obtain⟨v,q⟩:=I.cell x c (c1 x c h1)
        exact⟨v,q.keeps k⟩
    free:=I.hok.fresh (aH _)
    freeC:=λx c e=>by
      rcases zS _ _ _ e with⟨h1,_⟩|⟨h1,_⟩
      · exact I.hok.fresh (kK h1)
      · exact I.freeC x c (c1 x c h1)
    pin:=λp hp=>(nomatch hp)
    hok:=I.hok.kept k
    len:=by
      show(aC own none++fJ σ cap).length=N.length
      rw[aV,cP,B.len]
      unfold fJ
      rw[aM] }
end
def tF:TT:=λ_ H Q=>Q true H
def tQ (X:Cx)(ifs:List Expr)(t:TT):Prop :=
 ∀(ah:List (af×cu)) (s:ai) (σ:St) (H:Hp) (Q:Bool->Hp->Prop),Inv X ah σ H s->t σ H Q ->
  aN (aA X.prog X.w) X.A (forIn ifs true λc r=>if r=true then do let ok ← qF c X.env (bB c X.env);pure (ForInStep.yield ok)else pure (ForInStep.yield r)) (TP X ah σ Q) X.xe s
theorem UL {X:Cx}:tQ X [] tF:=λ_ _ _ H _ I h=>wpAny_tests_nil ⟨H,I,h⟩
theorem UM {X:Cx}{c:Expr}{t:TT}(h:PT X c t):tQ X [c] t:=λah s σ H Q I q=>wpAny_tests_one (h ah s σ H Q I q)
def o9 (wi:TI)(own:Nat)(cap:List Nat)(g:TG)(tt:TT)(te:TE):TE:=λσ H Q=>wi σ H λJ H1=>∀D,H1 D=none->∃W:Nat->Nat->List V->Hp->Prop,(∃m,W 0 m [] (upd H1 D (.lst []))) /\
 ∀i m ys H2,W i m ys H2->H2 D=some (.lst ys)/\((J.stop i H2/\Q (.ref D) H2)\/(J.go i H2/\ys.length<sizeLine/\∀x H3,J.yld i H2 x H3->g x (aC own none++fJ σ cap) H3 λσ2 H4=>tt σ2 H4 λb H5=>
  if b=true then te σ2 H5 λy H6=>H6 D=some (.lst ys)/\∃m',m'<m/\W (i+1) m' (ys++[y]) (upd H6 D (.lst (ys++[y])))else∃m',m'<m/\W (i+1) m' ys H5))
def fK (own:Nat)(g:TG):Prop:=∀v σ H Q,g v σ H Q->g v σ H λσ' H'=>Q σ' H'/\σ'.length = σ.length/\∀i,own<=i->σ'[i]? = σ[i]?
theorem Sy (i own:Nat)(h:i<own):fK own (o3 i):=λv σ H Q q=>⟨q,by rw[lF],λj hj=>by rw[et (by omega)]⟩
theorem Vd {X:Cx}{iQ iter tg:Expr}{ifs:List Expr}{scope:eZ}{pos:cy}{N:List aK}{own:Nat}{cap:List Nat}{wi:TI}{g:TG}{tt:TT}{te:TE}(B:jZ X scope N own cap)(hc:X.calm=true)(hi:PI X tg iter wi)
    (kg:fK own g)
    (hg:∀cl C fp s₀ H₀,PG (g0 X scope cl N C fp s₀ H₀) tg g) (ht:∀cl C fp s₀ H₀,tQ (g0 X scope cl N C fp s₀ H₀) ifs tt) (he:∀cl C fp s₀ H₀,PE (g0 X scope cl N C fp s₀ H₀) iQ te)
    (hs:∀x,dg iter X.env x=pure x:=by intro _;rfl):PE X (.ListComp iQ [⟨tg,iter,ifs,0⟩] scope pos) (o9 wi own cap g tt te):=by
  intro ah s σ H Q I h
  obtain⟨cl,GV,c1,c2,_⟩:=jf (env:=X.env) scope.names [] (λx hx hf=>I.ok.has x.1 (B.free x hx hf)) (λy c e=>by simp at e)
  have rm:nV scope X.env=pure cl:=by
    have e:nV scope X.env=(forIn scope.names ([]:List (aK×af)) (λ(x:aK×ba) (cs:List (aK×af))=>if(x.2==ba.free)=true then do let a ← cellOf X.env x.1;pure (ForInStep.yield ((x.1,a)::cs))else pure (ForInStep.yield cs)) >>= pure:gU (List (aK×af))):=rfl
    rw[e,GV]
    rfl
  rw[eval_ListComp]
  refine wpAny_comprehension_free (use:=none) rfl hs rm B.kind B.locs (cO (hi ah s σ H _ I h) λv s1 h1=>cO h1 λEM s2 h2=>?_)
  obtain⟨it,fp,tn,J,H2,e,I2,T,pZ,f2,W0⟩:=h2
  subst e
  obtain⟨W,⟨m0,w0⟩,ng⟩:=W0 s2.heap.objs.size (I2.hok.fresh (aH _))
  refine ik ?_
  have I3:Inv X ah σ (upd H2 s2.heap.objs.size (.lst [])) { s2 with heap:=s2.heap.push { cls:=.type "list",data:=.seq ([]:List aa).toArray } }:=I2.lnew .nil (dh _)
  generalize BW:({ s2 with heap:=s2.heap.push { cls:=.type "list",data:=.seq ([]:List aa).toArray } }:ai)=s3 at I3
  have k3:∀b o,s2.heap.get? b=some o->s3.heap.get? b=some o:=λb o e=>by rw[←BW];exact aq _ e
  have z3:s3.heap.objs.size=s2.heap.objs.size+1:=by rw[←BW];exact dO _ _
  have oI:∀b∈fp,b<s2.heap.objs.size:=λb hb=>by
    obtain⟨o,e,_⟩:=T.obj _ _ pZ b hb
    exact aG e
  have kU:∀b∈fp,b≠s2.heap.objs.size:=λb hb=>aY (oI b hb)
  have f3:∀b∈fp,ka X ah (upd H2 s2.heap.objs.size (.lst [])) b:=λb hb=>⟨by rw[zg (kU b hb)];exact(f2 b hb).1,(f2 b hb).2⟩
  have EY:tn 0 s3.heap:=T.keep _ _ _ pZ λb _ o e=>k3 b o e
  show aN _ _ (ko scope X.env.globals cl [] X.env.qual none .none (some X.env)) _ _ _
  refine Lp λh₁ kk wW wN=>?_
  have IB:=LW (t':=s3.toks) B I3 c1 c2 f3 (λb hb=>by rw[z3];exact cZ (oI b hb)) wW kk wN
  generalize cellsFrom (s3.heap.objs.size+1) scope.names cl=cl at IB ⊢
  generalize Ho:({ s3 with heap:=h₁,toks:=s3.toks }:ai)=s4 at IB
  have DJ:tn 0 s4.heap:=T.keep _ _ _ EY λb _ o e=>by rw[←Ho];exact kk b o e
  show eF (aA X.prog X.w) X.A (.compStart (.ListComp iQ [⟨tg,iter,ifs,0⟩] scope pos) 0 (.ref it) (.ref s2.heap.objs.size) (nW scope cl s3.heap.objs.size X.env))
      (nX (aA X.prog X.w) X.A X.xe none (EP X ah σ Q) (.ref s2.heap.objs.size) s3.heap.objs.size) s4
  have lY:∀{H':Hp},(∀b∈fp,H' b=none)->∀b∈fp,ka (g0 X scope cl N s3.heap.objs.size fp s3 (upd H2 s2.heap.objs.size (.lst []))) [] H' b:=λhn b hb=>
    ⟨hn b hb,aY (by show b<s3.heap.objs.size;rw[z3];exact cZ (oI b hb)),IB.ok.exfs b hb,.inl hb,λx c e=>(IB.ok.exf b hb).2 x c e,λp hp=>(nomatch hp)⟩
  have loop:eF (aA X.prog X.w) X.A (.compLoop (.ListComp iQ [⟨tg,iter,ifs,0⟩] scope pos) 0 (.ref it) (.ref s2.heap.objs.size) (nW scope cl s3.heap.objs.size X.env))
      (nX (aA X.prog X.w) X.A X.xe none (EP X ah σ Q) (.ref s2.heap.objs.size) s3.heap.objs.size) s4:=by
    refine Lo (λn s'=>∃i ys H',Inv (g0 X scope cl N s3.heap.objs.size fp s3 (upd H2 s2.heap.objs.size (.lst []))) [] (aC own none++fJ σ cap) H' s'/\tn i s'.heap/\(∀b∈fp,H' b=none)/\W i n ys H') ?_ m0
      ⟨0,[],_,IB,DJ,λb hb=>(f3 b hb).1,w0⟩
    rintro n s5 ⟨i,ys,H5,I5,tD,wH,w5⟩
    obtain⟨hD,t6⟩:=ng i n ys H5 w5
    rcases t6 with⟨stop,qn⟩|⟨go,ml,step⟩
    · refine cO (T.done (g0 X scope cl N s3.heap.objs.size fp s3 (upd H2 s2.heap.objs.size (.lst []))) rfl rfl rfl hc i [] s5 _ H5 (λ_ _=>False) I5 (lY wH) tD stop) λr s6 cS=>?_
      obtain⟨hr,I6⟩:=cS
      subst hr
      obtain⟨m,hm,_⟩:=id I6.loc
      refine⟨m,hm,λh' sb=>⟨.ref s2.heap.objs.size,H5,?_,rfl,qn⟩⟩
      have U:=I6.base
      have nC:∀b o,s3.heap.get? b=some o->b≠s3.heap.objs.size:=λb o e=>aY (aG e)
      have nT:∀b o,H5 b=some o->b≠s3.heap.objs.size:=λb o e z=>by
        have q:H5 s3.heap.objs.size=none:=I6.free
        rw[z,q]at e
        cases e
      refine I3.call' (ch:=fp) I6.os ?_ (λa o e=>(I6.hok a o e).stay (λb u hb q=>sb.extBut b u ?_ q) (λ_ q=>q) λ_ _ q=>q) I6.bare (λb hb=>⟨(f3 b hb).2.2.2.1,(f3 b hb).2.1,(f3 b hb).2.2.2.2.1,(f3 b hb).2.2.2.2.2⟩)
      · exact{
          keep:=λb o e z hb he=>sb.extBut b o (nC b o e) (U.keep b o e z hb he)
          slot:=λb o e z hb he=>by
            obtain⟨sl,q⟩:=U.slot b o e z hb he
            exact⟨sl,sb.extBut b _ (nC b o e) q⟩
          free:=U.free
          there:=λb o e he=>by
            obtain⟨o',q⟩:=U.there b o e he
            exact⟨o',sb.extBut b o' (nC b o e) q⟩
          tups:=U.tups
          frzs:=U.frzs
          tbls:=U.tbls }
      · rcases hb with rfl|hb
        · exact nT _ _ e
        · exact nT _ _ hb
    · refine cO (T.item (g0 X scope cl N s3.heap.objs.size fp s3 (upd H2 s2.heap.objs.size (.lst []))) rfl rfl rfl hc i [] s5 _ H5 (λ_ _=>False) I5 (lY wH) tD go) λr s6 cS=>?_
      obtain⟨u,hr,h6⟩:=cS
      subst hr
      refine cO h6 λ_ s7 cS=>?_
      obtain⟨x,H7,I7,r7,y7,xS,GD⟩:=cS
      have Fy:=I7.pinned (lY GD) (T.obj _ _ xS)
      refine cO (hg cl s3.heap.objs.size fp s3 _ _ s7 _ H7 x u _ Fy r7 (kg _ _ _ _ (step x H7 y7))) λ_ s8 cS=>?_
      obtain⟨σ8,H8,I8,q8,l8,p8⟩:=cS
      have back:∀{H9:Hp} {s9:ai},Inv (g0 X scope cl N s3.heap.objs.size fp s3 (upd H2 s2.heap.objs.size (.lst []))) ([]++kE fp s7.heap) σ8 H9 s9 ->
          Inv (g0 X scope cl N s3.heap.objs.size fp s3 (upd H2 s2.heap.objs.size (.lst []))) [] (aC own none++fJ σ cap) H9 s9/\tn (i+1) s9.heap/\∀b∈fp,H9 b=none:=λ{H9 s9} I9=>by
        refine⟨(I9.unpinned).weak l8.symm (λj v e=>?_),T.keep _ _ _ xS λb hb o e=>(I9.pin (b,o) (av _ (av _ (vd hb e)))).1,λb hb=>?_⟩
        · by_cases hj:j<own
          · rw[bS (by rw[cP];exact hj),eU,if_pos hj]at e
            cases e
          · rw[p8 j (by omega)];exact e
        · obtain⟨o,e,d⟩:=T.obj _ _ xS b hb
          exact(I9.pin (b,o) (av _ (av _ (vd hb e)))).2.1
      refine cO (ht cl s3.heap.objs.size fp s3 _ _ s8 σ8 H8 _ I8 q8) λok s9 cS=>?_
      obtain⟨H9,I9,q9⟩:=cS
      cases ok with
      |false=>
        rw[if_neg aD]
        rw[if_neg aD]at q9
        obtain⟨m',wR,w'⟩:=q9
        obtain⟨b1,b2,b3⟩:=back I9
        exact⟨m',wR,i+1,ys,H9,b1,b2,b3,w'⟩
      |true=>
        rw[if_pos rfl]
        rw[if_pos rfl]at q9
        refine cO (he cl s3.heap.objs.size fp s3 _ _ s9 σ8 H9 _ I9 q9) λuy HY cS=>?_
        obtain⟨y,zX,Fw,r10,wI,m',wR,w'⟩:=cS
        refine cO (Iz _ HY σ8 zX (.ref s2.heap.objs.size) [y] (.ref s2.heap.objs.size) [uy] (λ_ zY=>zY=upd zX s2.heap.objs.size (.lst (ys++[y]))) Fw rfl (.cons r10 .nil) ⟨_,ys,y,rfl,rfl,wI,ml,rfl⟩) λ_ Qx cS=>?_
        obtain⟨_,zY,Fx,_,Gm⟩:=cS
        subst Gm
        obtain⟨b1,b2,b3⟩:=back Fx
        exact⟨m',wR,i+1,ys++[y],_,b1,b2,b3,w'⟩
  exact codeAny_compStart_list loop (T.self X.A 0 s4 _ _ DJ loop)
end L2
namespace L2
open PySem PySem.Spec PyProof.Rows
section
variable {X:Cx}{ah:List (af×cu)}{σ:St}{H:Hp}{s:ai}{h':aE}
theorem Inv.turnLay {ch:List af}{a:af}{o:HO}{t':Nat}(I:Inv X ah σ H s)(lC:∀b∈ch,ka X ah H b)(k:∀b o,b∉ch->s.heap.get? b=some o->h'.get? b=some o)(hp:s.heap.objs.size<=a)
  (new:dF X.prog X.w (upd H a o) h' a o):Inv X ah σ (upd H a o) { s with heap:=h',toks:=t' }:=by
 have hn:H a=none:=I.hok.fresh hp
 have CF:∀b u,H b=some u->b∉ch:=λb u e z=>by rw[(lC b z).1]at e;cases e
 refine I.step (g':=s.gens) (d':=s.drawn) (ch:=ch) (λb hb=>⟨(lC b hb).2.2.2.1,(lC b hb).2.1,(lC b hb).2.2.2.2.1,(lC b hb).2.2.2.2.2⟩) (λb o _ _ hc e _=>k b o hc e) (λb o _ _ hc e _=>⟨o.slots,k b o hc e⟩)
  (λb o _ e n=>by rw[zg (aY (bg (aG e) hp))];exact n) (λb o hc e=>⟨o,k b o hc e⟩) (λb xs q=>by rw[zg (zk q hn)];exact q) (λb u xs q=>by rw[zg (zk q hn)];exact q)
  (λb ps q=>⟨#[],by rw[zg (zk q hn),q];simp⟩) (λm hm=>?_) (λb u e=>?_) I.bare
 ·obtain⟨o',es,ep,ho,r⟩:=hm
  exact⟨o',es,ep,k _ o' (λz=>(lC _ z).2.1 rfl) ho,r⟩
 ·by_cases hb:b=a
  ·subst hb
   rw[zm]at e
   cases e
   exact new
  ·rw[zg hb]at e
   refine(I.hok b u e).stay (λc v hc q=>k c v ?_ q) (λc q=>by rw[zg (zk q hn)];exact q) λc xs q=>by rw[zg (zk q hn)];exact q
   rcases hc with z|z
   ·rw[z];exact CF b u e
   ·exact CF c _ z
theorem Inv.turnedL {ch:List af}{t':Nat}(I:Inv X ah σ H s)(lC:∀b∈ch,ka X ah H b)(k:∀b o,b∉ch->s.heap.get? b=some o->h'.get? b=some o):Inv X ah σ H { s with heap:=h',toks:=t' }:=by
 have CF:∀b u,H b=some u->b∉ch:=λb u e z=>by rw[(lC b z).1]at e;cases e
 refine I.step (g':=s.gens) (d':=s.drawn) (ch:=ch) (λb hb=>⟨(lC b hb).2.2.2.1,(lC b hb).2.1,(lC b hb).2.2.2.2.1,(lC b hb).2.2.2.2.2⟩) (λb o _ _ hc e _=>k b o hc e) (λb o _ _ hc e _=>⟨o.slots,k b o hc e⟩)
  (λ_ _ _ _ n=>n) (λb o hc e=>⟨o,k b o hc e⟩) (λ_ _ e=>e) (λ_ _ _ e=>e) (λb ps e=>⟨#[],by rw[e];simp⟩) (λm hm=>?_) (λb u e=>?_) I.bare
 ·obtain⟨o',es,ep,ho,r⟩:=hm
  exact⟨o',es,ep,k _ o' (λz=>(lC _ z).2.1 rfl) ho,r⟩
 ·refine(I.hok b u e).stay (λc v hc q=>k c v ?_ q) (λ_ q=>q) λ_ _ q=>q
  rcases hc with z|z
  ·rw[z];exact CF b u e
  ·exact CF c _ z
end
def Fz (K:ae)(a:af):It :=
 ⟨λi H=>∃xs x,fN K H a xs/\xs[i]?=some x,λi H x H'=>∃p y,H p=none/\x=.ref p/\H'=upd H p (.tup [.int i,y])/\∀xs,fN K H a xs->xs[i]?=some y,λi H=>∃xs,fN K H a xs/\xs.length<=i⟩
theorem SE {P:aT}{w:bt}{K:ae}{m8:List Expr}{kt:Nat}{pt:cy}(a e it:af)(Kn:e≠it) :
    Turn P w K (.Tuple m8 kt pt) (Fz K a) [e,it] e (λi h=>(∃old,IsEnum h e it i old)/\h.IsListIter it a i) where
  mem:=by simp
  obj:=λi h st b hb=>by
    obtain⟨⟨old,he⟩,o,e1,c,d⟩:=st
    rcases az.mp hb with rfl|hb
    · exact⟨_,he,λv z=>by cases z⟩
    · have e2:b=it:=by simpa using hb
      subst e2
      exact⟨o,e1,λv z=>by rw[d]at z;cases z⟩
  keep:=λi h h' st k=>by
    obtain⟨⟨old,he⟩,hit⟩:=st
    exact⟨⟨old,k e (by simp) _ he⟩,hit.at λo x=>k it (by simp) o x⟩
  item:=by
    intro X hP hw hK hc i ah s σ H E I hf st hg
    subst hP hw hK
    obtain⟨xs,x,hq,hx⟩:=hg
    obtain⟨bW,rv,p,hz⟩:=I.list hq
    obtain⟨u,hu,ru⟩:=rv.get hx
    obtain⟨⟨old,he⟩,hit⟩:=st
    refine wpAny_pyNext_enum_item he hit p.isList (x:=u) (by simpa using hu) Kn λh1 ho G7 hT hsz hk=>?_
    refine⟨_,rfl,wpAny_letOwnedTupleGo_enum (s:={ s with heap:=h1,toks:=s.toks+1 }) ho λh2 OR Ia=>?_⟩
    have iQ:e<s.heap.objs.size:=aG he
    have Pm:it<s.heap.objs.size:=by obtain⟨_,q,_⟩:=hit;exact aG q
    have OL:h2.get? s.heap.objs.size=some { cls:=.type "tuple",data:=.seq #[.int i s.toks,u] }:=(Ia.2 _ (iu iQ)).trans hT
    have BG:H s.heap.objs.size=none:=I.hok.fresh (aH _)
    have I1:Inv X ah σ (upd H s.heap.objs.size (.tup [.int i,x])) { s with heap:=h2,toks:=s.toks+1 }:=by
      refine I.turnLay (ch:=[e,it]) hf (λb o hb q=>?_) (aH _) ⟨by show 2<=sizeLine;decide,[.int i s.toks,u],.cons ⟨_,rfl⟩ (.cons ru .nil),_,OL,rfl,_,rfl⟩
      have En:b≠e:=λz=>hb (by simp[z])
      have GJ:b≠it:=λz=>hb (by simp[z])
      exact(Ia.2 b En).trans (hk b o En GJ q)
    refine⟨.ref s.heap.objs.size,_,I1,rfl,⟨_,x,BG,rfl,rfl,λys hy=>by rw[I.list_inj hy hq];exact hx⟩,⟨⟨u,by simpa using OR⟩,G7.at λo q=>(Ia.2 it Kn.symm).trans q⟩,λb hb=>?_⟩
    rw[zg ?_]
    · exact(hf b hb).1
    · rcases az.mp hb with rfl|hb
      · exact aY iQ
      · have e2:b=it:=by simpa using hb
        rw[e2];exact aY Pm
  done:=by
    intro X hP hw hK hc i ah s σ H E I hf st hg
    subst hP hw hK
    obtain⟨xs,hq,hx⟩:=hg
    obtain⟨bW,rv,p,hz⟩:=I.list hq
    obtain⟨⟨old,he⟩,hit⟩:=st
    have hl:=rv.length
    exact wpAny_pyNext_enum_end (I.ok.hd hc) he hit p.isList (by simp;omega) λh' eb=>⟨rfl,I.turnedL (ch:=[e,it]) (t':=s.toks) hf λb o hb q=>eb b o (λz=>hb (by simp[z])) q⟩
  self:=λ_ _ _ _ _ st h=>wpAny_pyIter_enum st.1.choose_spec h
section
variable {X:Cx}{m8:List Expr}{kt:Nat}{pt:cy}
def BY (K:ae)(ta:TA):TI:=λσ H R=>ta σ H λvs H1=>∃a,vs=[.ref a]/\(∃xs,fN K H1 a xs)/\R (Fz K a) H1
theorem MA {l:Expr}{ta:TA}{p pos:cy}(hg:Gl X "enumerate")(hm:X.mg "enumerate"=none)(ha:PA X [l] ta)(hs:ap [l] X.env=[(false,bB l X.env)]:=by rfl) :
  PI X (.Tuple m8 kt pt) (.Call (.Name "enumerate" p) [l] [] pos) (BY X.K ta):=by
 intro ah s σ H R I h
 refine Call_ (yE I hg hm PyProof.Rows.boot_enumerate (fF (cO (ha pos ah s σ H _ I h) λus s1 ⟨vs,H1,I1,r1,q1⟩=>?_) hs rfl))
 obtain⟨a,e,⟨xs,hq⟩,q⟩:=q1
 subst e
 cases r1 with
 |cons r rr=>
  cases rr
  cases r
  obtain⟨bW,rv,pl,hz⟩:=I1.list hq
  refine call_enumerate_list pl.isList λh' he hit hsz hk=>?_
  refine wpAny_pyIter_enum (s:={ s1 with heap:=h' }) he ?_
  refine⟨s1.heap.objs.size+1,[s1.heap.objs.size+1,s1.heap.objs.size],_,_,H1,rfl,I1.kept (t':=s1.toks) hk,SE a _ _ (Nat.succ_ne_self _),⟨⟨_,he⟩,hit⟩,λb hb=>?_,q⟩
  rcases az.mp hb with rfl|hb
  ·exact I1.fpOk (eY _) (I1.hok.fresh (eY _))
  ·have e:b=s1.heap.objs.size:=by simpa using hb
   subst e
   exact I1.fpOk (aH _) (I1.hok.fresh (aH _))
end
end L2
set_option maxHeartbeats 4000000
namespace L2
open PySem PySem.Spec PyProof.Rows
section
variable {P:aT}{w:bt}{A:bi}{E:aa->ai->Prop}{s:ai}
end
section
variable {X:Cx}{ah:List (af×cu)}{σ:St}{H:Hp}{s:ai}{a:af}
end
end L2
set_option maxHeartbeats 4000000
namespace L2
open PySem PySem.Spec PyProof.Rows
section
variable {P:aT}{w:bt}{A:bi}{E:aa->ai->Prop}{s:ai}
end
section
variable {X:Cx}{ah:List (af×cu)}{σ:St}{H:Hp}{s:ai}{a:af}
end
end L2
namespace L2
open PySem PySem.W PyProof.Rows
section
variable {lt:Nat->Nat->Bool}{p:Array Nat}
end
section
variable {prog:aT}{w:bt}{A:bi}{E:aa->ai->Prop}{s:ai}{lt:Nat->Nat->Bool}{vs:List aa}{κ:SortKind}
end
end L2
set_option maxHeartbeats 4000000
namespace L2
open PySem PySem.Spec PyProof.Rows
section
variable {prog:aT}{w:bt}{A:bi}{E:aa->ai->Prop}{s:ai}{b fin:Bool}{Q:Bool->ai->Prop}
end
end L2
set_option maxHeartbeats 4000000
namespace L2
open PySem PySem.Spec PyProof.Rows
section
variable {P:aT}{w:bt}{A:bi}{E:aa->ai->Prop}{s:ai}{K:Type}[DecidableEq K]{Yt:HeapKind P w K}
end
section
variable {X:Cx}
end
end L2
set_option maxHeartbeats 4000000
namespace L2
namespace TS
open PySem PySem.Spec PyProof.Rows
structure Ix where
 n:Nat
structure PS where
 a:Array Ix
 pend:Array (Nat×Nat×Nat)
 mg:Nat
abbrev PM:=StateT PS Option
noncomputable def kY (arr:Array Ix)(i:Nat):PM Ix:=match arr.toList[i]? with
 |some p=>pure p
 |none=>failure
section
variable (lt:Nat->Nat->Bool)
noncomputable def CK (x y:Ix):PM (Option Bool):=pure (some (lt x.n y.n))
noncomputable def lV (i j:Nat):PM (Option Bool):=do
 let a:=(← get).a
 CK lt (← kY a i) (← kY a j)
def tX {β:Type}:List Ix->(List Ix->β)->β
 |[],k=>k []
 |⟨n⟩::xs,k=>match n with
  |0=>tX xs λys=>k (⟨0⟩::ys)
  |m+1=>tX xs λys=>k (⟨m+1⟩::ys)
theorem yF {β:Type}:∀(xs:List Ix) (k:List Ix->β),tX xs k=k xs
 |[],_=>rfl
 |⟨0⟩::xs,k=>yF xs _
 |⟨m+1⟩::xs,k=>yF xs _
def xC (a:Array Ix)(src d:Nat):List Ix:=if src<a.size/\d<=src then a.toList.take (src-d)++((a.toList.drop src).take 1++((a.toList.drop (src-d)).take d++a.toList.drop (src+1)))else(bubble a src d).toList
theorem Ve (a:Array Ix)(src d:Nat):(xC a src d).toArray=bubble a src d:=by
 unfold xC
 by_cases h:src<a.size/\d<=src
 ·rw[if_pos h]
  apply Array.ext_getElem?
  intro k
  rw[getElem?_bubble h.1 d h.2 k,List.getElem?_toArray]
  have e1:(a.toList.take (src-d)).length=src-d:=by rw[cG,bQ];omega
  have e2:((a.toList.drop src).take 1).length=1:=by rw[cG,eE,bQ];omega
  have e3:((a.toList.drop (src-d)).take d).length=d:=by rw[cG,eE,bQ];omega
  by_cases k1:k<src-d
  ·rw[bS (by omega),if_neg (by omega),if_neg (by omega),eM k1,d5]
  ·rw[cJ (by omega),e1]
   by_cases k2:k=src-d
   ·rw[if_pos k2,bS (by omega),eM (by omega),jX,d5]
    congr 1;omega
   ·rw[if_neg k2,cJ (by omega),e2]
    by_cases k3:k<=src
    ·rw[if_pos ⟨by omega,k3⟩,bS (by omega),eM (by omega),jX,d5]
     congr 1;omega
    ·rw[if_neg (by omega),cJ (by omega),e3,jX,d5]
     congr 1;omega
 ·rw[if_neg h]
noncomputable def pU (i j:Nat):PM Unit:=λs=>tX (mirror s.a i j ((j-i)/2)).toList λl=>some ((),PS.mk l.toArray s.pend s.mg)
noncomputable def rQ (src J6:Nat):PM Unit:=λs=>tX (xC s.a src (src-J6)) λl=>some ((),PS.mk l.toArray s.pend s.mg)
noncomputable def oM (lo oK:Nat):PM (Option Nat):=do
 let mut n:=1
 for _ in[1:oK]do
  let some km ← lV lt (lo+n) (lo+n-1)|return none
  if km then break
  n:=n+1
 if n==oK then return some n
 if n > 1 then
  let some HX ← lV lt lo (lo+n-1)|return none
  if HX then return some n
  pU lo (lo+n)
 pure ()
 n:=n+1
 let mut neq:=0
 for _ in[n:oK]do
  let some km ← lV lt (lo+n) (lo+n-1)|return none
  if km then
   if neq > 0 then pU (lo+n-(neq+1)) (lo+n)
   neq:=0
  else
   let some larger ← lV lt (lo+n-1) (lo+n)|return none
   if larger then break
   neq:=neq+1
  n:=n+1
 if neq > 0 then pU (lo+n-(neq+1)) (lo+n)
 pU lo (lo+n)
 for _ in[n:oK]do
  let some km ← lV lt (lo+n) (lo+n-1)|return none
  if km then break
  n:=n+1
 return some n
noncomputable def xL (lo n ok:Nat):PM Bool:=do
 for k in[max ok 1:n]do
  let mut l:=0
  let mut r:=k
  for _ in[0:k]do
   if l >= r then break
   let m:=(l+r)/2
   let some less ← lV lt (lo+k) (lo+m)|return false
   if less then r:=m else l:=m+1
  rQ (lo+k) (lo+l)
 return true
noncomputable def iS (left:Bool)(key:Ix)(arr:Array Ix)(base i:Nat):PM (Option Bool):=do
 let x ← kY arr (base+i)
 if left then CK lt x key else return(← CK lt key x).map (!·)
noncomputable def kj (left:Bool)(key:Ix)(arr:Array Ix)(base n hint:Nat):PM (Option Nat):=do
 let mut lastofs:=0
 let mut ofs:=1
 let mut lo:=0
 let mut hi:=0
 let some right ← iS lt left key arr base hint|return none
 if right then
  let gC:=n-hint
  for _ in[0:n]do
   if ofs >= gC then break
   let some more ← iS lt left key arr base (hint+ofs)|return none
   if !more then break
   lastofs:=ofs
   ofs:=2*ofs+1
  lo:=hint+lastofs+1
  hi:=hint+min ofs gC
 else
  let gC:=hint+1
  for _ in[0:n]do
   if ofs >= gC then break
   let some found ← iS lt left key arr base (hint-ofs)|return none
   if found then break
   lastofs:=ofs
   ofs:=2*ofs+1
  lo:=hint+1-min ofs gC
  hi:=hint-lastofs
 for _ in[0:n]do
  if lo >= hi then break
  let m:=lo+(hi-lo)/2
  let some more ← iS lt left key arr base m|return none
  if more then lo:=m+1 else hi:=m
 return some hi
end
structure Tab where
 k:Nat->Int
 t:Nat->Tok
 v:Nat->aa
def itm (it:Tab)(x:Ix):Keyed:=(.int (it.k x.n) (it.t x.n),it.v x.n)
noncomputable def gr:Bool->Keyed->Array Keyed->Nat->Nat->Nat->StateT SortSt gU (Option Nat):=sortPriv% PySem.Builtin.gallop
noncomputable def iO (left:Bool)(key:Keyed)(arr:Array Keyed)(base i:Nat):StateT SortSt gU (Option Bool):=do
 let x ← elem' arr (base+i)
 if left then lt' x key else return(← lt' key x).map (!·)
theorem SA (left:Bool)(key:Keyed)(arr:Array Keyed)(base n hint:Nat):gr left key arr base n hint=(do
 let mut lastofs:=0
 let mut ofs:=1
 let mut lo:=0
 let mut hi:=0
 let some right ← iO left key arr base hint|return none
 if right then
  let gC:=n-hint
  for _ in[0:n]do
   if ofs >= gC then break
   let some more ← iO left key arr base (hint+ofs)|return none
   if !more then break
   lastofs:=ofs
   ofs:=2*ofs+1
  lo:=hint+lastofs+1
  hi:=hint+min ofs gC
 else
  let gC:=hint+1
  for _ in[0:n]do
   if ofs >= gC then break
   let some found ← iO left key arr base (hint-ofs)|return none
   if found then break
   lastofs:=ofs
   ofs:=2*ofs+1
  lo:=hint+1-min ofs gC
  hi:=hint-lastofs
 for _ in[0:n]do
  if lo >= hi then break
  let m:=lo+(hi-lo)/2
  let some more ← iO left key arr base m|return none
  if more then lo:=m+1 else hi:=m
 return some hi):=rfl
class Cv (it:Tab) (β:Type) (α:outParam Type) where
 cv:β->α
section
variable {it:Tab}
instance:Cv it Nat Nat:=⟨id⟩
instance:Cv it Bool Bool:=⟨id⟩
instance:Cv it PUnit PUnit:=⟨id⟩
instance:Cv it Ix Keyed:=⟨itm it⟩
instance:Cv it (Array Ix) (Array Keyed):=⟨λa=>a.map (itm it)⟩
instance {α β:Type} [Cv it β α]:Cv it (Option β) (Option α):=⟨λo=>o.map (Cv.cv it)⟩
instance {α β γ δ:Type} [Cv it β α] [Cv it δ γ]:Cv it (β×δ) (α×γ):=⟨λp=>(Cv.cv it p.1,Cv.cv it p.2)⟩
instance {α β:Type} [Cv it β α]:Cv it (ForInStep β) (ForInStep α):=⟨λo=>match o with|.done b=>.done (Cv.cv it b)|.yield b=>.yield (Cv.cv it b)⟩
end
def emb (it:Tab)(ps:PS):SortSt:=SortSt.mk' oneType' (ps.a.map (itm it)) ps.pend ps.mg none
section
variable {prog:aT}{w:bt}{A:bi}{E:aa->ai->Prop}{s:ai}{it:Tab}
def e9 (prog:aT)(w:bt)(A:bi)(E:aa->ai->Prop)(s:ai)(it:Tab){α β:Type}[Cv it β α](m:StateT SortSt gU α)(m':PM β):Prop :=
 ∀(ps:PS) (b:β) (mC:PS),m'.run ps=some (b,mC)->∀Q:α->SortSt->Prop,Q (Cv.cv it b) (emb it mC)->wpS (aA prog w) A E s m Q (emb it ps)
theorem zn {α β:Type}[Cv it β α]{a:α}{b:β}(h:a=Cv.cv it b):e9 prog w A E s it (pure a) (pure b):=by
 intro ps b' mC e Q q
 cases e
 rw[h]
 exact wpS_pure q
theorem zl {α β γ δ:Type}[Cv it β α][Cv it δ γ]{m:StateT SortSt gU α}{k:α->StateT SortSt gU γ}{m':PM β}{k':β->PM δ}(h:e9 prog w A E s it m m')(hk:∀b,e9 prog w A E s it (k (Cv.cv it b)) (k' b)):e9 prog w A E s it (m >>= k) (m' >>= k'):=by
 intro ps d mC e Q q
 rw[StateT.run_bind]at e
 obtain⟨⟨b,K2⟩,e1,e2⟩:=mI.mp e
 exact wpS_bind (h ps b K2 e1 _ (hk b K2 d mC e2 Q q))
theorem xz {α β:Type}[Cv it β α]{c:Prop}[Decidable c]{m n:StateT SortSt gU α}{m' n':PM β}(h1:c->e9 prog w A E s it m m')(h2:¬c->e9 prog w A E s it n n'):e9 prog w A E s it (if c then m else n) (if c then m' else n'):=by
 by_cases hc:c
 ·rw[if_pos hc,if_pos hc];exact h1 hc
 ·rw[if_neg hc,if_neg hc];exact h2 hc
theorem uj {γ δ:Type}[Cv it δ γ]{k:SortSt->StateT SortSt gU γ}{k':PS->PM δ}(h:∀ps,e9 prog w A E s it (k (emb it ps)) (k' ps)):e9 prog w A E s it (get >>= k) (get >>= k'):=by
 intro ps d mC e Q q
 exact wpS_bind (wpS_get (h ps ps d mC e Q q))
theorem jh {α β:Type}[Cv it β α]{m:StateT SortSt gU α}:e9 prog w A E s it m (failure:PM β):=by
 intro ps d mC e Q q
 cases e
theorem Mj {α β:Type}[Cv it β α]{f:Nat->α->StateT SortSt gU (ForInStep α)}{f':Nat->β->PM (ForInStep β)}(h:∀x b,e9 prog w A E s it (f x (Cv.cv it b)) (f' x b)):∀(l:List Nat) (b:β),e9 prog w A E s it (forIn l (Cv.cv it b) f) (forIn l b f')
 |[],b=>by rw[iU,iU];exact zn rfl
 |x::l,b=>by
  rw[gj,gj]
  refine zl (h x b) λr=>?_
  cases r with
  |done b'=>exact zn rfl
  |yield b'=>exact Mj h l b'
theorem vg {α β:Type}[Cv it β α]{f:Nat->α->StateT SortSt gU (ForInStep α)}{f':Nat->β->PM (ForInStep β)}{a:α}{b:β}{i j:Nat}(hb:a=Cv.cv it b)(h:∀x b,e9 prog w A E s it (f x (Cv.cv it b)) (f' x b)):e9 prog w A E s it (forIn [i:j] a f) (forIn [i:j] b f'):=by
 rw[Std.Legacy.Range.forIn_eq_forIn_range',Std.Legacy.Range.forIn_eq_forIn_range',hb]
 exact Mj h _ _
theorem MB {F:SortSt->SortSt}{F':PS->PS}(h:∀ps,F (emb it ps)=emb it (F' ps)):e9 prog w A E s it (modify F) (modify F'):=by
 intro ps d mC e Q q
 cases e
 exact wpS_modify (by rw[h];exact q)
theorem E7 {x:String}:e9 prog w A E s it (liftM (rule x):StateT SortSt gU PUnit) (pure PUnit.unit):=by
 intro ps d mC e Q q
 cases e
 exact wpS_lift (wpAny_rule ⟨rfl,q⟩)
theorem vx {arr:Array Ix}{i:Nat}:e9 prog w A E s it (elem' (Cv.cv it arr) i) (kY arr i):=by
 intro ps d mC e Q q
 rw[elem'_eq]
 have e':(Cv.cv it arr:Array Keyed)[i]?=(arr[i]?).map (itm it):=by show(arr.map (itm it))[i]?=_;simp
 rw[e']
 unfold kY at e
 rw[d5]at e
 cases h:arr[i]? with
 |none=>rw[h]at e;cases e
 |some x=>rw[h]at e;cases e;exact wpS_pure q
theorem zfp {x y:Ix}:e9 prog w A E s it (lt' (Cv.cv it x) (Cv.cv it y)) (CK (λi j=>decide (it.k i<it.k j)) x y):=by
 intro ps d mC e Q q
 cases e
 rw[lt'_eq]
 refine wpS_bind (wpS_get ?_)
 show wpS _ _ _ _ (do let r ← (liftM (keyLt' oneType' _ _).attempt:StateT SortSt gU _);_) _ _
 rw[keyLt'_oneType]
 refine wpS_bind (wpS_lift (wpAny_attempt (oneLt_int ⟨rfl,?_⟩)))
 exact wpS_pure q
theorem IR {F:SortSt->SortSt}{m:PM Unit}{F':PS->PS}(hm:∀ps,m ps=some ((),F' ps))(h:∀ps,F (emb it ps)=emb it (F' ps)):e9 prog w A E s it (modify F) m:=by
 intro ps d mC e Q q
 have e:m ps=some (d,mC):=e
 rw[hm]at e
 cases e
 exact wpS_modify (by rw[h];exact q)
theorem znc {i j:Nat}:e9 prog w A E s it (reverseSlice' i j) (pU i j):=by
 rw[reverseSlice'_eq]
 refine IR (F':=λs=>PS.mk (mirror s.a i j ((j-i)/2)) s.pend s.mg) (λps=>by unfold pU;rw[yF]) λps=>?_
 show SortSt.mk' _ (mirror (ps.a.map (itm it)) i j ((j-i)/2)) _ _ _=SortSt.mk' _ ((mirror ps.a i j ((j-i)/2)).map (itm it)) _ _ _
 have e1:mirror (ps.a.map (itm it)) i j ((j-i)/2)=(mirror ps.a i j ((j-i)/2)).map (itm it):=m5 (itm it) (λk=>i+k) (λk=>j-1-k) _ ps.a
 rw[e1];rfl
theorem zko {k l:Nat}:e9 prog w A E s it (moveDown' k l) (rQ k l):=by
 rw[moveDown'_eq]
 refine IR (F':=λs=>PS.mk (bubble s.a k (k-l)) s.pend s.mg) (λps=>by unfold rQ;rw[yF,Ve]) λps=>?_
 show SortSt.mk' _ (bubble (ps.a.map (itm it)) k (k-l)) _ _ _=SortSt.mk' _ ((bubble ps.a k (k-l)).map (itm it)) _ _ _
 have e1:bubble (ps.a.map (itm it)) k (k-l)=(bubble ps.a k (k-l)).map (itm it):=m5 (itm it) (λi=>k-i) (λi=>k-i-1) _ ps.a
 rw[e1];rfl
abbrev Tab.lt (it:Tab)(i j:Nat):Bool:=decide (it.k i<it.k j)
theorem zkp {i j:Nat}:e9 prog w A E s it (ltAt' i j) (lV it.lt i j):=by
 rw[ltAt'_eq]
 exact uj λps=>zl (vx (arr:=ps.a)) λx=>zl (vx (arr:=ps.a)) λy=>zfp
section
variable {α β γ δ:Type}[Cv it β α][Cv it δ γ]
theorem zfq (n:Nat):Cv.cv it n=n:=rfl
theorem zh8 (n:Bool):Cv.cv it n=n:=rfl
theorem zh9 (n:PUnit):Cv.cv it n=n:=rfl
theorem zcs (x:β)(y:δ):Cv.cv it (x,y)=(Cv.cv it x,Cv.cv it y):=rfl
theorem zeu:Cv.cv it (none:Option β)=none:=rfl
theorem zev (x:β):Cv.cv it (some x)=some (Cv.cv it x):=rfl
theorem zia (x:β):Cv.cv it (ForInStep.done x)=ForInStep.done (Cv.cv it x):=rfl
theorem zfr (x:β):Cv.cv it (ForInStep.yield x)=ForInStep.yield (Cv.cv it x):=rfl
end
theorem zib (a:Array Ix)(x:Ix):(Cv.cv it a:Array Keyed).push (Cv.cv it x)=Cv.cv it (a.push x):=(Array.map_push ..).symm
theorem qy (a:Array Ix):(Cv.cv it a:Array Keyed).size=a.size:=Array.size_map ..
theorem ux (a:Array Ix)(i j:Nat):(Cv.cv it a:Array Keyed).extract i j=Cv.cv it (a.extract i j):=by show(a.map _).extract i j=(a.extract i j).map _;simp
theorem ju (a b:Array Ix):(Cv.cv it a:Array Keyed)++(Cv.cv it b:Array Keyed)=Cv.cv it (a++b):=by show(a.map _)++(b.map _)=(a++b).map _;simp
theorem zfs (a:Array Ix):(Cv.cv it a:Array Keyed).reverse=Cv.cv it a.reverse:=by show(a.map _).reverse=a.reverse.map _;simp
theorem zap (x:Ix):(#[Cv.cv it x]:Array Keyed)=Cv.cv it #[x]:=by show _=(#[x]:Array Ix).map _;simp;rfl
theorem zl2 {α β:Type}[Cv it β α]{x:String}{k:PUnit->StateT SortSt gU α}{m:PM β}(h:e9 prog w A E s it (k PUnit.unit) m):e9 prog w A E s it (liftM (rule x) >>= k) m:=by
 intro ps d mC e Q q
 exact wpS_bind (wpS_lift (wpAny_rule ⟨rfl,h ps d mC e Q q⟩))
section
variable {α β γ δ:Type}[Cv it β α][Cv it δ γ]
theorem zl3 (p:β×δ):(Cv.cv it p).fst=Cv.cv it p.fst:=rfl
theorem zl4 (p:β×δ):(Cv.cv it p).snd=Cv.cv it p.snd:=rfl
end
local macro_rules| `(tactic|walk_at "cv")=>`(tactic|simp only[zfq,zh8,zh9,zcs,zeu,zev,zia,zfr,zib,qy,ux,ju,zfs,zap,zl3,zl4])
local macro_rules| `(tactic|walk_at "opt")=>`(tactic|(rintro(_|b)<;>(try walk_at "cv")<;>(try dsimp only)))
local macro_rules| `(tactic|walk_at "tidy")=>`(tactic|((try walk_at "cv");(try dsimp only)))
local macro_rules| `(tactic|walk_at "sim")=>`(tactic|repeat' (first|exact zn rfl|exact jh|(refine xz (λ_=>?_) (λ_=>?_))|(refine zl zkp ?_;walk_at "opt")|(refine zl znc λ_=>?_)|(refine zl zko λ_=>?_)|(refine zl2 ?_)|(refine zl (vg rfl λx b=>?_) λb=>?_<;>walk_at "tidy")|(rename_i b;generalize b.fst=o;rcases o with _|r<;>walk_at "tidy")))
theorem S5 {lo oK:Nat}:e9 prog w A E s it (countRun' lo oK) (oM it.lt lo oK):=by
 rw[countRun'_eq]
 unfold oM
 dsimp only
 walk_at "sim"
theorem Vf {lo n ok:Nat}:e9 prog w A E s it (binarySort' lo n ok) (xL it.lt lo n ok):=by
 rw[binarySort'_eq]
 unfold xL
 dsimp only
 walk_at "sim"
theorem zg0 {left:Bool}{key:Ix}{arr:Array Ix}{base i:Nat}:e9 prog w A E s it (iO left (Cv.cv it key) (Cv.cv it arr) base i) (iS it.lt left key arr base i):=by
 unfold iO iS
 refine zl vx λx=>?_
 cases left with
 |true=>exact zfp
 |false=>
  refine zl zfp ?_
  rintro(_|b)<;>exact zn rfl
local macro_rules| `(tactic|walk_at "gal")=>`(tactic|repeat' (first|exact zn rfl|exact jh|(refine xz (λ_=>?_) (λ_=>?_))|(refine zl zg0 ?_;walk_at "opt")|(refine zl (vg rfl λx b=>?_) λb=>?_<;>walk_at "tidy")|(rename_i b;generalize b.fst=o;rcases o with _|r<;>walk_at "tidy")))
theorem qz {left:Bool}{key:Ix}{arr:Array Ix}{base n hint:Nat}:e9 prog w A E s it (gr left (Cv.cv it key) (Cv.cv it arr) base n hint) (kj it.lt left key arr base n hint):=by
 rw[SA]
 unfold kj
 dsimp only
 walk_at "gal"
end
end TS
end L2
set_option maxHeartbeats 4000000
namespace L2
namespace TS
open PySem PySem.Spec PyProof.Rows
structure DY (m:Type->Type)(κ:Type) where
 elem:Array κ->Nat->m κ
 lt:κ->κ->m (Option Bool)
 gal:Bool->κ->Array κ->Nat->Nat->Nat->m (Option Nat)
 setMG:Nat->m Unit
 getMG:(Nat->m (Array κ))->m (Array κ)
 rule:String->m PUnit
 bad:String->m (Array κ)
abbrev S1 (κ:Type):=Option (Array κ)×Array κ×Nat×Nat×Nat×Nat
abbrev S2 (κ:Type):=Option (Array κ)×Array κ×Nat×Nat×Nat×Nat×Nat
abbrev S0 (κ:Type):=Option (Array κ)×Array κ×Nat×Nat×Nat
section
variable {m:Type->Type}[Monad m]{κ:Type}(O:DY m κ)(a b:Array κ)(na nb:Nat)
def dn (out:Array κ)(ia ib:Nat):Array κ:=out++a.extract ia na++b.extract ib nb
def ls (out:Array κ)(ia ib:Nat):Array κ:=out++b.extract ib nb++a.extract ia na
def lo1 (mg:Nat)(s:S1 κ):m (ForInStep (S1 κ)) :=
 O.elem b s.2.2.2.1 >>= λy=>O.elem a s.2.2.1 >>= λx=>O.lt y x >>= λr=>match r with
  |some w=>if w=true then O.elem b s.2.2.2.1 >>= λz=>
     if(s.2.2.2.1+1==nb)=true then pure (.done (some (dn a b na nb (s.2.1.push z) s.2.2.1 (s.2.2.2.1+1)),s.2.1.push z,s.2.2.1,s.2.2.2.1+1,0,s.2.2.2.2.2+1))
     else if s.2.2.2.2.2+1 >= mg then pure (.done (none,s.2.1.push z,s.2.2.1,s.2.2.2.1+1,0,s.2.2.2.2.2+1))else pure (.yield (none,s.2.1.push z,s.2.2.1,s.2.2.2.1+1,0,s.2.2.2.2.2+1))
    else O.elem a s.2.2.1 >>= λz=>
     if(s.2.2.1+1+1==na)=true then pure (.done (some (ls a b na nb (s.2.1.push z) (s.2.2.1+1) s.2.2.2.1),s.2.1.push z,s.2.2.1+1,s.2.2.2.1,s.2.2.2.2.1+1,0))
     else if s.2.2.2.2.1+1 >= mg then pure (.done (none,s.2.1.push z,s.2.2.1+1,s.2.2.2.1,s.2.2.2.2.1+1,0))else pure (.yield (none,s.2.1.push z,s.2.2.1+1,s.2.2.2.1,s.2.2.2.2.1+1,0))
  |_=>pure (.done (some (dn a b na nb s.2.1 s.2.2.1 s.2.2.2.1),s.2.1,s.2.2.1,s.2.2.2.1,s.2.2.2.2.1,s.2.2.2.2.2))
def uI (out:Array κ)(ia ib mg ac bc:Nat):m (ForInStep (S2 κ)) :=
 O.elem a ia >>= λz=>if(ia+1+1==na)=true then pure (.done (some (ls a b na nb (out.push z) (ia+1) ib),out.push z,ia+1,ib,mg,ac,bc))
  else if(decide (ac<7)&&decide (bc<7))=true then pure (.done (none,out.push z,ia+1,ib,mg,ac,bc))else pure (.yield (none,out.push z,ia+1,ib,mg,ac,bc))
def uH (out:Array κ)(ia ib mg ac AI:Nat):m (ForInStep (S2 κ)) :=
 O.elem b ib >>= λz=>if(ib+1==nb)=true then pure (.done (some (dn a b na nb (out.push z) ia (ib+1)),out.push z,ia,ib+1,mg,ac,AI))
  else O.elem a ia >>= λx=>O.gal true x b (ib+1) (nb-(ib+1)) 0 >>= λr=>match r with
   |some k=>if k > 0 then(if(ib+1+k==nb)=true then pure (.done (some (dn a b na nb (out.push z++b.extract (ib+1) (ib+1+k)) ia (ib+1+k)),out.push z++b.extract (ib+1) (ib+1+k),ia,ib+1+k,mg,ac,k))
      else uI O a b na nb (out.push z++b.extract (ib+1) (ib+1+k)) ia (ib+1+k) mg ac k)
     else uI O a b na nb (out.push z) ia (ib+1) mg ac k
   |_=>pure (.done (some (dn a b na nb (out.push z) ia (ib+1)),out.push z,ia,ib+1,mg,ac,AI))
def zA (out:Array κ)(ia ib mg FF bc:Nat):m (ForInStep (S2 κ)) :=
 O.setMG mg >>= λ_=>O.elem b ib >>= λy=>O.gal false y a ia (na-ia) 0 >>= λr=>match r with
  |some k=>if k > 0 then(if(ia+k+1==na)=true then pure (.done (some (ls a b na nb (out++a.extract ia (ia+k)) (ia+k) ib),out++a.extract ia (ia+k),ia+k,ib,mg,k,bc))
     else if(ia+k==na)=true then pure (.done (some (dn a b na nb (out++a.extract ia (ia+k)) (ia+k) ib),out++a.extract ia (ia+k),ia+k,ib,mg,k,bc))
     else uH O a b na nb (out++a.extract ia (ia+k)) (ia+k) ib mg k bc)
    else uH O a b na nb out ia ib mg k bc
  |_=>pure (.done (some (dn a b na nb out ia ib),out,ia,ib,mg,FF,bc))
def EN (s:S2 κ):m (ForInStep (S2 κ)):=if s.2.2.2.2.1 > 1 then zA O a b na nb s.2.1 s.2.2.1 s.2.2.2.1 (s.2.2.2.2.1-1) s.2.2.2.2.2.1 s.2.2.2.2.2.2 else zA O a b na nb s.2.1 s.2.2.1 s.2.2.2.1 s.2.2.2.2.1 s.2.2.2.2.2.1 s.2.2.2.2.2.2
def Cw (s:S0 κ):m (ForInStep (S0 κ)) :=
 forIn [0:na+nb] ((none,s.2.1,s.2.2.1,s.2.2.2.1,0,0):S1 κ) (λ_ t=>lo1 O a b na nb s.2.2.2.2 t) >>= λt=>match t.1 with
  |some r=>pure (.done (some r,t.2.1,t.2.2.1,t.2.2.2.1,s.2.2.2.2))
  |none=>O.rule "list.sort.gallop" >>= λ_=>forIn [0:na+nb] ((none,t.2.1,t.2.2.1,t.2.2.2.1,s.2.2.2.2+1,t.2.2.2.2.1,t.2.2.2.2.2):S2 κ) (λ_ u=>EN O a b na nb u) >>= λu=>match u.1 with
   |some r=>pure (.done (some r,u.2.1,u.2.2.1,u.2.2.2.1,u.2.2.2.2.1))
   |none=>O.setMG (u.2.2.2.2.1+1) >>= λ_=>pure (.yield (none,u.2.1,u.2.2.1,u.2.2.2.1,u.2.2.2.2.1+1))
def Cz:m (Array κ) :=
 O.rule "list.sort.merge-lo" >>= λ_=>O.elem b 0 >>= λz=>if(1==nb)=true then pure (dn a b na nb #[z] 0 1)else if(0+1==na)=true then pure (ls a b na nb #[z] 0 1)
  else O.getMG λg=>forIn [0:na+nb] ((none,#[z],0,1,g):S0 κ) (λ_ s=>Cw O a b na nb s) >>= λs=>match s.1 with
   |some r=>pure r
   |none=>O.bad "internal:list.sort.merge-bound"
end
abbrev T1 (κ:Type):=Option (Array κ)×Nat×Nat×Array κ×Nat×Nat
abbrev T2 (κ:Type):=Option (Array κ)×Nat×Nat×Array κ×Nat×Nat×Nat
abbrev T0 (κ:Type):=Option (Array κ)×Nat×Nat×Array κ×Nat
section
variable {m:Type->Type}[Monad m]{κ:Type}(O:DY m κ)(a b:Array κ)
def qJ (out:Array κ)(i j:Nat):Array κ:=a.extract 0 i++b.extract 0 j++out.reverse
def uJ (out:Array κ)(i j:Nat):Array κ:=b.extract 0 j++a.extract 0 i++out.reverse
def BK (mg:Nat)(s:T1 κ):m (ForInStep (T1 κ)) :=
 O.elem b (s.2.2.1-1) >>= λy=>O.elem a (s.2.1-1) >>= λx=>O.lt y x >>= λr=>match r with
  |some w=>if w=true then O.elem a (s.2.1-1) >>= λz=>
     if(s.2.1-1==0)=true then pure (.done (some (qJ a b (s.2.2.2.1.push z) (s.2.1-1) s.2.2.1),s.2.1-1,s.2.2.1,s.2.2.2.1.push z,s.2.2.2.2.1+1,0))
     else if s.2.2.2.2.1+1 >= mg then pure (.done (none,s.2.1-1,s.2.2.1,s.2.2.2.1.push z,s.2.2.2.2.1+1,0))else pure (.yield (none,s.2.1-1,s.2.2.1,s.2.2.2.1.push z,s.2.2.2.2.1+1,0))
    else O.elem b (s.2.2.1-1) >>= λz=>
     if(s.2.2.1-1==1)=true then pure (.done (some (uJ a b (s.2.2.2.1.push z) s.2.1 (s.2.2.1-1)),s.2.1,s.2.2.1-1,s.2.2.2.1.push z,0,s.2.2.2.2.2+1))
     else if s.2.2.2.2.2+1 >= mg then pure (.done (none,s.2.1,s.2.2.1-1,s.2.2.2.1.push z,0,s.2.2.2.2.2+1))else pure (.yield (none,s.2.1,s.2.2.1-1,s.2.2.2.1.push z,0,s.2.2.2.2.2+1))
  |_=>pure (.done (some (qJ a b s.2.2.2.1 s.2.1 s.2.2.1),s.2.1,s.2.2.1,s.2.2.2.1,s.2.2.2.2.1,s.2.2.2.2.2))
def t9 (i j:Nat)(out:Array κ)(mg ac bc:Nat):m (ForInStep (T2 κ)) :=
 O.elem a (i-1) >>= λz=>if(i-1==0)=true then pure (.done (some (qJ a b (out.push z) (i-1) j),i-1,j,out.push z,mg,ac,bc))
  else if(decide (ac<7)&&decide (bc<7))=true then pure (.done (none,i-1,j,out.push z,mg,ac,bc))else pure (.yield (none,i-1,j,out.push z,mg,ac,bc))
def t8 (i j:Nat)(out:Array κ)(mg ac AI:Nat):m (ForInStep (T2 κ)) :=
 O.elem b (j-1) >>= λz=>if(j-1==1)=true then pure (.done (some (uJ a b (out.push z) i (j-1)),i,j-1,out.push z,mg,ac,AI))
  else O.elem a (i-1) >>= λx=>O.gal true x b 0 (j-1) (j-1-1) >>= λr=>match r with
   |some k=>if j-1-k > 0 then(if(k==1)=true then pure (.done (some (uJ a b (out.push z++(b.extract k (j-1)).reverse) i k),i,k,out.push z++(b.extract k (j-1)).reverse,mg,ac,j-1-k))
      else if(k==0)=true then pure (.done (some (qJ a b (out.push z++(b.extract k (j-1)).reverse) i k),i,k,out.push z++(b.extract k (j-1)).reverse,mg,ac,j-1-k))
      else t9 O a b i k (out.push z++(b.extract k (j-1)).reverse) mg ac (j-1-k))
     else t9 O a b i (j-1) (out.push z) mg ac (j-1-k)
   |_=>pure (.done (some (qJ a b (out.push z) i (j-1)),i,j-1,out.push z,mg,ac,AI))
def yX (i j:Nat)(out:Array κ)(mg FF bc:Nat):m (ForInStep (T2 κ)) :=
 O.setMG mg >>= λ_=>O.elem b (j-1) >>= λy=>O.gal false y a 0 i (i-1) >>= λr=>match r with
  |some k=>if i-k > 0 then(if(k==0)=true then pure (.done (some (qJ a b (out++(a.extract k i).reverse) k j),k,j,out++(a.extract k i).reverse,mg,i-k,bc))
     else t8 O a b k j (out++(a.extract k i).reverse) mg (i-k) bc)
    else t8 O a b i j out mg (i-k) bc
  |_=>pure (.done (some (qJ a b out i j),i,j,out,mg,FF,bc))
def t7 (s:T2 κ):m (ForInStep (T2 κ)):=if s.2.2.2.2.1 > 1 then yX O a b s.2.1 s.2.2.1 s.2.2.2.1 (s.2.2.2.2.1-1) s.2.2.2.2.2.1 s.2.2.2.2.2.2 else yX O a b s.2.1 s.2.2.1 s.2.2.2.1 s.2.2.2.2.1 s.2.2.2.2.2.1 s.2.2.2.2.2.2
def BJ (n:Nat)(s:T0 κ):m (ForInStep (T0 κ)) :=
 forIn [0:n] ((none,s.2.1,s.2.2.1,s.2.2.2.1,0,0):T1 κ) (λ_ t=>BK O a b s.2.2.2.2 t) >>= λt=>match t.1 with
  |some r=>pure (.done (some r,t.2.1,t.2.2.1,t.2.2.2.1,s.2.2.2.2))
  |none=>O.rule "list.sort.gallop" >>= λ_=>forIn [0:n] ((none,t.2.1,t.2.2.1,t.2.2.2.1,s.2.2.2.2+1,t.2.2.2.2.1,t.2.2.2.2.2):T2 κ) (λ_ u=>t7 O a b u) >>= λu=>match u.1 with
   |some r=>pure (.done (some r,u.2.1,u.2.2.1,u.2.2.2.1,u.2.2.2.2.1))
   |none=>O.setMG (u.2.2.2.2.1+1) >>= λ_=>pure (.yield (none,u.2.1,u.2.2.1,u.2.2.2.1,u.2.2.2.2.1+1))
def Cy (na nb:Nat):m (Array κ) :=
 O.rule "list.sort.merge-hi" >>= λ_=>O.elem a (na-1) >>= λz=>if(na-1==0)=true then pure (qJ a b #[z] (na-1) nb)else if(nb==1)=true then pure (uJ a b #[z] (na-1) nb)
  else O.getMG λg=>forIn [0:na+nb] ((none,na-1,nb,#[z],g):T0 κ) (λ_ s=>BJ O a b (na+nb) s) >>= λs=>match s.1 with
   |some r=>pure r
   |none=>O.bad "internal:list.sort.merge-bound"
end
noncomputable def lT:Array Keyed->Array Keyed->StateT SortSt gU (Array Keyed):=sortPriv% PySem.Builtin.mergeLo
noncomputable def lS:Array Keyed->Array Keyed->StateT SortSt gU (Array Keyed):=sortPriv% PySem.Builtin.mergeHi
noncomputable def d4:Nat->StateT SortSt gU Unit:=sortPriv% PySem.Builtin.setMinGallop
noncomputable def rS (g:Nat):PM Unit:=modify λs=>PS.mk s.a s.pend g
noncomputable def PO (lt:Nat->Nat->Bool):DY PM Ix:=⟨kY,CK lt,kj lt,rS,λk=>get >>= λs=>k s.mg,λ_=>pure PUnit.unit,λ_=>failure⟩
noncomputable def RO:DY (StateT SortSt gU) Keyed:=⟨elem',lt',gr,d4,λk=>get >>= λs=>k (gallopOf s),λx=>liftM (rule x),λx=>unsupported x⟩
theorem R7 (a b:Array Keyed):lT a b=(do
 rule "list.sort.merge-lo"
 let total:=a.size+b.size
 let done (out:Array Keyed) (ia ib:Nat):=out++a.extract ia a.size++b.extract ib b.size
 let lD (out:Array Keyed) (ia ib:Nat):=out++b.extract ib b.size++a.extract ia a.size
 let mut out:Array Keyed:=#[←elem' b 0]
 let mut ia:=0
 let mut ib:=1
 if ib==b.size then return done out ia ib
 if ia+1==a.size then return lD out ia ib
 let mut minGallop:=gallopOf (← get)
 for _ in[0:total]do
  let mut acount:=0
  let mut bcount:=0
  for _ in[0:total]do
   let some AH ← lt' (← elem' b ib) (← elem' a ia)|return done out ia ib
   if AH then
    out:=out.push (← elem' b ib);ib:=ib+1;bcount:=bcount+1;acount:=0
    if ib==b.size then return done out ia ib
    if bcount >= minGallop then break
   else
    out:=out.push (← elem' a ia);ia:=ia+1;acount:=acount+1;bcount:=0
    if ia+1==a.size then return lD out ia ib
    if acount >= minGallop then break
  rule "list.sort.gallop"
  minGallop:=minGallop+1
  for _ in[0:total]do
   if minGallop > 1 then minGallop:=minGallop-1
   d4 minGallop
   let some k ← gr false (← elem' b ib) a ia (a.size-ia) 0|return done out ia ib
   acount:=k
   if k > 0 then
    out:=out++a.extract ia (ia+k);ia:=ia+k
    if ia+1==a.size then return lD out ia ib
    if ia==a.size then return done out ia ib
   out:=out.push (← elem' b ib);ib:=ib+1
   if ib==b.size then return done out ia ib
   let some k ← gr true (← elem' a ia) b ib (b.size-ib) 0|return done out ia ib
   bcount:=k
   if k > 0 then
    out:=out++b.extract ib (ib+k);ib:=ib+k
    if ib==b.size then return done out ia ib
   out:=out.push (← elem' a ia);ia:=ia+1
   if ia+1==a.size then return lD out ia ib
   if acount<7&&bcount<7 then break
  minGallop:=minGallop+1
  d4 minGallop
 unsupported "internal:list.sort.merge-bound"):=rfl
set_option maxHeartbeats 400000
theorem R8 (a b:Array Keyed):lT a b=Cz RO a b a.size b.size:=by
 rw[R7]
 unfold Cz Cw lo1 EN zA uH uI dn ls RO
 dsimp only
 refine congrArg _ (funext λu=>?_)
 refine congrArg _ (funext λz=>?_)
 refine ite_congr rfl (λ_=>rfl) λ_=>?_
 refine ite_congr rfl (λ_=>rfl) λ_=>?_
 refine congrArg _ (funext λs=>?_)
 refine congr (congrArg _ (congrArg _ (funext λx=>funext λt=>?_))) (funext λt=>?_)
 ·refine congr (congrArg _ (congrArg _ (funext λx=>funext λt=>?_))) (funext λt=>?_)
  ·rfl
  ·generalize t.1=o
   cases o with
   |some r=>rfl
   |none=>
    dsimp only
    refine congrArg _ (funext λu=>?_)
    refine congr (congrArg _ (congrArg _ (funext λx=>funext λt=>?_))) (funext λt=>?_)
    ·refine ite_congr rfl (λ_=>?_) λ_=>?_
     ·rfl
     ·rfl
    ·generalize t.1=o
     cases o with
     |some r=>rfl
     |none=>rfl
 ·generalize t.1=o
  cases o with
  |none=>rfl
  |some r=>rfl
theorem R9 (a b:Array Keyed):lS a b=(do
 rule "list.sort.merge-hi"
 let total:=a.size+b.size
 let done (out:Array Keyed) (na nb:Nat):=a.extract 0 na++b.extract 0 nb++out.reverse
 let ki (out:Array Keyed) (na nb:Nat):=b.extract 0 nb++a.extract 0 na++out.reverse
 let mut na:=a.size-1
 let mut nb:=b.size
 let mut out:Array Keyed:=#[←elem' a na]
 if na==0 then return done out na nb
 if nb==1 then return ki out na nb
 let mut minGallop:=gallopOf (← get)
 for _ in[0:total]do
  let mut acount:=0
  let mut bcount:=0
  for _ in[0:total]do
   let some Ag ← lt' (← elem' b (nb-1)) (← elem' a (na-1))|return done out na nb
   if Ag then
    na:=na-1;out:=out.push (← elem' a na);acount:=acount+1;bcount:=0
    if na==0 then return done out na nb
    if acount >= minGallop then break
   else
    nb:=nb-1;out:=out.push (← elem' b nb);bcount:=bcount+1;acount:=0
    if nb==1 then return ki out na nb
    if bcount >= minGallop then break
  rule "list.sort.gallop"
  minGallop:=minGallop+1
  for _ in[0:total]do
   if minGallop > 1 then minGallop:=minGallop-1
   d4 minGallop
   let some at_ ← gr false (← elem' b (nb-1)) a 0 na (na-1)|return done out na nb
   let k:=na-at_
   acount:=k
   if k > 0 then
    out:=out++(a.extract at_ na).reverse;na:=at_
    if na==0 then return done out na nb
   nb:=nb-1;out:=out.push (← elem' b nb)
   if nb==1 then return ki out na nb
   let some at_ ← gr true (← elem' a (na-1)) b 0 nb (nb-1)|return done out na nb
   let k:=nb-at_
   bcount:=k
   if k > 0 then
    out:=out++(b.extract at_ nb).reverse;nb:=at_
    if nb==1 then return ki out na nb
    if nb==0 then return done out na nb
   na:=na-1;out:=out.push (← elem' a na)
   if na==0 then return done out na nb
   if acount<7&&bcount<7 then break
  minGallop:=minGallop+1
  d4 minGallop
 unsupported "internal:list.sort.merge-bound"):=rfl
theorem Sa (a b:Array Keyed):lS a b=Cy RO a b a.size b.size:=by
 rw[R9]
 unfold Cy BJ BK t7 yX t8 t9 qJ uJ RO
 dsimp only
 refine congrArg _ (funext λu=>?_)
 refine congrArg _ (funext λz=>?_)
 refine ite_congr rfl (λ_=>rfl) λ_=>?_
 refine ite_congr rfl (λ_=>rfl) λ_=>?_
 refine congrArg _ (funext λs=>?_)
 refine congr (congrArg _ (congrArg _ (funext λx=>funext λt=>?_))) (funext λt=>?_)
 ·refine congr (congrArg _ (congrArg _ (funext λx=>funext λt=>?_))) (funext λt=>?_)
  ·rfl
  ·generalize t.1=o
   cases o with
   |some r=>rfl
   |none=>
    dsimp only
    refine congrArg _ (funext λu=>?_)
    refine congr (congrArg _ (congrArg _ (funext λx=>funext λt=>?_))) (funext λt=>?_)
    ·refine ite_congr rfl (λ_=>?_) λ_=>?_
     ·rfl
     ·rfl
    ·generalize t.1=o
     cases o with
     |some r=>rfl
     |none=>rfl
 ·generalize t.1=o
  cases o with
  |none=>rfl
  |some r=>rfl
section
variable {prog:aT}{w:bt}{A:bi}{E:aa->ai->Prop}{s:ai}{it:Tab}{a b out:Array Ix}{na nb:Nat}
theorem zbb {g:Nat}:e9 prog w A E s it (d4 g) (rS g):=MB λps=>rfl
theorem zqf (i j:Nat):dn (Cv.cv it a) (Cv.cv it b) na nb (Cv.cv it out:Array Keyed) i j=Cv.cv it (dn a b na nb out i j):=by unfold dn;rw[ux,ux,ju,ju]
theorem zqg (i j:Nat):ls (Cv.cv it a) (Cv.cv it b) na nb (Cv.cv it out:Array Keyed) i j=Cv.cv it (ls a b na nb out i j):=by unfold ls;rw[ux,ux,ju,ju]
theorem zl5 (i j:Nat):qJ (Cv.cv it a) (Cv.cv it b) (Cv.cv it out:Array Keyed) i j=Cv.cv it (qJ a b out i j):=by unfold qJ;rw[ux,ux,zfs,ju,ju]
theorem zl6 (i j:Nat):uJ (Cv.cv it a) (Cv.cv it b) (Cv.cv it out:Array Keyed) i j=Cv.cv it (uJ a b out i j):=by unfold uJ;rw[ux,ux,zfs,ju,ju]
local macro_rules| `(tactic|walk_at "cv")=>`(tactic|simp only[zfq,zh8,zh9,zcs,zeu,zev,zia,zfr,zib,qy,ux,ju,zfs,zap,zl3,zl4,zqf,zqg,zl5,zl6])
local macro_rules| `(tactic|walk_at "opt")=>`(tactic|(rintro(_|b)<;>(try walk_at "cv")<;>(try dsimp only)))
local macro_rules| `(tactic|walk_at "mrg")=>`(tactic|repeat' (first|(refine xz (λ_=>?_) (λ_=>?_))|(refine zl vx λ_=>?_)|(refine zl zfp ?_;walk_at "opt")|(refine zl qz ?_;walk_at "opt")|(refine zl zbb λ_=>?_)|assumption|(refine zn ?_;walk_at "cv";done)))
theorem Vg {mg:Nat}(t:S1 Ix):e9 prog w A E s it (lo1 RO (Cv.cv it a) (Cv.cv it b) na nb mg (Cv.cv it t)) (lo1 (PO it.lt) a b na nb mg t):=by
 obtain⟨r,out,ia,ib,ac,bc⟩:=t
 unfold lo1 RO PO
 walk_at "cv"
 walk_at "mrg"
theorem Vh (out:Array Ix)(ia ib mg ac bc:Nat):e9 prog w A E s it (uI RO (Cv.cv it a) (Cv.cv it b) na nb (Cv.cv it out) ia ib mg ac bc) (uI (PO it.lt) a b na nb out ia ib mg ac bc):=by
 unfold uI RO PO
 dsimp only
 walk_at "mrg"
theorem Vi (out:Array Ix)(ia ib mg ac bc:Nat):e9 prog w A E s it (uH RO (Cv.cv it a) (Cv.cv it b) na nb (Cv.cv it out) ia ib mg ac bc) (uH (PO it.lt) a b na nb out ia ib mg ac bc):=by
 have h:=Vh (prog:=prog) (w:=w) (A:=A) (E:=E) (s:=s) (it:=it) (a:=a) (b:=b) (na:=na) (nb:=nb)
 unfold uH
 generalize uI RO (Cv.cv it a) (Cv.cv it b) na nb=F,uI (PO it.lt) a b na nb=F' at *
 unfold RO PO
 walk_at "cv"
 walk_at "mrg"
 all_goals exact h _ _ _ _ _ _
theorem MM (out:Array Ix)(ia ib mg ac bc:Nat):e9 prog w A E s it (zA RO (Cv.cv it a) (Cv.cv it b) na nb (Cv.cv it out) ia ib mg ac bc) (zA (PO it.lt) a b na nb out ia ib mg ac bc):=by
 have h:=Vi (prog:=prog) (w:=w) (A:=A) (E:=E) (s:=s) (it:=it) (a:=a) (b:=b) (na:=na) (nb:=nb)
 unfold zA
 generalize uH RO (Cv.cv it a) (Cv.cv it b) na nb=F,uH (PO it.lt) a b na nb=F' at *
 unfold RO PO
 walk_at "cv"
 walk_at "mrg"
 all_goals exact h _ _ _ _ _ _
theorem Vj (t:S2 Ix):e9 prog w A E s it (EN RO (Cv.cv it a) (Cv.cv it b) na nb (Cv.cv it t)) (EN (PO it.lt) a b na nb t):=by
 obtain⟨r,out,ia,ib,mg,ac,bc⟩:=t
 exact xz (λ_=>MM _ _ _ _ _ _) (λ_=>MM _ _ _ _ _ _)
theorem Vk (t:S0 Ix):e9 prog w A E s it (Cw RO (Cv.cv it a) (Cv.cv it b) na nb (Cv.cv it t)) (Cw (PO it.lt) a b na nb t):=by
 unfold Cw
 refine zl (vg (b:=(none,_,_,_,0,0)) rfl λx t=>Vg t) λt=>?_
 obtain⟨o,t⟩:=t
 cases o with
 |some r=>exact zn rfl
 |none=>
  refine zl (α:=PUnit) (β:=PUnit) E7 λ_=>zl (vg (b:=(none,_,_,_,_,_,_)) rfl λx t=>Vj t) λt=>?_
  obtain⟨o,t⟩:=t
  cases o with
  |some r=>exact zn rfl
  |none=>exact zl zbb λ_=>zn rfl
theorem Vl:e9 prog w A E s it (Cz RO (Cv.cv it a) (Cv.cv it b) na nb) (Cz (PO it.lt) a b na nb):=by
 refine zl (α:=PUnit) (β:=PUnit) E7 λ_=>zl (α:=Keyed) (β:=Ix) vx λz=>xz (λ_=>zn ?_) (λ_=>xz (λ_=>zn ?_) (λ_=>uj λps=>?_))
 ·rw[zap,zqf]
 ·rw[zap,zqg]
 ·refine zl (vg (b:=(none,#[z],0,1,ps.mg)) (by rw[zap];rfl) λx t=>Vk t) λt=>?_
  obtain⟨o,t⟩:=t
  cases o with
  |some r=>exact zn rfl
  |none=>exact jh
theorem Vm {mg:Nat}(t:T1 Ix):e9 prog w A E s it (BK RO (Cv.cv it a) (Cv.cv it b) mg (Cv.cv it t)) (BK (PO it.lt) a b mg t):=by
 obtain⟨r,i,j,out,ac,bc⟩:=t
 unfold BK RO PO
 walk_at "cv"
 walk_at "mrg"
theorem Vn (i j:Nat)(out:Array Ix)(mg ac bc:Nat):e9 prog w A E s it (t9 RO (Cv.cv it a) (Cv.cv it b) i j (Cv.cv it out) mg ac bc) (t9 (PO it.lt) a b i j out mg ac bc):=by
 unfold t9 RO PO
 dsimp only
 walk_at "mrg"
theorem Vo (i j:Nat)(out:Array Ix)(mg ac bc:Nat):e9 prog w A E s it (t8 RO (Cv.cv it a) (Cv.cv it b) i j (Cv.cv it out) mg ac bc) (t8 (PO it.lt) a b i j out mg ac bc):=by
 have h:=Vn (prog:=prog) (w:=w) (A:=A) (E:=E) (s:=s) (it:=it) (a:=a) (b:=b)
 unfold t8
 generalize t9 RO (Cv.cv it a) (Cv.cv it b)=F,t9 (PO it.lt) a b=F' at *
 unfold RO PO
 walk_at "cv"
 walk_at "mrg"
 all_goals exact h _ _ _ _ _ _
theorem MN (i j:Nat)(out:Array Ix)(mg ac bc:Nat):e9 prog w A E s it (yX RO (Cv.cv it a) (Cv.cv it b) i j (Cv.cv it out) mg ac bc) (yX (PO it.lt) a b i j out mg ac bc):=by
 have h:=Vo (prog:=prog) (w:=w) (A:=A) (E:=E) (s:=s) (it:=it) (a:=a) (b:=b)
 unfold yX
 generalize t8 RO (Cv.cv it a) (Cv.cv it b)=F,t8 (PO it.lt) a b=F' at *
 unfold RO PO
 walk_at "cv"
 walk_at "mrg"
 all_goals exact h _ _ _ _ _ _
theorem Vp (t:T2 Ix):e9 prog w A E s it (t7 RO (Cv.cv it a) (Cv.cv it b) (Cv.cv it t)) (t7 (PO it.lt) a b t):=by
 obtain⟨r,i,j,out,mg,ac,bc⟩:=t
 exact xz (λ_=>MN _ _ _ _ _ _) (λ_=>MN _ _ _ _ _ _)
theorem Vq {n:Nat}(t:T0 Ix):e9 prog w A E s it (BJ RO (Cv.cv it a) (Cv.cv it b) n (Cv.cv it t)) (BJ (PO it.lt) a b n t):=by
 unfold BJ
 refine zl (vg (b:=(none,_,_,_,0,0)) rfl λx t=>Vm t) λt=>?_
 obtain⟨o,t⟩:=t
 cases o with
 |some r=>exact zn rfl
 |none=>
  refine zl (α:=PUnit) (β:=PUnit) E7 λ_=>zl (vg (b:=(none,_,_,_,_,_,_)) rfl λx t=>Vp t) λt=>?_
  obtain⟨o,t⟩:=t
  cases o with
  |some r=>exact zn rfl
  |none=>exact zl zbb λ_=>zn rfl
theorem Vr:e9 prog w A E s it (Cy RO (Cv.cv it a) (Cv.cv it b) na nb) (Cy (PO it.lt) a b na nb):=by
 refine zl (α:=PUnit) (β:=PUnit) E7 λ_=>zl (α:=Keyed) (β:=Ix) vx λz=>xz (λ_=>zn ?_) (λ_=>xz (λ_=>zn ?_) (λ_=>uj λps=>?_))
 ·rw[zap,zl5]
 ·rw[zap,zl6]
 ·refine zl (vg (b:=(none,na-1,nb,#[z],ps.mg)) (by rw[zap];rfl) λx t=>Vq t) λt=>?_
  obtain⟨o,t⟩:=t
  cases o with
  |some r=>exact zn rfl
  |none=>exact jh
end
end TS
end L2
set_option maxHeartbeats 4000000
namespace L2
namespace TS
open PySem PySem.Spec PyProof.Rows
section
variable (lt:Nat->Nat->Bool)
noncomputable def layAt (sa:Nat)(m:Array Ix)(a:Array Ix):Array Ix:=m.toList.zipIdx.foldl (λa (p,j)=>a.setIfInBounds (sa+j) p) a
noncomputable def xJ (sa:Nat)(m:Array Ix)(a:Array Ix):List Ix:=if sa+m.size<=a.size then a.toList.take sa++(m.toList++a.toList.drop (sa+m.size))else(layAt sa m a).toList
noncomputable def sY (sa:Nat)(m:Array Ix):PM Unit:=λs=>tX (xJ sa m s.a) λl=>some ((),PS.mk l.toArray s.pend s.mg)
noncomputable def iF (i:Nat):PM Bool:=do
 let s ← get
 let(some (sa,na,power),some (sb,nb,_)):=(s.pend[i]?,s.pend[i+1]?)|failure
 set (PS.mk s.a ((s.pend.setIfInBounds i (sa,na+nb,power)).eraseIdxIfInBounds (i+1)) s.mg)
 let some k ← kj lt false (← kY s.a sb) s.a sa na 0|return false
 let(sa,na):=(sa+k,na-k)
 if na==0 then return true
 let some nb ← kj lt true (← kY s.a (sa+na-1)) s.a sb nb (nb-1)|return false
 if nb==0 then return true
 let merged ← tX (s.a.extract sa sb).toList λx=>tX (s.a.extract sb (sb+nb)).toList λy=>if na<=nb then Cz (PO lt) x.toArray y.toArray x.length y.length else Cy (PO lt) x.toArray y.toArray x.length y.length
 sY sa merged
 return true
noncomputable def rR:PM Unit:=do
 let size:=(← get).a.size
 let rM:=minRun' size size 0
 let mut lo:=0
 for _ in[0:size]do
  if lo >= size then break
  let some found ← oM lt lo (size-lo)|return
  let mut n:=found
  if n<rM then
   pure ()
   let tW:=min (size-lo) rM
   if !(← xL lt lo tW n)then return
   n:=tW
  if let some (s1,n1,_):=(← get).pend.back? then
   let pw:=power' size (2*s1+n1) (2*s1+n1+n1+n) size
   for _ in[0:size]do
    let p:=(← get).pend
    let some (_,_,mT):=(if p.size > 1 then p[p.size-2]? else none)|break
    if mT<=pw then break
    if !(← iF lt (p.size-2))then return
   modify λs=>PS.mk s.a (s.pend.modify (s.pend.size-1) λ(st,len,_)=>(st,len,pw)) s.mg
  modify λs=>PS.mk s.a (s.pend.push (lo,n,0)) s.mg
  lo:=lo+n
 for _ in[0:size]do
  let p:=(← get).pend
  if p.size<=1 then break
  let i:=p.size-2
  let before:=if i > 0 then p[i-1]?.map (·.2.1)else none
  let i:=if before.any (·<(p[i+1]?.elim 0 (·.2.1)))then i-1 else i
  if !(← iF lt i)then return
end
noncomputable def tsort (n:Nat)(kf:Nat->Int):Option (List Nat):=((rR (λi j=>decide (kf i<kf j))).run (PS.mk ((bC n).map Ix.mk).toArray #[] 7)).map λr=>r.2.a.toList.map Ix.n
theorem RR (i:Nat):mergeAt' i=(do
 let s ← get
 let(some (sa,na,power),some (sb,nb,_)):=((pendingOf s)[i]?,(pendingOf s)[i+1]?)|unsupported "internal:list.sort.pending"
 set (setPending s (((pendingOf s).setIfInBounds i (sa,na+nb,power)).eraseIdxIfInBounds (i+1)))
 let some k ← gr false (← elem' (arrOf s) sb) (arrOf s) sa na 0|return false
 let(sa,na):=(sa+k,na-k)
 if na==0 then return true
 let some nb ← gr true (← elem' (arrOf s) (sa+na-1)) (arrOf s) sb nb (nb-1)|return false
 if nb==0 then return true
 let x:=(arrOf s).extract sa sb
 let y:=(arrOf s).extract sb (sb+nb)
 let merged ← if na<=nb then lT x y else lS x y
 modify λs=>setArr s (merged.toList.zipIdx.foldl (λa (p,j)=>a.setIfInBounds (sa+j) p) (arrOf s))
 return(failedOf (← get)).isNone):=rfl
section
variable {prog:aT}{w:bt}{A:bi}{E:aa->ai->Prop}{s:ai}{it:Tab}
theorem MO (sa:Nat):∀(m:List (Ix×Nat)) (a:Array Ix),(m.map λp=>(itm it p.1,p.2)).foldl (λ(a:Array Keyed) (p:Keyed×Nat)=>a.setIfInBounds (sa+p.2) p.1) (a.map (itm it))=(m.foldl (λ(a:Array Ix) (p:Ix×Nat)=>a.setIfInBounds (sa+p.2) p.1) a).map (itm it)
 |[],_=>rfl
 |p::m,a=>by
  rw[bq,bM,bM]
  have:(a.map (itm it)).setIfInBounds (sa+p.2) (itm it p.1)=(a.setIfInBounds (sa+p.2) p.1).map (itm it):=by simp
  rw[←MO sa m]
  dsimp only
  rw[this]
theorem WY {α β:Type}[Cv it β α]{k:SortSt->StateT SortSt gU α}{m:PM β}(h:∀ps,e9 prog w A E s it (k (emb it ps)) m):e9 prog w A E s it (get >>= k) m:=by
 intro ps d mC e Q q
 exact wpS_bind (wpS_get (h ps ps d mC e Q q))
theorem Vs {X:SortSt}{P:PS}(h:X=emb it P):e9 prog w A E s it (set X) (set P):=by
 intro ps d mC e Q q
 cases e
 rw[h]
 unfold wpS
 rw[StateT.run_set]
 exact aJ ⟨rfl,q⟩
theorem WZ (sa:Nat)(m a:Array Ix)(h:sa+m.size<=a.size):(a.toList.take sa++(m.toList++a.toList.drop (sa+m.size))).toArray=layAt sa m a:=by
 have key:∀(l:List Ix) (j:Nat) (x:List Ix),sa+j+l.length<=x.length->(l.zipIdx j).foldl (λ(a:Array Ix) (p:Ix×Nat)=>a.setIfInBounds (sa+p.2) p.1) x.toArray=(x.take (sa+j)++(l++x.drop (sa+j+l.length))).toArray:=by
  intro l
  induction l with
  |nil=>intro j x _;simp
  |cons y l ih=>
   intro j x hx
   rw[aB]at hx
   rw[qS,bM]
   have e:x.toArray.setIfInBounds (sa+j) y=(x.set (sa+j) y).toArray:=by simp
   rw[e,ih (j+1) _ (by rw[lF];omega)]
   congr 1
   have q1:(x.set (sa+j) y).take (sa+(j+1))=x.take (sa+j)++[y]:=by
    rw[show sa+(j+1)=(sa+j)+1 by omega,qD,List.take_set_of_le (aH _),df (by omega)];rfl
   have q2:(x.set (sa+j) y).drop (sa+(j+1)+l.length)=x.drop (sa+j+(y::l).length):=by
    rw[List.drop_set_of_lt (by omega),aB,show sa+(j+1)+l.length=sa+j+(l.length+1)by omega]
   rw[q1,q2,fq];rfl
 have:=key m.toList 0 a.toList (by simpa using h)
 unfold layAt
 simp only[Nat.add_zero,bQ]at this
 rw[←this]
theorem W1 (sa:Nat)(m a:Array Ix):(xJ sa m a).toArray=layAt sa m a:=by
 unfold xJ
 by_cases h:sa+m.size<=a.size
 ·rw[if_pos h];exact WZ sa m a h
 ·rw[if_neg h]
theorem Vt {sa:Nat}{m:Array Ix}:e9 prog w A E s it (modify λs=>setArr s ((Cv.cv it m:Array Keyed).toList.zipIdx.foldl (λa (p,j)=>a.setIfInBounds (sa+j) p) (arrOf s))) (sY sa m):=by
 refine IR (F':=λs=>PS.mk (layAt sa m s.a) s.pend s.mg) (λps=>by unfold sY;rw[yF,W1]) λps=>?_
 have e:(Cv.cv it m:Array Keyed).toList.zipIdx=m.toList.zipIdx.map λp=>(itm it p.1,p.2):=by
  show(m.map (itm it)).toList.zipIdx=_
  rw[gS,List.zipIdx_map];rfl
 have:=MO (it:=it) sa m.toList.zipIdx ps.a
 rw[e]
 exact congrArg (λz=>SortSt.mk' oneType' z ps.pend ps.mg none) this
theorem Lw {i:Nat}:e9 prog w A E s it (mergeAt' i) (iF it.lt i):=by
 rw[RR]
 unfold iF
 refine uj λps=>?_
 have e1:pendingOf (emb it ps)=ps.pend:=rfl
 have e2:arrOf (emb it ps)=Cv.cv it ps.a:=rfl
 rw[e1,e2]
 cases h1:ps.pend[i]? with
 |none=>exact jh
 |some p=>
  obtain⟨sa,na,power⟩:=p
  cases h2:ps.pend[i+1]? with
  |none=>exact jh
  |some q=>
   obtain⟨sb,nb,u⟩:=q
   dsimp only
   refine zl (α:=PUnit) (β:=PUnit) (Vs rfl) λ_=>zl (α:=Keyed) (β:=Ix) vx λx=>zl (α:=Option Nat) (β:=Option Nat) qz ?_
   rintro(_|k)
   ·exact zn rfl
   show e9 prog w A E s it (if(na-k==0)=true then _ else _) _
   refine xz (λ_=>zn rfl) λ_=>zl (α:=Keyed) (β:=Ix) vx λy=>zl (α:=Option Nat) (β:=Option Nat) qz ?_
   rintro(_|n)
   ·exact zn rfl
   show e9 prog w A E s it (if(n==0)=true then _ else _) _
   refine xz (λ_=>zn rfl) λ_=>?_
   rw[ux,ux]
   have key:∀(f:StateT SortSt gU (Array Keyed)) (f':PM (Array Ix)),e9 prog w A E s it f f'->e9 prog w A E s it (f >>= λm=>(modify λs=>setArr s (m.toList.zipIdx.foldl (λa (p,j)=>a.setIfInBounds (sa+k+j) p) (arrOf s))) >>= λ_=>get >>= λs=>pure (failedOf s).isNone)
     (f' >>= λm=>sY (sa+k) m >>= λ_=>pure true):=λf f' hf=>zl (α:=Array Keyed) (β:=Array Ix) hf λm=>zl (α:=PUnit) (β:=PUnit) Vt λ_=>WY λps=>zn rfl
   rw[yF,yF]
   have HH:∀(c:Prop) [Decidable c] (f g:StateT SortSt gU (Array Keyed)) (h:Array Keyed->StateT SortSt gU Bool) (f':PM (Array Ix)) (h':Array Ix->PM Bool) (g':PM (Array Ix)),(c->e9 prog w A E s it (f >>= h) (f' >>= h'))->(¬c->e9 prog w A E s it (g >>= h) (g' >>= h'))->e9 prog w A E s it (if c then f >>= h else g >>= h) ((if c then f' else g') >>= h'):=by
    intro c _ f g h f' h' g' h1 h2
    by_cases hc:c
    ·rw[if_pos hc,if_pos hc];exact h1 hc
    ·rw[if_neg hc,if_neg hc];exact h2 hc
   refine HH _ _ _ _ _ _ _ (λ_=>key _ _ ?_) λ_=>key _ _ ?_
   ·rw[R8,qy,qy];exact Vl
   ·rw[Sa,qy,qy];exact Vr
theorem IS {ps:PS}:pendingOf (emb it ps)=ps.pend:=rfl
theorem IT {F:Array (Nat×Nat×Nat)->Array (Nat×Nat×Nat)}:e9 prog w A E s it (modify λs=>setPending s (F (pendingOf s))) (modify λs=>PS.mk s.a (F s.pend) s.mg):=MB λps=>rfl
theorem S6 {n pw:Nat}:e9 prog w A E s it (forIn [0:n] ((none,()):Option PUnit×PUnit) λx t=>do
   let s ← get
   match if(pendingOf s).size > 1 then(pendingOf s)[(pendingOf s).size-2]? else none with
    |some (_,_,mT)=>if mT<=pw then pure (ForInStep.done (none,()))else do
      let r ← mergeAt' ((pendingOf s).size-2)
      if(!r)=true then pure (ForInStep.done (some (),()))else pure (ForInStep.yield (none,()))
    |_=>pure (ForInStep.done (none,())))
  (forIn [0:n] ((none,()):Option PUnit×PUnit) λx t=>do
   let s ← get
   match if s.pend.size > 1 then s.pend[s.pend.size-2]? else none with
    |some (_,_,mT)=>if mT<=pw then pure (ForInStep.done (none,()))else do
      let r ← iF it.lt (s.pend.size-2)
      if(!r)=true then pure (ForInStep.done (some (),()))else pure (ForInStep.yield (none,()))
    |_=>pure (ForInStep.done (none,()))):=by
 refine vg (b:=(none,())) rfl λx t=>uj λps=>?_
 rw[IS]
 generalize (if ps.pend.size > 1 then ps.pend[ps.pend.size-2]? else none)=o
 rcases o with _|⟨_,_,mT⟩
 ·exact zn rfl
 ·exact xz (λ_=>zn rfl) λ_=>zl (α:=Bool) (β:=Bool) Lw λr=>xz (λ_=>zn rfl) λ_=>zn rfl
theorem sim_runs:e9 prog w A E s it sortRuns' (rR it.lt):=by
 rw[sortRuns'_eq]
 unfold rR
 refine uj λps=>?_
 have e2:(arrOf (emb it ps)).size=ps.a.size:=by show(ps.a.map _).size=_;simp
 rw[e2]
 dsimp only
 refine zl (vg (b:=(none,0)) rfl λx t=>?_) λt=>?_
 ·obtain⟨_,lo⟩:=t
  simp only[zcs,zfq]
  refine xz (λ_=>zn rfl) λ_=>zl (α:=Option Nat) (β:=Option Nat) S5 ?_
  rintro(_|found)
  ·exact zn rfl
  simp only[zev,zfq]
  refine xz (λ_=>zl2 (zl (α:=Bool) (β:=Bool) Vf λr=>xz (λ_=>zn rfl) λ_=>uj λps=>?_)) λ_=>uj λps=>?_
  all_goals
   rw[IS]
   generalize ps.pend.back?=o
   rcases o with _|⟨s1,n1,_⟩
   ·exact zl (α:=PUnit) (β:=PUnit) (IT (F:=λp=>p.push _)) λ_=>zn rfl
   ·refine zl S6 λt=>?_
    obtain⟨o,_⟩:=t
    cases o with
    |some r=>exact zn rfl
    |none=>exact zl (α:=PUnit) (β:=PUnit) (IT (F:=λp=>p.modify (p.size-1) _)) λ_=>zl (α:=PUnit) (β:=PUnit) (IT (F:=λp=>p.push _)) λ_=>zn rfl
 ·obtain⟨o,lo⟩:=t
  cases o with
  |some r=>exact zn rfl
  |none=>
   simp only[zcs,zeu]
   refine zl (vg (b:=(none,())) rfl λx t=>uj λps=>?_) λt=>?_
   ·rw[IS]
    exact xz (λ_=>zn rfl) λ_=>zl (α:=Bool) (β:=Bool) Lw λr=>xz (λ_=>zn rfl) λ_=>zn rfl
   ·obtain⟨o,_⟩:=t
    cases o with
    |some r=>exact zn rfl
    |none=>exact zn rfl
end
end TS
end L2
set_option maxHeartbeats 4000000
namespace L2
open PySem PySem.Spec PyProof.Rows
namespace TS
noncomputable def tsrt (ks:List Int):Option (List Nat):=if ks.length<2 then some (bC ks.length)else tsort ks.length λi=>ks.getD i 0
end TS
section
variable {prog:aT}{w:bt}{A:bi}{E:aa->ai->Prop}{s:ai}{vs:List aa}{kz:List Int}{π:List Nat}
def tokOf:aa->Tok
 |.int _ t=>t
 |_=>0
theorem MP:∀{ks:List aa} {kz:List Int},IntsAre ks kz->∀i,i<kz.length->ks[i]?=some (.int (kz.getD i 0) (tokOf (ks.getD i .none)))
 |_,_,.nil,i,h=>by simp at h
 |_,_,.cons n t h,0,_=>rfl
 |_,_,.cons n t h,i+1,hi=>by
  have:=MP h i (by simpa using hi)
  simpa using this
theorem Se {keys:Array aa}(hk:IntsAre keys.toList kz)(hlen:kz.length=vs.length)(ht:TS.tsort kz.length (λi=>kz.getD i 0)=some π){Q:Unit->SortSt->Prop}(h:∀mm,(arrOf mm).map (·.2)=(π.map λi=>vs.getD i aa.none).toArray->failedOf mm=none->Q () mm) :
  wpS (aA prog w) A E s sortRuns' Q (SortSt.mk' oneType' (keys.zip vs.toArray) #[] 7 none):=by
 obtain⟨it,hit⟩:∃it:TS.Tab,it=⟨λi=>kz.getD i 0,λi=>tokOf (keys.toList.getD i .none),λi=>vs.getD i aa.none⟩:=⟨_,rfl⟩
 have e:SortSt.mk' oneType' (keys.zip vs.toArray) #[] 7 none=TS.emb it (TS.PS.mk ((bC kz.length).map TS.Ix.mk).toArray #[] 7):=by
  have:keys.zip vs.toArray=((bC kz.length).map TS.Ix.mk).toArray.map (TS.itm it):=by
   apply oU
   rw[ksk_zip,gS,dX]
   apply gN
   intro i
   rw[bn]
   by_cases hi:i<kz.length
   ·rw[dJ hi]
    refine List.getElem?_zip_eq_some.mpr ⟨?_,?_⟩
    ·rw[MP hk i hi,hit];rfl
    ·rw[hit]
     show vs[i]?=some (vs.getD i aa.none)
     rw[bo,bJ (by omega)];rfl
   ·rw[di (by rw[eP,hk.length];omega),di (by simpa using hi)];rfl
  show SortSt.mk' _ _ _ _ _=SortSt.mk' _ _ _ _ _
  rw[this]
 rw[e]
 unfold TS.tsort at ht
 obtain⟨⟨⟨⟩,mC⟩,h1,h2⟩:=bF.mp ht
 have ml:it.lt=λi j=>decide (kz.getD i 0<kz.getD j 0):=by rw[hit]
 refine TS.sim_runs (it:=it) _ _ _ (by rw[ml];exact h1) Q (h _ ?_ rfl)
 show((mC.a.map (TS.itm it)).map (·.2))=_
 rw[←h2,Array.map_map,dX]
 apply oU
 rw[gS]
 exact eG λx _=>by rw[hit];rfl
theorem Sf {l:af}{Q:aa->ai->Prop}(hl:s.heap.IsList l vs.toArray)(hn:vs.length<=1000)(hlen:kz.length=vs.length)(hπ:π.length<=1000)
  (hv:∀(i:Nat) (v:aa),vs[i]?=some v->∃(p:af) (bW:Array aa),v=.ref p/\s.heap.IsList p bW/\bW.size<=sizeLine/\kz.getD i 0=bW.size) (ht:TS.tsrt kz=some π)
  (h:∀h' tk c,(∀b o,s.heap.get? b=some o->h'.get? b=some o)->h'.get? (s.heap.objs.size+1)=some (seqObj "list" (π.map λi=>vs.getD i aa.none).toArray c)->Q (.ref (s.heap.objs.size+1)) { s with heap:=h',toks:=tk }) :
  aN (aA prog w) A (call (.builtin "sorted") [.ref l] [(aK.ofString "key",.builtin "len")]) Q E s:=by
 refine call_function_entry_kw kind_sorted plain_sorted entry_sorted (ksk_s1 _ _) ?_
 unfold Builtin.«sorted»
 refine ak (m:=checkCount "sorted" 1 1 _) (aJ ?_)
 refine ak (collect_list hl ?_ (by rw[bu];omega))
 refine ak (wpAny_newList ?_ (by rw[bu];omega))
 have hsz:((s.heap.push (seqObj "list" #[] 0)).update s.heap.objs.size (cu.mapSeq (·++vs.toArray))).objs.size=s.heap.objs.size+1:=by
  rw[qP,size_push']
 have su:(((s.heap.push (seqObj "list" #[] 0)).update s.heap.objs.size (cu.mapSeq (·++vs.toArray))).push (seqObj "list" vs.toArray 0)).get? (s.heap.objs.size+1)=some (seqObj "list" vs.toArray 0):=by
  rw[←hsz];exact br _ rfl
 have keep:∀b o,s.heap.get? b=some o->(((s.heap.push (seqObj "list" #[] 0)).update s.heap.objs.size (cu.mapSeq (·++vs.toArray))).push (seqObj "list" vs.toArray 0)).get? b=some o:=λb o q=>by
  have ml:b<s.heap.objs.size:=aG q
  rw[qA _ _ _ (by rw[hsz];exact aY (cZ ml)),jH _ _ _ _ (aY ml),qA _ _ _ (aY ml)]
  exact q
 show aN _ _ _ _ _ { s with heap:=((s.heap.push (seqObj "list" #[] 0)).update s.heap.objs.size (cu.mapSeq (·++vs.toArray))).push (seqObj "list" vs.toArray 0) }
 rw[hsz]
 generalize ((s.heap.push (seqObj "list" #[] 0)).update s.heap.objs.size (cu.mapSeq (·++vs.toArray))).push (seqObj "list" vs.toArray 0)=h1 at su keep ⊢
 refine ak (dq (wpAny_call_entry_kw slot_list_sort ⟨_,su,rfl⟩ entry_list_sort ?_ (ksk_l1 _ _)))
 rw[ksk_t4]
 have GO:s.heap.get? (s.heap.objs.size+1)=none:=iT (eY _)
 generalize s.heap.objs.size+1=a at su GO h ⊢
 have ha:a<h1.objs.size:=aG su
 have s1:=dB.update h1 a (cu.mapSeq λ_=>(#[]:Array aa))
 obtain⟨e1,Kt⟩:∃e1,(h1.update a (cu.mapSeq λ_=>(#[]:Array aa))).get? a=some (seqObj "list" #[] e1):=⟨_,get?_update_seq su λ_=>#[]⟩
 unfold ksk_tree
 refine ak (listItems_at (s:={ s with heap:=h1 }) su rfl ?_)
 refine ak (listUpdate_at su rfl ?_ (by rw[aI,bu];omega) (dh _))
 refine ak (seqEpoch_at Kt rfl ?_)
 refine ak (wpAny_newTuple ?_ (by show vs.length<=_;rw[bu];omega))
 refine ak (wpAny_newList ?_ (dh _))
 refine dq ?_
 have Pj:(h1.update a (cu.mapSeq λ_=>(#[]:Array aa))).objs.size=h1.objs.size:=qP ..
 have Ks:((h1.update a (cu.mapSeq λ_=>(#[]:Array aa))).push (seqObj "tuple" vs.toArray 0)).objs.size=h1.objs.size+1:=by rw[size_push',Pj]
 have Ki:((((h1.update a (cu.mapSeq λ_=>(#[]:Array aa))).push (seqObj "tuple" vs.toArray 0)).push (seqObj "list" #[] 0))).get? a=some (seqObj "list" #[] e1):=aq _ (aq _ Kt)
 have G9:((((h1.update a (cu.mapSeq λ_=>(#[]:Array aa))).push (seqObj "tuple" vs.toArray 0)).push (seqObj "list" #[] 0))).get? (h1.objs.size+1)=some (seqObj "list" #[] 0):=by rw[←Ks];exact br _ rfl
 have uF:∀b o,s.heap.get? b=some o->((((h1.update a (cu.mapSeq λ_=>(#[]:Array aa))).push (seqObj "tuple" vs.toArray 0)).push (seqObj "list" #[] 0))).get? b=some o:=λb o e=>
  aq _ (aq _ ((s1.2 b λz=>by rw[z,GO]at e;cases e).trans (keep b o e)))
 show aN _ _ (ksk_rest a (.builtin "len") false vs.toArray e1 (.ref ((h1.update a (cu.mapSeq λ_=>(#[]:Array aa))).push (seqObj "tuple" vs.toArray 0)).objs.size)) _ _ { s with heap:=((h1.update a (cu.mapSeq λ_=>(#[]:Array aa))).push (seqObj "tuple" vs.toArray 0)).push (seqObj "list" #[] 0) }
 rw[Ks]
 have Hb:h1.objs.size+1≠a:=iu (cZ ha)
 have G8:s.heap.get? (h1.objs.size+1)=none:=by
  cases q:s.heap.get? (h1.objs.size+1)with
  |none=>rfl
  |some o=>exact absurd (aG (keep _ _ q)) (Nat.not_lt_of_le (eY _))
 generalize ((h1.update a (cu.mapSeq λ_=>(#[]:Array aa))).push (seqObj "tuple" vs.toArray 0)).push (seqObj "list" #[] 0)=h3 at Ki G9 uF ⊢
 generalize h1.objs.size+1=kS at G9 Hb G8 ⊢
 unfold ksk_rest
 refine ak (wpAny_rule ?_)
 rw[List.forIn_toArray]
 refine ak (ksk_fold (λi s'=>∃h' tk kA e,s' = { s with heap:=h',toks:=tk }/\(∀b o,s.heap.get? b=some o->h'.get? b=some o)/\h'.get? kS=some (seqObj "list" kA e)/\h'.get? a=some (seqObj "list" #[] e1)/\IntsAre kA.toList (kz.take i)) vs 0 _
  ⟨h3,s.toks,#[],0,rfl,uF,G9,Ki,by simpa using IntsAre.nil⟩ (λj x s' hx hI=>?_) λs' hI=>?_)
 ·obtain⟨h',tk,kA,e,rfl,kp,hk,hA,hi⟩:=hI
  simp only[nU]at hi ⊢
  have hj:j<vs.length:=(aS.mp hx).1
  obtain⟨p,bW,rfl,hp,BU,O0⟩:=hv j x hx
  have O3:h'.IsList p bW:=by
   obtain⟨o,q1,q2⟩:=hp
   exact⟨o,kp _ _ q1,q2⟩
  have Ha:kA.size<=vs.length:=by
   have h1:=hi.length
   rw[bQ,cG]at h1
   omega
  refine ak (wpAny_attempt (Calls.call_len_list O3 (by have:=iD;omega) ?_))
  have s2:=dB.update h' kS (cu.mapSeq (·.push (.int bW.size (tk+1))))
  obtain⟨c2,qL⟩:∃c2,(h'.update kS (cu.mapSeq (·.push (.int bW.size (tk+1))))).get? kS=some (seqObj "list" (kA.push (.int bW.size (tk+1))) c2):=⟨_,get?_update_seq hk (·.push (.int bW.size (tk+1)))⟩
  have ek:kz.take (j+1)=kz.take j++[(bW.size:Int)]:=by
   rw[qD,bJ (by omega),←O0,bo,bJ (by omega)];rfl
  have ea:(kA.push (aa.int bW.size (tk+1))).toList=kA.toList++[aa.int bW.size (tk+1)]:=by simp
  refine ak (listUpdate_at hk rfl ?_ (by rw[bu];omega) (bH (kI (Array.size_push ..)) (by rw[bu];omega)))
  refine aJ ⟨rfl,_,tk+1+1,kA.push (.int bW.size (tk+1)),c2,rfl,λb o q=>(s2.2 b λz=>by rw[z,G8]at q;cases q).trans (kp b o q),qL,(s2.2 a Hb.symm).trans hA,by rw[ea,ek];exact ksk_snoc hi⟩
 ·obtain⟨h',tk,kA,e,rfl,kp,hk,hA,hi⟩:=hI
  have hi:IntsAre kA.toList kz:=by
   have e3:kz.take (0+vs.length)=kz:=fw (by omega)
   rw[e3]at hi
   exact hi
  have Ha:kA.size=vs.length:=by
   have h1:=hi.length
   rw[bQ]at h1
   omega
  refine ak (listItems_at hk rfl ?_)
  have fin:∀st:SortSt,(arrOf st).map (·.2)=(π.map λi=>vs.getD i aa.none).toArray->failedOf st=none->aN (aA prog w) A.in1.in1 (ksk_tail a false e1 (.ref kS) st) (λfin s'=>∃v,fin=.done (.ret v)/\aN (aA prog w) A.in1 (ret (.ref a)) (λfin s'=>∃v,fin=.done (.ret v)/\Q v s') E s') E { s with heap:=h',toks:=tk }:=λst q1 q2=>by
   have s4:=dB.update h' kS (cu.mapSeq λ_=>(#[]:Array aa))
   have GL:(h'.update kS (cu.mapSeq λ_=>(#[]:Array aa))).get? a=some (seqObj "list" #[] e1):=(s4.2 a Hb.symm).trans hA
   have s5:=dB.update (h'.update kS (cu.mapSeq λ_=>(#[]:Array aa))) a (cu.mapSeq λ_=>(arrOf st).map (·.2))
   obtain⟨c2,qL⟩:∃c2,((h'.update kS (cu.mapSeq λ_=>(#[]:Array aa))).update a (cu.mapSeq λ_=>(arrOf st).map (·.2))).get? a=some (seqObj "list" ((arrOf st).map (·.2)) c2):=⟨_,get?_update_seq GL λ_=>(arrOf st).map (·.2)⟩
   have wZ:((arrOf st).map (·.2)).size<=1000:=by rw[q1];simpa using hπ
   unfold ksk_tail
   try dsimp only
   refine ak (listUpdate_at hk rfl ?_ (by rw[Ha,bu];omega) (dh _))
   refine ak (wpAny_letGo ?_)
   refine ak (seqEpoch_at GL rfl ?_)
   refine ak (listUpdate_at GL rfl ?_ (dh _) (bH wZ (by rw[bu];omega)))
   rw[q2]
   simp only[bne_self_eq_false,cj,if_false]
   refine aJ ⟨_,rfl,aJ ⟨_,rfl,h _ tk c2 (λb o q=>?_) ?_⟩⟩
   ·exact(s5.2 b λz=>by rw[z,GO]at q;cases q).trans ((s4.2 b λz=>by rw[z,G8]at q;cases q).trans (kp b o q))
   ·show aE.get? _ a=_
    rw[←q1];exact qL
  unfold ksk_end
  try dsimp only
  simp only[cj,if_false]
  unfold TS.tsrt at ht
  by_cases h2:vs.toArray.size<2
  ·rw[if_pos h2,if_pos h2]
   refine ak (aJ ?_)
   rw[StateT.run_pure]
   refine ak (aJ ?_)
   rw[aI]at h2
   rw[if_pos (by omega)]at ht
   cases ht
   refine fin _ ?_ rfl
   show(kA.zip vs.toArray).map (·.2)=_
   apply oU
   rw[gS,ksk_zip,List.map_snd_zip (by simpa[Ha]using aH _)]
   apply gN
   intro i
   rw[bn]
   by_cases yW:i<kz.length
   ·rw[dJ yW,bJ (by omega),ie,bo,bJ (by omega)];rfl
   ·rw[di (by omega),di (by simpa using yW)];rfl
  ·rw[if_neg h2,if_neg h2]
   rw[aI]at h2
   rw[if_neg (by omega)]at ht
   rw[ksk_kind hi (by omega)]
   refine ak (aJ ?_)
   refine ak (cV (Se hi hlen ht (Q:=λ_ mm=>(arrOf mm).map (·.2)=(π.map λi=>vs.getD i aa.none).toArray/\failedOf mm=none) λmm a1 a2=>⟨a1,a2⟩) ?_ λ_ _ e=>e)
   rintro⟨⟨⟩,mm⟩ s' ⟨rfl,q1,q2⟩
   exact fin mm q1 q2
end
end L2
namespace L2
open PySem
theorem bL.rd {H H':Hp}{a:af}{u:HO}(e:bL H H')(h:Rd H a u):Rd H' a u:=h.elim (λh=>.inl (e _ _ h)) λh=>.inr (h.elim λo h=>⟨o,e _ _ h⟩)
end L2
namespace L3
open PySem PySem.Spec L2
open PyProof.Rows hiding St
inductive D where
 |non|bl (b:Bool)|int (i:Int)|str (x:aK)
 |lst (xs:List D)|tup (xs:List D)|dK (ks:List eA) (ds:List D)|dT (ks:List (List eA)) (ds:List D)
 |obj (c:Nat) (ns:List aK) (ds:List D)
 |exc (c:Nat) (ns:List aK) (ds:List D)
 deriving Inhabited
inductive Pr (R:D->V->Prop):List D->List V->Prop
 |nil:Pr R [] []
 |cons {d:D} {v:V} {ds:List D} {vs:List V}:R d v->Pr R ds vs->Pr R (d::ds) (v::vs)
theorem Pr.mono {R R':D->V->Prop}(f:∀d v,R d v->R' d v){ds:List D}{vs:List V}(h:Pr R ds vs):Pr R' ds vs:=by
 induction h with
 |nil=>exact .nil
 |cons h t ih=>exact .cons (f _ _ h) ih
theorem Pr.length {R:D->V->Prop}{ds:List D}{vs:List V}(h:Pr R ds vs):ds.length=vs.length:=by
 induction h with
 |nil=>rfl
 |cons h t ih=>rw[aB,aB,ih]
theorem Pr.get' {R:D->V->Prop}{ds:List D}{vs:List V}{i:Nat}{d:D}(h:Pr R ds vs)(e:ds[i]?=some d):∃v,vs[i]?=some v/\R d v:=by
 induction h generalizing i with
 |nil=>cases e
 |cons h t ih=>
  cases i with
  |zero=>cases e;exact⟨_,rfl,h⟩
  |succ i=>exact ih e
theorem Pr.append {R:D->V->Prop}{ds es:List D}{vs us:List V}(h:Pr R ds vs)(s:Pr R es us):Pr R (ds++es) (vs++us):=by
 induction h with
 |nil=>exact s
 |cons h t ih=>exact .cons h ih
theorem Pr.take {R:D->V->Prop}{ds:List D}{vs:List V}(n:Nat)(h:Pr R ds vs):Pr R (ds.take n) (vs.take n):=by
 induction h generalizing n with
 |nil=>cases n<;>exact .nil
 |cons h t ih=>cases n with
  |zero=>exact .nil
  |succ n=>exact .cons h (ih n)
theorem Pr.drop {R:D->V->Prop}{ds:List D}{vs:List V}(n:Nat)(h:Pr R ds vs):Pr R (ds.drop n) (vs.drop n):=by
 induction h generalizing n with
 |nil=>cases n<;>exact .nil
 |cons h t ih=>cases n with
  |zero=>exact .cons h t
  |succ n=>exact ih n
theorem Pr.rep {R:D->V->Prop}{ds:List D}{vs:List V}(h:Pr R ds vs)(k:Nat):Pr R (aC k ds).flatten (aC k vs).flatten:=by
 induction k with
 |zero=>exact .nil
 |succ k ih=>rw[cA,ee,cA,ee];exact h.append ih
mutual
inductive Dt (K:ae)(ct:Nat->af)(F:Hp):D->V->Prop
 |non:Dt K ct F .non .non
 |bl (b:Bool):Dt K ct F (.bl b) (.bl b)
 |int (i:Int):Dt K ct F (.int i) (.int i)
 |str (x:aK):Dt K ct F (.str x) (.str x)
 |lst {a:af} {vs:List V} {ds:List D}:fN K F a vs->Dts K ct F ds vs->Dt K ct F (.lst ds) (.ref a)
 |tup {a:af} {vs:List V} {ds:List D}:F a=some (.tup vs)->Dts K ct F ds vs->Dt K ct F (.tup ds) (.ref a)
 |dK {a:af} {ks:List eA} {vs:List V} {ds:List D}:F a=some (.dK (ks.zip vs))->ks.length=vs.length->Dts K ct F ds vs->Dt K ct F (.dK ks ds) (.ref a)
 |dT {a:af} {ks:List (List eA)} {vs:List V} {ds:List D}:Rd F a (.dT (ks.zip vs))->ks.length=vs.length->Dts K ct F ds vs->Dt K ct F (.dT ks ds) (.ref a)
 |obj {a dx:af} {c:Nat} {ns:List aK} {vs:List V} {ds:List D}:F a=some (.ins (ct c) dx (ns.zip vs))->ns.length=vs.length->Dts K ct F ds vs->Dt K ct F (.obj c ns ds) (.ref a)
 |exc0 {a:af} {c:Nat} {tb:Option af}:F a=some (lf a (ct c) none tb)->Dt K ct F (.exc c [] []) (.ref a)
 |exc {a dx:af} {c:Nat} {tb:Option af} {ns:List aK} {vs:List V} {ds:List D}:F a=some (lf a (ct c) (some dx) tb)->F dx=some (.xd (ns.zip vs))->ns.length=vs.length->Dts K ct F ds vs->Dt K ct F (.exc c ns ds) (.ref a)
inductive Dts (K:ae)(ct:Nat->af)(F:Hp):List D->List V->Prop
 |nil:Dts K ct F [] []
 |cons {d:D} {v:V} {ds:List D} {vs:List V}:Dt K ct F d v->Dts K ct F ds vs->Dts K ct F (d::ds) (v::vs)
end
section
variable {K:ae}{ct:Nat->af}{F F' G G' H H' B B':Hp}
theorem Dts.pr {ds:List D}{vs:List V}(h:Dts K ct F ds vs):Pr (Dt K ct F) ds vs:=by
 induction ds generalizing vs with
 |nil=>cases h;exact .nil
 |cons d ds ih=>cases h with|cons h t=>exact .cons h (ih t)
theorem Dts.of {ds:List D}{vs:List V}(h:Pr (Dt K ct F) ds vs):Dts K ct F ds vs:=by
 induction h with
 |nil=>exact .nil
 |cons h t ih=>exact .cons h ih
theorem Dt.mono (s:bL F F'){d:D}{v:V}(h:Dt K ct F d v):Dt K ct F' d v :=
 Dt.rec (motive_1:=λd v _=>Dt K ct F' d v) (motive_2:=λd v _=>Dts K ct F' d v) .non .bl .int .str (λh _ t=>.lst (s.seq h) t) (λh _ t=>.tup (s _ _ h) t) (λh l _ t=>.dK (s _ _ h) l t) (λh l _ t=>.dT (s.rd h) l t) (λh l _ t=>.obj (s _ _ h) l t) (λh=>.exc0 (s _ _ h)) (λh h' l _ t=>.exc (s _ _ h) (s _ _ h') l t) .nil (λ_ _ h t=>.cons h t) h
theorem Dts.mono (s:bL F F'){ds:List D}{vs:List V}(h:Dts K ct F ds vs):Dts K ct F' ds vs:=Dts.of (h.pr.mono λ_ _ q=>q.mono s)
end
def D.sc:D->Bool
 |.non=>true|.bl _=>true|.int _=>true|.str _=>true|_=>false
inductive yI (K:ae)(ct:Nat->af)(F G:Hp)(R:D->V->Prop):D->V->Prop
 |lst {a:af} {vs:List V} {ds:List D}:G a=some (.lst vs)->Pr R ds vs->yI K ct F G R (.lst ds) (.ref a)
 |tup {a:af} {vs:List V} {ds:List D}:F a=some (.tup vs)->Pr R ds vs->yI K ct F G R (.tup ds) (.ref a)
 |dK {a:af} {ks:List eA} {vs:List V} {ds:List D}:G a=some (.dK (ks.zip vs))->ks.length=vs.length->Pr R ds vs->yI K ct F G R (.dK ks ds) (.ref a)
 |dT {a:af} {ks:List (List eA)} {vs:List V} {ds:List D}:Rd G a (.dT (ks.zip vs))->ks.length=vs.length->Pr R ds vs->yI K ct F G R (.dT ks ds) (.ref a)
 |obj {a dx:af} {c:Nat} {ns:List aK} {vs:List V} {ds:List D}:G a=some (.ins (ct c) dx (ns.zip vs))->ns.length=vs.length->Pr R ds vs->yI K ct F G R (.obj c ns ds) (.ref a)
def Al (K:ae)(ct:Nat->af)(F G:Hp):Nat->D->V->Prop
 |0,d,v=>Dt K ct F d v
 |n+1,d,v=>Dt K ct F d v\/yI K ct F G (Al K ct F G n) d v
inductive eJ (R:D->V->List af->Prop):List D->List V->List af->Prop
 |nil:eJ R [] [] []
 |cons {d:D} {v:V} {ds:List D} {vs:List V} {f g:List af}:R d v f->eJ R ds vs g->eJ R (d::ds) (v::vs) (f++g)
inductive sm (K:ae)(ct:Nat->af)(F H:Hp)(R:D->V->List af->Prop):D->V->List af->Prop
 |lst {a:af} {vs:List V} {ds:List D} {fp:List af}:F a=none->H a=some (.lst vs)->eJ R ds vs fp->sm K ct F H R (.lst ds) (.ref a) (a::fp)
 |tup {a:af} {vs:List V} {ds:List D} {fp:List af}:F a=some (.tup vs)->eJ R ds vs fp->sm K ct F H R (.tup ds) (.ref a) fp
 |dK {a:af} {ks:List eA} {vs:List V} {ds:List D} {fp:List af}:F a=none->H a=some (.dK (ks.zip vs))->ks.length=vs.length->eJ R ds vs fp->sm K ct F H R (.dK ks ds) (.ref a) (a::fp)
 |dT {a:af} {ks:List (List eA)} {vs:List V} {ds:List D} {fp:List af}:F a=none->H a=some (.dT (ks.zip vs))->ks.length=vs.length->eJ R ds vs fp->sm K ct F H R (.dT ks ds) (.ref a) (a::fp)
 |obj {a dx:af} {c:Nat} {ns:List aK} {vs:List V} {ds:List D} {fp:List af}:F a=none->H a=some (.ins (ct c) dx (ns.zip vs))->ns.length=vs.length->eJ R ds vs fp->sm K ct F H R (.obj c ns ds) (.ref a) (a::fp)
def Ow (K:ae)(ct:Nat->af)(F H:Hp):Nat->D->V->List af->Prop
 |0,d,v,fp=>Dt K ct F d v/\fp=[]
 |n+1,d,v,fp=>(d.sc=true/\Dt K ct F d v/\fp=[])\/sm K ct F H (Ow K ct F H n) d v fp
def jM (o:HO):Prop:=∀xs,o≠.tup xs
structure ez (F H F' H':Hp):Prop where
 ff:bL F F'
 hh:bL H H'
 fh:bL F' H'
 nf:∀a o,H a=some o->jM o->F a=none->F' a=none
theorem ez.refl {F H:Hp}(h:bL F H):ez F H F H:=⟨.refl _,.refl _,h,λ_ _ _ _ h=>h⟩
theorem ez.trans {F H F1 H1 F2 H2:Hp}(a:ez F H F1 H1)(b:ez F1 H1 F2 H2):ez F H F2 H2 :=
 ⟨a.ff.trans b.ff,a.hh.trans b.hh,b.fh,λc o h t n=>b.nf c o (a.hh _ _ h) t (a.nf c o h t n)⟩
theorem ez.newO {F H:Hp}{p:af}(s:bL F H)(h:H p=none)(o:HO):ez F H F (upd H p o) :=
 ⟨.refl _,vw h o,s.trans (vw h o),λ_ _ _ _ h=>h⟩
theorem ez.newS {F H:Hp}{p:af}(s:bL F H)(h:H p=none)(o:HO):ez F H (upd F p o) (upd H p o) :=
  ⟨vw (s.free h) o,vw h o,λb u q=>by
    by_cases e:b=p
    · subst e;rw[zm]at q ⊢;exact q
    · rw[zg e]at q ⊢;exact s _ _ q,
   λb u q _ n=>by rw[zg (zk q h)];exact n⟩
section
variable {K:ae}{ct:Nat->af}{F F' G G' H H' B B':Hp}
theorem Al.mono (sF:bL F F')(sG:bL G G'){n:Nat}:∀{d:D} {v:V},Al K ct F G n d v->Al K ct F' G' n d v:=by
 induction n with
 |zero=>exactλh=>Dt.mono sF h
 |succ n ih=>
  intro d v h
  rcases h with h|h
  ·exact .inl (Dt.mono sF h)
  ·cases h with
   |lst h p=>exact .inr (.lst (sG _ _ h) (p.mono λ_ _ q=>ih q))
   |tup h p=>exact .inr (.tup (sF _ _ h) (p.mono λ_ _ q=>ih q))
   |dK h l p=>exact .inr (.dK (sG _ _ h) l (p.mono λ_ _ q=>ih q))
   |dT h l p=>exact .inr (.dT (sG.rd h) l (p.mono λ_ _ q=>ih q))
   |obj h l p=>exact .inr (.obj (sG _ _ h) l (p.mono λ_ _ q=>ih q))
theorem Al.of:∀{n:Nat} {d:D} {v:V},Dt K ct F d v->Al K ct F G n d v
 |0,_,_,h=>h
 |_+1,_,_,h=>.inl h
theorem Al.up {n:Nat}:∀{m:Nat} {d:D} {v:V},Al K ct F G n d v->n<=m->Al K ct F G m d v:=by
 induction n with
 |zero=>exactλh _=>Al.of h
 |succ n ih=>
  intro m d v h l
  cases m with
  |zero=>exact absurd l (by omega)
  |succ m=>
   rcases h with h|h
   ·exact .inl h
   ·cases h with
    |lst h p=>exact .inr (.lst h (p.mono λ_ _ q=>ih q (by omega)))
    |tup h p=>exact .inr (.tup h (p.mono λ_ _ q=>ih q (by omega)))
    |dK h e p=>exact .inr (.dK h e (p.mono λ_ _ q=>ih q (by omega)))
    |dT h e p=>exact .inr (.dT h e (p.mono λ_ _ q=>ih q (by omega)))
    |obj h e p=>exact .inr (.obj h e (p.mono λ_ _ q=>ih q (by omega)))
theorem Dt.scal {d:D}{v:V}(h:Dt K ct F d v)(hs:d.sc=true):Dt K ct F' d v:=by
 cases h with
 |non=>exact .non
 |bl b=>exact .bl b
 |int i=>exact .int i
 |str x=>exact .str x
 |lst _ _=>cases hs
 |tup _ _=>cases hs
 |dK _ _ _=>cases hs
 |dT _ _ _=>cases hs
 |obj _ _ _=>cases hs
 |exc0 _=>cases hs
 |exc _ _ _ _=>cases hs
theorem Al.scal {n:Nat}{d:D}{v:V}(h:Al K ct F G n d v)(hs:d.sc=true):Dt K ct F' d v:=by
 cases n with
 |zero=>exact Dt.scal h hs
 |succ n=>
  rcases h with h|h
  ·exact h.scal hs
  ·cases h<;>cases hs
theorem Al.int {n:Nat}{i:Int}{v:V}(h:Al K ct F G n (.int i) v):v=.int i:=by
 have q:=Al.scal (F':=F) h rfl
 cases q;rfl
theorem Al.bl {n:Nat}{b:Bool}{v:V}(h:Al K ct F G n (.bl b) v):v=.bl b:=by
 have q:=Al.scal (F':=F) h rfl
 cases q;rfl
theorem Al.str {n:Nat}{x:aK}{v:V}(h:Al K ct F G n (.str x) v):v=.str x:=by
 have q:=Al.scal (F':=F) h rfl
 cases q;rfl
theorem Al.non {n:Nat}{v:V}(h:Al K ct F G n .non v):v=.non:=by
 have q:=Al.scal (F':=F) h rfl
 cases q;rfl
theorem Al.lst {n:Nat}{ds:List D}{v:V}(h:Al K ct F G n (.lst ds) v)(s:bL F G):∃a vs,v=.ref a/\fN K G a vs/\Pr (Al K ct F G (n-1)) ds vs:=by
 cases n with
 |zero=>
  have h:Dt K ct F (.lst ds) v:=h
  cases h with
  |lst q t=>exact⟨_,_,rfl,s.seq q,t.pr⟩
 |succ n=>
  rcases h with h|h
  ·cases h with
   |lst q t=>exact⟨_,_,rfl,s.seq q,t.pr.mono λ_ _=>Al.of⟩
  ·cases h with
   |lst q t=>exact⟨_,_,rfl,fN.of q,t⟩
theorem Al.tup {n:Nat}{ds:List D}{v:V}(h:Al K ct F G n (.tup ds) v)(s:bL F G):∃a vs,v=.ref a/\G a=some (.tup vs)/\Pr (Al K ct F G (n-1)) ds vs:=by
 cases n with
 |zero=>
  have h:Dt K ct F (.tup ds) v:=h
  cases h with
  |tup q t=>exact⟨_,_,rfl,s _ _ q,t.pr⟩
 |succ n=>
  rcases h with h|h
  ·cases h with
   |tup q t=>exact⟨_,_,rfl,s _ _ q,t.pr.mono λ_ _=>Al.of⟩
  ·cases h with
   |tup q t=>exact⟨_,_,rfl,s _ _ q,t⟩
theorem Al.dK {n:Nat}{ks:List eA}{ds:List D}{v:V}(h:Al K ct F G n (.dK ks ds) v)(s:bL F G):∃a vs,v=.ref a/\G a=some (.dK (ks.zip vs))/\ks.length=vs.length/\Pr (Al K ct F G (n-1)) ds vs:=by
 cases n with
 |zero=>
  have h:Dt K ct F (.dK ks ds) v:=h
  cases h with
  |dK q l t=>exact⟨_,_,rfl,s _ _ q,l,t.pr⟩
 |succ n=>
  rcases h with h|h
  ·cases h with
   |dK q l t=>exact⟨_,_,rfl,s _ _ q,l,t.pr.mono λ_ _=>Al.of⟩
  ·cases h with
   |dK q l t=>exact⟨_,_,rfl,q,l,t⟩
theorem Al.dT {n:Nat}{ks:List (List eA)}{ds:List D}{v:V}(h:Al K ct F G n (.dT ks ds) v)(s:bL F G):∃a vs,v=.ref a/\Rd G a (.dT (ks.zip vs))/\ks.length=vs.length/\Pr (Al K ct F G (n-1)) ds vs:=by
 cases n with
 |zero=>
  have h:Dt K ct F (.dT ks ds) v:=h
  cases h with
  |dT q l t=>exact⟨_,_,rfl,s.rd q,l,t.pr⟩
 |succ n=>
  rcases h with h|h
  ·cases h with
   |dT q l t=>exact⟨_,_,rfl,s.rd q,l,t.pr.mono λ_ _=>Al.of⟩
  ·cases h with
   |dT q l t=>exact⟨_,_,rfl,q,l,t⟩
theorem Al.obj {n:Nat}{c:Nat}{ns:List aK}{ds:List D}{v:V}(h:Al K ct F G n (.obj c ns ds) v)(s:bL F G):∃a dx vs,v=.ref a/\G a=some (.ins (ct c) dx (ns.zip vs))/\ns.length=vs.length/\Pr (Al K ct F G (n-1)) ds vs:=by
 cases n with
 |zero=>
  have h:Dt K ct F (.obj c ns ds) v:=h
  cases h with
  |obj q l t=>exact⟨_,_,_,rfl,s _ _ q,l,t.pr⟩
 |succ n=>
  rcases h with h|h
  ·cases h with
   |obj q l t=>exact⟨_,_,_,rfl,s _ _ q,l,t.pr.mono λ_ _=>Al.of⟩
  ·cases h with
   |obj q l t=>exact⟨_,_,_,rfl,q,l,t⟩
theorem eJ.mono {R R':D->V->List af->Prop}{ds:List D}{vs:List V}{fp:List af}(h:eJ R ds vs fp):(∀d v f,(∀a∈f,a∈fp)->R d v f->R' d v f)->eJ R' ds vs fp:=by
 induction h with
 |nil=>exactλ_=>.nil
 |cons h t ih=>exactλq=>.cons (q _ _ _ (λa z=>bb _ z) h) (ih λd v f i r=>q d v f (λa z=>av _ (i a z)) r)
theorem eJ.pr {R:D->V->List af->Prop}{R':D->V->Prop}{ds:List D}{vs:List V}{fp:List af}(h:eJ R ds vs fp):(∀d v f,(∀a∈f,a∈fp)->R d v f->R' d v)->Pr R' ds vs:=by
 induction h with
 |nil=>exactλ_=>.nil
 |cons h t ih=>exactλq=>.cons (q _ _ _ (λa z=>bb _ z) h) (ih λd v f i r=>q d v f (λa z=>av _ (i a z)) r)
theorem eJ.ofPr {R:D->V->List af->Prop}{ds:List D}{vs:List V}(h:Pr (λd v=>R d v []) ds vs):eJ R ds vs []:=by
 induction h with
 |nil=>exact .nil
 |cons h t ih=>exact eJ.cons (f:=[]) (g:=[]) h ih
theorem eJ.append {R:D->V->List af->Prop}{ds es:List D}{vs us:List V}{f g:List af}(h:eJ R ds vs f)(s:eJ R es us g):eJ R (ds++es) (vs++us) (f++g):=by
 induction h with
 |nil=>exact s
 |cons h t ih=>rw[fq];exact .cons h ih
theorem eJ.length {R:D->V->List af->Prop}{ds:List D}{vs:List V}{fp:List af}(h:eJ R ds vs fp):ds.length=vs.length:=by
 induction h with
 |nil=>rfl
 |cons _ t ih=>simp[ih]
theorem Ow.frame (sF:bL F F'){n:Nat}:∀{d:D} {v:V} {fp:List af},Ow K ct F H n d v fp->(∀a∈fp,H' a=H a/\F' a=none)->Ow K ct F' H' n d v fp:=by
 induction n with
 |zero=>exactλh _=>⟨h.1.mono sF,h.2⟩
 |succ n ih=>
  intro d v fp h k
  rcases h with h|h
  ·exact .inl ⟨h.1,h.2.1.mono sF,h.2.2⟩
  ·cases h with
   |lst hn h p=>exact .inr (.lst (k _ am).2 ((k _ am).1.trans h) (p.mono λ_ _ _ i q=>ih q λa z=>k a (ao _ (i a z))))
   |tup h p=>exact .inr (.tup (sF _ _ h) (p.mono λ_ _ _ i q=>ih q λa z=>k a (i a z)))
   |dK hn h l p=>exact .inr (.dK (k _ am).2 ((k _ am).1.trans h) l (p.mono λ_ _ _ i q=>ih q λa z=>k a (ao _ (i a z))))
   |dT hn h l p=>exact .inr (.dT (k _ am).2 ((k _ am).1.trans h) l (p.mono λ_ _ _ i q=>ih q λa z=>k a (ao _ (i a z))))
   |obj hn h l p=>exact .inr (.obj (k _ am).2 ((k _ am).1.trans h) l (p.mono λ_ _ _ i q=>ih q λa z=>k a (ao _ (i a z))))
theorem eJ.cells0 {R:D->V->List af->Prop}(k:∀d v f,R d v f->∀a∈f,F a=none/\∃o,H a=some o/\jM o){ds:List D}{vs:List V}{fp:List af}(h:eJ R ds vs fp):∀a∈fp,F a=none/\∃o,H a=some o/\jM o:=by
 induction h with
 |nil=>exactλa z=>by cases z
 |cons h t ih=>exactλa z=>(bj.mp z).elim (λz=>k _ _ _ h a z) (ih a)
theorem Ow.cells {n:Nat}:∀{d:D} {v:V} {fp:List af},Ow K ct F H n d v fp->∀a∈fp,F a=none/\∃o,H a=some o/\jM o:=by
 induction n with
 |zero=>exactλh a z=>by rw[h.2]at z;cases z
 |succ n ih=>
  intro d v fp h a z
  rcases h with h|h
  ·rw[h.2.2]at z;cases z
  ·cases h with
   |lst hn h p=>exact(az.mp z).elim (λe=>by rw[e];exact⟨hn,_,h,nofun⟩) (eJ.cells0 (λd v f q=>ih q) p a)
   |tup h p=>exact eJ.cells0 (λd v f q=>ih q) p a z
   |dK hn h l p=>exact(az.mp z).elim (λe=>by rw[e];exact⟨hn,_,h,nofun⟩) (eJ.cells0 (λd v f q=>ih q) p a)
   |dT hn h l p=>exact(az.mp z).elim (λe=>by rw[e];exact⟨hn,_,h,nofun⟩) (eJ.cells0 (λd v f q=>ih q) p a)
   |obj hn h l p=>exact(az.mp z).elim (λe=>by rw[e];exact⟨hn,_,h,nofun⟩) (eJ.cells0 (λd v f q=>ih q) p a)
theorem Ow.ext {n:Nat}{d:D}{v:V}{fp:List af}(h:Ow K ct F H n d v fp)(e:ez F H F' H'):Ow K ct F' H' n d v fp :=
 h.frame e.ff λa z=>by
  obtain⟨hn,o,ho,nt⟩:=h.cells a z
  exact⟨(e.hh _ _ ho).trans ho.symm,e.nf a o ho nt hn⟩
theorem Ow.al (s:bL F H){n:Nat}:∀{d:D} {v:V} {fp:List af},Ow K ct F H n d v fp->Al K ct F H n d v:=by
 induction n with
 |zero=>exactλh=>h.1
 |succ n ih=>
  intro d v fp h
  rcases h with h|h
  ·exact .inl h.2.1
  ·cases h with
   |lst hn h p=>exact .inr (.lst h (p.pr λ_ _ _ _ q=>ih q))
   |tup h p=>exact .inr (.tup h (p.pr λ_ _ _ _ q=>ih q))
   |dK hn h l p=>exact .inr (.dK h l (p.pr λ_ _ _ _ q=>ih q))
   |dT hn h l p=>exact .inr (.dT (.inl h) l (p.pr λ_ _ _ _ q=>ih q))
   |obj hn h l p=>exact .inr (.obj h l (p.pr λ_ _ _ _ q=>ih q))
theorem Ow.dt (sF:bL F F'){n:Nat}:∀{d:D} {v:V} {fp:List af},Ow K ct F H n d v fp->(∀a∈fp,F' a=H a)->Dt K ct F' d v:=by
 induction n with
 |zero=>exactλh _=>h.1.mono sF
 |succ n ih=>
  intro d v fp h k
  rcases h with h|h
  ·exact h.2.1.mono sF
  ·cases h with
   |lst hn h p=>exact .lst (fN.of ((k _ am).trans h)) (.of (p.pr λ_ _ _ i q=>ih q λa z=>k a (ao _ (i a z))))
   |tup h p=>exact .tup (sF _ _ h) (.of (p.pr λ_ _ _ i q=>ih q λa z=>k a (i a z)))
   |dK hn h l p=>exact .dK ((k _ am).trans h) l (.of (p.pr λ_ _ _ i q=>ih q λa z=>k a (ao _ (i a z))))
   |dT hn h l p=>exact .dT (.inl ((k _ am).trans h)) l (.of (p.pr λ_ _ _ i q=>ih q λa z=>k a (ao _ (i a z))))
   |obj hn h l p=>exact .obj ((k _ am).trans h) l (.of (p.pr λ_ _ _ i q=>ih q λa z=>k a (ao _ (i a z))))
def gK (F H:Hp)(fp:List af):Hp:=λa=>if a∈fp then H a else F a
theorem ww {fp:List af}(s:bL F H)(hf:∀a∈fp,F a=none):bL F (gK F H fp)/\bL (gK F H fp) H/\∀a∈fp,gK F H fp a=H a:=by
 refine⟨λa o h=>?_,λa o h=>?_,λa z=>if_pos z⟩
 ·have:¬a∈fp:=λz=>by rw[hf a z]at h;cases h
  unfold gK;rw[if_neg this];exact h
 ·unfold gK at h
  by_cases z:a∈fp
  ·rw[if_pos z]at h;exact h
  ·rw[if_neg z]at h;exact s _ _ h
theorem Ow.freeze {n:Nat}{d:D}{v:V}{fp:List af}{F0 H0:Hp}(h:Ow K ct F H n d v fp)(e:ez F0 H0 F H)(hf:∀a∈fp,H0 a=none):∃F',ez F0 H0 F' H/\Dt K ct F' d v:=by
 obtain⟨w1,w2,w3⟩:=ww (fp:=fp) e.fh (λa z=>(h.cells a z).1)
 refine⟨gK F H fp,⟨e.ff.trans w1,e.hh,w2,λa o ho nt hn=>?_⟩,h.dt w1 w3⟩
 have:¬a∈fp:=λz=>by rw[hf a z]at ho;cases ho
 unfold gK;rw[if_neg this];exact e.nf a o ho nt hn
theorem Ow.zero {d:D}{v:V}(h:Dt K ct F d v):Ow K ct F H 0 d v []:=⟨h,rfl⟩
theorem Ow.scal {n:Nat}{d:D}{v:V}(h:Dt K ct F d v)(hs:d.sc=true):Ow K ct F H n d v []:=by
 cases n with
 |zero=>exact⟨h,rfl⟩
 |succ n=>exact .inl ⟨hs,h,rfl⟩
end
end L3
namespace L3
open PySem PySem.Spec L2
open PyProof.Rows hiding St
abbrev Env:=List (Option D)
inductive Mo where
 |al (n:Nat)|ow (n:Nat)|px (v:V)|so (x:af)
def Mo.lv:Mo->Nat
 |.al n=>n
 |.ow n=>n
 |.px _=>1
 |.so _=>1
section
variable (K:ae)(ct:Nat->af)
inductive SL (F B H:Hp):List Mo->Env->St->List af->Prop
 |nil:SL F B H [] [] [] []
 |no {m:Mo} {o:Option V} {ms:List Mo} {ρ:Env} {σ:St} {fp:List af}:SL F B H ms ρ σ fp->SL F B H (m::ms) (none::ρ) (o::σ) fp
 |al {n:Nat} {d:D} {v:V} {ms:List Mo} {ρ:Env} {σ:St} {fp:List af}:Al K ct F B n d v->SL F B H ms ρ σ fp->SL F B H (.al n::ms) (some d::ρ) (some v::σ) fp
 |px {d:D} {v:V} {ms:List Mo} {ρ:Env} {σ:St} {fp:List af}:Al K ct F B 1 d v->SL F B H ms ρ σ fp->SL F B H (.px v::ms) (some d::ρ) (some v::σ) fp
 |so {d:D} {x:af} {ms:List Mo} {ρ:Env} {σ:St} {fp:List af}:Ow K ct F H 1 d (.ref x) [x]->SL F B H ms ρ σ fp->SL F B H (.so x::ms) (some d::ρ) (some (.ref x)::σ) (x::fp)
 |ow {n:Nat} {d:D} {v:V} {ms:List Mo} {ρ:Env} {σ:St} {f fp:List af}:Ow K ct F H n d v f->SL F B H ms ρ σ fp->SL F B H (.ow n::ms) (some d::ρ) (some v::σ) (f++fp)
structure RS (F0 B:Hp)(ms:List Mo)(F H:Hp)(ρ:Env)(σ:St):Prop where
 f0:bL F0 F
 bh:bL B H
 fh:bL F H
 nf:∀a o,B a=some o->jM o->F0 a=none->F a=none
 sl:∃fp,SL K ct F B H ms ρ σ fp/\fp.Nodup/\∀a∈fp,B a=none
end
section
variable {K:ae}{ct:Nat->af}{F F' G G' H H' B B' F0:Hp}{ms:List Mo}{ρ:Env}{σ:St}
theorem SL.cells {ms:List Mo}{ρ:Env}{σ:St}{fp:List af}(h:SL K ct F B H ms ρ σ fp):∀a∈fp,F a=none/\∃o,H a=some o/\jM o:=by
 induction h with
 |nil=>intro a z;cases z
 |no t ih=>exact ih
 |al _ t ih=>exact ih
 |px _ t ih=>exact ih
 |so h t ih=>exactλa z=>(az.mp z).elim (λz=>h.cells a (by rw[z];exact am)) (ih a)
 |ow h t ih=>exactλa z=>(bj.mp z).elim (h.cells a) (ih a)
theorem SL.frame (sF:bL F F'){ms:List Mo}{ρ:Env}{σ:St}{fp:List af}(h:SL K ct F B H ms ρ σ fp):(∀a∈fp,H' a=H a/\F' a=none)->SL K ct F' B H' ms ρ σ fp:=by
 induction h with
 |nil=>exactλ_=>.nil
 |no t ih=>exactλk=>.no (ih k)
 |al h t ih=>exactλk=>.al (h.mono sF (.refl _)) (ih k)
 |px h t ih=>exactλk=>.px (h.mono sF (.refl _)) (ih k)
 |so h t ih=>exactλk=>.so (h.frame sF λa z=>k a (by rw[aQ]at z;rw[z];exact am)) (ih λa z=>k a (ao _ z))
 |ow h t ih=>exactλk=>.ow (h.frame sF λa z=>k a (bb _ z)) (ih λa z=>k a (av _ z))
theorem RS.ext (r:RS K ct F0 B ms F H ρ σ)(e:ez F H F' H'):RS K ct F0 B ms F' H' ρ σ:=by
 obtain⟨fp,s,nd,hb⟩:=r.sl
 refine⟨r.f0.trans e.ff,r.bh.trans e.hh,e.fh,λa o h t n=>e.nf a o (r.bh _ _ h) t (r.nf a o h t n),fp,s.frame e.ff λa z=>?_,nd,hb⟩
 obtain⟨hn,o,ho,nt⟩:=s.cells a z
 exact⟨(e.hh _ _ ho).trans ho.symm,e.nf a o ho nt hn⟩
theorem SL.get {ms:List Mo}{ρ:Env}{σ:St}{fp:List af}{i:Nat}{m:Mo}{d:D}(h:SL K ct F B H ms ρ σ fp)(s:bL F H)(s':bL B H):ms[i]?=some m->ρ[i]?=some (some d)->∃v,σ[i]?=some (some v)/\Al K ct F H m.lv d v:=by
 induction h generalizing i with
 |nil=>intro e;simp at e
 |no t ih=>
  intro e e'
  cases i with
  |zero=>simp at e'
  |succ i=>simpa using ih (by simpa using e) (by simpa using e')
 |al h t ih=>
  intro e e'
  cases i with
  |zero=>
   simp at e e';subst e;subst e'
   exact⟨_,rfl,h.mono (.refl _) s'⟩
  |succ i=>simpa using ih (by simpa using e) (by simpa using e')
 |px h t ih=>
  intro e e'
  cases i with
  |zero=>
   simp at e e';subst e;subst e'
   exact⟨_,rfl,h.mono (.refl _) s'⟩
  |succ i=>simpa using ih (by simpa using e) (by simpa using e')
 |so h t ih=>
  intro e e'
  cases i with
  |zero=>
   simp at e e';subst e;subst e'
   exact⟨_,rfl,h.al s⟩
  |succ i=>simpa using ih (by simpa using e) (by simpa using e')
 |ow h t ih=>
  intro e e'
  cases i with
  |zero=>
   simp at e e';subst e;subst e'
   exact⟨_,rfl,h.al s⟩
  |succ i=>simpa using ih (by simpa using e) (by simpa using e')
theorem RS.get (r:RS K ct F0 B ms F H ρ σ){i:Nat}{m:Mo}{d:D}(hm:ms[i]?=some m)(e:ρ[i]?=some (some d)):∃v,σ[i]?=some (some v)/\Al K ct F H m.lv d v:=by
 obtain⟨fp,s,_,_⟩:=r.sl
 exact s.get r.fh r.bh hm e
theorem SL.put {ms:List Mo}{ρ:Env}{σ:St}{fp:List af}{i k:Nat}(h0:SL K ct F B H ms ρ σ fp):ms[i]?=some (.ow k) ->
  ∃f1 fr:List af,(∀a∈f1,a∈fp)/\(∀a∈fr,a∈fp)/\(fp.Nodup->f1.Nodup/\fr.Nodup/\∀a∈f1,a∉fr)/\(∀d,ρ[i]?=some (some d)->∃v,σ[i]?=some (some v)/\Ow K ct F H k d v f1) /\
   ∀(F' H':Hp) (d':D) (v':V) (f':List af),bL F F'->(∀a∈fr,H' a=H a/\F' a=none)->Ow K ct F' H' k d' v' f' ->
    ∃fk,SL K ct F' B H' ms (ρ.set i (some d')) (σ.set i (some v')) fk/\(∀a∈fk,a∈f'\/a∈fr)/\(f'.Nodup->fr.Nodup->(∀a∈f',a∉fr)->fk.Nodup):=by
 induction h0 generalizing i with
 |nil=>
  intro e
  simp at e
 |@no m0 o0 ms ρ σ fp t ih=>
  intro e
  cases i with
  |zero=>
   simp at e;subst e
   refine⟨[],fp,λa z=>(by cases z),λa z=>z,λn=>⟨bA,n,λa z=>(by cases z)⟩,λd q=>(by simp at q),λF' H' d' v' f' s kf h=>⟨f'++fp,.ow h (t.frame s kf),λa z=>bj.mp z,λn1 n2 dj=>?_⟩⟩
   exact aX.mpr ⟨n1,n2,λa z b zb e=>dj a z (e▸zb)⟩
  |succ i=>
   obtain⟨f1,fr,h1,h2,h3,h4,h5⟩:=ih (i:=i) (by simpa using e)
   refine⟨f1,fr,h1,h2,h3,λd q=>by simpa using h4 d (by simpa using q),λF' H' d' v' f' s kf h=>?_⟩
   obtain⟨fk,q1,q2,q3⟩:=h5 F' H' d' v' f' s kf h
   exact⟨fk,.no q1,q2,q3⟩
 |@al n0 d0 v0 ms ρ σ fp h t ih=>
  intro e
  cases i with
  |zero=>
   simp at e
  |succ i=>
   obtain⟨f1,fr,h1,h2,h3,h4,h5⟩:=ih (i:=i) (by simpa using e)
   refine⟨f1,fr,h1,h2,h3,λd q=>by simpa using h4 d (by simpa using q),λF' H' d' v' f' s kf h'=>?_⟩
   obtain⟨fk,q1,q2,q3⟩:=h5 F' H' d' v' f' s kf h'
   exact⟨fk,.al (h.mono s (.refl _)) q1,q2,q3⟩
 |@px d0 v0 ms ρ σ fp h t ih=>
  intro e
  cases i with
  |zero=>
   simp at e
  |succ i=>
   obtain⟨f1,fr,h1,h2,h3,h4,h5⟩:=ih (i:=i) (by simpa using e)
   refine⟨f1,fr,h1,h2,h3,λd q=>by simpa using h4 d (by simpa using q),λF' H' d' v' f' s kf h'=>?_⟩
   obtain⟨fk,q1,q2,q3⟩:=h5 F' H' d' v' f' s kf h'
   exact⟨fk,.px (h.mono s (.refl _)) q1,q2,q3⟩
 |@so d0 x ms ρ σ fp h t ih=>
  intro e
  cases i with
  |zero=>
   simp at e
  |succ i=>
   obtain⟨f1,fr,h1,h2,h3,h4,h5⟩:=ih (i:=i) (by simpa using e)
   refine⟨f1,x::fr,λa z=>ao _ (h1 a z),λa z=>(az.mp z).elim (λz=>by rw[z];exact am) λz=>ao _ (h2 a z),λn=>?_,λd q=>by simpa using h4 d (by simpa using q),λF' H' d' v' f' s kf h'=>?_⟩
   ·obtain⟨n1,n2⟩:=bz.mp n
    obtain⟨m1,m2,m3⟩:=h3 n2
    refine⟨m1,bz.mpr ⟨λz=>n1 (h2 x z),m2⟩,λa z zb=>?_⟩
    rcases az.mp zb with zb|zb
    ·rw[zb]at z;exact n1 (h1 x z)
    ·exact m3 a z zb
   ·obtain⟨fk,q1,q2,q3⟩:=h5 F' H' d' v' f' s (λa z=>kf a (ao _ z)) h'
    refine⟨x::fk,.so (h.frame s λa z=>kf a (by rw[aQ]at z;rw[z];exact am)) q1,λa z=>?_,λn1 n2 dj=>?_⟩
    ·rcases az.mp z with z|z
     ·exact .inr (by rw[z];exact am)
     ·exact(q2 a z).imp id λz=>ao _ z
    ·obtain⟨m1,m2⟩:=bz.mp n2
     refine bz.mpr ⟨λz=>?_,q3 n1 m2 λa z zb=>dj a z (ao _ zb)⟩
     rcases q2 x z with z|z
     ·exact dj x z am
     ·exact m1 z
 |@ow n0 d0 v0 ms ρ σ f fp h t ih=>
  intro e
  cases i with
  |zero=>
   simp at e;subst e
   refine⟨f,fp,λa z=>bb _ z,λa z=>av _ z,λn=>?_,λd q=>?_,λF' H' d' v' f' s kf h=>⟨f'++fp,.ow h (t.frame s kf),λa z=>bj.mp z,λn1 n2 dj=>?_⟩⟩
   ·obtain⟨n1,n2,n3⟩:=aX.mp n
    exact⟨n1,n2,λa z zb=>n3 a z a zb rfl⟩
   ·simp at q;subst q;exact⟨_,rfl,h⟩
   ·exact aX.mpr ⟨n1,n2,λa z b zb e=>dj a z (e▸zb)⟩
  |succ i=>
   obtain⟨f1,fr,h1,h2,h3,h4,h5⟩:=ih (i:=i) (by simpa using e)
   refine⟨f1,f++fr,λa z=>av _ (h1 a z),λa z=>(bj.mp z).elim (λz=>bb _ z) λz=>av _ (h2 a z),λn=>?_,λd q=>by simpa using h4 d (by simpa using q),λF' H' d' v' f' s kf h'=>?_⟩
   ·obtain⟨n1,n2,n3⟩:=aX.mp n
    obtain⟨m1,m2,m3⟩:=h3 n2
    refine⟨m1,aX.mpr ⟨n1,m2,λa z b zb=>n3 a z b (h2 b zb)⟩,λa z zb=>?_⟩
    rcases bj.mp zb with zb|zb
    ·exact n3 a zb a (h1 a z) rfl
    ·exact m3 a z zb
   ·obtain⟨fk,q1,q2,q3⟩:=h5 F' H' d' v' f' s (λa z=>kf a (av _ z)) h'
    refine⟨f++fk,.ow (h.frame s λa z=>kf a (bb _ z)) q1,λa z=>?_,λn1 n2 dj=>?_⟩
    ·rcases bj.mp z with z|z
     ·exact .inr (bb _ z)
     ·exact(q2 a z).imp id λz=>av _ z
    ·obtain⟨m1,m2,m3⟩:=aX.mp n2
     refine aX.mpr ⟨m1,q3 n1 m2 λa z zb=>dj a z (av _ zb),λa z b zb e=>?_⟩
     subst e
     rcases q2 a zb with zb|zb
     ·exact dj a zb (bb _ z)
     ·exact m3 a z a zb rfl
end
abbrev EF:=Env->Option D
inductive iy (K:ae)(ct:Nat->af)(F G:Hp):List Nat->List D->List V->Prop
 |nil:iy K ct F G [] [] []
 |cons {n:Nat} {d:D} {v:V} {ns:List Nat} {ds:List D} {vs:List V}:Al K ct F G n d v->iy K ct F G ns ds vs->iy K ct F G (n::ns) (d::ds) (v::vs)
theorem iy.mono {K:ae}{ct:Nat->af}{F F' G G':Hp}(sF:bL F F')(sG:bL G G'){ns:List Nat}{ds:List D}{vs:List V}(h:iy K ct F G ns ds vs):iy K ct F' G' ns ds vs:=by
 induction h with
 |nil=>exact .nil
 |cons h t ih=>exact .cons (h.mono sF sG) ih
theorem iy.length {K:ae}{ct:Nat->af}{F G:Hp}{ns:List Nat}{ds:List D}{vs:List V}(h:iy K ct F G ns ds vs):vs.length=ns.length:=by
 induction h with
 |nil=>rfl
 |cons h t ih=>rw[aB,aB,ih]
theorem iy.length' {K:ae}{ct:Nat->af}{F G:Hp}{ns:List Nat}{ds:List D}{vs:List V}(h:iy K ct F G ns ds vs):ds.length=vs.length:=by
 induction h with
 |nil=>rfl
 |cons h t ih=>rw[aB,aB,ih]
theorem iy.append {K:ae}{ct:Nat->af}{F G:Hp}{EQ:List Nat}{pP:List D}{Lh:List V}(q:iy K ct F G EQ pP Lh){ns:List Nat}{ds:List D}{vs:List V}(h:iy K ct F G ns ds vs):iy K ct F G (ns++EQ) (ds++pP) (vs++Lh):=by
 induction h with
 |nil=>exact q
 |cons h t ih=>exact .cons h ih
section
variable (X:Cx)(ct:Nat->af)(ms:List Mo)
def XE (n:Nat)(e:Expr)(f:EF):Prop:=∃t,PE X e t/\∀(F0 B F H:Hp) (ρ:Env) (σ:St) (d:D) (Q:VK),RS X.K ct F0 B ms F H ρ σ->f ρ=some d ->
 (∀v F' H',ez F H F' H'->Al X.K ct F' H' n d v->Q v H')->t σ H Q
def XO (k:Nat)(e:Expr)(f:EF):Prop:=∃t,PE X e t/\∀(F0 B F H:Hp) (ρ:Env) (σ:St) (d:D) (Q:VK),RS X.K ct F0 B ms F H ρ σ->f ρ=some d ->
 (∀v F' H' fp,ez F H F' H'->Ow X.K ct F' H' k d v fp->fp.Nodup->(∀a∈fp,H a=none)->Q v H')->t σ H Q
def XT (e:Expr)(f:Env->Option Bool):Prop:=∃t,PT X e t/\∀(F0 B F H:Hp) (ρ:Env) (σ:St) (b:Bool) (Q:Bool->Hp->Prop),RS X.K ct F0 B ms F H ρ σ->f ρ=some b ->
 (∀F' H',ez F H F' H'->Q b H')->t σ H Q
def XW (e:Expr)(f:Env->Option Bool):Prop:=∃t,PW X e t/\∀(F0 B F H:Hp) (ρ:Env) (σ:St) (b:Bool) (Q:Bool->Hp->Prop),RS X.K ct F0 B ms F H ρ σ->f ρ=some b ->
 (∀F' H',ez F H F' H'->Q b H')->t σ H Q
def XA (es:List Expr)(ns:List Nat)(f:Env->Option (List D)):Prop:=∃t,PA X es t/\(∀ρ ds,f ρ=some ds->ds.length=es.length)/\∀(F0 B F H:Hp) (ρ:Env) (σ:St) (ds:List D) (Q:List V->Hp->Prop),RS X.K ct F0 B ms F H ρ σ->f ρ=some ds ->
 (∀vs F' H',ez F H F' H'->iy X.K ct F' H' ns ds vs->Q vs H')->t σ H Q
end
def e2 (op:D->D->Option D)(f g:EF):EF:=λρ=>(f ρ).bind λx=>(g ρ).bind λy=>op x y
def e1 (op:D->Option D)(f:EF):EF:=λρ=>(f ρ).bind op
def eN (op:List D->Option D)(f:Env->Option (List D)):EF:=λρ=>(f ρ).bind op
def eC (d:D):EF:=λ_=>some d
def eV (i:Nat):EF:=λρ=>(ρ[i]?).join
def aNil:Env->Option (List D):=λ_=>some []
def aCons (f:EF)(g:Env->Option (List D)):Env->Option (List D):=λρ=>(f ρ).bind λx=>(g ρ).bind λxs=>some (x::xs)
theorem dY {α β γ:Type}{o:Option α}{p:Option β}{op:α->β->Option γ}{r:γ}(h:(o.bind λx=>p.bind λy=>op x y)=some r):∃x y,o=some x/\p=some y/\op x y=some r:=by
 cases o with
 |none=>cases h
 |some x=>
  cases p with
  |none=>cases h
  |some y=>exact⟨x,y,rfl,rfl,h⟩
theorem aR {α β:Type}{o:Option α}{op:α->Option β}{r:β}(h:o.bind op=some r):∃x,o=some x/\op x=some r:=by
 cases o with
 |none=>cases h
 |some x=>exact⟨x,rfl,h⟩
theorem wb {α:Type}{o:Option (Option α)}{x:α}(h:o.join=some x):o=some (some x):=by
 cases o with
 |none=>cases h
 |some y=>exact congrArg some h
def mj (K:ae)(ct:Nat->af)(n m k:Nat)(r:R2)(op:D->D->Option D):Prop :=
 ∀(F H:Hp) (x y:V) (d1 d2 d:D) (Q:VK),bL F H->Al K ct F H n d1 x->Al K ct F H m d2 y->op d1 d2=some d->(∀v F' H',ez F H F' H'->Al K ct F' H' k d v->Q v H')->r x y H Q
def Ab (K:ae)(ct:Nat->af)(n m k:Nat)(r:R2)(op:D->D->Option D):Prop :=
 ∀(F H:Hp) (x y:V) (d1 d2 d:D) (Q:VK),bL F H->Al K ct F H n d1 x->Al K ct F H m d2 y->op d1 d2=some d ->
  (∀v F' H' fp,ez F H F' H'->Ow K ct F' H' k d v fp->fp.Nodup->(∀a∈fp,H a=none)->Q v H')->r x y H Q
def yK (K:ae)(ct:Nat->af)(ns:List Nat)(k:Nat)(r:List V->Hp->VK->Prop)(op:List D->Option D):Prop :=
 ∀(F H:Hp) (vs:List V) (ds:List D) (d:D) (Q:VK),bL F H->iy K ct F H ns ds vs->op ds=some d->(∀v F' H',ez F H F' H'->Al K ct F' H' k d v->Q v H')->r vs H Q
def Ac (K:ae)(ct:Nat->af)(ns:List Nat)(k:Nat)(r:List V->Hp->VK->Prop)(op:List D->Option D):Prop :=
 ∀(F H:Hp) (vs:List V) (ds:List D) (d:D) (Q:VK),bL F H->iy K ct F H ns ds vs->op ds=some d ->
  (∀v F' H' fp,ez F H F' H'->Ow K ct F' H' k d v fp->fp.Nodup->(∀a∈fp,H a=none)->Q v H')->r vs H Q
section
variable {X:Cx}{ct:Nat->af}{ms:List Mo}{n m k:Nat}{a b c e:Expr}{f g h:EF}{pos:cy}
theorem XE.up (he:XE X ct ms n e f)(hk:n<=k):XE X ct ms k e f:=by
 obtain⟨t,p,q⟩:=he
 exact⟨t,p,λF0 B F H ρ σ d Q r e w=>q F0 B F H ρ σ d Q r e λv F' H' x l=>w v F' H' x (l.up hk)⟩
theorem XO.sh (he:XO X ct ms k e f):XE X ct ms n e f:=by
 obtain⟨t,p,q⟩:=he
 refine⟨t,p,λF0 B F H ρ σ d Q r e w=>q F0 B F H ρ σ d Q r e λv F' H' fp x o nd hf=>?_⟩
 obtain⟨F2,x2,h2⟩:=o.freeze x hf
 exact w v F2 H' x2 (Al.of h2)
theorem XE.ow (he:XE X ct ms 0 e f):XO X ct ms 0 e f:=by
 obtain⟨t,p,q⟩:=he
 exact⟨t,p,λF0 B F H ρ σ d Q r e w=>q F0 B F H ρ σ d Q r e λv F' H' x l=>w v F' H' [] x ⟨l,rfl⟩ bA λa z=>(by cases z)⟩
theorem za (i n:Nat){x:aK}{m:Mo}(hm:ms[i]?=some m:=by rfl)(hl:m.lv=n:=by rfl)(hN:X.N[i]?=some x:=by rfl)(hv:qZ X.env.scope x:=by first|exact Or.inl rfl|exact Or.inr (Or.inl rfl)|exact Or.inr (Or.inr rfl))(hd:(x==("__debug__":aK))=false:=by decide)
  (jP:(x==("__classdict__":aK))=false:=by decide):XE X ct ms n (.Name x pos) (eV i):=by
 subst hl
 refine⟨_,uv hN hv hd jP,λF0 B F H ρ σ d Q r e w=>?_⟩
 obtain⟨v,hv,l⟩:=r.get hm (wb e)
 exact⟨v,hv,w v F H (.refl r.fh) l⟩
theorem W2 {i:Int}{j}:XE X ct ms n (.Constant (.int i) j pos) (eC (.int i)):=⟨_,VI,λF0 B F H ρ σ d Q r e w=>by cases e;exact w _ F H (.refl r.fh) (Al.of (.int i))⟩
theorem q0 {i:Bool}{j}:XE X ct ms n (.Constant (.bool i) j pos) (eC (.bl i)):=⟨_,XQ,λF0 B F H ρ σ d Q r e w=>by cases e;exact w _ F H (.refl r.fh) (Al.of (.bl i))⟩
theorem DP {i:aK}{j}:XE X ct ms n (.Constant (.str i) j pos) (eC (.str i)):=⟨_,VL,λF0 B F H ρ σ d Q r e w=>by cases e;exact w _ F H (.refl r.fh) (Al.of (.str i))⟩
theorem W3 {j}:XE X ct ms n (.Constant .none j pos) (eC .non):=⟨_,VJ,λF0 B F H ρ σ d Q r e w=>by cases e;exact w _ F H (.refl r.fh) (Al.of .non)⟩
theorem XE.bin (ha:XE X ct ms n a f)(hb:XE X ct ms m b g):∃ta tb,PE X a ta/\PE X b tb/\∀(F0 B F H:Hp) (ρ:Env) (σ:St) (d1 d2:D) (R:V->V->Hp->Prop),RS X.K ct F0 B ms F H ρ σ->f ρ=some d1->g ρ=some d2 ->
  (∀x y F' H',ez F H F' H'->Al X.K ct F' H' n d1 x->Al X.K ct F' H' m d2 y->R x y H')->ta σ H λx H1=>tb σ H1 λy H2=>R x y H2:=by
 obtain⟨ta,pa,qa⟩:=ha
 obtain⟨tb,pb,qb⟩:=hb
 refine⟨ta,tb,pa,pb,λF0 B F H ρ σ d1 d2 R r e1 e2 w=>qa F0 B F H ρ σ d1 _ r e1 λx F1 H1 x1 l1=>?_⟩
 exact qb F0 B F1 H1 ρ σ d2 _ (r.ext x1) e2 λy F2 H2 x2 l2=>w x y F2 H2 (x1.trans x2) (l1.mono x2.ff x2.hh) l2
theorem xt {op:iJ}{r:R2}{o:D->D->Option D}(ho:gh X (dL op) r)(hs:mj X.K ct n m k r o)(ha:XE X ct ms n a f)(hb:XE X ct ms m b g):XE X ct ms k (.BinOp a op b pos) (e2 o f g):=by
 obtain⟨ta,tb,pa,pb,q⟩:=ha.bin hb
 refine⟨_,Jw ho pa pb,λF0 B F H ρ σ d Q rs e w=>?_⟩
 obtain⟨d1,d2,h1,h2,h3⟩:=dY e
 exact q F0 B F H ρ σ d1 d2 _ rs h1 h2 λx y F' H' x1 l1 l2=>hs F' H' x y d1 d2 d Q x1.fh l1 l2 h3 λv F2 H2 x2 l=>w v F2 H2 (x1.trans x2) l
theorem Xk {op:iJ}{r:R2}{o:D->D->Option D}(ho:gh X (dL op) r)(hs:Ab X.K ct n m k r o)(ha:XE X ct ms n a f)(hb:XE X ct ms m b g):XO X ct ms k (.BinOp a op b pos) (e2 o f g):=by
 obtain⟨ta,tb,pa,pb,q⟩:=ha.bin hb
 refine⟨_,Jw ho pa pb,λF0 B F H ρ σ d Q rs e w=>?_⟩
 obtain⟨d1,d2,h1,h2,h3⟩:=dY e
 exact q F0 B F H ρ σ d1 d2 _ rs h1 h2 λx y F' H' x1 l1 l2=>hs F' H' x y d1 d2 d Q x1.fh l1 l2 h3 λv F2 H2 fp x2 l nd hf=>w v F2 H2 fp (x1.trans x2) l nd λz hz=>x1.hh.free (hf z hz)
theorem j9 {op:lm}{r:R2}{o:D->D->Option D}(ho:gh X (cF op) r)(hs:mj X.K ct n m k r o)(ha:XE X ct ms n a f)(hb:XE X ct ms m b g)(hm:dm op b=false):XE X ct ms k (.Compare a [op] [b] pos) (e2 o f g):=by
 obtain⟨ta,tb,pa,pb,q⟩:=ha.bin hb
 refine⟨_,UT ho pa pb hm,λF0 B F H ρ σ d Q rs e w=>?_⟩
 obtain⟨d1,d2,h1,h2,h3⟩:=dY e
 exact q F0 B F H ρ σ d1 d2 _ rs h1 h2 λx y F' H' x1 l1 l2=>hs F' H' x y d1 d2 d Q x1.fh l1 l2 h3 λv F2 H2 x2 l=>w v F2 H2 (x1.trans x2) l
theorem zP {r:R2}{o:D->D->Option D}(hr:sk X r)(hs:mj X.K ct n m k r o)(ha:XE X ct ms n a f)(hb:XE X ct ms m b g)(hp:lA b):XE X ct ms k (.Subscript a b pos) (e2 o f g):=by
 obtain⟨ta,tb,pa,pb,q⟩:=ha.bin hb
 refine⟨_,Nw hr pa pb hp,λF0 B F H ρ σ d Q rs e w=>?_⟩
 obtain⟨d1,d2,h1,h2,h3⟩:=dY e
 exact q F0 B F H ρ σ d1 d2 _ rs h1 h2 λx y F' H' x1 l1 l2=>hs F' H' x y d1 d2 d Q x1.fh l1 l2 h3 λv F2 H2 x2 l=>w v F2 H2 (x1.trans x2) l
theorem Xl {op:UnaryOp}{r:V->Hp->VK->Prop}{o:D->Option D}(ho:D2 X (unaryOp op) r)
  (hs:∀(F H:Hp) (x:V) (d1 d:D) (Q:VK),bL F H->Al X.K ct F H n d1 x->o d1=some d->(∀v F' H',ez F H F' H'->Al X.K ct F' H' k d v->Q v H')->r x H Q) (ha:XE X ct ms n a f):XE X ct ms k (.UnaryOp op a pos) (e1 o f):=by
 obtain⟨ta,pa,qa⟩:=ha
 refine⟨_,XY ho pa,λF0 B F H ρ σ d Q rs e w=>?_⟩
 obtain⟨d1,h1,h2⟩:=aR e
 exact qa F0 B F H ρ σ d1 _ rs h1 λx F' H' x1 l1=>hs F' H' x d1 d Q x1.fh l1 h2 λv F2 H2 x2 l=>w v F2 H2 (x1.trans x2) l
theorem zh:XA X ct ms [] [] aNil:=⟨_,uw,λρ ds e=>(by cases e;rfl),λF0 B F H ρ σ ds Q r e w=>by cases e;exact w [] F H (.refl r.fh) .nil⟩
theorem zc {es:List Expr}{ns:List Nat}{fs:Env->Option (List D)}(ha:XE X ct ms n a f)(hr:XA X ct ms es ns fs)(hs:ap (a::es) X.env=(false,bB a X.env)::ap es X.env:=by rfl):XA X ct ms (a::es) (n::ns) (aCons f fs):=by
 obtain⟨ta,pa,qa⟩:=ha
 obtain⟨tb,pb,lb,qb⟩:=hr
 refine⟨_,xn pa pb hs,λρ ds e=>(by obtain⟨x,xs,h1,h2,h3⟩:=dY e;cases h3;rw[aB,aB,lb _ _ h2]),λF0 B F H ρ σ ds Q r e w=>?_⟩
 obtain⟨x,xs,h1,h2,h3⟩:=dY e
 cases h3
 refine qa F0 B F H ρ σ x _ r h1 λv F1 H1 x1 l1=>?_
 exact qb F0 B F1 H1 ρ σ xs _ (r.ext x1) h2 λvs F2 H2 x2 l2=>w (v::vs) F2 H2 (x1.trans x2) (.cons (l1.mono x2.ff x2.hh) l2)
def Af (X:Cx)(ct:Nat->af)(ms:List Mo)(k:Nat)(es:List Expr)(f:Env->Option (List D)):Prop:=∃t,PA X es t/\(∀ρ ds,f ρ=some ds->ds.length=es.length)/\∀(F0 B F H:Hp) (ρ:Env) (σ:St) (ds:List D) (Q:List V->Hp->Prop),RS X.K ct F0 B ms F H ρ σ->f ρ=some ds ->
 (∀vs F' H' fp,ez F H F' H'->eJ (Ow X.K ct F' H' k) ds vs fp->fp.Nodup->(∀a∈fp,H a=none)->Q vs H')->t σ H Q
theorem xg:Af X ct ms k [] aNil:=⟨_,uw,λρ ds e=>(by cases e;rfl),λF0 B F H ρ σ ds Q r e w=>by cases e;exact w [] F H [] (.refl r.fh) .nil bA λa z=>(by cases z)⟩
theorem yo {es:List Expr}{fs:Env->Option (List D)}(ha:XO X ct ms k a f)(hr:Af X ct ms k es fs)(hs:ap (a::es) X.env=(false,bB a X.env)::ap es X.env:=by rfl):Af X ct ms k (a::es) (aCons f fs):=by
 obtain⟨ta,pa,qa⟩:=ha
 obtain⟨tb,pb,lb,qb⟩:=hr
 refine⟨_,xn pa pb hs,λρ ds e=>(by obtain⟨x,xs,h1,h2,h3⟩:=dY e;cases h3;rw[aB,aB,lb _ _ h2]),λF0 B F H ρ σ ds Q r e w=>?_⟩
 obtain⟨x,xs,h1,h2,h3⟩:=dY e
 cases h3
 refine qa F0 B F H ρ σ x _ r h1 λv F1 H1 f1 x1 l1 n1 a1=>?_
 refine qb F0 B F1 H1 ρ σ xs _ (r.ext x1) h2 λvs F2 H2 f2 x2 l2 n2 a2=>w (v::vs) F2 H2 (f1++f2) (x1.trans x2) (.cons (l1.ext x2) l2) (aX.mpr ⟨n1,n2,λz hz y hy e=>?_⟩) λz hz=>?_
 ·subst e
  obtain⟨_,o,ho,_⟩:=l1.cells z hz
  rw[a2 z hy]at ho
  cases ho
 ·rcases bj.mp hz with hz|hz
  ·exact a1 z hz
  ·exact x1.hh.free (a2 z hz)
end
end L3
namespace L3
open PySem PySem.Spec L2
open PyProof.Rows hiding St
def D5:D->Option Bool
 |.bl b=>some b
 |_=>none
theorem ji {d:D}{b:Bool}(h:D5 d=some b):d=.bl b:=by cases d<;>simp[D5]at h;subst h;rfl
abbrev BF:=Env->Option Bool
def tb (f:EF):BF:=λρ=>(f ρ).bind D5
def bNot (f:BF):BF:=λρ=>(f ρ).bind λb=>some (!b)
def bAnd (f g:BF):BF:=λρ=>(f ρ).bind λb=>if b=true then g ρ else some false
def bOr (f g:BF):BF:=λρ=>(f ρ).bind λb=>if b=true then some true else g ρ
def eB (f:BF):EF:=λρ=>(f ρ).bind λb=>some (.bl b)
def eIf (c:BF)(f g:EF):EF:=λρ=>(c ρ).bind λb=>if b=true then f ρ else g ρ
section
variable {X:Cx}{ct:Nat->af}{ms:List Mo}{n m k:Nat}{a b c e:Expr}{f g h:EF}{p q:BF}{pos:cy}
theorem wf (he:XE X ct ms n e f)(hi:∀whole,qF e X.env whole=(do let v ← whole;eQ e.pos;dD [v] (truthy v)):=by intro _;rfl):XT X ct ms e (tb f):=by
 obtain⟨t,pt,qt⟩:=he
 refine⟨_,Wn pt hi,λF0 B F H ρ σ b Q r e w=>?_⟩
 obtain⟨d,h1,h2⟩:=aR e
 rw[ji h2]at h1
 exact qt F0 B F H ρ σ _ _ r h1 λv F' H' x l=>⟨b,l.bl,w F' H' x⟩
theorem xi {op:lm}{r:R2}{o:D->D->Option D}(ho:gh X (cF op) r)(hs:mj X.K ct n m k r o)(ha:XE X ct ms n a f)(hb:XE X ct ms m b g)(hm:dm op b=false):XT X ct ms (.Compare a [op] [b] pos) (tb (e2 o f g)):=by
 obtain⟨ta,tb,pa,pb,q⟩:=ha.bin hb
 refine⟨_,UU ho pa pb hm,λF0 B F H ρ σ b Q rs e w=>?_⟩
 obtain⟨d,h0,h4⟩:=aR e
 rw[ji h4]at h0
 obtain⟨d1,d2,h1,h2,h3⟩:=dY h0
 exact q F0 B F H ρ σ d1 d2 _ rs h1 h2 λx y F' H' x1 l1 l2=>hs F' H' x y d1 d2 _ _ x1.fh l1 l2 h3 λv F2 H2 x2 l=>⟨b,l.bl,w F2 H2 (x1.trans x2)⟩
theorem XW.t (h:XW X ct ms e p):XT X ct ms e p:=by
 obtain⟨t,pt,qt⟩:=h
 exact⟨t,pt.pt,qt⟩
theorem MQ (ha:XT X ct ms a p):XW X ct ms (.BoolOp .And [a] pos) p:=by
 obtain⟨t,pt,qt⟩:=ha
 exact⟨t,UO pt,qt⟩
theorem uT (ha:XT X ct ms a p):XW X ct ms (.BoolOp .Or [a] pos) p:=by
 obtain⟨t,pt,qt⟩:=ha
 exact⟨t,Wo pt,qt⟩
theorem Jo {rest:List Expr}(ha:XT X ct ms a p)(hb:XW X ct ms (.BoolOp .And (b::rest) pos) q):XW X ct ms (.BoolOp .And (a::b::rest) pos) (bAnd p q):=by
 obtain⟨t,pt,qt⟩:=ha
 obtain⟨u,pu,qu⟩:=hb
 refine⟨_,Wp pt pu,λF0 B F H ρ σ r Q rs e w=>?_⟩
 obtain⟨x,h1,h2⟩:=aR e
 refine qt F0 B F H ρ σ x _ rs h1 λF1 H1 x1=>?_
 cases x with
 |true=>rw[if_pos rfl];exact qu F0 B F1 H1 ρ σ r _ (rs.ext x1) h2 λF2 H2 x2=>w F2 H2 (x1.trans x2)
 |false=>cases h2;rw[if_neg aD];exact w F1 H1 x1
theorem sy {rest:List Expr}(ha:XT X ct ms a p)(hb:XW X ct ms (.BoolOp .Or (b::rest) pos) q):XW X ct ms (.BoolOp .Or (a::b::rest) pos) (bOr p q):=by
 obtain⟨t,pt,qt⟩:=ha
 obtain⟨u,pu,qu⟩:=hb
 refine⟨_,XU pt pu,λF0 B F H ρ σ r Q rs e w=>?_⟩
 obtain⟨x,h1,h2⟩:=aR e
 refine qt F0 B F H ρ σ x _ rs h1 λF1 H1 x1=>?_
 cases x with
 |true=>cases h2;rw[if_pos rfl];exact w F1 H1 x1
 |false=>rw[if_neg aD];exact qu F0 B F1 H1 ρ σ r _ (rs.ext x1) h2 λF2 H2 x2=>w F2 H2 (x1.trans x2)
theorem ub (ha:XT X ct ms a p):XT X ct ms (.UnaryOp .Not a pos) (bNot p):=by
 obtain⟨t,pt,qt⟩:=ha
 refine⟨_,Wq pt,λF0 B F H ρ σ r Q rs e w=>?_⟩
 obtain⟨x,h1,h2⟩:=aR e
 cases h2
 exact qt F0 B F H ρ σ x _ rs h1 λF1 H1 x1=>w F1 H1 x1
theorem W4 (ha:XE X ct ms n a f):XE X ct ms k (.UnaryOp .Not a pos) (eB (bNot (tb f))):=by
 obtain⟨t,pt,qt⟩:=ha
 refine⟨_,Wt pt,λF0 B F H ρ σ r Q rs e w=>?_⟩
 obtain⟨x,h1,h2⟩:=aR e
 obtain⟨y,h3,h4⟩:=aR h1
 obtain⟨z,h5,h6⟩:=aR h3
 cases h2;cases h4
 rw[ji h6]at h5
 exact qt F0 B F H ρ σ _ _ rs h5 λv F1 H1 x1 l=>⟨y,l.bl,w _ F1 H1 x1 (Al.of (.bl _))⟩
theorem uU {op}(ha:XE X ct ms n a f):XE X ct ms k (.BoolOp op [a] pos) (eB (tb f)):=by
 obtain⟨t,pt,qt⟩:=ha
 refine⟨_,Wr pt,λF0 B F H ρ σ r Q rs e w=>?_⟩
 obtain⟨y,h3,h4⟩:=aR e
 obtain⟨z,h5,h6⟩:=aR h3
 cases h4
 rw[ji h6]at h5
 exact qt F0 B F H ρ σ _ _ rs h5 λv F1 H1 x1 l=>w _ F1 H1 x1 (by rw[l.bl];exact Al.of (.bl _))
theorem uV {rest:List Expr}(ha:XE X ct ms n a f)(hb:XE X ct ms k (.BoolOp .And (b::rest) pos) (eB q)):XE X ct ms k (.BoolOp .And (a::b::rest) pos) (eB (bAnd (tb f) q)):=by
 obtain⟨t,pt,qt⟩:=ha
 obtain⟨u,pu,qu⟩:=hb
 refine⟨_,Ws pt pu,λF0 B F H ρ σ r Q rs e w=>?_⟩
 obtain⟨y,h3,h4⟩:=aR e
 obtain⟨x,h1,h2⟩:=aR h3
 obtain⟨z,h5,h6⟩:=aR h1
 cases h4
 rw[ji h6]at h5
 refine qt F0 B F H ρ σ _ _ rs h5 λv F1 H1 x1 l=>⟨x,l.bl,?_⟩
 cases x with
 |true=>rw[if_pos rfl];exact qu F0 B F1 H1 ρ σ _ _ (rs.ext x1) (show(q ρ).bind _=_ by rw[if_pos rfl]at h2;rw[h2];rfl) λv F2 H2 x2 l=>w v F2 H2 (x1.trans x2) l
 |false=>rw[if_neg aD]at h2 ⊢;cases h2;exact w _ F1 H1 x1 (Al.of (.bl _))
theorem Xm {rest:List Expr}(ha:XE X ct ms n a f)(hb:XE X ct ms k (.BoolOp .Or (b::rest) pos) (eB q)):XE X ct ms k (.BoolOp .Or (a::b::rest) pos) (eB (bOr (tb f) q)):=by
 obtain⟨t,pt,qt⟩:=ha
 obtain⟨u,pu,qu⟩:=hb
 refine⟨_,XX pt pu,λF0 B F H ρ σ r Q rs e w=>?_⟩
 obtain⟨y,h3,h4⟩:=aR e
 obtain⟨x,h1,h2⟩:=aR h3
 obtain⟨z,h5,h6⟩:=aR h1
 cases h4
 rw[ji h6]at h5
 refine qt F0 B F H ρ σ _ _ rs h5 λv F1 H1 x1 l=>⟨x,l.bl,?_⟩
 cases x with
 |true=>rw[if_pos rfl]at h2 ⊢;cases h2;exact w _ F1 H1 x1 (Al.of (.bl _))
 |false=>rw[if_neg aD];exact qu F0 B F1 H1 ρ σ _ _ (rs.ext x1) (show(q ρ).bind _=_ by rw[if_neg aD]at h2;rw[h2];rfl) λv F2 H2 x2 l=>w v F2 H2 (x1.trans x2) l
theorem Jy (hc:XT X ct ms c p)(ha:XE X ct ms k a f)(hb:XE X ct ms k b g):XE X ct ms k (.IfExp c a b pos) (eIf p f g):=by
 obtain⟨s,ps,qs⟩:=hc
 obtain⟨t,pt,qt⟩:=ha
 obtain⟨u,pu,qu⟩:=hb
 refine⟨_,Ta ps pt pu,λF0 B F H ρ σ r Q rs e w=>?_⟩
 obtain⟨x,h1,h2⟩:=aR e
 refine qs F0 B F H ρ σ x _ rs h1 λF1 H1 x1=>?_
 cases x with
 |true=>rw[if_pos rfl]at h2 ⊢;exact qt F0 B F1 H1 ρ σ _ _ (rs.ext x1) h2 λv F2 H2 x2 l=>w v F2 H2 (x1.trans x2) l
 |false=>rw[if_neg aD]at h2 ⊢;exact qu F0 B F1 H1 ρ σ _ _ (rs.ext x1) h2 λv F2 H2 x2 l=>w v F2 H2 (x1.trans x2) l
theorem DQ {es:List Expr}{fs:Env->Option (List D)}{x1}(h:Af X ct ms k es fs)(hl:es.length<=1000:=by decide):XO X ct ms (k+1) (.Tuple es x1 pos) (λρ=>(fs ρ).bind λds=>some (.tup ds)):=by
 obtain⟨t,pt,lt,qt⟩:=h
 refine⟨_,Nj pt,λF0 B F H ρ σ r Q rs e w=>?_⟩
 obtain⟨ds,h1,h2⟩:=aR e
 cases h2
 refine qt F0 B F H ρ σ ds _ rs h1 λvs F1 H1 fp x1 l nd hf=>⟨?_,λp hp=>?_⟩
 ·rw[←l.length,lt _ _ h1];exact small hl
 ·have x2:=ez.newS x1.fh hp (.tup vs)
  exact w _ _ _ fp (x1.trans x2) (.inr (.tup zm (l.mono λ_ _ _ _ o=>o.ext x2))) nd hf
theorem eJ.cellsOf {K:ae}{F H:Hp}{ds:List D}{vs:List V}{fp:List af}(l:eJ (Ow K ct F H k) ds vs fp):∀a∈fp,F a=none/\∃o,H a=some o/\jM o:=eJ.cells0 (λd v f q=>Ow.cells q) l
theorem MR {K:ae}{F H:Hp}{ds:List D}{vs:List V}{fp:List af}{p:af}(s:bL F H)(l:eJ (Ow K ct F H k) ds vs fp)(hp:H p=none):Ow K ct F (upd H p (.lst vs)) (k+1) (.lst ds) (.ref p) (p::fp)/\(fp.Nodup->(p::fp).Nodup) :=
 ⟨.inr (.lst (s.free hp) zm (l.mono λ_ _ _ _ o=>o.ext (ez.newO s hp _))),λnd=>bz.mpr ⟨λz=>(by
  obtain⟨_,o,ho,_⟩:=eJ.cellsOf l p z
  rw[hp]at ho
  cases ho),nd⟩⟩
theorem w8 {es:List Expr}{fs:Env->Option (List D)}(h:Af X ct ms k es fs)(hl:es.length<=1000:=by decide):XO X ct ms (k+1) (.List es pos) (λρ=>(fs ρ).bind λds=>some (.lst ds)):=by
 obtain⟨t,pt,lt,qt⟩:=h
 refine⟨_,WG pt,λF0 B F H ρ σ r Q rs e w=>?_⟩
 obtain⟨ds,h1,h2⟩:=aR e
 cases h2
 refine qt F0 B F H ρ σ ds _ rs h1 λvs F1 H1 fp x1 l nd hf=>⟨?_,λp hp=>?_⟩
 ·rw[←l.length,lt _ _ h1];exact small hl
 ·obtain⟨o,n2⟩:=MR x1.fh l hp
  refine w _ _ _ (p::fp) (x1.trans (ez.newO x1.fh hp _)) o (n2 nd) λz hz=>?_
  rcases az.mp hz with rfl|hz
  ·exact x1.hh.free hp
  ·exact hf z hz
theorem Uc:XO X ct ms (k+1) (.Dict [] [] pos) (eC (.dK [] [])):=by
 refine⟨_,T7,λF0 B F H ρ σ r Q rs e w p hp=>?_⟩
 cases e
 refine w _ F _ [p] (ez.newO rs.fh hp _) (.inr (sm.dK (vs:=[]) (rs.fh.free hp) zm rfl .nil)) (by simp) λz hz=>?_
 rw[aQ]at hz;subst hz;exact hp
theorem Ud:XO X ct ms (k+1) (.Dict [] [] pos) (eC (.dT [] [])):=by
 refine⟨_,T8,λF0 B F H ρ σ r Q rs e w p hp=>?_⟩
 cases e
 refine w _ F _ [p] (ez.newO rs.fh hp _) (.inr (sm.dT (vs:=[]) (rs.fh.free hp) zm rfl .nil)) (by simp) λz hz=>?_
 rw[aQ]at hz;subst hz;exact hp
def il (K:ae)(ct:Nat->af)(pm:List Nat)(rk:Nat)(m:List D->Option D):Sp:=λvs H Q _=>∃(F:Hp) (ds:List D) (d:D),bL F H/\iy K ct F H pm ds vs/\m ds=some d /\
 ∀v F' H' fp,ez F H F' H'->Ow K ct F' H' rk d v fp->fp.Nodup->(∀a∈fp,H a=none)->Q v H'
theorem il.len {K:ae}{ct:Nat->af}{pm:List Nat}{rk:Nat}{m:List D->Option D}{ps:List aK}(h:pm.length=ps.length):∀vs H Q E,il K ct pm rk m vs H Q E->vs.length=ps.length:=by
 rintro vs H Q E ⟨F,ds,d,_,l,_⟩
 rw[l.length,h]
variable {kk:Nat}{fa:af}{fd:aP}{ps:List aK}{pm:List Nat}{rk:Nat}{mf:List D->Option D}{x:aK}{pp:cy}
theorem Vu {es:List Expr}{ns nd:List Nat}{fs:Env->Option (List D)}{gp:List V}{iP:List D}{lK:List aa}(Fn:cB X.prog X.w X.K X.mg X.base eW kk fa fd ps (il X.K ct (ns++nd) rk mf))(hr:dw kk X.A)(hg:Gl X x)(hm:X.mg x=some (.ref fa))(hk:ar X.K (.ref fa)=true)
  (hb:bO X.K fd ps lK) (hd:bR gp lK) (rq:∀F G,iy X.K ct F G nd iP gp) (ha:XA X ct ms (e::es) ns fs)
  (iB:(x==("__debug__":aK))=false:=by decide) (he:ap (e::es) X.env=(false,bB e X.env)::ap es X.env:=by rfl) (el:(bZ pos (ap es X.env)).any (·.1)=false:=by rfl) :
  XO X ct ms rk (.Call (.Name x pp) (e::es) [] pos) (λρ=>(fs ρ).bind λds=>mf (ds++iP)):=by
 obtain⟨t,pt,_,qt⟩:=ha
 refine⟨_,UX Fn hr hg hm hk hb hd nM pt iB he el,λF0 B F H ρ σ r Q rs e w=>?_⟩
 obtain⟨ds,h1,h2⟩:=aR e
 refine qt F0 B F H ρ σ ds _ rs h1 λvs F1 H1 x1 l=>⟨F1,ds++iP,r,x1.fh,iy.append (rq F1 H1) l,h2,λv F2 H2 fp x2 o nd hf=>?_⟩
 exact w v F2 H2 fp (x1.trans x2) o nd λz hz=>x1.hh.free (hf z hz)
theorem jk {es:List Expr}{ns:List Nat}{fs:Env->Option (List D)}{id:String}{r:List V->Hp->VK->Prop}{op:List D->Option D}(hc:eI X (.builtin id) r)(hs:yK X.K ct ns k r op)(hg:Gl X x)(hm:X.mg x=none)(hv:bY x=some (.builtin id))(ha:XA X ct ms (e::es) ns fs)
  (hn:x≠"__name__":=by decide) (iB:(x==("__debug__":aK))=false:=by decide) (he:ap (e::es) X.env=(false,bB e X.env)::ap es X.env:=by rfl) (el:(bZ pos (ap es X.env)).any (·.1)=false:=by rfl) :
  XE X ct ms k (.Call (.Name x pp) (e::es) [] pos) (eN op fs):=by
 obtain⟨t,pt,_,qt⟩:=ha
 refine⟨_,je hc hg hm hv pt hn iB he el,λF0 B F H ρ σ r Q rs e w=>?_⟩
 obtain⟨ds,h1,h2⟩:=aR e
 exact qt F0 B F H ρ σ ds _ rs h1 λvs F1 H1 x1 l=>hs F1 H1 vs ds r Q x1.fh l h2 λv F2 H2 x2 l2=>w v F2 H2 (x1.trans x2) l2
theorem qd {es:List Expr}{ns:List Nat}{fs:Env->Option (List D)}{id:String}{r:List V->Hp->VK->Prop}{op:List D->Option D}(hc:eI X (.type id) r)(hs:Ac X.K ct ns k r op)(hg:Gl X x)(hm:X.mg x=none)(hv:bY x=some (.type id))(ha:XA X ct ms (e::es) ns fs)
  (hn:x≠"__name__":=by decide) (iB:(x==("__debug__":aK))=false:=by decide) (he:ap (e::es) X.env=(false,bB e X.env)::ap es X.env:=by rfl) (el:(bZ pos (ap es X.env)).any (·.1)=false:=by rfl) :
  XO X ct ms k (.Call (.Name x pp) (e::es) [] pos) (eN op fs):=by
 obtain⟨t,pt,_,qt⟩:=ha
 refine⟨_,SO hc hg hm hv pt hn iB he el,λF0 B F H ρ σ r Q rs e w=>?_⟩
 obtain⟨ds,h1,h2⟩:=aR e
 exact qt F0 B F H ρ σ ds _ rs h1 λvs F1 H1 x1 l=>hs F1 H1 vs ds r Q x1.fh l h2 λv F2 H2 fp x2 l2 nd hf=>w v F2 H2 fp (x1.trans x2) l2 nd λz hz=>x1.hh.free (hf z hz)
theorem PE.or {t u:TE}(h1:PE X e t)(h2:PE X e u):PE X e (λσ H Q=>t σ H Q\/u σ H Q):=λah s σ H Q I h=>h.elim (h1 ah s σ H Q I) (h2 ah s σ H Q I)
theorem Ft (ha:XO X ct ms k e f)(hb:XO X ct ms k e g):XO X ct ms k e (λρ=>(f ρ).or (g ρ)):=by
 obtain⟨t,pt,qt⟩:=ha
 obtain⟨u,pu,qu⟩:=hb
 refine⟨_,PE.or pt pu,λF0 B F H ρ σ r Q rs e w=>?_⟩
 dsimp only at e ⊢
 cases h:f ρ with
 |some d=>
  rw[h]at e
  cases e
  exact .inl (qt F0 B F H ρ σ _ Q rs h w)
 |none=>
  rw[h]at e
  exact .inr (qu F0 B F H ρ σ r Q rs e w)
def cC (cs:List Nat)(x:aK):D->Option D
 |.obj c ns ds=>if cs.contains c=true then(ns.zip ds).lookup x else none
 |_=>none
theorem IA {R:D->V->Prop}{x:aK}{d:D}:∀{ns:List aK} {ds:List D} {vs:List V},Pr R ds vs->(ns.zip ds).lookup x=some d->∃v,(ns.zip vs).lookup x=some v/\R d v
 |[],_,_,_,e=>by simp at e
 |_::_,_,_,.nil,e=>by simp at e
 |y::ns,_,_,.cons h t,e=>by
  rw[eS,aZ]at e
  rw[eS,aZ]
  cases q:x==y with
  |true=>rw[q]at e;cases e;exact⟨_,rfl,h⟩
  |false=>rw[q]at e;exact IA t e
theorem IU {vs:List V}{x:aK}:∀{ns:List aK} {vs:List V},ns.contains x=false->(ns.zip vs).lookup x=none
 |[],_,_=>by simp
 |_::_,[],_=>by simp
 |y::ns,_::vs,h=>by
  rw[jW,oe]at h
  rw[eS,aZ,h.1]
  exact IU (vs:=vs) h.2
theorem yp {x:aK}{cs:List Nat}(he:XE X ct ms n e f)(hc:∀c∈cs,kP X.K (ct c)/\ej X.K (ct c) x)(hb:dP e x X.env (bB e X.env)=bB e X.env):XE X ct ms (n-1) (.Attribute e x pos) (e1 (cC cs x) f):=by
 obtain⟨t,pt,qt⟩:=he
 refine⟨_,WE pt hb,λF0 B F H ρ σ r Q rs e w=>?_⟩
 obtain⟨o,h1,h2⟩:=aR e
 refine qt F0 B F H ρ σ o _ rs h1 λv F1 H1 x1 l=>?_
 cases o with
 |obj c ns ds=>
  obtain⟨a,dx,vs,rfl,ha,hl,GZ⟩:=l.obj x1.fh
  unfold cC at h2
  dsimp only at h2
  by_cases rn:cs.contains c=true
  ·rw[if_pos rn]at h2
   obtain⟨u,hu,du⟩:=IA GZ h2
   have hh:=hc c (by simpa using rn)
   exact⟨a,_,dx,_,u,rfl,ha,hh.1,hh.2,hu,w u F1 H1 x1 du⟩
  ·rw[if_neg rn]at h2;cases h2
 |_=>cases h2
def hR (c0:Nat)(m:aK)(mf:List D->Option D)(o:D)(ds:List D):Option D:=match o with
 |.obj c ns _=>if c=c0/\ns.contains m=false then mf (o::ds)else none
 |_=>none
theorem Ja {o:Expr}{x:aK}{cN:cy}{pl:gU Bool}{es:List Expr}{ns nd:List Nat}{fs:Env->Option (List D)}{gp:List V}{iP:List D}{lK:List aa}{c0:Nat}(ho:XE X ct ms n o f)(c:kP X.K (ct c0))(hm:oB X.K (ct c0) x fa)(Fn:cB X.prog X.w X.K X.mg X.base eW kk fa fd ps (il X.K ct (n::(ns++nd)) rk mf))(hr:dw kk X.A)
  (hb:bO X.K fd ps lK) (hd:bR gp lK) (rq:∀F G,iy X.K ct F G nd iP gp) (ha:XA X ct ms (e::es) ns fs)
  (iR:ap (e::es) X.env=(false,bB e X.env)::ap es X.env:=by rfl) (el:(bZ pos (ap es X.env)).any (·.1)=false:=by rfl)
  (ht:bB (.Call (.Attribute o x cN) (e::es) [] pos) X.env=(do
   let ov ← bB o X.env
   eQ cN.atName
   let(f,first) ← dD [ov] (fG ov x pl)
   gX pos f first (bZ pos (ap (e::es) X.env)) (eK pos (dc [] X.env))):=by rfl) :
  XO X ct ms rk (.Call (.Attribute o x cN) (e::es) [] pos) (λρ=>(f ρ).bind λo=>(fs ρ).bind λds=>hR c0 x mf o (ds++iP)):=by
 obtain⟨u,pu,qu⟩:=ho
 obtain⟨t,pt,_,qt⟩:=ha
 refine⟨_,UY pu c hm Fn hr hb hd nM pt iR el ht,λF0 B F H ρ σ r Q rs e w=>?_⟩
 obtain⟨o,ds,h1,h2,h3⟩:=dY e
 refine qu F0 B F H ρ σ o _ rs h1 λv F1 H1 x1 l=>?_
 cases o with
 |obj c1 EQ pP=>
  unfold hR at h3
  dsimp only at h3
  split at h3
  ·rename_i hc
   obtain⟨rfl,n9⟩:=hc
   obtain⟨a,dx,vs,rfl,ha,hl,GZ⟩:=l.obj x1.fh
   refine⟨a,dx,_,rfl,ha,IU (vs:=vs) n9,?_⟩
   refine qt F0 B F1 H1 ρ σ ds _ (rs.ext x1) h2 λus F2 H2 x2 l2=>⟨F2,_,r,x2.fh,.cons (l.mono x2.ff x2.hh) (iy.append (rq F2 H2) l2),h3,λv F3 H3 fp x3 o nd hf=>?_⟩
   exact w v F3 H3 fp ((x1.trans x2).trans x3) o nd λz hz=>(x1.trans x2).hh.free (hf z hz)
  ·cases h3
 |_=>cases h3
theorem vz {o:Expr}{x:aK}{cN:cy}{pl:gU Bool}{nd:List Nat}{gp:List V}{iP:List D}{lK:List aa}{c0:Nat}(ho:XE X ct ms n o f)(c:kP X.K (ct c0))(hm:oB X.K (ct c0) x fa)(Fn:cB X.prog X.w X.K X.mg X.base eW kk fa fd ps (il X.K ct (n::nd) rk mf))(hr:dw kk X.A)
  (hb:bO X.K fd ps lK) (hd:bR gp lK) (rq:∀F G,iy X.K ct F G nd iP gp)
  (ht:bB (.Call (.Attribute o x cN) [] [] pos) X.env=(do
   let ov ← bB o X.env
   eQ cN.atName
   let(f,first) ← dD [ov] (fG ov x pl)
   gX pos f first (bZ pos (ap [] X.env)) (eK pos (dc [] X.env))):=by rfl) :
  XO X ct ms rk (.Call (.Attribute o x cN) [] [] pos) (λρ=>(f ρ).bind λo=>hR c0 x mf o iP):=by
 obtain⟨u,pu,qu⟩:=ho
 refine⟨_,Tg pu c hm Fn hr hb hd nM ht,λF0 B F H ρ σ r Q rs e w=>?_⟩
 obtain⟨o,h1,h3⟩:=aR e
 refine qu F0 B F H ρ σ o _ rs h1 λv F1 H1 x1 l=>?_
 cases o with
 |obj c1 EQ pP=>
  unfold hR at h3
  dsimp only at h3
  split at h3
  ·rename_i hc
   obtain⟨rfl,n9⟩:=hc
   obtain⟨a,dx,vs,rfl,ha,hl,GZ⟩:=l.obj x1.fh
   refine⟨a,dx,_,rfl,ha,IU (vs:=vs) n9,F1,_,r,x1.fh,.cons l (rq F1 H1),h3,λv F3 H3 fp x3 o nd hf=>?_⟩
   exact w v F3 H3 fp (x1.trans x3) o nd λz hz=>x1.hh.free (hf z hz)
  ·cases h3
 |_=>cases h3
end
end L3
namespace L3
open PySem PySem.Spec L2
open PyProof.Rows hiding St
inductive Out where
 |nx (ρ:Env)|rt (d:D)|bk (ρ:Env)|ct (ρ:Env)
abbrev SF:=Env->Option Out
def jD (K:ae)(cl:Nat->af)(F0 B:Hp)(ms:List Mo)(rk:Nat)(E:gH):Out->Prop
 |.nx ρ=>∀σ F H,RS K cl F0 B ms F H ρ σ->E.nx σ H
 |.bk ρ=>∀σ F H,RS K cl F0 B ms F H ρ σ->E.bk σ H
 |.ct ρ=>∀σ F H,RS K cl F0 B ms F H ρ σ->E.ct σ H
 |.rt d=>∀v F H fp,bL F0 F->bL B H->bL F H->(∀a o,B a=some o->jM o->F0 a=none->F a=none)->Ow K cl F H rk d v fp->fp.Nodup->(∀a∈fp,B a=none)->E.rt v H
section
variable (X:Cx)(ct:Nat->af)(ms:List Mo)(rk:Nat)
def XS (st:bI)(f:SF):Prop:=∃t,PS X st t/\∀(F0 B F H:Hp) (ρ:Env) (σ:St) (o:Out) (E:gH),RS X.K ct F0 B ms F H ρ σ->f ρ=some o->jD X.K ct F0 B ms rk E o->t E σ H
def oF (st:List bI)(f:SF):Prop:=∃t,nr X st t/\∀(F0 B F H:Hp) (ρ:Env) (σ:St) (o:Out) (E:gH),RS X.K ct F0 B ms F H ρ σ->f ρ=some o->jD X.K ct F0 B ms rk E o->t E σ H
end
def sSkip:SF:=λρ=>some (.nx ρ)
def sSeq (f g:SF):SF:=λρ=>(f ρ).bind λo=>match o with
 |.nx ρ'=>g ρ'
 |o=>some o
def sIf (c:BF)(f g:SF):SF:=λρ=>(c ρ).bind λb=>if b=true then f ρ else g ρ
def sSet (i:Nat)(f:EF):SF:=λρ=>(f ρ).bind λd=>some (.nx (ρ.set i (some d)))
def sRet (f:EF):SF:=λρ=>(f ρ).bind λd=>some (.rt d)
def sRetN:SF:=λ_=>some (.rt .non)
def sDrop (f:EF):SF:=λρ=>(f ρ).bind λ_=>some (.nx ρ)
def kF:SF:=λ_=>none
def ou:Nat:=2 ^ 9000
def kH (c:BF)(b:SF):Nat->SF
 |0,_=>none
 |n+1,ρ=>(c ρ).bind λt=>if t=true then(b ρ).bind λo=>match o with
   |.nx ρ'=>kH c b n ρ'
   |.ct ρ'=>kH c b n ρ'
   |.bk ρ'=>some (.nx ρ')
   |.rt d=>some (.rt d)
  else some (.nx ρ)
def oR (c:BF)(b:SF):SF:=kH c b ou
def gq (g:D->Env->Option Env)(b:SF):List D->SF
 |[],ρ=>some (.nx ρ)
 |d::ds,ρ=>(g d ρ).bind λρ1=>(b ρ1).bind λo=>match o with
   |.nx ρ'=>gq g b ds ρ'
   |.ct ρ'=>gq g b ds ρ'
   |.bk ρ'=>some (.nx ρ')
   |.rt d=>some (.rt d)
def sFor (f:Env->Option (List D))(g:D->Env->Option Env)(b:SF):SF:=λρ=>(f ρ).bind λds=>gq g b ds ρ
section
variable {X:Cx}{ct:Nat->af}{ms:List Mo}{rk n m k:Nat}{st:bI}{rest:List bI}{a b c e:Expr}{f g h:EF}{p q:BF}{u w:SF}{pos:cy}
theorem yu:oF X ct ms rk [] sSkip:=⟨_,UQ,λF0 B F H ρ σ o E rs e w=>by cases e;exact w σ F H rs⟩
theorem ze (h1:XS X ct ms rk st u)(h2:oF X ct ms rk rest w):oF X ct ms rk (st::rest) (sSeq u w):=by
 obtain⟨t,pt,qt⟩:=h1
 obtain⟨t2,pV,pW⟩:=h2
 refine⟨_,IM pt pV,λF0 B F H ρ σ o E rs e z=>?_⟩
 obtain⟨o1,e1,e2⟩:=aR e
 refine qt F0 B F H ρ σ o1 _ rs e1 ?_
 cases o1 with
 |nx ρ'=>exactλσ' F' H' Dr=>pW F0 B F' H' ρ' σ' o E Dr e2 z
 |rt d=>cases e2;exact z
 |bk ρ'=>cases e2;exact z
 |ct ρ'=>cases e2;exact z
theorem zf (h1:XS X ct ms rk st u):oF X ct ms rk [st] u:=by
 obtain⟨t,pt,qt⟩:=h1
 exact⟨_,Jg pt,qt⟩
theorem qf:XS X ct ms rk st kF:=⟨_,Tb,λF0 B F H ρ σ o E rs e w=>by cases e⟩
theorem yn (he:XO X ct ms rk e f):XS X ct ms rk (.Return (some e) pos) (sRet f):=by
 obtain⟨t,pt,qt⟩:=he
 refine⟨_,Nf pt,λF0 B F H ρ σ o E rs e w=>?_⟩
 obtain⟨d,h1,h2⟩:=aR e
 cases h2
 refine qt F0 B F H ρ σ d _ rs h1 λv F' H' fp x l nd hf=>?_
 have r:=rs.ext x
 exact w v F' H' fp r.f0 r.bh r.fh r.nf l nd λz hz=>rs.bh.free (hf z hz)
theorem wx {Dv pZ:List bI}(hc:XT X ct ms c p)(h1:oF X ct ms rk Dv u)(h2:oF X ct ms rk pZ w):XS X ct ms rk (.If c Dv pZ pos) (sIf p u w):=by
 obtain⟨t,pt,qt⟩:=hc
 obtain⟨t1,sZ,tq⟩:=h1
 obtain⟨t2,pV,pW⟩:=h2
 refine⟨_,Nu pt sZ pV,λF0 B F H ρ σ o E rs e z=>?_⟩
 obtain⟨x,h1,h2⟩:=aR e
 refine qt F0 B F H ρ σ x _ rs h1 λF1 H1 x1=>?_
 cases x with
 |true=>rw[if_pos rfl]at h2 ⊢;exact tq F0 B F1 H1 ρ σ o E (rs.ext x1) h2 z
 |false=>rw[if_neg aD]at h2 ⊢;exact pW F0 B F1 H1 ρ σ o E (rs.ext x1) h2 z
theorem RS.put {K:ae}{F0 B F H F' H':Hp}{ρ:Env}{σ:St}{i:Nat}(rs:RS K ct F0 B ms F H ρ σ)(hm:ms[i]?=some (.ow k)) :
  ∃f1 fr:List af,f1.Nodup/\(∀a∈f1,B a=none)/\(∀a∈f1,a∉fr)/\(∀d,ρ[i]?=some (some d)->∃v,σ[i]?=some (some v)/\Ow K ct F H k d v f1)/\(∀a∈fr,F a=none/\∃o,H a=some o/\jM o) /\
   ∀(F' H':Hp) (d':D) (v':V) (f':List af),bL F F'->bL B H'->bL F' H'->(∀a o,B a=some o->jM o->F0 a=none->F' a=none)->(∀a∈fr,H' a=H a/\F' a=none)->Ow K ct F' H' k d' v' f'->f'.Nodup->(∀a∈f',a∉fr)->(∀a∈f',B a=none) ->
    RS K ct F0 B ms F' H' (ρ.set i (some d')) (σ.set i (some v')):=by
 obtain⟨fp,sl,nd,hb⟩:=rs.sl
 obtain⟨f1,fr,i1,i2,i3,i4,i5⟩:=sl.put hm
 obtain⟨n1,n2,n3⟩:=i3 nd
 refine⟨f1,fr,n1,λa z=>hb a (i1 a z),n3,i4,λa z=>sl.cells a (i2 a z),λF' H' d' v' f' s1 s2 s3 s4 kf o Pq dj OP=>?_⟩
 obtain⟨fk,q1,q2,q3⟩:=i5 F' H' d' v' f' s1 kf o
 exact⟨rs.f0.trans s1,s2,s3,s4,fk,q1,q3 Pq n2 dj,λa z=>(q2 a z).elim (OP a) λz=>hb a (i2 a z)⟩
theorem RS.set {K:ae}{F0 B F H F' H':Hp}{ρ:Env}{σ:St}{i:Nat}{d:D}{v:V}{fp:List af}(rs:RS K ct F0 B ms F H ρ σ)(hm:ms[i]?=some (.ow k))(x:ez F H F' H')(o:Ow K ct F' H' k d v fp)(nd:fp.Nodup)(hf:∀a∈fp,H a=none) :
  RS K ct F0 B ms F' H' (ρ.set i (some d)) (σ.set i (some v)):=by
 have r:=rs.ext x
 obtain⟨f1,fr,n1,b1,n3,i4,cf,put⟩:=rs.put (F':=F') (H':=H') hm
 refine put F' H' d v fp x.ff r.bh x.fh r.nf (λa z=>?_) o nd (λa z zb=>?_) λa z=>rs.bh.free (hf a z)
 ·obtain⟨hn,o,ho,nt⟩:=cf a z
  exact⟨(x.hh _ _ ho).trans ho.symm,x.nf a o ho nt hn⟩
 ·obtain⟨hn,o,ho,nt⟩:=cf a zb
  rw[hf a z]at ho
  cases ho
theorem W5 {i:Nat}{x:aK}{pos':cy}(hm:ms[i]?=some (.ow k))(hN:X.N.Nodup)(hi:X.N[i]?=some x)(hx:Loc X.env.scope x)(he:XO X ct ms k e f)(hs:dI e (some (.Name x pos')) pos.line X.env=pure false:=by rfl)
  (hf:X.fn x=true\/X.env.scope.names.lookup x=some .local:=by first|exact .inl rfl|exact .inr rfl|assumption):XS X ct ms rk (.Assign [.Name x pos'] e pos) (sSet i f):=by
 obtain⟨t,pt,qt⟩:=he
 refine⟨_,Ww hN hi hx pt hs hf,λF0 B F H ρ σ o E rs e w=>?_⟩
 obtain⟨d,h1,h2⟩:=aR e
 cases h2
 exact qt F0 B F H ρ σ d _ rs h1 λv F' H' fp x l nd hf=>w _ F' H' (rs.set hm x l nd hf)
theorem Ue (hc:XT X ct ms c p)(hb:oF X ct ms rk rest u)(hp:cn (aA X.prog X.w) X.A X.env X.xe):XS X ct ms rk (.While c rest [] pos) (oR p u):=by
 obtain⟨t,pt,qt⟩:=hc
 obtain⟨t1,sZ,tq⟩:=hb
 refine⟨_,Tc hp pt sZ,λF0 B F H ρ σ o E rs e z=>?_⟩
 refine⟨λm σ H=>∃F ρ,RS X.K ct F0 B ms F H ρ σ/\kH p u m ρ=some o,⟨ou,F,ρ,rs,e⟩,?_⟩
 rintro m σ H ⟨F,ρ,rs,e⟩
 cases m with
 |zero=>cases e
 |succ m=>
  obtain⟨x,h1,h2⟩:=aR e
  refine qt F0 B F H ρ σ x _ rs h1 λF1 H1 x1=>?_
  cases x with
  |true=>
   rw[if_pos rfl]at h2 ⊢
   obtain⟨o1,h3,h4⟩:=aR h2
   refine⟨λσ H=>∃F ρ,RS X.K ct F0 B ms F H ρ σ/\kH p u m ρ=some o,λσ' H' h=>⟨m,hX m,h⟩,?_⟩
   refine tq F0 B F1 H1 ρ σ o1 _ (rs.ext x1) h3 ?_
   cases o1 with
   |nx ρ'=>exactλσ' F' H' r=>⟨F',ρ',r,h4⟩
   |ct ρ'=>exactλσ' F' H' r=>⟨F',ρ',r,h4⟩
   |bk ρ'=>cases h4;exact z
   |rt d=>cases h4;exact z
  |false=>
   rw[if_neg aD]at h2 ⊢
   cases h2
   exact z σ F1 H1 (rs.ext x1)
theorem RS.re {K:ae}{F0 B F H:Hp}{ρ:Env}{σ:St}(r:RS K ct F0 B ms F H ρ σ):RS K ct F B ms F H ρ σ:=⟨.refl _,r.bh,r.fh,λ_ _ _ _ h=>h,r.sl⟩
theorem RS.back {K:ae}{F0 B F H F' H':Hp}{ρ ρ':Env}{σ σ':St}(r:RS K ct F0 B ms F H ρ σ)(q:RS K ct F B ms F' H' ρ' σ'):RS K ct F0 B ms F' H' ρ' σ' :=
 ⟨r.f0.trans q.f0,q.bh,q.fh,λa o h t n=>q.nf a o h t (r.nf a o h t n),q.sl⟩
theorem jD.re {K:ae}{F0 B F H:Hp}{ρ:Env}{σ:St}{E:gH}{o:Out}(r:RS K ct F0 B ms F H ρ σ)(z:jD K ct F0 B ms rk E o):jD K ct F B ms rk E o:=by
 cases o with
 |nx ρ=>exactλσ' F' H' q=>z σ' F' H' (r.back q)
 |bk ρ=>exactλσ' F' H' q=>z σ' F' H' (r.back q)
 |ct ρ=>exactλσ' F' H' q=>z σ' F' H' (r.back q)
 |rt d=>exactλv F' H' fp s1 s2 s3 s4=>z v F' H' fp (r.f0.trans s1) s2 s3 λa o h t n=>s4 a o h t (r.nf a o h t n)
def qW (K:ae)(ct:Nat->af)(F B:Hp)(n:Nat)(J:It)(ds:List D):Prop :=
 ∀(i:Nat) (F' H':Hp),bL F F'->bL B H'->bL F' H'->(∀d,ds[i]?=some d->J.go i H'/\∀x H2,J.yld i H' x H2->∃F2,ez F' H' F2 H2/\Al K ct F2 B n d x)/\(ds.length<=i->J.stop i H')
def XI (X:Cx)(ct:Nat->af)(ms:List Mo)(n:Nat)(tg iter:Expr)(f:Env->Option (List D)):Prop:=∃wi,PI X tg iter wi/\∀(F0 B F H:Hp) (ρ:Env) (σ:St) (ds:List D) (R:It->Hp->Prop),RS X.K ct F0 B ms F H ρ σ->f ρ=some ds ->
 (∀J F' H',ez F H F' H'->qW X.K ct F' B n J ds->R J H')->wi σ H R
def XIc (X:Cx)(ct:Nat->af)(ms:List Mo)(n:Nat)(tg iter:Expr)(f:Env->Option (List D)):Prop:=∃wi,PI X tg iter wi/\∀(F0 B F H:Hp) (ρ:Env) (σ:St) (ds:List D) (R:It->Hp->Prop),RS X.K ct F0 B ms F H ρ σ->f ρ=some ds ->
 (∀J F' H',ez F H F' H'->qW X.K ct F' H' n J ds->R J H')->wi σ H R
def XG (X:Cx)(ct:Nat->af)(ms:List Mo)(n:Nat)(tg:Expr)(g:D->Env->Option Env):Prop:=∃t,PG X tg t/\∀(F0 B F H:Hp) (ρ ρ':Env) (σ:St) (d:D) (v:V) (Q:St->Hp->Prop),RS X.K ct F0 B ms F H ρ σ->Al X.K ct F B n d v->g d ρ=some ρ' ->
 (∀σ',RS X.K ct F0 B ms F H ρ' σ'->Q σ' H)->t v σ H Q
theorem vh {tg iter:Expr}{fi:Env->Option (List D)}{gg:D->Env->Option Env}(hi:XI X ct ms n tg iter fi)(hg:XG X ct ms n tg gg)(hb:oF X ct ms rk rest u)(hp:cn (aA X.prog X.w) X.A X.env X.xe)(hc:X.calm=true)
  (hs:∀x,dg iter X.env x=pure x:=by intro _;rfl):XS X ct ms rk (.For tg iter rest [] pos) (sFor fi gg u):=by
 obtain⟨wi,pi,qi⟩:=hi
 obtain⟨Ld,pg,qg⟩:=hg
 obtain⟨t1,sZ,tq⟩:=hb
 refine⟨_,Wz hp hc pi pg sZ hs,λF0 B F H ρ σ o E rs e z=>?_⟩
 obtain⟨ds,h1,h2⟩:=aR e
 refine qi F0 B F H ρ σ ds _ rs h1 λJ F1 H1 x1 ok=>?_
 refine⟨λi m σ H=>m=ds.length-i/\i<=ds.length/\∃F ρ,bL F1 F/\RS X.K ct F0 B ms F H ρ σ/\gq gg u (ds.drop i) ρ=some o,⟨ds.length,rfl,dh _,F1,ρ,.refl _,rs.ext x1,h2⟩,?_⟩
 rintro i m σ H ⟨rfl,OY,F,ρ,s1,rs,e⟩
 obtain⟨k1,k2⟩:=ok i F H s1 rs.bh rs.fh
 by_cases ml:i<ds.length
 ·right
  have hd:ds[i]?=some ds[i]:=by simp[ml]
  obtain⟨go,yl⟩:=k1 _ hd
  rw[mH ml]at e
  obtain⟨ρ1,h3,h4⟩:=aR e
  obtain⟨o1,h5,h6⟩:=aR h4
  refine⟨go,λσ H=>i+1<=ds.length/\∃F ρ,bL F1 F/\RS X.K ct F0 B ms F H ρ σ/\gq gg u (ds.drop (i+1)) ρ=some o,λσ' H' h=>⟨ds.length-(i+1),by omega,rfl,h⟩,λx H2 y=>?_⟩
  obtain⟨F2,x2,l⟩:=yl x H2 y
  refine qg F0 B F2 H2 ρ ρ1 σ _ x _ (rs.ext x2) l h3 λσ' r=>?_
  have s2:=s1.trans x2.ff
  refine tq F2 B F2 H2 ρ1 σ' o1 _ r.re h5 ?_
  cases o1 with
  |nx ρ'=>exactλσ' F' H' q=>⟨ml,F',ρ',s2.trans q.f0,r.back q,h6⟩
  |ct ρ'=>exactλσ' F' H' q=>⟨ml,F',ρ',s2.trans q.f0,r.back q,h6⟩
  |bk ρ'=>cases h6;exactλσ' F' H' q=>z σ' F' H' (r.back q)
  |rt d=>cases h6;exact jD.re (o:=.rt d) r z
 ·left
  refine⟨k2 (by omega),?_⟩
  have:ds.drop i=[]:=ny (by omega)
  rw[this]at e
  cases e
  exact z σ F H rs
def gV (i:Nat):D->Env->Option Env:=λd ρ=>some (ρ.set i (some d))
theorem Vv {i:Nat}{x:aK}(hm:ms[i]?=some (.ow 0))(hN:X.N.Nodup)(hi:X.N[i]?=some x)(hx:Loc X.env.scope x)
  (hf:X.fn x=true\/X.env.scope.names.lookup x=some .local:=by first|exact .inl rfl|exact .inr rfl|assumption):XG X ct ms 0 (.Name x pos) (gV i):=by
 refine⟨_,MD hN hi hx hf,λF0 B F H ρ ρ' σ d v Q rs l e w=>?_⟩
 cases e
 exact w _ (rs.set hm (.refl rs.fh) (Ow.zero l) bA λa z=>(by cases z))
def D3 (X:Cx)(ct:Nat->af)(ms:List Mo)(n:Nat)(jV:List Expr)(g:List D->Env->Option Env):Prop:=∃t,yL X jV t/\(∀ds ρ ρ',g ds ρ=some ρ'->ds.length=jV.length)/\∀(F0 B F H:Hp) (ρ ρ':Env) (σ:St) (ds:List D) (vs:List V) (Q:St->Hp->Prop),RS X.K ct F0 B ms F H ρ σ->Pr (Al X.K ct F B n) ds vs->g ds ρ=some ρ' ->
 (∀σ',RS X.K ct F0 B ms F H ρ' σ'->Q σ' H)->t vs σ H Q
def gsNil:List D->Env->Option Env:=λds ρ=>match ds with
 |[]=>some ρ
 |_=>none
def gsCons (g:D->Env->Option Env)(gs:List D->Env->Option Env):List D->Env->Option Env:=λds ρ=>match ds with
 |d::ds=>(g d ρ).bind λρ'=>gs ds ρ'
 |[]=>none
theorem Jb:D3 X ct ms n [] gsNil:=by
 refine⟨_,ME,λds ρ ρ' e=>?_,λF0 B F H ρ ρ' σ ds vs Q rs l e w=>?_⟩
 ·cases ds with
  |nil=>rfl
  |cons d ds=>cases e
 ·cases l with
  |nil=>cases e;exact⟨rfl,w σ rs⟩
  |cons _ _=>cases e
theorem v6 {tg:Expr}{jV:List Expr}{gg:D->Env->Option Env}{gs:List D->Env->Option Env}(h1:XG X ct ms n tg gg)(h2:D3 X ct ms n jV gs)
  (hs:(cU (tg::jV) X.env).map (·.2)=iw tg X.env::(cU jV X.env).map (·.2):=by rfl):D3 X ct ms n (tg::jV) (gsCons gg gs):=by
 obtain⟨t,pt,qt⟩:=h1
 obtain⟨t2,pV,HL,pW⟩:=h2
 refine⟨_,Md pt pV hs,λds ρ ρ' e=>?_,λF0 B F H ρ ρ' σ ds vs Q rs l e w=>?_⟩
 ·cases ds with
  |nil=>cases e
  |cons d ds=>
   obtain⟨ρ1,h3,h4⟩:=aR e
   rw[aB,aB,HL _ _ _ h4]
 ·cases l with
  |nil=>cases e
  |cons h t=>
   obtain⟨ρ1,h3,h4⟩:=aR e
   exact⟨_,_,rfl,qt F0 B F H ρ ρ1 σ _ _ _ rs h h3 λσ1 r1=>pW F0 B F H ρ1 ρ' σ1 _ _ _ r1 t h4 w⟩
def gT (gs:List D->Env->Option Env):D->Env->Option Env:=λd ρ=>match d with
 |.tup ds=>gs ds ρ
 |_=>none
theorem Jp {jV:List Expr}{j:Nat}{gs:List D->Env->Option Env}(hc:X.calm=true)(h:D3 X ct ms (n-1) jV gs)(hl:(cU jV X.env).length=jV.length:=by rfl)(iR:(cU jV X.env).findIdx? (·.1)=none:=by rfl):XG X ct ms n (.Tuple jV j pos) (gT gs):=by
 obtain⟨t,pt,lt,qt⟩:=h
 refine⟨_,Ng (n:=jV.length) hc pt hl iR,λF0 B F H ρ ρ' σ d v Q rs l e w=>?_⟩
 cases d with
 |tup ds=>
  have l':Al X.K ct F H n (.tup ds) v:=l.mono (.refl _) rs.bh
  have:∃a vs,v=.ref a/\kc X.K H a vs/\Pr (Al X.K ct F B (n-1)) ds vs:=by
   cases n with
   |zero=>
    have l:Dt X.K ct F (.tup ds) v:=l
    cases l with
    |tup q t=>exact⟨_,_,rfl,kc.of (rs.fh _ _ q),t.pr⟩
   |succ n=>
    rcases l with l|l
    ·cases l with
     |tup q t=>exact⟨_,_,rfl,kc.of (rs.fh _ _ q),t.pr.mono λ_ _=>Al.of⟩
    ·cases l with
     |tup q t=>exact⟨_,_,rfl,kc.of (rs.fh _ _ q),t⟩
  obtain⟨a,vs,rfl,ha,hp⟩:=this
  exact⟨a,vs,rfl,ha,hp.length.symm.trans (lt _ _ _ e),qt F0 B F H ρ ρ' σ ds vs Q rs hp e w⟩
 |_=>cases e
def startD (N:List aK)(ds:List D):Env:=ds.map some++aC (N.length-ds.length) none
def mOf (N:List aK)(b:SF)(ds:List D):Option D:=(b (startD N ds)).bind λo=>match o with
 |.rt d=>some d
 |.nx _=>some .non
 |_=>none
theorem SL.start {K:ae}{F B H:Hp}:∀{pm:List Nat} {ds:List D} {vs:List V} {ms:List Mo} (j:Nat),iy K ct F B pm ds vs->(∀(i n:Nat),pm[i]?=some n->ms[i]?=some (Mo.al n)\/(n=0/\ms[i]?=some (Mo.ow 0)))->ms.length=pm.length+j ->
  SL K ct F B H ms (ds.map some++aC j none) (vs.map some++aC j none) []
 |_,_,_,ms,j,.nil,_,hl=>by
  have:∀(j:Nat) (ms:List Mo),ms.length=j->SL K ct F B H ms (aC j none) (aC j none) []:=by
   intro j
   induction j with
   |zero=>intro ms h;cases ms with
    |nil=>exact .nil
    |cons _ _=>simp at h
   |succ j ih=>intro ms h;cases ms with
    |nil=>simp at h
    |cons m ms=>exact .no (ih ms (by simpa using h))
  simpa using this j ms (by simpa using hl)
 |_,_,_,[],j,.cons h t,_,hl=>by simp at hl;omega
 |_,_,_,m::ms,j,.cons (n:=n) h t,hm,hl=>by
  have ih:=SL.start (ms:=ms) (H:=H) j t (λi n e=>by simpa using hm (i+1) n (by simpa using e)) (by simp at hl;omega)
  rcases hm 0 n rfl with e|⟨rfl,e⟩
  ·simp at e;subst e;exact .al h ih
  ·simp at e;subst e;exact SL.ow (f:=[]) (Ow.zero h) ih
structure Fun2 (K:ae)(x qual:aK)(st:bI)(f:af)(fd:aP):Prop where
 ex:∃(oc:aa) (od:Option af) (dV kV doc pm:aa) (an:Option af) (gx ct:aa) (sX:Array (Option aa)),
  fd=gc x qual (lB st) (fO st) (aU st) dV kV doc pm an gx ct/\K.lookup f=some ⟨oc,od,.func fd,sX⟩/\aL K gx qual=true
 kp:ar K (.ref f)=true
theorem Fun2.ok {P:aT}{w:bt}{K:ae}{mg:aK->Option aa}{base:aE}{x qual:aK}{st:bI}{f:af}{fd:aP}{N ps:List aK}{k:Nat}{sp:Sp}(F:Fun2 K x qual st f fd)(S:bE N ps (aU st))(len:∀vs H Q E,sp vs H Q E->vs.length=ps.length)
    (rl:∀(gx:aa) (A:bi) (outer:List PySem.Env) (s:ai) (H:Hp) (vs:List V) (Q:VK) (E:XK),dw k (A.deeper (envOfC qual (aU st) s.heap.objs.size f gx))->sp vs H Q E ->
      ∃t,nr (lr eW P w K mg base N qual (aU st) f gx A outer s H E).nox (fO st) t/\t { nx:=λ_ H'=>Q .non H',rt:=Q } (L2.start N vs) H):cB P w K mg base eW (k+1) f fd ps sp:=by
  obtain⟨oc,od,dV,kV,doc,pm,an,gx,ct,sX,rfl,lk,jP⟩:=F.ex
  refine Nv lk jP S len λA outer s H vs Q E hr uC=>?_
  obtain⟨t,h,q⟩:=rl gx A outer s H vs Q E hr uC
  exact⟨t,h.nox,q⟩
theorem lift {P:aT}{w:bt}{K:ae}{mg:aK->Option aa}{base:aE}{x qual:aK}{st:bI}{fa:af}{fd:aP}{N ps:List aK}{kk:Nat}{pm:List Nat}{bf:SF}(Fn:Fun2 K x qual st fa fd)(S:bE N ps (aU st))(xA:pm.length=ps.length)(Ey:ms.length=N.length)(n8:ps.length<=N.length)
  (wV:∀(i n:Nat),pm[i]?=some n->ms[i]?=some (Mo.al n)\/(n=0/\ms[i]?=some (Mo.ow 0)))
  (body:∀(gx:aa) (A:bi) (outer:List PySem.Env) (s:ai) (H:Hp) (E:XK),dw kk (A.deeper (envOfC qual (aU st) s.heap.objs.size fa gx))->oF (lr eW P w K mg base N qual (aU st) fa gx A outer s H E).nox ct ms rk (fO st) bf) :
  cB P w K mg base eW (kk+1) fa fd ps (il K ct pm rk (mOf N bf)):=by
 refine Fn.ok S (il.len xA) λgx A outer s H vs Q E hr h=>?_
 obtain⟨F,ds,d,sF,l,hm,q⟩:=h
 obtain⟨t,pt,qt⟩:=body gx A outer s H E hr
 refine⟨t,pt,?_⟩
 obtain⟨o,h1,h2⟩:=aR hm
 have Pg:vs.length=pm.length:=l.length
 have hdl:ds.length=vs.length:=l.length'
 refine qt F H F H (startD N ds) (L2.start N vs) o _ ⟨.refl _,.refl _,sF,λ_ _ _ _ h=>h,[],?_,bA,λa z=>(by cases z)⟩ h1 ?_
 ·unfold startD L2.start
  rw[hdl]
  exact SL.start _ l wV (by omega)
 ·cases o with
  |nx ρ=>
   cases h2
   exactλσ F' H' r=>q .non F' H' [] ⟨r.f0,r.bh,r.fh,r.nf⟩ (Ow.scal .non rfl) bA λa z=>(by cases z)
  |rt d'=>
   cases h2
   exactλv F' H' fp s1 s2 s3 s4 o nd hf=>q v F' H' fp ⟨s1,s2,s3,s4⟩ o nd hf
  |bk ρ=>cases h2
  |ct ρ=>cases h2
end
end L3
namespace L3
open PySem PySem.Spec L2
open PyProof.Rows hiding St
theorem gh.or {X:Cx}{f:aa->aa->gU aa}{r r':R2}(h:gh X f r)(h':gh X f r'):gh X f (λx y H Q=>r x y H Q\/r' x y H Q) :=
 λah s σ H x y v u Q I rx ry q=>q.elim (h ah s σ H x y v u Q I rx ry) (h' ah s σ H x y v u Q I rx ry)
section
variable {K:ae}{ct:Nat->af}{n m k:Nat}
def i2 (g:Int->Int->D):D->D->Option D
 |.int i,.int j=>some (g i j)
 |_,_=>none
def rK (C:Int->Int->Prop)[∀i j,Decidable (C i j)](g:Int->Int->D):D->D->Option D
 |.int i,.int j=>if C i j then some (g i j)else none
 |_,_=>none
theorem Fu {g:Int->Int->D}{gv:Int->Int->V}(hg:∀i j F,Dt K ct F (g i j) (gv i j)):mj K ct n m k (oa gv) (i2 g):=by
 intro F H x y d1 d2 d Q s l1 l2 e w
 cases d1 with
 |int i=>
  cases d2 with
  |int j=>cases e;exact⟨i,j,l1.int,l2.int,w _ F H (.refl s) (Al.of (hg i j F))⟩
  |_=>cases e
 |_=>cases e
theorem Jq {C C':Int->Int->Prop}[∀i j,Decidable (C i j)]{g:Int->Int->D}{gv:Int->Int->V}(hC:∀i j,C i j->C' i j)(hg:∀i j F,Dt K ct F (g i j) (gv i j)):mj K ct n m k (rI C' gv) (rK C g):=by
 intro F H x y d1 d2 d Q s l1 l2 e w
 cases d1 with
 |int i=>
  cases d2 with
  |int j=>
   unfold rK at e
   dsimp only at e
   by_cases h:C i j
   ·rw[if_pos h]at e;cases e;exact⟨i,j,l1.int,l2.int,hC i j h,w _ F H (.refl s) (Al.of (hg i j F))⟩
   ·rw[if_neg h]at e;cases e
  |_=>cases e
 |_=>cases e
def JA:Nat:=2 ^ 9000
def zZ:Nat:=2 ^ 100000
def nO:D->D->Option D:=i2 λi j=>.int (i-j)
theorem zD:mj K ct n m k (oa λi j=>.int (i-j)) nO:=Fu λ_ _ _=>.int _
def kX (i j:Int):Prop:=(-18446744073709551616<i/\i<18446744073709551616)\/(-18446744073709551616<j/\j<18446744073709551616)\/(i.natAbs<zZ/\j.natAbs<zZ)
instance (i j:Int):Decidable (kX i j):=by unfold kX;infer_instance
def hU:D->D->Option D:=rK kX λi j=>.int (i*j)
theorem kX.ok {i j:Int}(h:kX i j):mK i j:=by
 rcases h with h|h|h
 ·exact .inl (.inl ⟨by have:=h.1;omega,by have:=h.2;omega⟩)
 ·exact .inl (.inr ⟨by have:=h.1;omega,by have:=h.2;omega⟩)
 ·exact .inr h
theorem Vw:mj K ct n m k (rI mK λi j=>.int (i*j)) hU:=Jq (λ_ _=>kX.ok) λ_ _ _=>.int _
def D.v:D->V
 |.bl b=>.bl b
 |.int i=>.int i
 |.str x=>.str x
 |_=>.non
theorem Dt.v {F:Hp}{d:D}{v:V}(h:Dt K ct F d v)(hs:d.sc=true):v=d.v:=by
 cases h<;>first|rfl|cases hs
theorem Al.v {F G:Hp}{d:D}{v:V}(h:Al K ct F G n d v)(hs:d.sc=true):v=d.v:=Dt.v (Al.scal (F':=F) h hs) hs
theorem D.flat {d:D}(hs:d.sc=true):jF d.v=true:=by cases d<;>first|rfl|cases hs
theorem Pr.vs {F G:Hp}:∀{ds:List D} {vs:List V},Pr (Al K ct F G n) ds vs->ds.all D.sc=true->vs=ds.map D.v
 |_,_,.nil,_=>rfl
 |d::ds,v::vs,.cons h t,e=>by
  rw[eL,bT]at e
  rw[bq,Al.v h e.1,Pr.vs t e.2]
def kh:D->D->Option D
 |.int i,.int j=>if 0<j/\j<4611686018427387904 then some (.int (i/j))else if j≠0/\j.natAbs<JA then some (.int (i.fdiv j))else none
 |_,_=>none
theorem qj:mj K ct n m k (rI (λ_ j=>j≠0/\Sz 9000 j) λi j=>.int (i.fdiv j)) kh:=by
 intro F H x y d1 d2 d Q s l1 l2 e w
 cases d1 with
 |int i=>
  cases d2 with
  |int j=>
   unfold kh at e
   dsimp only at e
   by_cases h:0<j/\j<4611686018427387904
   ·rw[if_pos h]at e
    cases e
    refine⟨i,j,l1.int,l2.int,⟨by omega,?_⟩,?_⟩
    ·have:Sz 62 j:=by unfold Sz;omega
     exact this.mono (by decide)
    ·show Q (.int (i.fdiv j)) H
     rw[mG i (by omega)]
     exact w _ F H (.refl s) (Al.of (.int _))
   ·rw[if_neg h]at e
    by_cases h:j≠0/\j.natAbs<JA
    ·rw[if_pos h]at e
     cases e
     exact⟨i,j,l1.int,l2.int,h,w _ F H (.refl s) (Al.of (.int _))⟩
    ·rw[if_neg h]at e;cases e
  |_=>cases e
 |_=>cases e
def fR:D->D->Option D
 |.int i,.int j=>if 0<j then some (.int (i%j))else if j≠0 then some (.int (i.fmod j))else none
 |_,_=>none
theorem wc:mj K ct n m k (rI (λ_ j=>j≠0) λi j=>.int (i.fmod j)) fR:=by
 intro F H x y d1 d2 d Q s l1 l2 e w
 cases d1 with
 |int i=>
  cases d2 with
  |int j=>
   unfold fR at e
   dsimp only at e
   by_cases h:0<j
   ·rw[if_pos h]at e
    cases e
    refine⟨i,j,l1.int,l2.int,by omega,?_⟩
    show Q (.int (i.fmod j)) H
    rw[Int.fmod_eq_emod_of_nonneg i (by omega)]
    exact w _ F H (.refl s) (Al.of (.int _))
   ·rw[if_neg h]at e
    by_cases h:j≠0
    ·rw[if_pos h]at e
     cases e
     exact⟨i,j,l1.int,l2.int,h,w _ F H (.refl s) (Al.of (.int _))⟩
    ·rw[if_neg h]at e;cases e
  |_=>cases e
 |_=>cases e
def mU (i j:Int):Prop:=0<=j/\j<=1000000/\i.natAbs<18446744073709551616
instance (i j:Int):Decidable (mU i j):=by unfold mU;infer_instance
def Dd:D->D->Option D:=rK mU λi j=>.int (i ^ j.toNat)
def tw:D->D->Option D:=rK mU λi j=>.int (i*2 ^ j.toNat)
theorem Vx:mj K ct n m k (rI zV λi j=>.int (i*2 ^ j.toNat)) tw:=Jq (λ_ _ h=>⟨h.1,h.2.1,by have:=h.2.2;omega⟩) λ_ _ _=>.int _
def pX:D->D->Option D:=rK (λ_ j=>0<=j) λi j=>.int (i/2 ^ j.toNat)
theorem MS:mj K ct n m k (rI (λ_ j=>0<=j) λi j=>.int (i/2 ^ j.toNat)) pX:=Jq (λ_ _ h=>h) λ_ _ _=>.int _
def sv:D->D->Option D:=i2 λi j=>.bl (decide (i<j))
def pR:D->D->Option D:=i2 λi j=>.bl (decide (j<i))
def GI:D->D->Option D:=i2 λi j=>.bl (decide (j<=i))
theorem zM:mj K ct n m k (oa λi j=>.bl (decide (i<j))) sv:=Fu λ_ _ _=>.bl _
theorem qk:mj K ct n m k (oa λi j=>.bl (decide (j<i))) pR:=Fu λ_ _ _=>.bl _
theorem W6:mj K ct n m k (oa λi j=>.bl (decide (j<=i))) GI:=Fu λ_ _ _=>.bl _
def xQ:R2:=λx y H Q=>∃i j,x=.str i/\y=.str j/\Q (.bl (!(decide (j.cps.toList<i.cps.toList)))) H
theorem W7 {X:Cx}:gh X (cF .LtE) xQ:=by
 intro ah s σ H x y v u Q I rx ry h
 obtain⟨i,j,rfl,rfl,q⟩:=h
 obtain⟨t,rfl⟩:=rx
 obtain⟨t',rfl⟩:=ry
 exact PySem.P.le_str ⟨.bl _,H,I,rfl,q⟩
def uG:D->D->Option D
 |.int i,.int j=>some (.bl (decide (i<=j)))
 |.str i,.str j=>some (.bl (!(decide (j.cps.toList<i.cps.toList))))
 |_,_=>none
theorem zE:mj K ct n m k (λx y H Q=>oa (λi j=>.bl (decide (i<=j))) x y H Q\/xQ x y H Q) uG:=by
 intro F H x y d1 d2 d Q s l1 l2 e w
 cases d1 with
 |int i=>
  cases d2 with
  |int j=>cases e;exact .inl ⟨i,j,l1.int,l2.int,w _ F H (.refl s) (Al.of (.bl _))⟩
  |_=>cases e
 |str i=>
  cases d2 with
  |str j=>cases e;exact .inr ⟨i,j,l1.str,l2.str,w _ F H (.refl s) (Al.of (.bl _))⟩
  |_=>cases e
 |_=>cases e
theorem zN {X:Cx}:gh X (cF .LtE) (λx y H Q=>oa (λi j=>.bl (decide (i<=j))) x y H Q\/xQ x y H Q):=gh.or XZ W7
def D.isN:D->Bool
 |.non=>true
 |_=>false
def D.isB (b:Bool):D->Bool
 |.bl c=>c==b
 |_=>false
def qO (neg:Bool):D->D->Option D
 |d,.non=>some (.bl (if neg then !d.isN else d.isN))
 |d,.bl b=>some (.bl (if neg then !d.isB b else d.isB b))
 |_,_=>none
theorem Al.ref {F G:Hp}{d:D}{v:V}(h:Al K ct F G n d v)(hs:d.sc=false):∃a,v=.ref a:=by
 cases n with
 |zero=>cases(show Dt K ct F d v from h)<;>first|cases hs;done|exact⟨_,rfl⟩
 |succ n=>rcases h with h|h<;>cases h<;>first|cases hs;done|exact⟨_,rfl⟩
theorem Al.isn {F G:Hp}{d:D}{v:V}(h:Al K ct F G n d v):decide (v=.non)=d.isN:=by
 cases hs:d.sc with
 |true=>
  have:=Al.v h hs
  subst this
  cases d<;>first|rfl|cases hs
 |false=>
  obtain⟨a,rfl⟩:=h.ref hs
  cases d<;>first|rfl|cases hs
theorem Al.isb {F G:Hp}{d:D}{v:V}{b:Bool}(h:Al K ct F G n d v):decide (v=.bl b)=d.isB b:=by
 cases hs:d.sc with
 |true=>
  have:=Al.v h hs
  subst this
  cases d<;>first|rfl|(cases hs;done)|(rename_i c;cases b<;>cases c<;>rfl)
 |false=>
  obtain⟨a,rfl⟩:=h.ref hs
  cases d<;>first|rfl|cases hs
def K5:R2:=λx y H Q=>(y=.non/\Q (.bl (decide (x=.non))) H)\/∃b,y=.bl b/\Q (.bl (decide (x=.bl b))) H
def rT:R2:=λx y H Q=>(y=.non/\Q (.bl (!decide (x=.non))) H)\/∃b,y=.bl b/\Q (.bl (!decide (x=.bl b))) H
theorem Jz {X:Cx}:gh X (cF .Is) K5:=gh.or WD WV
theorem Ug {X:Cx}:gh X (cF .IsNot) rT:=gh.or US SX
theorem Jr:mj K ct n m k K5 (qO false):=by
 intro F H x y d1 d2 d Q s l1 l2 e w
 cases d2 with
 |non=>
  cases e
  refine .inl ⟨l2.non,?_⟩
  rw[l1.isn]
  exact w _ F H (.refl s) (Al.of (.bl _))
 |bl b=>
  cases e
  refine .inr ⟨b,l2.bl,?_⟩
  rw[l1.isb]
  exact w _ F H (.refl s) (Al.of (.bl _))
 |_=>cases e
theorem S7:mj K ct n m k rT (qO true):=by
 intro F H x y d1 d2 d Q s l1 l2 e w
 cases d2 with
 |non=>
  cases e
  refine .inl ⟨l2.non,?_⟩
  rw[l1.isn]
  exact w _ F H (.refl s) (Al.of (.bl _))
 |bl b=>
  cases e
  refine .inr ⟨b,l2.bl,?_⟩
  rw[l1.isb]
  exact w _ F H (.refl s) (Al.of (.bl _))
 |_=>cases e
mutual
def D.py:D->Option cT
 |.non=>some .none
 |.bl b=>some (.bool b)
 |.int i=>some (.int i)
 |.str x=>some (.str x)
 |.lst xs=>(D.pys xs).bind λys=>some (.list ys)
 |.tup xs=>(D.pys xs).bind λys=>some (.tuple ys)
 |_=>none
def D.pys:List D->Option (List cT)
 |[]=>some []
 |d::ds=>(D.py d).bind λx=>(D.pys ds).bind λxs=>some (x::xs)
end
theorem Dt.toPy {F H:Hp}(s:bL F H){d:D}{v:V}{e:cT}(h:Dt K ct F d v)(q:d.py=some e):L2.Dt K H v e:=by
 refine Dt.rec (motive_1:=λd v _=>∀e,d.py=some e->L2.Dt K H v e) (motive_2:=λds vs _=>∀es,D.pys ds=some es->L2.Dts K H vs es) ?_ ?_ ?_ ?_ ?_ ?_ ?_ ?_ ?_ ?_ ?_ ?_ ?_ h e q
 ·intro e h;rw[D.py]at h;cases h;exact .non
 ·intro b e h;rw[D.py]at h;cases h;exact .bl b
 ·intro b e h;rw[D.py]at h;cases h;exact .int b
 ·intro b e h;rw[D.py]at h;cases h;exact .str b
 ·intro _ _ _ q _ t e h
  rw[D.py]at h
  obtain⟨ys,h1,h2⟩:=aR h
  cases h2
  exact .lst (s.seq q) (t _ h1)
 ·intro _ _ _ q _ t e h
  rw[D.py]at h
  obtain⟨ys,h1,h2⟩:=aR h
  cases h2
  exact .tup (kc.of (s _ _ q)) (t _ h1)
 ·intro _ _ _ _ _ _ _ _ e h;simp only[D.py]at h;cases h
 ·intro _ _ _ _ _ _ _ _ e h;simp only[D.py]at h;cases h
 ·intro _ _ _ _ _ _ _ _ _ _ e h;simp only[D.py]at h;cases h
 ·intro _ _ _ _ e h;simp only[D.py]at h;cases h
 ·intro _ _ _ _ _ _ _ _ _ _ _ _ e h;simp only[D.py]at h;cases h
 ·intro e h;rw[D.pys]at h;cases h;exact .nil
 ·intro _ _ _ _ _ _ p t e h
  rw[D.pys]at h
  obtain⟨y,ys,h1,h2,h3⟩:=dY h
  cases h3
  exact .cons (p _ h1) (t _ h2)
theorem Pr.toPy {H:Hp}{R:D->V->Prop}(f:∀d v e,R d v->d.py=some e->L2.Dt K H v e){ds:List D}{vs:List V}{es:List cT}(h:Pr R ds vs)(e:D.pys ds=some es):L2.Dts K H vs es:=by
 induction h generalizing es with
 |nil=>rw[D.pys]at e;cases e;exact .nil
 |cons h t ih=>
  rw[D.pys]at e
  obtain⟨y,ys,h1,h2,h3⟩:=dY e
  cases h3
  exact .cons (f _ _ _ h h1) (ih h2)
theorem Al.toPy {F H:Hp}(s:bL F H){n:Nat}{d:D}{v:V}{e:cT}(h:Al K ct F H n d v)(q:d.py=some e):L2.Dt K H v e:=by
 induction n generalizing d v e with
 |zero=>exact Dt.toPy s h q
 |succ n ih=>
  cases h with
  |inl h=>exact Dt.toPy s h q
  |inr h=>
   cases h with
   |lst h t=>
    rw[D.py]at q
    obtain⟨ys,h1,h2⟩:=aR q
    cases h2
    exact .lst (fN.of h) (Pr.toPy (λ_ _ _=>ih) t h1)
   |tup h t=>
    rw[D.py]at q
    obtain⟨ys,h1,h2⟩:=aR q
    cases h2
    exact .tup (kc.of (s _ _ h)) (Pr.toPy (λ_ _ _=>ih) t h1)
   |_=>simp only[D.py]at q;cases q
def nc (a:cT):Bool:=a.canLay0&&decide (a.depth<=60)
def n6 (neg:Bool)(x y:D):Option D:=x.py.bind λa=>y.py.bind λb=>if nc a=true/\nc b=true then some (.bl (if neg then !cT.eqv a b else cT.eqv a b))else none
theorem ql {neg:Bool}:mj K ct n m k (Dh K neg) (n6 neg):=by
 intro F H x y d1 d2 d Q s l1 l2 e w
 obtain⟨a,b,h1,h2,h3⟩:=dY e
 by_cases h:nc a=true/\nc b=true
 ·rw[if_pos h]at h3
  cases h3
  have o1:=h.1
  have o2:=h.2
  unfold nc at o1 o2
  rw[bT,decide_eq_true_iff]at o1 o2
  exact⟨a,b,Al.toPy s l1 h1,Al.toPy s l2 h2,o1.1,o2.1,bH (Nat.min_le_left _ _) o1.2,w _ F H (.refl s) (Al.of (.bl _))⟩
 ·rw[if_neg h]at h3;cases h3
end
end L3
namespace L3
open PySem PySem.Spec L2
open PyProof.Rows hiding St
section
variable {K:ae}{ct:Nat->af}{n m k:Nat}{X:Cx}
theorem Pr.atI {R:D->V->Prop}{ds:List D}{vs:List V}{i:Int}{d:D}(h:Pr R ds vs)(e:atI ds i=some d):∃v,atI vs i=some v/\R d v:=by
 unfold L2.atI at e ⊢
 rw[←h.length]
 obtain⟨j,h1,h2⟩:=aR e
 obtain⟨v,h3,h4⟩:=h.get' h2
 exact⟨v,by rw[h1];exact h3,h4⟩
def sR:D->Option eA
 |.int i=>some (.inl i)
 |.str x=>some (.inr x)
 |_=>none
def mR:List D->Option (List eA)
 |[]=>some []
 |d::ds=>(sR d).bind λk=>(mR ds).bind λks=>some (k::ks)
def iA {κ:Type}[DecidableEq κ](ks:List κ)(ds:List D)(k:κ):Option D:=((ks.zip ds).find? λp=>decide (p.1=k)).map (·.2)
def RO (R:D->V->Prop):Option D->Option V->Prop
 |some d,some u=>R d u
 |none,none=>True
 |_,_=>False
theorem RO.some_of {R:D->V->Prop}{d:D}{q:Option V}(h:RO R (some d) q):∃u,q=some u/\R d u:=by
 cases q with
 |none=>exact h.elim
 |some u=>exact⟨u,rfl,h⟩
theorem RO.none_of {R:D->V->Prop}{q:Option V}(h:RO R none q):q=none:=by
 cases q with
 |none=>rfl
 |some u=>exact h.elim
theorem IV {κ:Type}[DecidableEq κ]{R:D->V->Prop}{k:κ}:∀{ks:List κ} {ds:List D} {vs:List V},Pr R ds vs->RO R (iA ks ds k) (hV (ks.zip vs) k)
 |[],_,_,_=>by simp[iA,hV,RO]
 |_::_,_,_,.nil=>by simp[iA,hV,RO]
 |y::ks,d::ds,v::vs,.cons h t=>by
  by_cases e:y=k
  ·have h1:iA (y::ks) (d::ds) k=some d:=by simp[iA,cM,e]
   have h2:hV ((y::ks).zip (v::vs)) k=some v:=by simp[hV,cM,e]
   rw[h1,h2]
   exact h
  ·have h1:iA (y::ks) (d::ds) k=iA ks ds k:=by simp[iA,cM,e]
   have h2:hV ((y::ks).zip (v::vs)) k=hV (ks.zip vs) k:=by simp[hV,cM,e]
   rw[h1,h2]
   exact IV t
theorem Js {F G:Hp}{d:D}{v:V}{k:eA}(e:sR d=some k)(h:Al K ct F G n d v):v=kV k:=by
 cases d with
 |int i=>cases e;exact h.int
 |str i=>cases e;exact h.str
 |_=>cases e
theorem MT {F G:Hp}{ds:List D}{vs:List V}{ks:List eA}(e:mR ds=some ks)(h:Pr (Al K ct F G n) ds vs):vs=ks.map kV:=by
 induction h generalizing ks with
 |nil=>cases e;rfl
 |cons h t ih=>
  unfold mR at e
  obtain⟨k,ks,h1,h2,h3⟩:=dY e
  cases h3
  rw[Js h1 h,ih h2];rfl
def ke (o y:D):Option (Option D):=match o with
 |.dK ks ds=>(sR y).bind λk=>some (iA ks ds k)
 |.dT ks ds=>(match y with|.tup ys=>(mR ys).bind λk=>some (iA ks ds k)|_=>none)
 |_=>none
theorem Jc {F G:Hp}{o y:D}{x v:V}(s:bL F G)(l1:Al K ct F G n o x)(l2:Al K ct F G m y v){r:Option D}(e:ke o y=some r) :
  ∃a q,x=.ref a/\mr G a v q/\yJ G a/\RO (Al K ct F G (n-1)) r q:=by
 cases o with
 |dK ks ds=>
  obtain⟨a,vs,rfl,ha,hl,hp⟩:=l1.dK s
  obtain⟨k,h1,h2⟩:=aR e
  cases h2
  have hv:=Js h1 l2
  subst hv
  exact⟨a,_,rfl,mr.k ha,.inl ⟨_,.inl ha⟩,IV hp⟩
 |dT ks ds=>
  obtain⟨a,vs,rfl,ha,hl,hp⟩:=l1.dT s
  cases y with
  |tup ys=>
   obtain⟨k,h1,h2⟩:=aR e
   cases h2
   obtain⟨b,us,rfl,hb,Hl⟩:=l2.tup s
   have hv:=MT h1 Hl
   subst hv
   exact⟨a,_,rfl,.inr ⟨_,_,_,ha,rfl,hb,rfl⟩,.inr ⟨_,ha⟩,IV hp⟩
  |_=>cases e
 |_=>cases e
def ip:D->D->Option D
 |.lst ds,.int i=>atI ds i
 |.tup ds,.int i=>atI ds i
 |.str x,.int i=>if x.length<=16777216 then(atI x.cps.toList i).bind λc=>some (.str ⟨#[c]⟩)else none
 |_,_=>none
theorem zO:mj K ct n m (n-1) (K6 K) ip:=by
 intro F H x y d1 d2 d Q s l1 l2 e w
 cases d1 with
 |lst ds=>
  cases d2 with
  |int i=>
   obtain⟨a,vs,rfl,ha,hp⟩:=l1.lst s
   obtain⟨v,h1,h2⟩:=hp.atI e
   exact .inl ⟨a,vs,i,v,rfl,l2.int,ha,h1,w v F H (.refl s) h2⟩
  |_=>cases e
 |tup ds=>
  cases d2 with
  |int i=>
   obtain⟨a,vs,rfl,ha,hp⟩:=l1.tup s
   obtain⟨v,h1,h2⟩:=hp.atI e
   exact .inr (.inl ⟨a,vs,i,v,rfl,l2.int,kc.of ha,h1,w v F H (.refl s) h2⟩)
  |_=>cases e
 |str z=>
  cases d2 with
  |int i=>
   unfold ip at e
   dsimp only at e
   by_cases h:z.length<=16777216
   ·rw[if_pos h]at e
    obtain⟨c,h1,h2⟩:=aR e
    cases h2
    exact .inr (.inr ⟨z,i,c,l1.str,l2.int,by rw[bu];exact h,h1,w _ F H (.refl s) (Al.of (.str _))⟩)
   ·rw[if_neg h]at e;cases e
  |_=>cases e
 |_=>cases e
theorem Vy {ms:List Mo}{o e:Expr}{f g:EF}{cN dE:cy}(hu:X.A.units+1<gW)(ho:XE X ct ms n o f)(he:XE X ct ms m e g)(h1:M1 X o "get" cN e dE):XE X ct ms (n-1) (.Call (.Attribute o "get" cN) [e] [] dE) (λρ=>(f ρ).bind λx=>(g ρ).bind λy=>(ke x y).bind λr=>some (r.getD .non)):=by
 obtain⟨ta,pa,qa⟩:=ho
 obtain⟨tb,pb,qb⟩:=he
 refine⟨_,T9 hu pa pb h1,λF0 B F H ρ σ d Q rs e w=>?_⟩
 obtain⟨d1,d2,e1,e2,e3⟩:=dY e
 obtain⟨r,e4,e5⟩:=aR e3
 cases e5
 refine qa F0 B F H ρ σ d1 _ rs e1 λx F1 H1 x1 l1=>?_
 have:∃a,x=.ref a/\yJ H1 a:=by
  cases d1 with
  |dK ks ds=>obtain⟨a,vs,rfl,ha,_⟩:=l1.dK x1.fh;exact⟨a,rfl,.inl ⟨_,.inl ha⟩⟩
  |dT ks ds=>obtain⟨a,vs,rfl,ha,_⟩:=l1.dT x1.fh;exact⟨a,rfl,.inr ⟨_,ha⟩⟩
  |_=>cases e4
 obtain⟨a,rfl,HD⟩:=this
 refine⟨a,rfl,HD,qb F0 B F1 H1 ρ σ d2 _ (rs.ext x1) e2 λy F2 H2 x2 l2=>?_⟩
 obtain⟨a',o,ea,gg,_,h⟩:=Jc (r:=r) x2.fh (l1.mono x2.ff x2.hh) l2 e4
 cases ea
 refine⟨o,gg,?_⟩
 cases r with
 |none=>rw[h.none_of];exact w _ F2 H2 (x1.trans x2) (Al.of .non)
 |some d=>obtain⟨u,rfl,EG⟩:=h.some_of;exact w _ F2 H2 (x1.trans x2) EG
theorem Vz {ms:List Mo}{o e z:Expr}{f g h:EF}{cN dE:cy}(hu:X.A.units+1<gW)(ho:XE X ct ms n o f)(he:XE X ct ms m e g)(hz:XE X ct ms (n-1) z h)(h1:M2 X o "get" cN e z dE):XE X ct ms (n-1) (.Call (.Attribute o "get" cN) [e,z] [] dE) (λρ=>(f ρ).bind λx=>(g ρ).bind λy=>(h ρ).bind λz=>(ke x y).bind λr=>some (r.getD z)):=by
 obtain⟨ta,pa,qa⟩:=ho
 obtain⟨tb,pb,qb⟩:=he
 obtain⟨tc,pc,qc⟩:=hz
 refine⟨_,Ua hu pa pb pc h1,λF0 B F H ρ σ d Q rs e w=>?_⟩
 obtain⟨d1,d2,e1,e2,e3⟩:=dY e
 obtain⟨d3,e6,e7⟩:=aR e3
 obtain⟨r,e4,e5⟩:=aR e7
 cases e5
 refine qa F0 B F H ρ σ d1 _ rs e1 λx F1 H1 x1 l1=>?_
 have:∃a,x=.ref a/\yJ H1 a:=by
  cases d1 with
  |dK ks ds=>obtain⟨a,vs,rfl,ha,_⟩:=l1.dK x1.fh;exact⟨a,rfl,.inl ⟨_,.inl ha⟩⟩
  |dT ks ds=>obtain⟨a,vs,rfl,ha,_⟩:=l1.dT x1.fh;exact⟨a,rfl,.inr ⟨_,ha⟩⟩
  |_=>cases e4
 obtain⟨a,rfl,HD⟩:=this
 refine⟨a,rfl,HD,qb F0 B F1 H1 ρ σ d2 _ (rs.ext x1) e2 λy F2 H2 x2 l2=>?_⟩
 refine qc F0 B F2 H2 ρ σ d3 _ (rs.ext (x1.trans x2)) e6 λz F3 H3 x3 l3=>?_
 have lc:=x2.trans x3
 obtain⟨a',o,ea,gg,_,h⟩:=Jc (r:=r) lc.fh (l1.mono lc.ff lc.hh) (l2.mono x3.ff x3.hh) e4
 cases ea
 refine⟨o,gg,?_⟩
 cases r with
 |none=>rw[h.none_of];exact w _ F3 H3 (x1.trans lc) l3
 |some d=>obtain⟨u,rfl,EG⟩:=h.some_of;exact w _ F3 H3 (x1.trans lc) EG
def J8:D->D->Bool
 |.non,.non=>true
 |.bl a,.bl b=>a==b
 |.bl a,.int b=>(if a then 1 else 0)==b
 |.int a,.bl b=>a==(if b then 1 else 0)
 |.int a,.int b=>a==b
 |.str a,.str b=>a==b
 |_,_=>false
theorem Xn {x y:D}(hx:x.sc=true)(hy:y.sc=true):sM x.v y.v=J8 x y:=by
 cases x<;>first|cases hx;done|(cases y<;>first|cases hy;done|rfl)
def uE (x:D)(ds:List D):Bool:=ds.any λy=>J8 y x
theorem Jx {x:D}(hx:x.sc=true):∀{ds:List D},ds.all D.sc=true->EK x.v (ds.map D.v)=uE x ds
 |[],_=>rfl
 |d::ds,h=>by
  rw[eL,bT]at h
  have ih:=Jx hx h.2
  unfold EK uE at ih ⊢
  rw[bq,d6,d6,ih,Xn h.1 hx]
theorem IW:∀{ds:List D},ds.all D.sc=true->(ds.map D.v).all jF=true
 |[],_=>rfl
 |d::ds,h=>by
  rw[eL,bT]at h
  rw[bq,eL,D.flat h.1,IW h.2];rfl
def inD (neg:Bool)(x y:D):Option D:=match y with
 |.lst ds=>if x.sc=true/\ds.all D.sc=true then some (.bl (if neg then !uE x ds else uE x ds))else none
 |.tup ds=>if x.sc=true/\ds.all D.sc=true then some (.bl (if neg then !uE x ds else uE x ds))else none
 |_=>none
theorem W8 {neg:Bool}:mj K ct n m k (K4 K neg) (inD neg):=by
 intro F H x y d1 d2 d Q s l1 l2 e w
 cases d2 with
 |lst ds=>
  unfold inD at e
  dsimp only at e
  by_cases h:d1.sc=true/\ds.all D.sc=true
  ·rw[if_pos h]at e
   cases e
   obtain⟨a,vs,rfl,ha,hp⟩:=l2.lst s
   have hv:=hp.vs h.2
   subst hv
   have hx:=Al.v l1 h.1
   subst hx
   refine⟨a,_,rfl,.inl ha,D.flat h.1,IW h.2,?_⟩
   rw[Jx h.1 h.2]
   exact w _ F H (.refl s) (Al.of (.bl _))
  ·rw[if_neg h]at e;cases e
 |tup ds=>
  unfold inD at e
  dsimp only at e
  by_cases h:d1.sc=true/\ds.all D.sc=true
  ·rw[if_pos h]at e
   cases e
   obtain⟨a,vs,rfl,ha,hp⟩:=l2.tup s
   have hv:=hp.vs h.2
   subst hv
   have hx:=Al.v l1 h.1
   subst hx
   refine⟨a,_,rfl,.inr (kc.of ha),D.flat h.1,IW h.2,?_⟩
   rw[Jx h.1 h.2]
   exact w _ F H (.refl s) (Al.of (.bl _))
  ·rw[if_neg h]at e;cases e
 |_=>cases e
def eO:List D->Option D
 |[.lst ds]=>some (.int ds.length)
 |[.tup ds]=>some (.int ds.length)
 |[.dK ks _]=>some (.int ks.length)
 |[.str x]=>if x.length<=16777216 then some (.int x.length)else none
 |_=>none
def Dn (K:ae):List V->Hp->VK->Prop:=λxs H Q=>(∃p ys,xs=[.ref p]/\(fN K H p ys\/kc K H p ys)/\Q (.int ys.length) H)\/(∃z,xs=[.str z]/\z.length<=sizeLine/\Q (.int z.length) H)\/∃a cq,xs=[V.ref a]/\H a=some (.dK cq)/\Q (.int cq.length) H
theorem S8:eI X (.builtin "len") (Dn X.K):=RN.or (RP.or SW)
theorem U4:yK K ct [n] k (Dn K) eO:=by
 intro F H vs ds d Q s l e w
 cases l with
 |cons h t=>
  cases t
  rename_i d1 v
  cases d1 with
  |lst xs=>
   cases e
   obtain⟨a,us,rfl,ha,hp⟩:=h.lst s
   refine .inl ⟨a,us,rfl,.inl ha,?_⟩
   rw[←hp.length]
   exact w _ F H (.refl s) (Al.of (.int _))
  |tup xs=>
   cases e
   obtain⟨a,us,rfl,ha,hp⟩:=h.tup s
   refine .inl ⟨a,us,rfl,.inr (kc.of ha),?_⟩
   rw[←hp.length]
   exact w _ F H (.refl s) (Al.of (.int _))
  |str x=>
   unfold eO at e
   dsimp only at e
   by_cases hz:x.length<=16777216
   ·rw[if_pos hz]at e
    cases e
    exact .inr (.inl ⟨x,by rw[h.str],by rw[bu];exact hz,w _ F H (.refl s) (Al.of (.int _))⟩)
   ·rw[if_neg hz]at e;cases e
  |dK ks xs=>
   cases e
   obtain⟨a,us,rfl,ha,hl,hp⟩:=h.dK s
   refine .inr (.inr ⟨a,_,rfl,ha,?_⟩)
   rw[eP,←hl,kL]
   exact w _ F H (.refl s) (Al.of (.int _))
  |_=>cases e
end
end L3
namespace L3
open PySem PySem.Spec L2
open PyProof.Rows hiding St
section
variable {ct:Nat->af}{K:ae}
theorem Xo {ι:Type}{Xs:ι->Cx}{ms:List Mo}{n:Nat}{e:Expr}{f:EF}(hK:∀i,(Xs i).K=K)(h:∀i,XO (Xs i) ct ms n e f):∃t,(∀i,PE (Xs i) e t)/\∀(F0 B F H:Hp) (ρ:Env) (σ:St) (d:D) (Q:VK),RS K ct F0 B ms F H ρ σ->f ρ=some d ->
  (∀v F' H' fp,ez F H F' H'->Ow K ct F' H' n d v fp->fp.Nodup->(∀a∈fp,H a=none)->Q v H')->t σ H Q:=by
 refine⟨λσ H Q=>∀i,(h i).choose σ H Q,λi ah s σ H Q I q=>(h i).choose_spec.1 ah s σ H Q I (q i),λF0 B F H ρ σ d Q rs e w i=>?_⟩
 exact(h i).choose_spec.2 F0 B F H ρ σ d Q (by rw[hK i];exact rs) e λv F' H' fp x l=>w v F' H' fp x (by rw[←hK i];exact l)
def vB (X:Cx)(ct:Nat->af)(ms:List Mo)(ifs:List Expr)(f:BF):Prop:=∃t,tQ X ifs t/\∀(F0 B F H:Hp) (ρ:Env) (σ:St) (b:Bool) (Q:Bool->Hp->Prop),RS X.K ct F0 B ms F H ρ σ->f ρ=some b->(∀F' H',ez F H F' H'->Q b H')->t σ H Q
def kd:BF:=λ_=>some true
theorem zF {X:Cx}{ms:List Mo}:vB X ct ms [] kd:=⟨_,UL,λF0 B F H ρ σ b Q rs e w=>by cases e;exact w F H (.refl rs.fh)⟩
theorem DL {X:Cx}{ms:List Mo}{c:Expr}{p:BF}(h:XT X ct ms c p):vB X ct ms [c] p:=by
 obtain⟨t,pt,qt⟩:=h
 exact⟨t,UM pt,qt⟩
theorem Xp {ι:Type}{Xs:ι->Cx}{ms:List Mo}{ifs:List Expr}{f:BF}(hK:∀i,(Xs i).K=K)(h:∀i,vB (Xs i) ct ms ifs f):∃t,(∀i,tQ (Xs i) ifs t)/\∀(F0 B F H:Hp) (ρ:Env) (σ:St) (b:Bool) (Q:Bool->Hp->Prop),RS K ct F0 B ms F H ρ σ->f ρ=some b ->
  (∀F' H',ez F H F' H'->Q b H')->t σ H Q:=by
 refine⟨λσ H Q=>∀i,(h i).choose σ H Q,λi ah s σ H Q I q=>(h i).choose_spec.1 ah s σ H Q I (q i),λF0 B F H ρ σ d Q rs e w i=>?_⟩
 exact(h i).choose_spec.2 F0 B F H ρ σ d Q (by rw[hK i];exact rs) e w
def uK {α:Type}(g:α->St->Hp->(St->Hp->Prop)->Prop):Prop:=∀v σ H Q Q',(∀σ' H',Q σ' H'->Q' σ' H')->g v σ H Q->g v σ H Q'
def sD (X:Cx)(ct:Nat->af)(ms:List Mo)(own n:Nat)(tg:Expr)(g:D->Env->Option Env):Prop:=∃t,PG X tg t/\fK own t/\uK t/\∀(F0 B F H:Hp) (ρ ρ':Env) (σ:St) (d:D) (v:V) (Q:St->Hp->Prop),RS X.K ct F0 B ms F H ρ σ->Al X.K ct F B n d v->g d ρ=some ρ' ->
 (∀σ',RS X.K ct F0 B ms F H ρ' σ'->Q σ' H)->t v σ H Q
theorem Xq {ι:Type}{Xs:ι->Cx}{ms:List Mo}{own n:Nat}{tg:Expr}{g:D->Env->Option Env}(hK:∀i,(Xs i).K=K)(h:∀i,sD (Xs i) ct ms own n tg g):∃t,(∀i,PG (Xs i) tg t)/\fK own t/\∀(F0 B F H:Hp) (ρ ρ':Env) (σ:St) (d:D) (v:V) (Q:St->Hp->Prop),RS K ct F0 B ms F H ρ σ->Al K ct F B n d v->g d ρ=some ρ' ->
  (∀σ',RS K ct F0 B ms F H ρ' σ'->Q σ' H)->t v σ H Q:=by
 refine⟨λv σ H Q=>∀i,(h i).choose v σ H Q,λi ah s σ H v u Q I r q=>(h i).choose_spec.1 ah s σ H v u Q I r (q i),λv σ H Q q i=>(h i).choose_spec.2.1 v σ H Q (q i),λF0 B F H ρ ρ' σ d v Q rs l e w i=>?_⟩
 exact(h i).choose_spec.2.2.2 F0 B F H ρ ρ' σ d v Q (by rw[hK i];exact rs) (by rw[hK i];exact l) e λσ' r=>w σ' (by rw[←hK i];exact r)
theorem Uh {X:Cx}{ms:List Mo}{own i:Nat}{x:aK}{pos:cy}(ho:i<own)(hm:ms[i]?=some (.ow 0))(hN:X.N.Nodup)(hi:X.N[i]?=some x)(hx:Loc X.env.scope x)
  (hf:X.fn x=true\/X.env.scope.names.lookup x=some .local:=by first|exact .inl rfl|exact .inr rfl|assumption):sD X ct ms own 0 (.Name x pos) (gV i):=by
 refine⟨_,MD hN hi hx hf,Sy i own ho,λv σ H Q Q' m q=>m _ _ q,λF0 B F H ρ ρ' σ d v Q rs l e w=>?_⟩
 cases e
 exact w _ (rs.set hm (.refl rs.fh) (Ow.zero l) bA λa z=>(by cases z))
def xF (own:Nat)(g:tS):Prop:=∀v σ H Q,g v σ H Q->g v σ H λσ' H'=>Q σ' H'/\σ'.length = σ.length/\∀i,own<=i->σ'[i]? = σ[i]?
def sE (X:Cx)(ct:Nat->af)(ms:List Mo)(own n:Nat)(jV:List Expr)(g:List D->Env->Option Env):Prop:=∃t,yL X jV t/\xF own t/\uK t/\(∀ds ρ ρ',g ds ρ=some ρ'->ds.length=jV.length)/\∀(F0 B F H:Hp) (ρ ρ':Env) (σ:St) (ds:List D) (vs:List V) (Q:St->Hp->Prop),RS X.K ct F0 B ms F H ρ σ->Pr (Al X.K ct F B n) ds vs->g ds ρ=some ρ' ->
 (∀σ',RS X.K ct F0 B ms F H ρ' σ'->Q σ' H)->t vs σ H Q
theorem IX {X:Cx}{ms:List Mo}{own n:Nat}:sE X ct ms own n [] gsNil:=by
 refine⟨_,ME,λv σ H Q q=>⟨q.1,q.2,rfl,λ_ _=>rfl⟩,λv σ H Q Q' m q=>⟨q.1,m _ _ q.2⟩,λds ρ ρ' e=>?_,λF0 B F H ρ ρ' σ ds vs Q rs l e w=>?_⟩
 ·cases ds with
  |nil=>rfl
  |cons d ds=>cases e
 ·cases l with
  |nil=>cases e;exact⟨rfl,w σ rs⟩
  |cons _ _=>cases e
theorem uc {X:Cx}{ms:List Mo}{own n:Nat}{tg:Expr}{jV:List Expr}{gg:D->Env->Option Env}{gs:List D->Env->Option Env}(h1:sD X ct ms own n tg gg)(h2:sE X ct ms own n jV gs)
  (hs:(cU (tg::jV) X.env).map (·.2)=iw tg X.env::(cU jV X.env).map (·.2):=by rfl):sE X ct ms own n (tg::jV) (gsCons gg gs):=by
 obtain⟨t,pt,kt,mt,qt⟩:=h1
 obtain⟨t2,pV,Pn,KM,HL,pW⟩:=h2
 refine⟨_,Md pt pV hs,λvs σ H Q q=>?_,λvs σ H Q Q' m q=>?_,λds ρ ρ' e=>?_,λF0 B F H ρ ρ' σ ds vs Q rs l e w=>?_⟩
 ·obtain⟨v,r,e,q⟩:=q
  refine⟨v,r,e,mt _ _ _ _ _ (λσ' H' z=>?_) (kt v σ H _ q)⟩
  obtain⟨z1,z2,z3⟩:=z
  refine KM _ _ _ _ _ (λσ2 H2 y=>?_) (Pn r σ' H' Q z1)
  exact⟨y.1,y.2.1.trans z2,λi hi=>(y.2.2 i hi).trans (z3 i hi)⟩
 ·obtain⟨v,r,e,q⟩:=q
  exact⟨v,r,e,mt _ _ _ _ _ (λσ' H' z=>KM _ _ _ _ _ m z) q⟩
 ·cases ds with
  |nil=>cases e
  |cons d ds=>
   obtain⟨ρ1,h3,h4⟩:=aR e
   rw[aB,aB,HL _ _ _ h4]
 ·cases l with
  |nil=>cases e
  |cons h t'=>
   obtain⟨ρ1,h3,h4⟩:=aR e
   exact⟨_,_,rfl,qt F0 B F H ρ ρ1 σ _ _ _ rs h h3 λσ1 r1=>pW F0 B F H ρ1 ρ' σ1 _ _ _ r1 t' h4 w⟩
theorem Jd {X:Cx}{ms:List Mo}{own n:Nat}{jV:List Expr}{j:Nat}{pos:cy}{gs:List D->Env->Option Env}(hc:X.calm=true)(h:sE X ct ms own (n-1) jV gs)(hl:(cU jV X.env).length=jV.length:=by rfl)(iR:(cU jV X.env).findIdx? (·.1)=none:=by rfl):sD X ct ms own n (.Tuple jV j pos) (gT gs):=by
 obtain⟨t,pt,kt,mt,lt,qt⟩:=h
 refine⟨_,Ng (n:=jV.length) hc pt hl iR,λv σ H Q q=>?_,λv σ H Q Q' m q=>?_,λF0 B F H ρ ρ' σ d v Q rs l e w=>?_⟩
 ·obtain⟨a,xs,e,h1,h2,q⟩:=q
  exact⟨a,xs,e,h1,h2,kt _ _ _ _ q⟩
 ·obtain⟨a,xs,e,h1,h2,q⟩:=q
  exact⟨a,xs,e,h1,h2,mt _ _ _ _ _ m q⟩
 cases d with
 |tup ds=>
  have:∃a vs,v=.ref a/\kc X.K H a vs/\Pr (Al X.K ct F B (n-1)) ds vs:=by
   cases n with
   |zero=>
    have l:Dt X.K ct F (.tup ds) v:=l
    cases l with
    |tup q t=>exact⟨_,_,rfl,kc.of (rs.fh _ _ q),t.pr⟩
   |succ n=>
    rcases l with l|l
    ·cases l with
     |tup q t=>exact⟨_,_,rfl,kc.of (rs.fh _ _ q),t.pr.mono λ_ _=>Al.of⟩
    ·cases l with
     |tup q t=>exact⟨_,_,rfl,kc.of (rs.fh _ _ q),t⟩
  obtain⟨a,vs,rfl,ha,hp⟩:=this
  exact⟨a,vs,rfl,ha,hp.length.symm.trans (lt _ _ _ e),qt F0 B F H ρ ρ' σ ds vs Q rs hp e w⟩
 |_=>cases e
def gA (ρ:Env)(cap:List Nat):Env:=cap.map λi=>(ρ[i]?).join
def gB (ms:List Mo)(cap:List Nat):List Mo:=cap.map λi=>.al (((ms[i]?).map Mo.lv).getD 0)
def mP (g:D->Env->Option Env)(p:BF)(f:EF)(ρ0:Env):List D->Option (List D)
 |[]=>some []
 |d::ds=>(g d ρ0).bind λρ1=>(p ρ1).bind λb=>if b=true then(f ρ1).bind λy=>(mP g p f ρ0 ds).bind λys=>some (y::ys)else mP g p f ρ0 ds
def fD (fi:Env->Option (List D))(own:Nat)(cap:List Nat)(g:D->Env->Option Env)(p:BF)(f:EF):EF:=λρ=>(fi ρ).bind λds=>if ds.length<=16777216 then(mP g p f (aC own none++gA ρ cap) ds).bind λys=>some (.lst ys)else none
theorem SL.caps {F B H:Hp}{ms:List Mo}{ρ:Env}{σ:St}(rs:RS K ct F0 B ms F H ρ σ):∀{cap:List Nat},(∀i∈cap,i<ms.length)->SL K ct F H H (gB ms cap) (gA ρ cap) (fJ σ cap) []
 |[],_=>.nil
 |i::cap,h=>by
  have ih:=SL.caps rs (cap:=cap) λj hj=>h j (ao _ hj)
  have hi:i<ms.length:=h i am
  have hm:ms[i]?=some ms[i]:=by simp[hi]
  show SL K ct F H H (.al (((ms[i]?).map Mo.lv).getD 0)::gB ms cap) ((ρ[i]?).join::gA ρ cap) ((σ[i]?).join::fJ σ cap) []
  cases e:(ρ[i]?).join with
  |none=>exact .no ih
  |some d=>
   obtain⟨v,hv,l⟩:=rs.get hm (wb e)
   rw[hv,hm]
   exact .al l ih
theorem SL.nones {F B H:Hp}{ms HM:List Mo}{ρ:Env}{σ:St}{fp:List af}(t:SL K ct F B H ms ρ σ fp):∀{om:List Mo},SL K ct F B H (om++ms) (aC om.length none ++ ρ) (aC om.length none ++ σ) fp
 |[]=>t
 |m::om=>.no (SL.nones (HM:=HM) t)
theorem Ml {X:Cx}{ms om:List Mo}{n k:Nat}{iQ iter tg:Expr}{ifs:List Expr}{scope:eZ}{pos:cy}{N:List aK}{own:Nat}{cap:List Nat}{fi:Env->Option (List D)}{gg:D->Env->Option Env}{p:BF}{f:EF}
  (B:jZ X scope N own cap) (hc:X.calm=true) (ho:om.length=own) (i6:∀i∈cap,i<ms.length) (hi:XIc X ct ms n tg iter fi)
  (hg:∀cl C fp s₀ H₀,sD (g0 X scope cl N C fp s₀ H₀) ct (om++gB ms cap) own n tg gg) (ht:∀cl C fp s₀ H₀,vB (g0 X scope cl N C fp s₀ H₀) ct (om++gB ms cap) ifs p) (he:∀cl C fp s₀ H₀,XO (g0 X scope cl N C fp s₀ H₀) ct (om++gB ms cap) k iQ f)
  :
  ∃wi g tt te,PI X tg iter wi/\fK own g/\(∀cl C fp s₀ H₀,PG (g0 X scope cl N C fp s₀ H₀) tg g)/\(∀cl C fp s₀ H₀,tQ (g0 X scope cl N C fp s₀ H₀) ifs tt)/\(∀cl C fp s₀ H₀,PE (g0 X scope cl N C fp s₀ H₀) iQ te) /\
   ∀(F0 B F H:Hp) (ρ:Env) (σ:St) (d:D) (Q:VK),RS X.K ct F0 B ms F H ρ σ->fD fi own cap gg p f ρ=some d->(∀v F' H' fp,ez F H F' H'->Ow X.K ct F' H' (k+1) d v fp->fp.Nodup->(∀a∈fp,H a=none)->Q v H')->o9 wi own cap g tt te σ H Q:=by
 obtain⟨wi,pi,qi⟩:=hi
 obtain⟨Ld,pg,kg,qg⟩:=Xq (K:=X.K) (Xs:=λz:List (aK×af)×af×List af×ai×Hp=>g0 X scope z.1 N z.2.1 z.2.2.1 z.2.2.2.1 z.2.2.2.2) (λ_=>rfl) (λz=>hg z.1 z.2.1 z.2.2.1 z.2.2.2.1 z.2.2.2.2)
 obtain⟨tt,pt,qt⟩:=Xp (K:=X.K) (Xs:=λz:List (aK×af)×af×List af×ai×Hp=>g0 X scope z.1 N z.2.1 z.2.2.1 z.2.2.2.1 z.2.2.2.2) (λ_=>rfl) (λz=>ht z.1 z.2.1 z.2.2.1 z.2.2.2.1 z.2.2.2.2)
 obtain⟨te,pe,qe⟩:=Xo (K:=X.K) (Xs:=λz:List (aK×af)×af×List af×ai×Hp=>g0 X scope z.1 N z.2.1 z.2.2.1 z.2.2.2.1 z.2.2.2.2) (λ_=>rfl) (λz=>he z.1 z.2.1 z.2.2.1 z.2.2.2.1 z.2.2.2.2)
 refine⟨wi,Ld,tt,te,pi,kg,(λcl C fp s₀ H₀=>pg (cl,C,fp,s₀,H₀)),(λcl C fp s₀ H₀=>pt (cl,C,fp,s₀,H₀)),(λcl C fp s₀ H₀=>pe (cl,C,fp,s₀,H₀)),λF0 B F H ρ σ r Q rs e w=>?_⟩
 obtain⟨ds,h1,h2⟩:=aR e
 by_cases hz:ds.length<=16777216
 case neg=>rw[if_neg hz]at h2;cases h2
 rw[if_pos hz]at h2
 obtain⟨ys,h3,h4⟩:=aR h2
 cases h4
 refine qi F0 B F H ρ σ ds _ rs h1 λJ F1 H1 x1 ok A hA=>?_
 have mD:=rs.ext x1
 refine⟨λi m us H2=>m=ds.length-i/\i<=ds.length/\us.length<=i/\H2 A=some (.lst us)/\∃F2 yd zd fp,ez F1 H1 F2 H2/\F2 A=none/\eJ (Ow X.K ct F2 H2 k) yd us fp/\fp.Nodup/\(∀a∈fp,H1 a=none/\a≠A)/\mP gg p f (aC own none++gA ρ cap) (ds.drop i)=some zd/\yd++zd=ys,
  ⟨ds.length,rfl,dh _,aH _,zm,F1,[],ys,[],ez.newO x1.fh hA _,x1.fh.free hA,.nil,bA,λa z=>(by cases z),h3,rfl⟩,?_⟩
 rintro i m us H2 ⟨rfl,OY,Pe,Eo,F2,yd,zd,fp,x2,fA,ol,nd,hf,jP,EJ⟩
 refine⟨Eo,?_⟩
 have Qt:=mD.ext x2
 obtain⟨k1,k2⟩:=ok i F2 H2 x2.ff x2.hh x2.fh
 by_cases ml:i<ds.length
 ·right
  have hd:ds[i]?=some ds[i]:=by simp[ml]
  obtain⟨go,yl⟩:=k1 _ hd
  rw[mH ml]at jP
  obtain⟨ρ1,h5,h6⟩:=aR jP
  obtain⟨b,h7,h8⟩:=aR h6
  refine⟨go,by rw[bu];omega,λx H3 y=>?_⟩
  obtain⟨F3,x3,l⟩:=yl x H3 y
  have Qu:=Qt.ext x3
  have sl:=SL.nones (HM:=[]) (SL.caps Qu i6) (om:=om)
  rw[ho]at sl
  have Qv:RS X.K ct F3 H3 (om++gB ms cap) F3 H3 (aC own none++gA ρ cap) (aC own none++fJ σ cap):=⟨.refl _,.refl _,x3.fh,λ_ _ _ _ h=>h,[],sl,bA,λa z=>(by cases z)⟩
  have A3:H3 A=some (.lst us):=x3.hh _ _ Eo
  have Ka:F3 A=none:=x3.nf A _ Eo nofun fA
  refine qg F3 H3 F3 H3 _ ρ1 _ _ x _ Qv (l.mono (.refl _) (x2.trans x3).hh) h5 λσ1 r1=>?_
  refine qt F3 H3 F3 H3 ρ1 σ1 b _ r1 h7 λF4 H4 x4=>?_
  cases b with
  |false=>
   rw[if_neg aD]at h8 ⊢
   have Li:=x3.trans x4
   refine⟨ds.length-(i+1),by omega,rfl,ml,by omega,x4.hh _ _ A3,F4,yd,zd,fp,x2.trans Li,x4.nf A _ A3 nofun Ka,ol.mono λ_ _ _ _ o=>o.ext Li,nd,hf,h8,EJ⟩
  |true=>
   rw[if_pos rfl]at h8 ⊢
   obtain⟨yv,h9,OF⟩:=aR h8
   obtain⟨zs,OG,OH⟩:=aR OF
   cases OH
   refine qe F3 H3 F4 H4 ρ1 σ1 yv _ (r1.ext x4) h9 λv F5 H5 f5 x5 o5 n5 G3=>?_
   have Ir:=(x3.trans x4).trans x5
   have Lj:=x4.trans x5
   have A5:H5 A=some (.lst us):=Lj.hh _ _ A3
   have Kb:F5 A=none:=Lj.nf A _ A3 nofun Ka
   have A4:H4 A=some (.lst us):=x4.hh _ _ A3
   have Ke:∀a∈f5,a≠A:=λa z e=>by rw[e]at z;rw[G3 A z]at A4;cases A4
   refine⟨A5,ds.length-(i+1),by omega,rfl,ml,by rw[aV,fL];omega,zm,F5,yd++[yv],zs,fp++(f5++[]),?_,Kb,?_,?_,?_,OG,by rw[fq];exact EJ⟩
   ·have E4:=x2.trans Ir
    refine⟨E4.ff,λa o h=>?_,λa o h=>?_,E4.nf⟩
    ·rw[zg (zk h hA)];exact E4.hh _ _ h
    ·rw[zg (λz=>by rw[z]at h;rw[Kb]at h;cases h)];exact E4.fh _ _ h
   ·refine(ol.mono λ_ _ f OU o=>?_).append (.cons ?_ .nil)
    ·refine(o.ext Ir).frame (.refl _) λa z=>⟨zg (hf a (OU a z)).2,((o.ext Ir).cells a z).1⟩
    ·exact o5.frame (.refl _) λa z=>⟨zg (Ke a z),(o5.cells a z).1⟩
   ·rw[bX]
    refine aX.mpr ⟨nd,n5,λa z c hc e=>?_⟩
    subst e
    have:∃o,H2 a=some o:=let⟨o,h,_⟩:=(eJ.cellsOf ol a z).2;⟨o,h⟩
    obtain⟨o,ho⟩:=this
    have:=x4.hh _ _ (x3.hh _ _ ho)
    rw[G3 a hc]at this
    cases this
   ·intro a z
    rw[bX]at z
    rcases bj.mp z with z|z
    ·exact hf a z
    ·refine⟨?_,Ke a z⟩
     have Rh:=x2.trans (x3.trans x4)
     exact Rh.hh.free (G3 a z)
 ·left
  refine⟨k2 (by omega),?_⟩
  have:ds.drop i=[]:=ny (by omega)
  rw[this]at jP
  cases jP
  rw[bX]at EJ
  subst EJ
  refine w _ F2 H2 (A::fp) (x1.trans x2) (.inr (.lst fA Eo ol)) (bz.mpr ⟨λz=>(hf A z).2 rfl,nd⟩) λa z=>?_
  rcases az.mp z with rfl|z
  ·exact x1.hh.free hA
  ·exact x1.hh.free (hf a z).1
theorem U5 {X:Cx}{ms om:List Mo}{n k:Nat}{iQ iter tg:Expr}{ifs:List Expr}{scope:eZ}{pos:cy}{N:List aK}{own:Nat}{cap:List Nat}{fi:Env->Option (List D)}{gg:D->Env->Option Env}{p:BF}{f:EF}
  (B:jZ X scope N own cap) (hc:X.calm=true) (ho:om.length=own) (i6:∀i∈cap,i<ms.length) (hi:XIc X ct ms n tg iter fi)
  (hg:∀cl C fp s₀ H₀,sD (g0 X scope cl N C fp s₀ H₀) ct (om++gB ms cap) own n tg gg) (ht:∀cl C fp s₀ H₀,vB (g0 X scope cl N C fp s₀ H₀) ct (om++gB ms cap) ifs p) (he:∀cl C fp s₀ H₀,XO (g0 X scope cl N C fp s₀ H₀) ct (om++gB ms cap) k iQ f)
  (hs:∀x,dg iter X.env x=pure x:=by intro _;rfl):XO X ct ms (k+1) (.ListComp iQ [⟨tg,iter,ifs,0⟩] scope pos) (fD fi own cap gg p f):=by
 obtain⟨wi,g,tt,te,pi,kg,pg,pt,pe,q⟩:=Ml (k:=k) (pos:=pos) B hc ho i6 hi hg ht he
 exact⟨_,Vd B hc pi kg pg pt pe hs,q⟩
end
end L3
namespace L3
open PySem PySem.Spec L2
open PyProof.Rows hiding St
section
variable {X:Cx}{ct:Nat->af}{ms:List Mo}{rk n m k:Nat}{st:bI}{rest:List bI}{a b c e tg:Expr}{f g h:EF}{p q:BF}{u w:SF}{pos:cy}
def D6:D->Option (List D)
 |.lst ds=>some ds
 |_=>none
theorem Mm {d:D}{ds:List D}(h:D6 d=some ds):d=.lst ds:=by cases d<;>simp[D6]at h;subst h;rfl
def lsD (f:EF):Env->Option (List D):=λρ=>(f ρ).bind D6
theorem Nb {K:ae}{F B G:Hp}{a:af}{vs:List V}{ds:List D}(hp:Pr (Al K ct F B n) ds vs)(keep:∀F' H',bL F F'->bL B H'->bL F' H'->fN K H' a vs):qW K ct F B n (FA K a) ds:=by
 intro i F' H' s1 s2 s3
 have hs:fN K H' a vs:=keep F' H' s1 s2 s3
 refine⟨λd hd=>?_,λhl=>⟨vs,hs,by rw[←hp.length];exact hl⟩⟩
 obtain⟨v,hv,l⟩:=hp.get' hd
 refine⟨⟨vs,v,hs,hv⟩,λx H2 y=>?_⟩
 obtain⟨e,y⟩:=y
 subst e
 have:=y vs hs
 rw[hv]at this
 cases this
 exact⟨F',.refl s3,l.mono s1 (.refl _)⟩
theorem Dt.lst_inv {K:ae}{F:Hp}{ds:List D}{v:V}(h:Dt K ct F (.lst ds) v):∃a vs,v=.ref a/\fN K F a vs/\Dts K ct F ds vs:=by
 cases h with
 |lst q t=>exact⟨_,_,rfl,q,t⟩
theorem vi (he:XE X ct ms 0 e f):XI X ct ms 0 tg e (lsD f):=by
 obtain⟨t,pt,qt⟩:=he
 refine⟨_,MF pt,λF0 B F H ρ σ ds R rs e w=>?_⟩
 obtain⟨d,h1,h2⟩:=aR e
 rw[Mm h2]at h1
 refine qt F0 B F H ρ σ _ _ rs h1 λv F' H' x l=>?_
 obtain⟨a,vs,rfl,ha,hp⟩:=Dt.lst_inv l
 exact⟨a,rfl,⟨vs,x.fh.seq ha⟩,w _ F' H' x (Nb (G:=H') (n:=0) (hp.pr) λF2 H2 s1 s2 s3=>s3.seq (s1.seq ha))⟩
theorem IY (he:XE X ct ms n e f):XIc X ct ms (n-1) tg e (lsD f):=by
 obtain⟨t,pt,qt⟩:=he
 refine⟨_,MF pt,λF0 B F H ρ σ ds R rs e w=>?_⟩
 obtain⟨d,h1,h2⟩:=aR e
 rw[Mm h2]at h1
 refine qt F0 B F H ρ σ _ _ rs h1 λv F' H' x l=>?_
 obtain⟨a,vs,rfl,ha,hp⟩:=l.lst x.fh
 exact⟨a,rfl,⟨vs,ha⟩,w _ F' H' x (Nb (G:=H') hp λF2 H2 s1 s2 s3=>s2.seq ha)⟩
theorem XI.cc {fi:Env->Option (List D)}(h:XI X ct ms n tg e fi):XIc X ct ms n tg e fi:=by
 obtain⟨t,pt,qt⟩:=h
 refine⟨t,pt,λF0 B F H ρ σ ds R rs e w=>qt F0 B F H ρ σ ds R rs e λJ F' H' x ok=>w J F' H' x λi F2 H2 s1 s2 s3=>?_⟩
 obtain⟨k1,k2⟩:=ok i F2 H2 s1 ((rs.ext x).bh.trans s2) s3
 refine⟨λd hd=>?_,k2⟩
 obtain⟨go,yl⟩:=k1 d hd
 refine⟨go,λv H3 y=>?_⟩
 obtain⟨F3,x3,l⟩:=yl v H3 y
 exact⟨F3,x3,l.mono (.refl _) (rs.ext x).bh⟩
def kG (lo:Int)(j:Nat):List D:=(bC j).map λ(t:Nat)=>.int (lo+(t:Int))
def i8:List D->Option (List D)
 |[.int j]=>if -4611686018427387904<=j/\j<4611686018427387904 then some (kG 0 j.toNat)else none
 |_=>none
theorem W9 {K:ae}{F B:Hp}{lo:Int}{j:Nat}:qW K ct F B n (DX lo j) (kG lo j):=by
 intro i F' H' s1 s2 s3
 unfold kG
 refine⟨λd hd=>?_,λhl=>(show j<=i by simpa using hl)⟩
 rw[bn]at hd
 by_cases h:i<j
 ·rw[dJ h]at hd
  cases hd
  refine⟨h,λx H2 y=>?_⟩
  obtain⟨e,y⟩:=y
  subst e
  subst y
  exact⟨F',.refl s3,Al.of (.int _)⟩
 ·rw[di (by simpa using h)]at hd
  cases hd
theorem vk {fs:Env->Option (List D)}{pp:cy}(hm:X.mg "range"=none)(ha:XA X ct ms [a] [m] fs)(hg:Gl X "range":=by rfl)(hs:ap [a] X.env=[(false,bB a X.env)]:=by rfl):XI X ct ms n tg (.Call (.Name "range" pp) [a] [] pos) (λρ=>(fs ρ).bind i8):=by
 obtain⟨t,pt,_,qt⟩:=ha
 refine⟨_,SK hg hm pt hs,λF0 B F H ρ σ ds R rs e w=>?_⟩
 obtain⟨pP,h1,h2⟩:=aR e
 refine qt F0 B F H ρ σ _ _ rs h1 λvs F' H' x l=>?_
 cases l with
 |cons h t=>
  cases t
  rename_i d v
  cases d with
  |int j=>
   unfold i8 at h2
   dsimp only at h2
   by_cases hj:-4611686018427387904<=j/\j<4611686018427387904
   ·rw[if_pos hj]at h2
    cases h2
    exact⟨j,by rw[h.int],by omega,by omega,w _ F' H' x W9⟩
   ·rw[if_neg hj]at h2;cases h2
  |_=>cases h2
def eD (i:Nat):List D->List D
 |[]=>[]
 |d::ds=>.tup [.int i,d]::eD (i+1) ds
theorem ID:∀{ds:List D} {j i:Nat} {d:D},(eD j ds)[i]?=some d->∃x,ds[i]?=some x/\d=.tup [.int (j+i:Nat),x]
 |[],_,_,_,h=>by simp[eD]at h
 |x::ds,j,0,d,h=>by simp[eD]at h;subst h;exact⟨x,rfl,rfl⟩
 |x::ds,j,i+1,d,h=>by
  obtain⟨y,h1,h2⟩:=ID (ds:=ds) (j:=j+1) (i:=i) (d:=d) (by simpa[eD]using h)
  exact⟨y,by simpa using h1,by rw[h2,Nat.add_assoc,Nat.add_comm 1 i]⟩
theorem LX:∀{ds:List D} {j:Nat},(eD j ds).length=ds.length
 |[],_=>rfl
 |_::ds,j=>by simp[eD,LX (ds:=ds)]
theorem Nc {K:ae}{F B:Hp}{a:af}{vs:List V}{ds:List D}(hp:Pr (Al K ct F B n) ds vs)(keep:∀F' H',bL F F'->bL B H'->bL F' H'->fN K H' a vs):qW K ct F B (n+1) (Fz K a) (eD 0 ds):=by
 intro i F' H' s1 s2 s3
 have hs:fN K H' a vs:=keep F' H' s1 s2 s3
 refine⟨λd hd=>?_,λhl=>⟨vs,hs,by rw[←hp.length];rw[LX]at hl;exact hl⟩⟩
 obtain⟨x,hx,rfl⟩:=ID hd
 obtain⟨v,hv,l⟩:=hp.get' hx
 refine⟨⟨vs,v,hs,hv⟩,λz H2 y=>?_⟩
 obtain⟨r,y',hr,rfl,rfl,y⟩:=y
 have:=y vs hs
 rw[hv]at this
 cases this
 refine⟨_,ez.newS s3 hr _,.inr (.tup zm (.cons (Al.of ?_) (.cons (l.mono (s1.trans (vw (s3.free hr) _)) (.refl _)) .nil)))⟩
 rw[nU]
 exact .int _
theorem U6 {fs:Env->Option (List D)}{m8:List Expr}{kt:Nat}{pt pp:cy}(hm:X.mg "enumerate"=none)(ha:XA X ct ms [a] [0] fs)(hg:Gl X "enumerate":=by rfl)(hs:ap [a] X.env=[(false,bB a X.env)]:=by rfl) :
  XI X ct ms 1 (.Tuple m8 kt pt) (.Call (.Name "enumerate" pp) [a] [] pos) (λρ=>(fs ρ).bind λds=>match ds with|[.lst xs]=>some (eD 0 xs)|_=>none):=by
 obtain⟨t,pt,_,qt⟩:=ha
 refine⟨_,MA hg hm pt hs,λF0 B F H ρ σ ds R rs e w=>?_⟩
 obtain⟨pP,h1,h2⟩:=aR e
 refine qt F0 B F H ρ σ _ _ rs h1 λvs F' H' x l=>?_
 cases l with
 |cons h t=>
  cases t
  rename_i d v
  cases d with
  |lst xs=>
   cases h2
   obtain⟨a,vs,rfl,ha,hp⟩:=Dt.lst_inv h
   exact⟨a,rfl,⟨vs,x.fh.seq ha⟩,w _ F' H' x (Nc (n:=0) hp.pr λF2 H2 s1 s2 s3=>s3.seq (s1.seq ha))⟩
  |_=>cases h2
theorem IH {fs:Env->Option (List D)}{m8:List Expr}{kt:Nat}{pt pp:cy}(hm:X.mg "enumerate"=none)(ha:XA X ct ms [a] [n] fs)(hg:Gl X "enumerate":=by rfl)(hs:ap [a] X.env=[(false,bB a X.env)]:=by rfl) :
  XIc X ct ms (n-1+1) (.Tuple m8 kt pt) (.Call (.Name "enumerate" pp) [a] [] pos) (λρ=>(fs ρ).bind λds=>match ds with|[.lst xs]=>some (eD 0 xs)|_=>none):=by
 obtain⟨t,pt,_,qt⟩:=ha
 refine⟨_,MA hg hm pt hs,λF0 B F H ρ σ ds R rs e w=>?_⟩
 obtain⟨pP,h1,h2⟩:=aR e
 refine qt F0 B F H ρ σ _ _ rs h1 λvs F' H' x l=>?_
 cases l with
 |cons h t=>
  cases t
  rename_i d v
  cases d with
  |lst xs=>
   cases h2
   obtain⟨a,vs,rfl,ha,hp⟩:=h.lst x.fh
   exact⟨a,rfl,⟨vs,ha⟩,w _ F' H' x (Nc hp λF2 H2 s1 s2 s3=>s2.seq ha)⟩
  |_=>cases h2
end
end L3
namespace L3
open PySem PySem.Spec L2
open PyProof.Rows hiding St
section
variable {X:Cx}{ct:Nat->af}{ms:List Mo}{rk n m k:Nat}{st:bI}{rest:List bI}{a b c e tg:Expr}{f g h:EF}{p q:BF}{u w:SF}{pos:cy}
theorem Ow.lst_inv {K:ae}{F H:Hp}{ds:List D}{v:V}{fp:List af}(h:Ow K ct F H (k+1) (.lst ds) v fp):∃a vs fr,v=.ref a/\fp=a::fr/\F a=none/\H a=some (.lst vs)/\eJ (Ow K ct F H k) ds vs fr:=by
 rcases h with⟨h,_⟩|h
 ·cases h
 ·cases h with
  |lst h1 h2 h3=>exact⟨_,_,_,rfl,rfl,h1,h2,h3⟩
theorem Ow.dK_inv {K:ae}{F H:Hp}{ks:List eA}{ds:List D}{v:V}{fp:List af}(h:Ow K ct F H (k+1) (.dK ks ds) v fp):∃a vs fr,v=.ref a/\fp=a::fr/\F a=none/\H a=some (.dK (ks.zip vs))/\ks.length=vs.length/\eJ (Ow K ct F H k) ds vs fr:=by
 rcases h with⟨h,_⟩|h
 ·cases h
 ·cases h with
  |dK h1 h2 h3 h4=>exact⟨_,_,_,rfl,rfl,h1,h2,h3,h4⟩
theorem Ow.dT_inv {K:ae}{F H:Hp}{ks:List (List eA)}{ds:List D}{v:V}{fp:List af}(h:Ow K ct F H (k+1) (.dT ks ds) v fp):∃a vs fr,v=.ref a/\fp=a::fr/\F a=none/\H a=some (.dT (ks.zip vs))/\ks.length=vs.length/\eJ (Ow K ct F H k) ds vs fr:=by
 rcases h with⟨h,_⟩|h
 ·cases h
 ·cases h with
  |dT h1 h2 h3 h4=>exact⟨_,_,_,rfl,rfl,h1,h2,h3,h4⟩
theorem RS.change {K:ae}{F0 B F H F' H':Hp}{ρ:Env}{σ:St}{i:Nat}{d':D}{v:V}{f1 fr fn:List af}{ad:af}{o:HO}(rs:RS K ct F0 B ms F H ρ σ)(hm:ms[i]?=some (.ow k))(x:ez F H F' H')
  (hσ:σ[i]?=some (some v)) (b1:∀a∈f1,B a=none) (dj:∀a∈f1,a∉fr) (cf:∀a∈fr,F a=none/\∃o,H a=some o/\jM o)
  (put:∀(F' H':Hp) (d':D) (v':V) (f':List af),bL F F'->bL B H'->bL F' H'->(∀a o,B a=some o->jM o->F0 a=none->F' a=none)->(∀a∈fr,H' a=H a/\F' a=none)->Ow K ct F' H' k d' v' f'->f'.Nodup->(∀a∈f',a∉fr)->(∀a∈f',B a=none) ->
    RS K ct F0 B ms F' H' (ρ.set i (some d')) (σ.set i (some v')))
  (Es:ad∈f1) (Oy:F' ad=none) (o':Ow K ct F' (upd H' ad o) k d' v fn) (nd:fn.Nodup) (qM:∀a∈fn,a∈f1\/H a=none):RS K ct F0 B ms F' (upd H' ad o) (ρ.set i (some d')) σ:=by
 have r:=rs.ext x
 have hB:B ad=none:=b1 ad Es
 have res:=put F' (upd H' ad o) d' v fn x.ff (λz u h=>by rw[zg (λe=>by rw[e,hB]at h;cases h)];exact r.bh _ _ h) (λz u h=>by rw[zg (λe=>by rw[e,Oy]at h;cases h)];exact x.fh _ _ h) r.nf
  (λz hz=>by
   obtain⟨hn,o,ho,nt⟩:=cf z hz
   refine⟨?_,x.nf z o ho nt hn⟩
   have ne:z≠ad:=λe=>dj ad Es (by rw[←e];exact hz)
   rw[zg ne]
   exact(x.hh _ _ ho).trans ho.symm) o' nd
  (λz hz zr=>by
   rcases qM z hz with h|h
   ·exact dj z h zr
   ·obtain⟨_,o,ho,nt⟩:=cf z zr
    rw[h]at ho
    cases ho)
  (λz hz=>(qM z hz).elim (b1 z) λh=>rs.bh.free h)
 have e:σ.set i (some v) = σ:=by
  apply gN
  intro j
  by_cases hj:i=j
  ·subst hj
   rw[df (by
    have:=aS.mp hσ
    exact this.1),hσ]
  ·rw[et hj]
 rw[e]at res
 exact res
def sApp (i:Nat)(f:EF):SF:=λρ=>(eV i ρ).bind λo=>(f ρ).bind λd=>match o with
 |.lst ds=>if ds.length<16777216 then some (.nx (ρ.set i (some (.lst (ds++[d])))))else none
 |_=>none
theorem ud (i:Nat){x:aK}{p1 cN dE:cy}(hm:ms[i]?=some (.ow (k+1)))(he:XO X ct ms k e f)(hN:X.N[i]?=some x:=by rfl)(hv:qZ X.env.scope x:=by first|exact Or.inl rfl|exact Or.inr (Or.inl rfl)|exact Or.inr (Or.inr rfl))(hd:(x==("__debug__":aK))=false:=by decide)
  (jP:(x==("__classdict__":aK))=false:=by decide) (iR:ap [e] X.env=(false,bB e X.env)::ap [] X.env:=by rfl)
  (rj:dP (.Name x p1) "append" X.env (bB (.Name x p1) X.env)=bB (.Name x p1) X.env:=by rfl)
  (wO:((bZ dE (ap [e] X.env)).all (λx=>!x.1)&&(eK dE (dc [] X.env)).all (λx=>x.1.isSome)
   && decide ([e].length+([]:List ij).length+(if([]:List ij).isEmpty then 0 else 1)<30))=true:=by rfl)
  (rE:(cN.endLine==dE.line)=true:=by rfl) (oJ:(bZ dE (ap [] X.env)).any (·.1)=false:=by rfl)
  (xB:dI (.Call (.Attribute (.Name x p1) "append" cN) [e] [] dE) none pos.line X.env=pure false:=by rfl) :
  XS X ct ms rk (.Expr (.Call (.Attribute (.Name x p1) "append" cN) [e] [] dE) pos) (sApp i f):=by
 obtain⟨t,pt,qt⟩:=he
 refine⟨_,Fd (X1 PySem.F.plainAttrs_list PySem.F.slot_list_append PySem.F.type_list_append Iz (uv hN hv hd jP) (xn pt uw iR) rj wO rE iR oJ) xB,λF0 B F H ρ σ o E rs e z=>?_⟩
 obtain⟨d1,d2,h1,h2,h3⟩:=dY e
 obtain⟨f1,fr,n1,b1,dj,i4,cf,put⟩:=rs.put (F':=F) (H':=H) hm
 obtain⟨v,hσ,ow⟩:=i4 d1 (wb h1)
 refine⟨v,hσ,?_⟩
 cases d1 with
 |lst ds=>
  dsimp only at h3
  by_cases hz:ds.length<16777216
  ·rw[if_pos hz]at h3
   cases h3
   obtain⟨ad,vs,wG,rfl,rfl,hF,hH,ol⟩:=ow.lst_inv
   refine⟨.inl ⟨rfl,_,fN.of hH⟩,qt F0 B F H ρ σ d2 _ rs h2 λv2 F' H' fp x1 o2 Pp G2=>?_⟩
   have hA:H' ad=some (.lst vs):=x1.hh _ _ hH
   have fA:F' ad=none:=x1.nf ad _ hH nofun hF
   have nA:∀a∈fp,a≠ad:=λa hz e=>by rw[e]at hz;rw[G2 ad hz]at hH;cases hH
   have zB:=bz.mp n1
   refine⟨ad,vs,v2,rfl,rfl,hA,by rw[←ol.length,bu];exact hz,?_⟩
   refine z σ F' _ (rs.change hm x1 hσ b1 dj cf put am fA (.inr (.lst fA zm ((ol.mono λ_ _ f' hi o'=>?_).append (.cons (f:=fp) ?_ .nil)))) (fn:=ad::(wG++(fp++[]))) ?_ ?_)
   ·refine(o'.ext x1).frame (.refl _) λa ha=>⟨zg λe=>zB.1 (e▸hi a ha),((o'.ext x1).cells a ha).1⟩
   ·exact o2.frame (.refl _) λa ha=>⟨zg (nA a ha),(o2.cells a ha).1⟩
   ·rw[bX]
    refine bz.mpr ⟨λhz=>?_,aX.mpr ⟨zB.2,Pp,λa ha b hb e=>?_⟩⟩
    ·rcases bj.mp hz with hz|hz
     ·exact zB.1 hz
     ·exact nA ad hz rfl
    ·subst e
     obtain⟨_,o,ho,_⟩:=eJ.cellsOf ol a ha
     rw[G2 a hb]at ho
     cases ho
   ·intro a ha
    rw[bX]at ha
    rcases az.mp ha with rfl|ha
    ·exact .inl am
    ·rcases bj.mp ha with ha|ha
     ·exact .inl (ao _ ha)
     ·exact .inr (G2 a ha)
  ·rw[if_neg hz]at h3;cases h3
 |_=>cases h3
def lW (ds:List D)(i:Int)(d:D):Option (List D):=(ixN ds.length i).bind λj=>some (ds.set j d)
def fS {κ:Type}[DecidableEq κ](ks:List κ)(ds:List D)(k:κ)(d:D):List κ×List D:=if ks.contains k=true then(ks,(ks.zip ds).map λp=>if p.1=k then d else p.2)else(ks++[k],ds++[d])
theorem eJ.set0 {R:D->V->List af->Prop}{d:D}{v:V}(r:R d v [])(z:∀d v f,R d v f->f=[]):∀{ds:List D} {vs:List V} {fp:List af} (i:Nat),eJ R ds vs fp->eJ R (ds.set i d) (vs.set i v) []
 |_,_,_,_,.nil=>.nil
 |_,_,_,0,.cons h t=>by
  have:=eJ.cons (f:=[]) (g:=[]) r (eJ.ofPr (t.pr λd v f _ q=>by have:=z _ _ _ q;subst this;exact q))
  exact this
 |_,_,_,i+1,.cons h t=>by
  have e:=z _ _ _ h
  subst e
  exact eJ.cons (f:=[]) (g:=[]) h (eJ.set0 r z i t)
theorem Ow.nil0 {K:ae}{F H:Hp}{d:D}{v:V}{fp:List af}(h:Ow K ct F H 0 d v fp):fp=[]:=h.2
theorem eJ.nil0 {K:ae}{F H:Hp}{ds:List D}{vs:List V}{fp:List af}(h:eJ (Ow K ct F H 0) ds vs fp):fp=[]:=by
 induction h with
 |nil=>rfl
 |cons h t ih=>rw[h.nil0,ih];rfl
end
end L3
namespace L3
open PySem PySem.Spec L2
open PyProof.Rows hiding St
section
variable {X:Cx}{ct:Nat->af}{ms:List Mo}{rk n m k:Nat}{st:bI}{rest:List bI}{a b c e tg:Expr}{f g h:EF}{p q:BF}{u w:SF}{pos:cy}{K:ae}
theorem HK {ah:List (af×cu)}{σ:St}{H:Hp}{s:ai}{l:af}{xs:List V}(I:Inv X ah σ H s)(hH:Rd H l (.lst xs)):xs.length<=sizeLine/\∃(bW:List aa) (n:Nat),bR xs bW/\xs.length=bW.length/\s.heap.get? l=some { cls:=.type "list",data:=.seq bW.toArray n }:=by
  obtain⟨z,bW,n,r,e⟩:=hH.ok I.hok
  exact⟨z,bW,n,r,r.length,e⟩
def uM (K:ae):R2:=λx y H Q=>∃l b xs zs,x=.ref l/\y=.ref b/\fN K H l xs/\fN K H b zs/\xs.length+zs.length<=sizeLine/\∀p,H p=none->Q (.ref p) (upd H p (.lst (xs++zs)))
theorem U7:gh X (dL .Add) (uM X.K):=by
 intro ah s σ H x y v u Q I rx ry h
 obtain⟨l,b,xs,zs,rfl,rfl,hH,hB,hz,q⟩:=h
 cases rx
 cases ry
 obtain⟨bW,r,⟨⟨cls,dd,data,sl⟩,n,e,c1,c2,c3⟩,z⟩:=I.list hH
 obtain⟨sQ,r2,⟨⟨Gc,Ea,data2,Du⟩,n2,e2,c4,c5,c6⟩,z2⟩:=I.list hB
 simp only at c1 c3 c4 c6
 subst c1 c3 c4 c6
 have hl:=r.length
 have BM:=r2.length
 refine qE ⟨_,e,rfl⟩ ⟨_,e2,rfl⟩ noFill_list_add seq_list_add PySem.F.slot_list_add PySem.F.entry_list_add (PySem.F.args_list_add_2 _ _) (list_addW l b bW.toArray sQ.toArray n n2 dd Ea sl Du (by rw[aI,aI];omega)) ⟨e,e2,?_⟩
 have ea:bW.toArray++sQ.toArray=(bW++sQ).toArray:=by simp
 rw[ea]
 exact⟨.ref _,_,I.lnew (t':=s.toks) (r.append r2) (by rw[aV];omega),rfl,q _ I.fresh⟩
def Dg:R2:=λx y H Q=>∃i j,x=.str i/\y=.str j/\i.length+j.length<=sizeLine/\Q (.str (i++j)) H
def xP (K:ae):R2:=λx y H Q=>oa (λi j=>.int (i+j)) x y H Q\/Dg x y H Q\/uM K x y H Q\/uN K x y H Q
theorem U8:gh X (dL .Add) (xP X.K):=gh.or WA (gh.or So (gh.or U7 U2))
def fC:D->D->Option D
 |.int i,.int j=>some (.int (i+j))
 |.str x,.str y=>if x.length+y.length<=16777216 then some (.str (x++y))else none
 |.lst xs,.lst ys=>if xs.length+ys.length<=16777216 then some (.lst (xs++ys))else none
 |.tup xs,.tup ys=>if xs.isEmpty=false/\ys.isEmpty=false/\xs.length+ys.length<=1000000 then some (.tup (xs++ys))else none
 |_,_=>none
theorem Pr.ow0 {F G H:Hp}{ds:List D}{vs:List V}(h:Pr (Al K ct F G 0) ds vs):eJ (Ow K ct F H 0) ds vs []:=eJ.ofPr (h.mono λ_ _ q=>⟨q,rfl⟩)
theorem Al.lst1 {F G:Hp}{ds:List D}{v:V}(hn:n<=1)(h:Al K ct F G n (.lst ds) v)(s:bL F G):∃a vs,v=.ref a/\fN K G a vs/\Pr (Al K ct F G 0) ds vs:=by
 obtain⟨a,vs,e,h1,h2⟩:=h.lst s
 have:n-1=0:=by omega
 rw[this]at h2
 exact⟨a,vs,e,h1,h2⟩
theorem Al.tup1 {F G:Hp}{ds:List D}{v:V}(hn:n<=1)(h:Al K ct F G n (.tup ds) v)(s:bL F G):∃a vs,v=.ref a/\G a=some (.tup vs)/\Pr (Al K ct F G 0) ds vs:=by
 obtain⟨a,vs,e,h1,h2⟩:=h.tup s
 have:n-1=0:=by omega
 rw[this]at h2
 exact⟨a,vs,e,h1,h2⟩
theorem zG {F H:Hp}{ds:List D}{vs:List V}{Q:VK}(s:bL F H)(hp:Pr (Al K ct F H 0) ds vs)(w:∀v F' H' fp,ez F H F' H'->Ow K ct F' H' 1 (.lst ds) v fp->fp.Nodup->(∀a∈fp,H a=none)->Q v H'):∀p,H p=none->Q (.ref p) (upd H p (.lst vs)):=λp h0=>by
 obtain⟨o,nd⟩:=MR s (hp.ow0 (H:=H)) h0
 exact w _ F _ [p] (ez.newO s h0 _) o (nd bA) λa z=>by rw[aQ]at z;subst z;exact h0
theorem U9 (hn:n<=1)(hm:m<=1):Ab K ct n m 1 (xP K) fC:=by
 intro F H x y d1 d2 d Q s l1 l2 e w
 have ws:∀d v,d.sc=true->Dt K ct F d v->(∀v F' H' fp,ez F H F' H'->Ow K ct F' H' 1 d v fp->fp.Nodup->(∀a∈fp,H a=none)->Q v H')->Q v H:=λd v hs hd w=>w v F H [] (.refl s) (Ow.scal hd hs) bA λa z=>(by cases z)
 cases d1 with
 |int i=>
  cases d2 with
  |int j=>cases e;exact .inl ⟨i,j,l1.int,l2.int,ws _ _ rfl (.int _) w⟩
  |_=>cases e
 |str i=>
  cases d2 with
  |str j=>
   unfold fC at e
   dsimp only at e
   by_cases hz:i.length+j.length<=16777216
   ·rw[if_pos hz]at e
    cases e
    exact .inr (.inl ⟨i,j,l1.str,l2.str,by rw[bu];exact hz,ws _ _ rfl (.str _) w⟩)
   ·rw[if_neg hz]at e;cases e
  |_=>cases e
 |lst xs=>
  cases d2 with
  |lst ys=>
   unfold fC at e
   dsimp only at e
   by_cases hz:xs.length+ys.length<=16777216
   ·rw[if_pos hz]at e
    cases e
    obtain⟨a,vs,rfl,ha,hp⟩:=Al.lst1 hn l1 s
    obtain⟨b,us,rfl,hb,hq⟩:=Al.lst1 hm l2 s
    exact .inr (.inr (.inl ⟨a,b,vs,us,rfl,rfl,ha,hb,by rw[←hp.length,←hq.length,bu];exact hz,zG s (hp.append hq) w⟩))
   ·rw[if_neg hz]at e;cases e
  |_=>cases e
 |tup xs=>
  cases d2 with
  |tup ys=>
   unfold fC at e
   dsimp only at e
   by_cases hz:xs.isEmpty=false/\ys.isEmpty=false/\xs.length+ys.length<=1000000
   ·rw[if_pos hz]at e
    cases e
    obtain⟨a,vs,rfl,ha,hp⟩:=Al.tup1 hn l1 s
    obtain⟨b,us,rfl,hb,hq⟩:=Al.tup1 hm l2 s
    have hl:=hp.length
    have BM:=hq.length
    have e1:vs≠[]:=λz=>by
     rw[z]at hl
     have:=nk.mp hl
     rw[this]at hz
     exact absurd hz.1 (by decide)
    have e2:us≠[]:=λz=>by
     rw[z]at BM
     have:=nk.mp BM
     rw[this]at hz
     exact absurd hz.2.1 (by decide)
    refine .inr (.inr (.inr ⟨a,b,vs,us,rfl,rfl,kc.of ha,kc.of hb,e1,by rw[←hl,←BM,bu];omega,λz=>absurd z e2,λ_ p h0=>?_⟩))
    have x2:=ez.newS s h0 (.tup (vs++us))
    exact w _ _ _ [] x2 (.inr (.tup zm (eJ.ofPr ((hp.append hq).mono λ_ _ q=>⟨Dt.mono x2.ff q,rfl⟩)))) bA λa z=>(by cases z)
   ·rw[if_neg hz]at e;cases e
  |_=>cases e
 |_=>cases e
def Do:R2:=λx y H Q=>∃l k xs,x=.ref l/\y=.int k/\Rd H l (.lst xs)/\-(2 ^ 63)<=k/\k<2 ^ 63/\xs.length*k.toNat<=sizeLine /\
 ∀p,H p=none->Q (.ref p) (upd H p (.lst (aC k.toNat xs).flatten))
theorem Va:gh X (dL .Mult) Do:=by
 intro ah s σ H x y v u Q I rx ry h
 obtain⟨l,k,xs,rfl,rfl,hH,h1,h2,hz,q⟩:=h
 cases rx
 obtain⟨t,rfl⟩:=ry
 obtain⟨z,bW,n,r,hl,e⟩:=HK I hH
 have hlen:bW.toArray.size*k.toNat<=sizeLine:=by rw[aI,←hl];exact hz
 have i6:¬bW.toArray.size*k.toNat > (2 ^ 63-1)/8:=by
  have:(sizeLine:Nat)<=(2 ^ 63-1)/8:=by decide
  omega
 have G4:¬(!Builtin.List.listFitsIndex k)=true:=by
  rw[fitsIndex_both h1 h2]
  exact aD
 have BO:¬Builtin.List.listTooLong (bW.toArray.size*k.toNat)=true:=by
  rw[rO hlen]
  exact aD
 have Hh:pz (λx1 x2=>x1++x2) #[] (aC (if bW.toArray.isEmpty=true then 0 else k.toNat) bW.toArray)=(aC k.toNat bW).flatten.toArray:=by
  have f0:∀m:Nat,pz (λx1 x2=>x1++x2) #[] (aC m bW.toArray)=(aC m bW).flatten.toArray:=λm=>by
   have:=foldl_rep bW m []
   rw[List.nil_append]at this
   exact this
  rw[f0]
  cases bW with
  |nil=>simp
  |cons a r'=>rw[if_neg (by simp)]
 refine wpAny_binaryOp_repeat_ref (T:="list") (U:="int") (by decide) ⟨_,e,rfl⟩ (λs'=>tN s' k t) noFill_list_mul F.fills_int_mul F.slot_int_rmul repeat_list F.slot_int_index.lookup
  (tM F.slot_int_rmul (tN s k t) F.entry_int_rmul (F.args_int_rmul_2 _ _) (int___rmul___int_list k t l bW.toArray n)
   ⟨e,rfl,⟨_,e,rfl⟩,tM F.slot_list_mul ⟨_,e,rfl⟩ F.entry_list_mul (F.args_list_mul_2 _ _) (AutoListH.list___mul___list_int_3 l bW.toArray n k t G4 i6 BO) ⟨e,?_⟩⟩)
 rw[Hh]
 exact⟨.ref _,_,I.lnew (t':=s.toks) (r.rep k.toNat) (by rw[UD,Nat.mul_comm];exact hz),rfl,q _ I.fresh⟩
theorem uk:mj K ct n m k (rI mK λi j=>.int (i*j)) hU:=Vw
def kl:D->D->Option D
 |.lst xs,.int j=>if -1000000<j/\j<1000000/\xs.length<=16 then some (.lst (aC j.toNat xs).flatten)else none
 |_,_=>none
theorem Fo (ha:XO X ct ms 1 a f)(hb:XE X ct ms m b g):XO X ct ms 1 (.BinOp a .Mult b pos) (e2 kl f g):=by
 obtain⟨ta,pa,qa⟩:=ha
 obtain⟨tb,pb,qb⟩:=hb
 refine⟨_,Jw Va pa pb,λF0 B F H ρ σ d Q rs e w=>?_⟩
 obtain⟨d1,d2,h1,h2,h3⟩:=dY e
 refine qa F0 B F H ρ σ d1 _ rs h1 λv F1 H1 fp x1 o nd hf=>?_
 refine qb F0 B F1 H1 ρ σ d2 _ (rs.ext x1) h2 λv2 F2 H2 x2 l2=>?_
 cases d1 with
 |lst xs=>
  cases d2 with
  |int j=>
   unfold kl at h3
   dsimp only at h3
   by_cases hz:-1000000<j/\j<1000000/\xs.length<=16
   ·rw[if_pos hz]at h3
    cases h3
    obtain⟨ad,vs,fr,rfl,rfl,hF,hH,ol⟩:=(o.ext x2).lst_inv
    have hp:Pr (Al X.K ct F2 H2 0) xs vs:=ol.pr λ_ _ _ _ q=>q.1
    have x12:=x1.trans x2
    refine⟨ad,j,vs,rfl,l2.int,.inl hH,by omega,by omega,?_,zG x2.fh (hp.rep _) λv F' H' fp x o nd hf=>w v F' H' fp (x12.trans x) o nd λz hz=>x12.hh.free (hf z hz)⟩
    rw[←hp.length,bu]
    have h1:j.toNat<=1000000:=by omega
    have h2:xs.length*j.toNat<=16*1000000:=Nat.mul_le_mul hz.2.2 h1
    omega
   ·rw[if_neg hz]at h3;cases h3
  |_=>cases h3
 |_=>cases h3
def sV:D->Option D
 |.int i=>some (.int (-i))
 |_=>none
theorem Nd (ha:XE X ct ms n a f):XE X ct ms k (.UnaryOp .USub a pos) (e1 sV f):=by
 refine Xl WC (λF H x d1 d Q s l e w=>?_) ha
 cases d1 with
 |int i=>cases e;exact⟨i,l.int,w _ F H (.refl s) (Al.of (.int _))⟩
 |_=>cases e
theorem jz {x:aK}{d:D}{u:aa}(hg:Gl X x)(hm:X.mg x=some u)(hs:d.sc=true)(r:RelV d.v u)(hd:(x==("__debug__":aK))=false:=by decide):XE X ct ms n (.Name x pos) (eC d):=by
 refine⟨_,Fc hg hm r hd,λF0 B F H ρ σ d' Q rs e w=>?_⟩
 cases e
 refine w _ F H (.refl rs.fh) (Al.of ?_)
 cases d with
 |non=>exact .non
 |bl b=>exact .bl b
 |int b=>exact .int b
 |str b=>exact .str b
 |_=>cases hs
def jG:List D->Option D
 |[.lst ds]=>some (.lst ds)
 |[.tup ds]=>some (.lst ds)
 |_=>none
theorem E8 (hn:n<=1):Ac K ct [n] 1 (λxs H Q=>∃p ys,xs=[.ref p]/\(fN K H p ys\/kc K H p ys)/\∀l,H l=none->Q (.ref l) (upd H l (.lst ys))) jG:=by
 intro F H vs ds d Q s l e w
 cases l with
 |cons h t=>
  cases t
  rename_i d1 v
  cases d1 with
  |lst xs=>
   cases e
   obtain⟨a,us,rfl,ha,hp⟩:=Al.lst1 hn h s
   exact⟨a,us,rfl,.inl ha,zG s hp w⟩
  |tup xs=>
   cases e
   obtain⟨a,us,rfl,ha,hp⟩:=Al.tup1 hn h s
   exact⟨a,us,rfl,.inr (kc.of ha),zG s hp w⟩
  |_=>cases e
abbrev PF:=Env->Option (Option Int)
def pNo:PF:=λ_=>some none
def pInt (f:EF):PF:=λρ=>(f ρ).bind λd=>match d with
 |.int i=>some (some i)
 |_=>none
def XP (X:Cx)(ct:Nat->af)(ms:List Mo)(e:Option Expr)(f:PF):Prop:=∃t,PO X e t/\∀(F0 B F H:Hp) (ρ:Env) (σ:St) (o:Option Int) (Q:Option Int->Hp->Prop),RS X.K ct F0 B ms F H ρ σ->f ρ=some o->(∀F' H',ez F H F' H'->Q o H')->t σ H Q
theorem Xr:XP X ct ms none pNo:=⟨_,U0,λF0 B F H ρ σ o Q rs e w=>by cases e;exact w F H (.refl rs.fh)⟩
theorem Je (h:XE X ct ms n e f):XP X ct ms (some e) (pInt f):=by
 obtain⟨t,pt,qt⟩:=h
 refine⟨_,U1 pt,λF0 B F H ρ σ o Q rs e w=>?_⟩
 obtain⟨d,h1,h2⟩:=aR e
 refine qt F0 B F H ρ σ d _ rs h1 λv F' H' x l=>?_
 cases d with
 |int i=>cases h2;exact⟨i,l.int,w F' H' x⟩
 |_=>cases h2
def cutD (xs:List D)(lo hi:Option Int):List D:=(xs.drop (HT.sIx xs.length 0 lo)).take (HT.sIx xs.length xs.length hi-HT.sIx xs.length 0 lo)
theorem Vb {R:D->V->Prop}{ds:List D}{vs:List V}{lo hi:Option Int}(h:Pr R ds vs):Pr R (cutD ds lo hi) (pO vs lo hi):=by
 unfold cutD pO
 rw[h.length]
 exact(h.drop _).take _
def jR (d:D)(lo hi:Option Int):Option D:=match d with
 |.lst xs=>some (.lst (cutD xs lo hi))
 |_=>none
theorem Mn {lo hi:Option Expr}{pl ph:PF}{p1}(hn:n<=1)(he:XE X ct ms n e f)(hl:XP X ct ms lo pl)(hh:XP X ct ms hi ph):XO X ct ms 1 (.Subscript e (.Slice lo hi none p1) pos) (λρ=>(f ρ).bind λd=>(pl ρ).bind λl=>(ph ρ).bind λh=>jR d l h):=by
 obtain⟨t,pt,qt⟩:=he
 obtain⟨t1,sZ,tq⟩:=hl
 obtain⟨t2,pV,pW⟩:=hh
 refine⟨_,Ti U3 pt sZ pV,λF0 B F H ρ σ r Q rs e w=>?_⟩
 obtain⟨d,l,h1,h2,h3⟩:=dY e
 obtain⟨hh,h4,h5⟩:=aR h3
 refine qt F0 B F H ρ σ d _ rs h1 λv F1 H1 x1 l1=>?_
 refine tq F0 B F1 H1 ρ σ l _ (rs.ext x1) h2 λF2 H2 x2=>?_
 refine pW F0 B F2 H2 ρ σ hh _ ((rs.ext x1).ext x2) h4 λF3 H3 x3=>?_
 cases d with
 |lst xs=>
  cases h5
  have lc:=x2.trans x3
  obtain⟨a,vs,rfl,ha,hp⟩:=Al.lst1 hn (l1.mono lc.ff lc.hh) lc.fh
  exact⟨a,vs,rfl,ha,zG lc.fh (Vb hp) λv F' H' fp x o nd hf=>w v F' H' fp ((x1.trans lc).trans x) o nd λz hz=>(x1.trans lc).hh.free (hf z hz)⟩
 |_=>cases h5
def FD:List D->Option D
 |[.int i]=>some (.int (if i<0 then -i else i))
 |_=>none
def ii (g:Int->Int->D):List D->Option D
 |[.int i,.int j]=>some (g i j)
 |_=>none
theorem Xa {g:Int->Int->D}{gv:Int->Int->V}(hg:∀i j F,Dt K ct F (g i j) (gv i j)):yK K ct [n,m] k (λxs H Q=>∃i j,xs=[.int i,.int j]/\Q (gv i j) H) (ii g):=by
 intro F H vs ds d Q s l e w
 cases l with
 |cons h t=>
  cases t with
  |cons h' t=>
   cases t
   rename_i d1 v d2 v2
   cases d1 with
   |int i=>
    cases d2 with
    |int j=>cases e;exact⟨i,j,by rw[h.int,h'.int],w _ F H (.refl s) (Al.of (hg i j F))⟩
    |_=>cases e
   |_=>cases e
def mS:List D->Option D:=ii λi j=>.int (if j > i then j else i)
def CB:List D->Option D:=ii λi j=>.int (if j<i then j else i)
theorem II:yK K ct [n,m] k (λxs H Q=>∃i j,xs=[.int i,.int j]/\Q (.int (if j > i then j else i)) H) mS:=Xa λ_ _ _=>.int _
def xR (i:Nat)(o:D->D->Option D)(f:EF):SF:=λρ=>(eV i ρ).bind λx=>(f ρ).bind λy=>(o x y).bind λd=>some (.nx (ρ.set i (some d)))
theorem Xb {op:iJ}{i:Nat}{x:aK}{pos':cy}{gi:Int->Int->Int}(ho:yM X op (EL gi))(hm:ms[i]?=some (.ow k))(hN:X.N.Nodup)(hi:X.N[i]?=some x)(hx:Loc X.env.scope x)(he:XE X ct ms n e f)(hf:X.fn x=true\/X.env.scope.names.lookup x=some .local:=by first|exact .inl rfl|exact .inr rfl|assumption) :
  XS X ct ms rk (.AugAssign (.Name x pos') op e pos) (xR i (i2 λi j=>.int (gi i j)) f):=by
 obtain⟨t,pt,qt⟩:=he
 refine⟨_,Wx hN hi hx pt ho hf,λF0 B F H ρ σ o E rs e z=>?_⟩
 obtain⟨d1,d2,h1,h2,h3⟩:=dY e
 obtain⟨d,h4,h5⟩:=aR h3
 cases h5
 obtain⟨v,hv,l⟩:=rs.get hm (wb h1)
 refine⟨v,hv,qt F0 B F H ρ σ d2 _ rs h2 λy F' H' x1 l2=>?_⟩
 cases d1 with
 |int i'=>
  cases d2 with
  |int j'=>
   cases h4
   exact⟨i',j',l.int,l2.int,z _ F' H' (rs.set hm x1 (Ow.scal (.int _) rfl) bA λa z=>(by cases z))⟩
  |_=>cases h4
 |_=>cases h4
def sPar (i j:Nat)(fs:Env->Option (List D)):SF:=λρ=>(fs ρ).bind λds=>match ds with
 |[x,y]=>some (.nx ((ρ.set i (some x)).set j (some y)))
 |_=>none
def sAsg (g:D->Env->Option Env)(f:EF):SF:=λρ=>(f ρ).bind λd=>(g d ρ).bind λρ'=>some (.nx ρ')
end
end L3
namespace L3
open PySem PySem.Spec L2
open PyProof.Rows hiding St
def gJ:List Nat->List Mo->Bool
 |[],_=>true
 |n::ns,.al m::ms=>decide (n=m)&&gJ ns ms
 |n::ns,.ow m::ms=>decide (n=0)&&decide (m=0)&&gJ ns ms
 |_,_=>false
theorem w9:∀{pm:List Nat} {ms:List Mo},gJ pm ms=true->∀(i n:Nat),pm[i]?=some n->ms[i]?=some (Mo.al n)\/(n=0/\ms[i]?=some (Mo.ow 0))
 |[],_,_,i,n,e=>by simp at e
 |x::ns,.al m::ms,h,i,n,e=>by
  simp only[gJ,bT,decide_eq_true_eq]at h
  cases i with
  |zero=>simp at e;subst e;rw[h.1];exact .inl rfl
  |succ i=>simpa using w9 h.2 i n (by simpa using e)
 |x::ns,.ow m::ms,h,i,n,e=>by
  simp only[gJ,bT,decide_eq_true_eq]at h
  cases i with
  |zero=>simp at e;subst e;rw[h.1.1,h.1.2];exact .inr ⟨rfl,rfl⟩
  |succ i=>simpa using w9 h.2 i n (by simpa using e)
 |_::_,[],h,_,_,_=>by simp[gJ]at h
 |_::_,.px _::_,h,_,_,_=>by simp[gJ]at h
 |_::_,.so _::_,h,_,_,_=>by simp[gJ]at h
def tU (X:Cx)(scope:eZ)(N:List aK)(own:Nat)(cap:List Nat):Bool :=
 decide (scope.kind=.function)&&scope.names.all (λx=>(decide (x.2≠.cell) || decide (scope.names.lookup x.1=some .cell))&&(decide (x.2≠.local) || decide (scope.names.lookup x.1=some .local))&&(decide (x.2≠.free) || (decide (X.env.kindOf x.1=some .cell) || decide (X.env.kindOf x.1=some .free)))) &&
 decide (N.length=own+cap.length)&&(bC cap.length).all λj=>match N[own+j]?,cap[j]? with
  |some x,some i=>decide (X.N[i]?=some x)&&decide (scope.names.lookup x=some .free)
  |_,_=>false
theorem yG {X:Cx}{scope:eZ}{N:List aK}{own:Nat}{cap:List Nat}(h:tU X scope N own cap=true):jZ X scope N own cap:=by
 unfold tU at h
 simp only[bT,decide_eq_true_eq,fP,Bool.or_eq_true]at h
 obtain⟨⟨⟨h1,h2⟩,h3⟩,h4⟩:=h
 refine⟨h1,λx hx hl=>((h2 x hx).1.1).elim (λz=>absurd hl z) id,λx hx hl=>((h2 x hx).1.2).elim (λz=>absurd hl z) id,λx hx hf=>((h2 x hx).2).elim (λz=>absurd hf z) id,h3,λj x hj=>?_⟩
 have Kr:j<cap.length:=by
  have:=(aS.mp hj).1
  omega
 have q:=h4 j (cL.mpr Kr)
 rw[hj]at q
 have hc:cap[j]?=some cap[j]:=by simp[Kr]
 rw[hc]at q
 simp only[bT,decide_eq_true_eq]at q
 exact⟨_,hc,q.1,q.2⟩
def E3:D->Option String
 |.non=>some "NoneType"
 |.bl _=>some "bool"
 |.int _=>some "int"
 |.str _=>some "str"
 |.lst _=>some "list"
 |.tup _=>some "tuple"
 |.dK _ _=>some "dict"
 |_=>none
def Lf (K:ae)(H:Hp)(v:V)(t:String):Prop:=jN K H v (.type t)\/(t = "list"/\∃a xs,v=.ref a/\fN K H a xs)
theorem Al.ty {K:ae}{ct:Nat->af}{F H:Hp}{n:Nat}{d:D}{v:V}{t:String}(s:bL F H)(h:Al K ct F H n d v)(e:E3 d=some t):Lf K H v t:=by
 cases d with
 |non=>cases e;rw[h.non];exact .inl .non
 |bl b=>cases e;rw[h.bl];exact .inl (.bl b)
 |int b=>cases e;rw[h.int];exact .inl (.int b)
 |str b=>cases e;rw[h.str];exact .inl (.str b)
 |lst xs=>
  cases e
  obtain⟨a,vs,rfl,ha,_⟩:=h.lst s
  exact .inr ⟨rfl,a,vs,rfl,ha⟩
 |tup xs=>
  cases e
  obtain⟨a,vs,rfl,ha,_⟩:=h.tup s
  exact .inl (.tup ha)
 |dK ks xs=>
  cases e
  obtain⟨a,vs,rfl,ha,_⟩:=h.dK s
  exact .inl (.dK ha)
 |_=>cases e
theorem S9 {X:Cx}:eI X (.builtin "isinstance") (λxs H Q=>∃x c t b,xs=[x,.ty c]/\Lf X.K H x t/\aO X.K (.type t) (.type c)=some b/\Q (.bl b) H):=by
 intro ah s σ H xs us Q I r h
 obtain⟨x,c,t,b,rfl,ty,e,q⟩:=h
 rcases ty with ty|⟨rfl,a,ys,rfl,hq⟩
 ·exact Ub ah s σ H _ us Q I r ⟨x,c,_,b,rfl,ty,e,q⟩
 ·obtain⟨u,w',rfl,ru,oO⟩:=vals2 r
  cases(show w'=aa.type c from oO)
  cases(show u=aa.ref a from ru)
  obtain⟨bW,rv,⟨o,n,h1,h2,_⟩,_⟩:=I.list hq
  exact bV jS I.kIn ⟨o,h1,h2⟩ e (λz=>nomatch z) λtk=>⟨.bl b,H,I.tok tk,rfl,q⟩
def B3 (t c:String):Bool:=t==c || (t == "bool" && c == "int")
theorem Vc {K:ae}:∀t∈(["NoneType","bool","int","str","list","tuple","dict"]:List String),∀c∈(["bool","int","str","list","tuple","dict"]:List String),aO K (.type t) (.type c)=some (B3 t c):=by
 intro t ht c hc
 simp only[az,cp,or_false]at ht hc
 rcases ht with rfl|rfl|rfl|rfl|rfl|rfl|rfl<;>rcases hc with rfl|rfl|rfl|rfl|rfl|rfl<;>rfl
theorem VM {d:D}{t:String}(e:E3 d=some t):t∈(["NoneType","bool","int","str","list","tuple","dict"]:List String):=by
 cases d<;>simp[E3]at e<;>subst e<;>decide
section
variable {X:Cx}{ct:Nat->af}{ms:List Mo}{rk n m k:Nat}{a b c e tg:Expr}{f g h:EF}{pos:cy}
def jQ (c:String)(d:D):Option D:=(E3 d).bind λt=>some (.bl (B3 t c))
theorem yH {c:String}{pp p2:cy}(hc:c∈(["bool","int","str","list","tuple","dict"]:List String))(hm:X.mg "isinstance"=none)(o6:X.mg c=none)(hb:bY c=some (.type c))(he:XE X ct ms n e f)(hg:Gl X "isinstance":=by rfl)(nu:Gl X c:=by rfl)(uB:aK.ofString c≠"__name__":=by decide)(hd2:(aK.ofString c==("__debug__":aK))=false:=by decide)
  (o7:ap [e,.Name c p2] X.env=(false,bB e X.env)::ap [.Name c p2] X.env:=by rfl) (qN:ap [.Name c p2] X.env=(false,bB (.Name c p2) X.env)::ap [] X.env:=by rfl) (el:(bZ pos (ap [.Name c p2] X.env)).any (·.1)=false:=by rfl) :
  XE X ct ms k (.Call (.Name "isinstance" pp) [e,.Name c p2] [] pos) (e1 (jQ c) f):=by
 obtain⟨t,pt,qt⟩:=he
 refine⟨_,je S9 hg hm wm (xn pt (xn (MC (v:=.ty c) nu o6 hb rfl uB hd2) uw qN) o7) (by decide) (by decide) o7 el,λF0 B F H ρ σ d Q rs e w=>?_⟩
 obtain⟨d1,h1,h2⟩:=aR e
 obtain⟨ty,h3,h4⟩:=aR h2
 cases h4
 exact qt F0 B F H ρ σ d1 _ rs h1 λv F' H' x l=>⟨v,c,ty,_,rfl,l.ty x.fh h3,Vc _ (VM h3) _ hc,w _ F' H' x (Al.of (.bl _))⟩
end
end L3
namespace L3
open PySem PySem.Spec L2
open PyProof.Rows hiding St
def mX (K:ae):Sp:=λvs H Q _=>∃(a:af) (ns:List Int),vs=[.ref a]/\fN K H a (ns.map V.int)/\ns.length<=63/\∀H',Q (.bl true) H'
theorem Dts.ints {K:ae}{ct:Nat->af}{F:Hp}:∀ns:List Int,Dts K ct F (ns.map D.int) (ns.map V.int)
 |[]=>.nil
 |n::ns=>.cons (.int n) (Dts.ints ns)
theorem Xc {P:aT}{w:bt}{K:ae}{mg:aK->Option aa}{base:aE}{k:Nat}{f:af}{fd:aP}{ps:List aK}{ct:Nat->af}{m:List D->Option D}(Fn:cB P w K mg base eW k f fd ps (il K ct [0] 0 m))
  (h:∀ns:List Int,ns.length<=63->m [.lst (ns.map .int)]=some (.bl true)):cB P w K mg base eW k f fd ps (mX K):=by
 have to:∀vs H Q E,mX K vs H Q E->il K ct [0] 0 m vs H Q E:=by
  rintro vs H Q E ⟨a,ns,rfl,hS,hl,q⟩
  refine⟨H,[.lst (ns.map .int)],.bl true,.refl _,.cons (Dt.lst hS (Dts.ints ns)) .nil,h ns hl,λv F' H' fp x o nd hf=>?_⟩
  have hv:v=.bl true:=by
   have o:Dt K ct F' (.bl true) v/\fp=[]:=o
   cases o.1
   rfl
  subst hv
  exact q H'
 exact⟨λvs H Q E z=>Fn.len vs H Q E (to vs H Q E z),λA outer s H args us vs Q E hr e0 hb hv z=>Fn.run A outer s H args us vs Q E hr e0 hb hv (to vs H Q E z)⟩
theorem LY {g:D->Env->Option Env}{b:SF}(I:List D->Env->Prop)(all:List D)(st:∀pre d post ρ,all=pre++d::post->I pre ρ->∃ρ1 ρ2,g d ρ=some ρ1/\(b ρ1=some (.nx ρ2)\/b ρ1=some (.ct ρ2))/\I (pre++[d]) ρ2):∀(ds pre:List D) (ρ:Env),all=pre++ds->I pre ρ ->
  ∃ρ',gq g b ds ρ=some (.nx ρ')/\I all ρ'
 |[],pre,ρ,e,h=>⟨ρ,rfl,by rw[e,bX];exact h⟩
 |d::ds,pre,ρ,e,h=>by
  obtain⟨ρ1,ρ2,h1,h2,h3⟩:=st pre d ds ρ e h
  obtain⟨ρ',h4,h5⟩:=LY I all st ds (pre++[d]) ρ2 (by rw[e];simp) h3
  refine⟨ρ',?_,h5⟩
  show(g d ρ).bind _=_
  rw[h1]
  show(b ρ1).bind _=_
  rcases h2 with h2|h2<;>(rw[h2];exact h4)
theorem qm {g:D->Env->Option Env}{b:SF}(I:List D->Env->Prop){ds:List D}{ρ:Env}(h:I [] ρ)(st:∀pre d post ρ,ds=pre++d::post->I pre ρ->∃ρ1 ρ2,g d ρ=some ρ1/\(b ρ1=some (.nx ρ2)\/b ρ1=some (.ct ρ2))/\I (pre++[d]) ρ2) :
  ∃ρ',gq g b ds ρ=some (.nx ρ')/\I ds ρ':=LY I ds st ds [] ρ rfl h
theorem Jt {α:Type}{all pre post:List α}{d:α}(h:all=pre++d::post):all[pre.length]?=some d:=by subst h;simp
theorem IE {α S:Type}{g:D->Env->Option Env}{b:SF}(enc:α->D)(st:S->Env)(f:S->α->S)(P:S->Prop):∀(xs:List α) (s:S),P s ->
  (∀s x,x∈xs->P s->∃ρ1,g (enc x) (st s)=some ρ1/\(b ρ1=some (.nx (st (f s x)))\/b ρ1=some (.ct (st (f s x))))/\P (f s x))->gq g b (xs.map enc) (st s)=some (.nx (st (xs.foldl f s)))/\P (xs.foldl f s)
 |[],s,hp,_=>⟨rfl,hp⟩
 |x::xs,s,hp,h=>by
  obtain⟨ρ1,h1,h2,h3⟩:=h s x am hp
  have ih:=IE enc st f P xs (f s x) h3 λs y hy=>h s y (ao _ hy)
  refine⟨?_,ih.2⟩
  show(g (enc x) (st s)).bind _=_
  rw[h1]
  show(b ρ1).bind _=_
  rcases h2 with h2|h2<;>(rw[h2];exact ih.1)
theorem LZ {g:D->Env->Option Env}{b:SF}(I:Nat->Env->Prop)(lo:Int):∀(n k:Nat) (ρ:Env),I k ρ ->
  (∀j ρ,k<=j->j<k+n->I j ρ->∃ρ1 ρ2,g (.int (lo+(j:Int))) ρ=some ρ1/\(b ρ1=some (.nx ρ2)\/b ρ1=some (.ct ρ2))/\I (j+1) ρ2) ->
  ∃ρ',gq g b ((List.range' k n).map λ(t:Nat)=>D.int (lo+(t:Int))) ρ=some (.nx ρ')/\I (k+n) ρ'
 |0,k,ρ,h,_=>⟨ρ,rfl,h⟩
 |n+1,k,ρ,h,st=>by
  obtain⟨ρ1,ρ2,h1,h2,h3⟩:=st k ρ (aH _) (by omega) h
  obtain⟨ρ',h4,h5⟩:=LZ I lo n (k+1) ρ2 h3 λj ρ hj hl hI=>st j ρ (by omega) (by omega) hI
  refine⟨ρ',?_,by rw[show k+(n+1)=k+1+n by omega];exact h5⟩
  rw[List.range'_succ,bq]
  show(g _ ρ).bind _=_
  rw[h1]
  show(b ρ1).bind _=_
  rcases h2 with h2|h2<;>(rw[h2];exact h4)
theorem IC {g:D->Env->Option Env}{b:SF}(I:Nat->Env->Prop){lo:Int}{n:Nat}{ρ:Env}(h:I 0 ρ)
  (st:∀j ρ,j<n->I j ρ->∃ρ1 ρ2,g (.int (lo+(j:Int))) ρ=some ρ1/\(b ρ1=some (.nx ρ2)\/b ρ1=some (.ct ρ2))/\I (j+1) ρ2):∃ρ',gq g b (kG lo n) ρ=some (.nx ρ')/\I n ρ':=by
 obtain⟨ρ',h1,h2⟩:=LZ (g:=g) (b:=b) I lo n 0 ρ h λj ρ _ hj hI=>st j ρ (by omega) hI
 rw[nU]at h2
 exact⟨ρ',by unfold kG;rw[List.range_eq_range'];exact h1,h2⟩
theorem Lr {c:BF}{b:SF}(I:Env->Prop)(μ:Env->Nat)(st:∀ρ,I ρ->∃t,c ρ=some t/\(t=true->∃ρ',(b ρ=some (.nx ρ')\/b ρ=some (.ct ρ'))/\I ρ'/\μ ρ' < μ ρ)) :
  ∀(n:Nat) (ρ:Env),I ρ->μ ρ<n->∃ρ',kH c b n ρ=some (.nx ρ')/\I ρ'/\c ρ'=some false
 |0,_,_,h=>absurd h (by omega)
 |n+1,ρ,hI,h=>by
  obtain⟨t,h1,h2⟩:=st ρ hI
  cases t with
  |false=>exact⟨ρ,by show(c ρ).bind _=_;rw[h1];rfl,hI,h1⟩
  |true=>
   obtain⟨ρ',h3,h4,h5⟩:=h2 rfl
   obtain⟨ρ2,h6,h7,h8⟩:=Lr I μ st n ρ' h4 (by omega)
   refine⟨ρ2,?_,h7,h8⟩
   show(c ρ).bind _=_
   rw[h1]
   show(b ρ).bind _=_
   rcases h3 with h3|h3<;>(rw[h3];exact h6)
theorem VN {n k:Nat}(h:n<2 ^ k)(hk:k<=9000):n<ou:=bg h (jA (by decide) hk)
theorem VO {n:Nat}(h:n<1048576):n<ou:=VN (k:=20) h (by decide)
theorem zdz {i j:Int}(h1:0<j)(h2:j<4611686018427387904):kh (.int i) (.int j)=some (.int (i/j)):=by unfold kh;simp[h1,h2]
theorem ul {i j:Int}(h:0<j):fR (.int i) (.int j)=some (.int (i%j)):=by unfold fR;simp[h]
theorem ziw {i j:Int}(h1:-18446744073709551616<j)(h2:j<18446744073709551616):hU (.int i) (.int j)=some (.int (i*j)):=by simp[hU,rK,kX,h1,h2]
theorem zbi {i j:Int}(h1:-18446744073709551616<i)(h2:i<18446744073709551616):hU (.int i) (.int j)=some (.int (i*j)):=by simp[hU,rK,kX,h1,h2]
theorem zfx {i j:Int}(h1:0<=j)(h2:j<=1000000)(h3:i.natAbs<18446744073709551616):Dd (.int i) (.int j)=some (.int (i ^ j.toNat)):=by simp[Dd,rK,mU,h1,h2,h3]
theorem zfy {i j:Int}(h1:0<=j)(h2:j<=1000000)(h3:i.natAbs<18446744073709551616):tw (.int i) (.int j)=some (.int (i*2 ^ j.toNat)):=by simp[tw,rK,mU,h1,h2,h3]
theorem zc2 {i j:Int}(h1:0<=j):pX (.int i) (.int j)=some (.int (i/2 ^ j.toNat)):=by simp[pX,rK,h1]
theorem zfz (i j:Int):fC (.int i) (.int j)=some (.int (i+j)):=rfl
theorem Ui {xs ys:List D}(h:xs.length+ys.length<=16777216):fC (.lst xs) (.lst ys)=some (.lst (xs++ys)):=by simp[fC,h]
theorem zf0 (i j:Int):nO (.int i) (.int j)=some (.int (i-j)):=rfl
theorem zix (i j:Int):sv (.int i) (.int j)=some (.bl (decide (i<j))):=rfl
theorem ziy (i j:Int):uG (.int i) (.int j)=some (.bl (decide (i<=j))):=rfl
theorem ziz (i j:Int):pR (.int i) (.int j)=some (.bl (decide (j<i))):=rfl
theorem zi0 (i j:Int):GI (.int i) (.int j)=some (.bl (decide (j<=i))):=rfl
theorem zf1 (i:Int):sV (.int i)=some (.int (-i)):=rfl
theorem jl (ds:List D):eO [.lst ds]=some (.int ds.length):=rfl
theorem zf2 (ds:List D):eO [.tup ds]=some (.int ds.length):=rfl
theorem zf3 (i:Int):FD [.int i]=some (.int (if i<0 then -i else i)):=rfl
theorem zbj (i j:Int):mS [.int i,.int j]=some (.int (if j > i then j else i)):=rfl
theorem zd0 (i j:Int):CB [.int i,.int j]=some (.int (if j<i then j else i)):=rfl
theorem zi1 (neg:Bool)(d:D):qO neg d .non=some (.bl (if neg then !d.isN else d.isN)):=by cases d<;>rfl
theorem zma (neg b:Bool)(d:D):qO neg d (.bl b)=some (.bl (if neg then !d.isB b else d.isB b)):=by cases d<;>rfl
theorem zmb (b:Bool):D5 (.bl b)=some b:=rfl
theorem zi2 (ds:List D):D6 (.lst ds)=some ds:=rfl
theorem jm (ds:List D)(l h:Option Int):jR (.lst ds) l h=some (.lst (cutD ds l h)):=rfl
theorem E9 {j:Int}(h1:-4611686018427387904<=j)(h2:j<4611686018427387904):i8 [.int j]=some (kG 0 j.toNat):=by simp[i8,h1,h2]
theorem VP {α:Type}(enc:α->D){xs:List α}{i:Int}{j:Nat}{x:α}(hi:i=(j:Int)\/i=(j:Int)-xs.length)(h:xs[j]?=some x):atI (xs.map enc) i=some (enc x):=by
 have hj:=(aS.mp h).1
 unfold L2.atI L2.ixN
 rw[aM]
 rcases hi with rfl|rfl
 ·rw[if_pos (by omega),if_pos (by omega)]
  simp[h]
 ·rw[if_neg (by omega),if_pos (by omega)]
  have:((j:Int)-(xs.length:Int)+(xs.length:Int)).toNat=j:=by omega
  simp[this,h]
theorem SY (xs:List D)(k:Nat):cutD xs (some (k:Int)) none=xs.drop k:=by
 unfold cutD
 rw[HT.sIx_none,HT.sIx_nat]
 rcases nR k xs.length with h|h
 ·rw[ma h,fw (by rw[eE];omega)]
 ·rw[lx h,fu (aH _),fu h]
  simp
theorem Uj (xs:List D)(k l:Nat):cutD xs (some (k:Int)) (some (l:Int))=(xs.drop k).take (l-k):=by
 unfold cutD
 rw[HT.sIx_nat,HT.sIx_nat]
 rcases nR k xs.length with h|h
 ·rw[ma h]
  rcases nR l xs.length with g|g
  ·rw[ma g]
  ·rw[lx g,fw (by rw[eE];omega),fw (by rw[eE];omega)]
 ·rw[lx h,fu (aH _),fu h]
  simp
theorem LD {α:Type}{g:D->Env->Option Env}{p:BF}{f:EF}{ρ0:Env}(enc:α->D)(q:α->Bool)(h:α->D):∀(xs:List α),(∀x∈xs,∃ρ1,g (enc x) ρ0=some ρ1/\p ρ1=some (q x)/\(q x=true->f ρ1=some (h x)))->mP g p f ρ0 (xs.map enc)=some ((xs.filter q).map h)
 |[],_=>rfl
 |x::xs,H=>by
  obtain⟨ρ1,h1,h2,h3⟩:=H x am
  have ih:=LD enc q h xs λy hy=>H y (ao _ hy)
  show(g (enc x) ρ0).bind _=_
  rw[h1]
  show(p ρ1).bind _=_
  rw[h2]
  cases hq:q x with
  |false=>
   rw[bw,if_neg aD,ni (by rw[hq];exact aD)]
   exact ih
  |true=>
   rw[bw,if_pos rfl,h3 hq,nj hq]
   show(mP g p f ρ0 (xs.map enc)).bind _=_
   rw[ih]
   rfl
end L3
namespace L3
open PySem PySem.Spec L2
structure oo (α:Type)[DecidableEq α] where
 enc:α->D
 py:α->cT
 dep:Nat
 is:∀x,(enc x).py=some (py x)
 lay:∀x,(py x).canLay0=true
 dp:∀x,(py x).depth<=dep
 eqv:∀x y,cT.eqv (py x) (py y)=decide (x=y)
section
variable {α β γ δ ε:Type}[DecidableEq α][DecidableEq β][DecidableEq γ][DecidableEq δ][DecidableEq ε]
theorem oo.eq (E:oo α)(h:E.dep<=60){neg:Bool}(x y:α):n6 neg (E.enc x) (E.enc y)=some (.bl (if neg then !decide (x=y)else decide (x=y))):=by
 have h1:nc (E.py x)=true:=by unfold nc;rw[E.lay x,decide_eq_true (bH (E.dp x) h)];rfl
 have h2:nc (E.py y)=true:=by unfold nc;rw[E.lay y,decide_eq_true (bH (E.dp y) h)];rfl
 unfold n6
 rw[E.is x,E.is y]
 simp only[bw]
 rw[if_pos ⟨h1,h2⟩,E.eqv]
def Ei:oo Int:=⟨.int,.int,0,λ_=>by simp[D.py],λ_=>rfl,λ_=>by simp[cT.depth],λx y=>by show(x==y)=_;by_cases h:x=y<;>simp[h]⟩
def Eb:oo Bool:=⟨.bl,.bool,0,λ_=>by simp[D.py],λ_=>rfl,λ_=>by simp[cT.depth],λx y=>by cases x<;>cases y<;>rfl⟩
def gR:Option Int->D
 |none=>.non
 |some i=>.int i
def E2 (A:oo α)(B:oo β):oo (α×β):=⟨λp=>.tup [A.enc p.1,B.enc p.2],λp=>.tuple [A.py p.1,B.py p.2],max A.dep B.dep+1,λp=>by simp[D.py,D.pys,A.is,B.is],λp=>by simp[cT.canLay0,cT.canLayAll0,A.lay,B.lay],
 λp=>by have:=A.dp p.1;have:=B.dp p.2;simp only[cT.depth,cT.depthAll];omega,λp q=>by
  simp only[cT.eqv,cT.eqvAll,A.eqv,B.eqv]
  obtain⟨a,b⟩:=p
  obtain⟨c,d⟩:=q
  by_cases h:a=c<;>by_cases g:b=d<;>simp[h,g]⟩
end
theorem zi4 {neg:Bool}(a b:Int):n6 neg (.int a) (.int b)=some (.bl (if neg then !decide (a=b)else decide (a=b))):=Ei.eq (by decide) a b
theorem zmc {neg:Bool}(a b:Bool):n6 neg (.bl a) (.bl b)=some (.bl (if neg then !decide (a=b)else decide (a=b))):=Eb.eq (by decide) a b
end L3
namespace L3
open PySem PySem.Spec L2
open PyProof.Rows hiding St
section
variable {X:Cx}{ct:Nat->af}{K:ae}{n m k:Nat}
theorem IntsAre.of {ns:List Int}{us:List aa}(h:bR (ns.map V.int) us):IntsAre us ns:=Sv h
theorem SZ (hc:X.calm=true):eI X (.builtin "max") (λxs H Q=>∃(a:af) (ns:List Int),xs=[.ref a]/\fN X.K H a (ns.map V.int)/\ns≠[]/\∀M,M∈ns->(∀z∈ns,z<=M)->Q (.int M) H):=by
 intro ah s σ H xs us Q I r h
 obtain⟨a,ns,rfl,hq,kU,q⟩:=h
 obtain⟨u,rfl,ru⟩:=r.one
 cases(show u=aa.ref a from ru)
 obtain⟨bW,rv,pl,hz⟩:=I.list hq
 have hi:=IntsAre.of rv
 obtain⟨ys,e⟩:=hi.allInts.items
 have n9:ns=ys.toList.map (·.1):=by rw[←hi.numsOf,←nums_intItems,←e]
 have hsz:0<ys.size:=by
  have h3:0<ns.length:=List.length_pos_iff.mpr kU
  rw[n9,aM,bQ]at h3;exact h3
 have He:s.heap.IsList a (intItems ys):=e▸pl.isList
 refine max_intList (I.ok.hd hc) He hsz λv h' tk hv hk=>?_
 obtain⟨t,rfl⟩:=intItems_at hv
 obtain⟨h1,h2⟩:=argBest_gt (numAt ys) (ys.size-1)
 refine⟨.int (numAt ys (argBest (λi j=>decide (numAt ys i > numAt ys j)) (ys.size-1))),H,I.kept (t':=tk) hk,⟨_,rfl⟩,q _ ?_ λz hz=>?_⟩
 ·rw[n9,numAt_eq];exact getD_mem (by rw[aM,bQ];omega)
 ·rw[n9]at hz
  obtain⟨j,hj,rfl⟩:=mem_getD hz
  rw[aM,bQ]at hj
  rw[←numAt_eq];exact h2 j (by omega)
theorem LF:∀{bs:List Bool} {us:List aa},bR (bs.map V.bl) us->us=bs.map aa.bool
 |[],_,.nil=>rfl
 |b::bs,_,.cons r t=>by rw[LF t];cases(show _=aa.bool b from r);rfl
theorem S3 (hc:X.calm=true):eI X (.builtin "all") (λxs H Q=>∃(a:af) (bs:List Bool),xs=[.ref a]/\fN X.K H a (bs.map V.bl)/\Q (.bl (bs.all id)) H):=by
 intro ah s σ H xs us Q I r h
 obtain⟨a,bs,rfl,hq,q⟩:=h
 obtain⟨u,rfl,ru⟩:=r.one
 cases(show u=aa.ref a from ru)
 obtain⟨bW,rv,pl,hz⟩:=I.list hq
 have hb:=LF rv
 subst hb
 have hl:=pl.isList
 have ml:a<s.heap.objs.size:=by obtain⟨_,e,_⟩:=hl;exact aG e
 refine PySem.call_all_walk (wpAny_pyIter_list hl ?_)
 refine⟨s.heap.objs.size,[s.heap.objs.size,a],[s.heap.objs.size],(bs.map aa.bool).toArray.size,_,_,λi=>(bs[i]?).getD true,rfl,Walks.list (A:=X.A.in1) (I.ok.hd hc) _ a (aY ml) (bs.map aa.bool).toArray,
  ⟨⟨_,br _ rfl,rfl,rfl⟩,hl.push _⟩,λi v s' Q' E' hP hQ=>?_,λh' tk hk=>?_⟩
 ·have hP:(bs.map aa.bool)[i]?=some v:=by simpa using hP
  rw[bn]at hP
  obtain⟨b,hb,rfl⟩:=bF.mp hP
  simp only[hb,fE]at hQ
  exact dM hQ
 ·have e:((bC (bs.map aa.bool).toArray.size).all λi=>(bs[i]?).getD true)=bs.all id:=by
   rw[aI,aM];exact PyProof.Rows.LSm.range_all bs
  rw[e]
  refine⟨.bl (bs.all id),H,I.kept (t':=tk) λb o GQ=>hk b o (λhm=>?_) (aq _ GQ),rfl,q⟩
  rw[aQ.mp hm]at GQ
  exact d8 _ (aG GQ)
def iC:List D->Option (List Int)
 |[]=>some []
 |.int i::ds=>(iC ds).bind λns=>some (i::ns)
 |_=>none
theorem Ls:∀{ds:List D} {ns:List Int},iC ds=some ns->ds=ns.map .int
 |[],_,e=>by cases e;rfl
 |d::ds,ns,e=>by
  cases d with
  |int i=>
   obtain⟨ms,h1,h2⟩:=aR (show(iC ds).bind _=_ from e)
   cases h2
   rw[Ls h1];rfl
  |_=>cases e
theorem Pr.intV {F G:Hp}:∀{ns:List Int} {vs:List V},Pr (Al K ct F G n) (ns.map .int) vs->vs=ns.map V.int
 |[],_,.nil=>rfl
 |i::ns,_,.cons h t=>by rw[Pr.intV t,h.int];rfl
def lI:List D->Option (List Bool)
 |[]=>some []
 |.bl i::ds=>(lI ds).bind λns=>some (i::ns)
 |_=>none
theorem Lx:∀{ds:List D} {ns:List Bool},lI ds=some ns->ds=ns.map .bl
 |[],_,e=>by cases e;rfl
 |d::ds,ns,e=>by
  cases d with
  |bl i=>
   obtain⟨ms,h1,h2⟩:=aR (show(lI ds).bind _=_ from e)
   cases h2
   rw[Lx h1];rfl
  |_=>cases e
theorem Pr.blV {F G:Hp}:∀{ns:List Bool} {vs:List V},Pr (Al K ct F G n) (ns.map .bl) vs->vs=ns.map V.bl
 |[],_,.nil=>rfl
 |i::ns,_,.cons h t=>by rw[Pr.blV t,h.bl];rfl
def CA:List Int->Option Int
 |[]=>none
 |x::xs=>some (xs.foldl max x)
theorem LG:∀(xs:List Int) (x:Int),(xs.foldl max x=x\/xs.foldl max x∈xs)/\x<=xs.foldl max x/\∀z∈xs,z<=xs.foldl max x
 |[],x=>⟨.inl rfl,Int.le_refl _,λz h=>by cases h⟩
 |y::xs,x=>by
  obtain⟨h1,h2,h3⟩:=LG xs (max x y)
  refine⟨?_,by show x<=xs.foldl max (max x y);omega,λz hz=>?_⟩
  ·rcases h1 with h1|h1
   ·show xs.foldl max (max x y)=x\/xs.foldl max (max x y)∈y::xs
    rw[h1]
    rcases Int.le_total x y with h|h
    ·rw[Int.max_eq_right h];exact .inr am
    ·rw[Int.max_eq_left h];exact .inl rfl
   ·exact .inr (ao _ h1)
  ·rcases az.mp hz with rfl|hz
   ·show z<=xs.foldl max (max x z);omega
   ·exact h3 z hz
theorem Uk {ns:List Int}{M:Int}(h:CA ns=some M):M∈ns/\∀z∈ns,z<=M:=by
 cases ns with
 |nil=>cases h
 |cons x xs=>
  cases h
  obtain⟨h1,h2,h3⟩:=LG xs x
  refine⟨?_,λz hz=>?_⟩
  ·rcases h1 with h1|h1
   ·rw[h1];exact am
   ·exact ao _ h1
  ·rcases az.mp hz with rfl|hz
   ·exact h2
   ·exact h3 z hz
def QY:List D->Option D
 |[.lst ds]=>(iC ds).bind λns=>some (.int ns.sum)
 |_=>none
def sU:List D->Option D
 |[.lst ds]=>(iC ds).bind λns=>(CA ns).bind λM=>some (.int M)
 |_=>none
def Ah:List D->Option D
 |[.lst ds]=>(lI ds).bind λbs=>some (.bl (bs.all id))
 |_=>none
theorem Tx {F H:Hp}{vs:List V}{ds:List D}{ns:List Int}(s:bL F H)(l:iy K ct F H [n] [.lst ds] vs)(e:iC ds=some ns):∃a,vs=[.ref a]/\fN K H a (ns.map V.int):=by
 cases l with
 |cons h t=>
  cases t
  obtain⟨a,us,rfl,ha,hp⟩:=h.lst s
  have:=Ls e
  subst this
  have:=hp.intV
  subst this
  exact⟨a,rfl,ha⟩
theorem VQ:yK K ct [n] k (λxs H Q=>∃(a:af) (ns:List Int),xs=[.ref a]/\fN K H a (ns.map V.int)/\ns≠[]/\∀M,M∈ns->(∀z∈ns,z<=M)->Q (.int M) H) sU:=by
 intro F H vs ds d Q s l e w
 match ds,l,e with
 |[.lst xs],l,e=>
  obtain⟨ns,h1,h2⟩:=aR (show(iC xs).bind _=_ from e)
  obtain⟨M,h3,h4⟩:=aR h2
  cases h4
  obtain⟨a,rfl,ha⟩:=Tx s l h1
  obtain⟨m1,m2⟩:=Uk h3
  refine⟨a,ns,rfl,ha,(λz=>by rw[z]at m1;cases m1),λM' h5 h6=>?_⟩
  have:M'=M:=Int.le_antisymm (m2 M' h5) (h6 M m1)
  subst this
  exact w _ F H (.refl s) (Al.of (.int _))
theorem VR:yK K ct [n] k (λxs H Q=>∃(a:af) (bs:List Bool),xs=[.ref a]/\fN K H a (bs.map V.bl)/\Q (.bl (bs.all id)) H) Ah:=by
 intro F H vs ds d Q s l e w
 match ds,l,e with
 |[.lst xs],l,e=>
  obtain⟨bs,h1,h2⟩:=aR (show(lI xs).bind _=_ from e)
  cases h2
  cases l with
  |cons h t=>
   cases t
   obtain⟨a,us,rfl,ha,hp⟩:=h.lst s
   have:=Lx h1
   subst this
   have:=hp.blV
   subst this
   exact⟨a,bs,rfl,ha,w _ F H (.refl s) (Al.of (.bl _))⟩
end
end L3
namespace L3
open PySem PySem.Spec L2
open PyProof.Rows hiding St
def rC (H:Hp)(x:af):Hp:=λb=>if b=x then none else H b
theorem L9 (H:Hp)(x:af):bL (rC H x) H:=λb o h=>by
 unfold rC at h
 by_cases e:b=x
 ·rw[if_pos e]at h;cases h
 ·rw[if_neg e]at h;exact h
theorem Xd (H:Hp)(x:af):rC H x x=none:=if_pos rfl
theorem DN {H:Hp}{x b:af}(h:b≠x):rC H x b=H b:=if_neg h
def qV (K:ae)(ct:Nat->af)(cs:List Nat)(pm:List Nat)(mi:Nat->List D->Option D):Sp:=λvs H Q _=>∃(F:Hp) (c:Nat) (ds:List D) (d:D) (x dx:af) (us:List V),c∈cs/\vs=.ref x::us/\H x=some (.ins (ct c) dx [])/\F x=none/\bL F H/\iy K ct F (rC H x) pm ds us/\mi c ds=some d /\
 ∀F' H',bL F F'->bL (rC H x) H'->bL F' H'->(∀a o,rC H x a=some o->jM o->F a=none->F' a=none)->F' x=none->Ow K ct F' H' 1 d (.ref x) [x]->Q .non H'
theorem qV.len {K:ae}{ct:Nat->af}{cs pm:List Nat}{mi:Nat->List D->Option D}{ps:List aK}(h:pm.length+1=ps.length):∀vs H Q E,qV K ct cs pm mi vs H Q E->vs.length=ps.length:=by
 rintro vs H Q E ⟨F,c,ds,d,x,dx,us,_,rfl,_,_,_,l,_⟩
 rw[aB,l.length,h]
def uD (N:List aK)(b:SF)(c:Nat)(ds:List D):Option D:=(b (some (.obj c [] [])::startD N.tail ds)).bind λo=>match o with
 |.nx ρ=>(ρ[0]?).join
 |_=>none
section
variable {X:Cx}{ct:Nat->af}{ms:List Mo}{rk n m k:Nat}{a b c e tg:Expr}{f g h:EF}{u w:SF}{pos:cy}
theorem u6 {P:aT}{w:bt}{K:ae}{mg:aK->Option aa}{base:aE}{x qual:aK}{st:bI}{fa:af}{fd:aP}{N0:aK}{N ps:List aK}{kk:Nat}{cs pm:List Nat}{bf:SF}(Fn:Fun2 K x qual st fa fd)(S:bE (N0::N) ps (aU st))(xA:pm.length+1=ps.length)(Ey:ms.length=N.length)(n8:pm.length<=N.length)
  (wV:∀(i n:Nat),pm[i]?=some n->ms[i]?=some (Mo.al n)\/(n=0/\ms[i]?=some (Mo.ow 0)))
  (body:∀(x:af) (gx:aa) (A:bi) (outer:List PySem.Env) (s:ai) (H:Hp) (E:XK),dw kk (A.deeper (envOfC qual (aU st) s.heap.objs.size fa gx))->oF (lr eW P w K mg base (N0::N) qual (aU st) fa gx A outer s H E).nox ct (.so x::ms) rk (fO st) bf) :
  cB P w K mg base eW (kk+1) fa fd ps (qV K ct cs pm (uD (N0::N) bf)):=by
 refine Fn.ok S (qV.len xA) λgx A outer s H vs Q E hr h=>?_
 obtain⟨F,c,ds,d,x,dx,us,hc,rfl,hx,hF,sF,l,hm,q⟩:=h
 obtain⟨t,pt,qt⟩:=body x gx A outer s H E hr
 refine⟨t,pt,?_⟩
 obtain⟨o,h1,h2⟩:=aR hm
 have hdl:ds.length=us.length:=l.length'
 have Pe:us.length=pm.length:=l.length
 have ow:Ow K ct F H 1 (.obj c [] []) (.ref x) [x]:=.inr (sm.obj (vs:=[]) hF hx rfl .nil)
 have YT:bL F (rC H x):=λb o hb=>by
  rw[DN (λe=>by rw[e,hF]at hb;cases hb)]
  exact sF _ _ hb
 refine qt F (rC H x) F H (some (.obj c [] [])::startD N ds) (L2.start (N0::N) (.ref x::us)) o _ ⟨.refl _,L9 H x,sF,λ_ _ _ _ h=>h,[x],?_,by simp,λa z=>by rw[aQ]at z;subst z;exact Xd H _⟩ h1 ?_
 ·have e:L2.start (N0::N) (.ref x::us)=some (.ref x)::(us.map some++aC (N.length-us.length) none):=by
   unfold L2.start
   simp
  rw[e]
  unfold startD
  rw[hdl]
  exact SL.so (fp:=[]) ow (SL.start _ l wV (by omega))
 ·cases o with
  |nx ρ=>
   intro σ F' H' r
   obtain⟨fp,sl,nd,hb⟩:=r.sl
   cases sl with
   |no _=>cases h2
   |so KQ _=>
    cases h2
    exact q F' H' r.f0 r.bh r.fh r.nf (KQ.cells x am).1 KQ
  |rt d'=>cases h2
  |bk ρ=>cases h2
  |ct ρ=>cases h2
end
end L3
namespace L3
open PySem PySem.Spec L2
open PyProof.Rows hiding St
theorem Ma {f:aK}{y:V}:∀{ns:List aK} {vs:List V},ns.length=vs.length->ns.contains f=false->iq f y (ns.zip vs)=(ns++[f]).zip (vs++[y])
 |[],[],_,_=>rfl
 |[],_::_,h,_=>by simp at h
 |_::_,[],h,_=>by simp at h
 |n::ns,v::vs,h,hc=>by
  rw[jW,oe]at hc
  have hn:¬n=f:=λe=>by rw[e]at hc;simp at hc
  have ih:=Ma (f:=f) (y:=y) (ns:=ns) (vs:=vs) (by simpa using h) hc.2
  show iq f y ((n,v)::ns.zip vs)=(n,v)::(ns++[f]).zip (vs++[y])
  rw[←ih]
  show(if n=f then _ else _)=_
  rw[if_neg hn]
theorem Ow.obj_inv {ct:Nat->af}{K:ae}{F H:Hp}{c k:Nat}{ns:List aK}{ds:List D}{v:V}{fp:List af}(h:Ow K ct F H (k+1) (.obj c ns ds) v fp):∃a dx vs fr,v=.ref a/\fp=a::fr/\F a=none/\H a=some (.ins (ct c) dx (ns.zip vs))/\ns.length=vs.length/\eJ (Ow K ct F H k) ds vs fr:=by
 rcases h with⟨h,_⟩|h
 ·cases h
 ·cases h with
  |obj h1 h2 h3 h4=>exact⟨_,_,_,_,rfl,rfl,h1,h2,h3,h4⟩
section
variable {X:Cx}{ct:Nat->af}{ms:List Mo}{rk n m k:Nat}{a b c e tg:Expr}{f g h:EF}{u w:SF}{pos:cy}{x0:af}
def gE (cs:List Nat)(x:aK)(f:EF):SF:=λρ=>(f ρ).bind λd=>(eV 0 ρ).bind λo=>match o with
 |.obj c ns ds=>if cs.contains c=true/\ns.contains x=false/\ns.length<900 then some (.nx (ρ.set 0 (some (.obj c (ns++[x]) (ds++[d])))))else none
 |_=>none
theorem RS.self {K:ae}{F0 B F H F' H':Hp}{ρ:Env}{σ:St}{d:D}(rs:RS K ct F0 B (.so x0::ms) F H ρ σ)(hd:ρ[0]?=some (some d)):σ[0]?=some (some (.ref x0))/\Ow K ct F H 1 d (.ref x0) [x0]/\B x0=none /\
  ∀(F' H':Hp) (d':D),bL F F'->bL B H'->bL F' H'->(∀a o,B a=some o->jM o->F0 a=none->F' a=none)->(∀a o,H a=some o->a≠x0->H' a=some o)->(∀a o,H a=some o->a≠x0->jM o->F a=none->F' a=none)->Ow K ct F' H' 1 d' (.ref x0) [x0]->RS K ct F0 B (.so x0::ms) F' H' (ρ.set 0 (some d')) σ:=by
 obtain⟨fp,sl,nd,hb⟩:=rs.sl
 cases sl with
 |no _=>simp at hd
 |so ow t=>
  simp at hd
  subst hd
  refine⟨rfl,ow,hb _ am,λF' H' d' s1 s2 s3 s4 k1 k2 o'=>⟨rs.f0.trans s1,s2,s3,s4,_,.so o' (t.frame s1 λa z=>?_),nd,hb⟩⟩
  obtain⟨hn,o,ho,nt⟩:=t.cells a z
  have ne:a≠x0:=λe=>(bz.mp nd).1 (by rw[←e];exact z)
  exact⟨(k1 a o ho ne).trans ho.symm,k2 a o ho ne nt hn⟩
theorem qo {x s:aK}{cs:List Nat}{p1 pos':cy}(hc:∀c∈cs,kP X.K (ct c)/\ej X.K (ct c) x)(he:XE X ct (.so x0::ms) 0 e f)(hN:X.N[0]?=some s:=by rfl)(hv:qZ X.env.scope s:=by first|exact Or.inl rfl|exact Or.inr (Or.inl rfl)|exact Or.inr (Or.inr rfl))(hd:(s==("__debug__":aK))=false:=by decide)
  (jP:(s==("__classdict__":aK))=false:=by decide) (hs:dI e (some (.Attribute (.Name s p1) x pos')) pos.line X.env=pure false:=by rfl):XS X ct (.so x0::ms) rk (.Assign [.Attribute (.Name s p1) x pos'] e pos) (gE cs x f):=by
 obtain⟨t,pt,qt⟩:=he
 refine⟨_,WF (uv hN hv hd jP) pt hs,λF0 B F H ρ σ o E rs e z=>?_⟩
 obtain⟨d,h1,h2⟩:=aR e
 obtain⟨ob,h3,h4⟩:=aR h2
 refine qt F0 B F H ρ σ d _ rs h1 λy F1 H1 x1 l=>?_
 have mD:=rs.ext x1
 obtain⟨hσ,ow,hB,put⟩:=mD.self (F':=F) (H':=H) (wb h3)
 refine⟨_,hσ,?_⟩
 cases ob with
 |obj c ns ds=>
  dsimp only at h4
  by_cases hz:cs.contains c=true/\ns.contains x=false/\ns.length<900
  ·rw[if_pos hz]at h4
   cases h4
   obtain⟨a,dx,vs,fr,e1,e2,hF,hH,hl,ol⟩:=ow.obj_inv
   cases e1
   cases e2
   have hh:=hc c (by simpa using hz.1)
   refine⟨x0,_,dx,_,rfl,hH,hh.1,hh.2,by rw[eP,←hl,kL];omega,?_⟩
   rw[Ma hl hz.2.1]
   refine z σ F1 _ (put F1 _ _ (.refl _) (λb o h=>?_) (λb o h=>?_) mD.nf (λb o h ne=>by rw[zg ne];exact h) (λb o h ne _ hn=>hn) (.inr (sm.obj (vs:=vs++[y]) hF zm (by simp[hl]) ?_)))
   ·rw[zg (λe=>by rw[e,hB]at h;cases h)];exact mD.bh _ _ h
   ·rw[zg (λe=>by rw[e,hF]at h;cases h)];exact mD.fh _ _ h
   ·have o1:eJ (Ow X.K ct F1 (upd H1 x0 (.ins (ct c) dx ((ns++[x]).zip (vs++[y])))) 0) ds vs []:=ol.mono λ_ _ _ _ q=>⟨q.1,q.2⟩
    have:=o1.append (eJ.cons (f:=[]) (g:=[]) (R:=Ow X.K ct F1 (upd H1 x0 (.ins (ct c) dx ((ns++[x]).zip (vs++[y])))) 0) ⟨l,rfl⟩ .nil)
    exact this
  ·rw[if_neg hz]at h4;cases h4
 |_=>cases h4
variable {kk:Nat}{fa:af}{fd:aP}{ps:List aK}{pm cs:List Nat}{mi:Nat->List D->Option D}{x:aK}{pp:cy}
theorem Fa {c0:Nat}{es:List Expr}{ns nd:List Nat}{fs:Env->Option (List D)}{gp:List V}{iP:List D}{lK:List aa}(M:Mk X.K (ct c0) fa)(rn:c0∈cs)(Fn:cB X.prog X.w X.K X.mg X.base eW kk fa fd ps (qV X.K ct cs (ns++nd) mi))(hr:dw (kk+1) X.A)(hg:Gl X x)(hm:X.mg x=some (.ref (ct c0)))
  (hb:bO X.K fd ps lK) (hd:bR gp lK) (rq:∀F G,iy X.K ct F G nd iP gp) (ha:XA X ct ms (e::es) ns fs)
  (iB:(x==("__debug__":aK))=false:=by decide) (he:ap (e::es) X.env=(false,bB e X.env)::ap es X.env:=by rfl) (el:(bZ pos (ap es X.env)).any (·.1)=false:=by rfl) :
  XO X ct ms 1 (.Call (.Name x pp) (e::es) [] pos) (λρ=>(fs ρ).bind λds=>mi c0 (ds++iP)):=by
 obtain⟨t,pt,_,qt⟩:=ha
 refine⟨_,UZ M Fn hr hg hm hb hd nM pt iB he el,λF0 B F H ρ σ r Q rs e w=>?_⟩
 obtain⟨ds,h1,h2⟩:=aR e
 refine qt F0 B F H ρ σ ds _ rs h1 λvs F1 H1 x1 l y dy hy OQ kU=>?_
 have sH:bL H1 (rC (upd (upd H1 dy (.own y)) y (.ins (ct c0) dy [])) y):=λb o h=>by
  have n1:b≠y:=zk h hy
  rw[DN n1,zg n1,zg (zk h OQ)]
  exact h
 have Qy:bL H1 (upd (upd H1 dy (.own y)) y (.ins (ct c0) dy [])):=sH.trans (L9 _ _)
 refine⟨F1,c0,ds++iP,r,y,dy,vs++gp,rn,rfl,zm,x1.fh.free hy,x1.fh.trans Qy,iy.mono (.refl _) sH (iy.append (rq F1 H1) l),h2,λF' H' s1 s2 s3 s4 hn ow=>⟨rfl,?_⟩⟩
 refine w _ F' H' [y] ⟨x1.ff.trans s1,(x1.hh.trans sH).trans s2,s3,λb o h t n=>s4 b o (sH _ _ (x1.hh _ _ h)) t (x1.nf b o h t n)⟩ ow (by simp) λb z=>?_
 rw[aQ]at z
 subst z
 exact x1.hh.free hy
theorem Tz {C:af}{sp:Sp}{gp:List V}{ds:List aa}{E:XK}{m:aK}{p cN:cy}{es:List Expr}{t:TA}{pl:gU Bool}{mc:aa}(Fn:cB X.prog X.w X.K X.mg X.base eW kk fa fd ps sp)(hr:dw kk X.A)(hg:Gl X x)(hm:X.mg x=some (.ref C))
  (h1:bK X.K (.ref C) "__getattribute__"=some (some (.builtin "type.__getattribute__"))) (h2:dU X.K C mc=true) (h3:dS X.K (.ref C) mc m=some (.val (.ref fa))) (hk:ar X.K (.ref fa)=true) (hb:bO X.K fd ps ds) (hd:bR gp ds) (hx:iz eW X E) (ha:PA X (e::es) t)
  (iB:(x==("__debug__":aK))=false:=by decide) (iR:ap (e::es) X.env=(false,bB e X.env)::ap es X.env:=by rfl) (el:(bZ pos (ap es X.env)).any (·.1)=false:=by rfl)
  (ht:bB (.Call (.Attribute (.Name x p) m cN) (e::es) [] pos) X.env=(do
   let ov ← bB (.Name x p) X.env
   eQ cN.atName
   let(f,first) ← dD [ov] (fG ov m pl)
   gX pos f first (bZ pos (ap (e::es) X.env)) (eK pos (dc [] X.env))):=by rfl) :
  PE X (.Call (.Attribute (.Name x p) m cN) (e::es) [] pos) (uP sp gp E t):=by
 intro ah s σ H Q I h
 refine dZ (pl:=pl) (u5 I hg hm ?_ iB) ht
 refine nZ I.kIn h1 (oh I.kIn h2 h3 rfl ?_)
 have I1:Inv X ah σ H { s with toks:=s.toks+1 }:=I.tok _
 refine dQ (first:=[]) (h₀:=X.base) I.ok.mod.kin hk (cO (ha pos ah _ σ H _ I1 h) λus s2 ⟨vs,H2,I2,r,q2⟩=>⟨I2.kIn,?_⟩) iR el
 exact Fj (us:=us) (vs:=vs) Fn hr hb hd hx I2 r q2
theorem iy.flat {K:ae}{F G G':Hp}{ns:List Nat}{ds:List D}{vs:List V}(h:iy K ct F G ns ds vs)(e:ns.all (· == 0)=true):iy K ct F G' ns ds vs:=by
 induction h with
 |nil=>exact .nil
 |cons h t ih=>
  rw[eL,bT]at e
  cases eq_of_beq e.1
  exact .cons h (ih e.2)
def oP (cs:List Nat)(fs:Env->Option (List D))(mi:Nat->List D->Option D):SF:=λρ=>(eV 0 ρ).bind λo=>(fs ρ).bind λds=>match o with
 |.obj c [] []=>if cs.contains c=true then(mi c ds).bind λd=>some (.nx (ρ.set 0 (some d)))else none
 |_=>none
theorem MK {C:af}{s m:aK}{p p1 dE cN:cy}{es:List Expr}{ns:List Nat}{fs:Env->Option (List D)}{pl:gU Bool}{mc:aa}(Fn:cB X.prog X.w X.K X.mg X.base eW kk fa fd ps (qV X.K ct cs ns mi))(hr:dw kk X.A)(hm:X.mg x=some (.ref C))
  (h1:bK X.K (.ref C) "__getattribute__"=some (some (.builtin "type.__getattribute__"))) (h2:dU X.K C mc=true) (h3:dS X.K (.ref C) mc m=some (.val (.ref fa))) (hk:ar X.K (.ref fa)=true) (hb:bO X.K fd ps []) (hz:ns.all (· == 0)=true) (ha:XA X ct (.so x0::ms) es ns fs)
  (hg:Gl X x:=by rfl) (hN:X.N[0]?=some s:=by rfl) (hv:qZ X.env.scope s:=by first|exact Or.inl rfl|exact Or.inr (Or.inl rfl)|exact Or.inr (Or.inr rfl)) (hd:(s==("__debug__":aK))=false:=by decide)
  (jP:(s==("__classdict__":aK))=false:=by decide) (iB:(x==("__debug__":aK))=false:=by decide) (iR:ap (.Name s p1::es) X.env=(false,bB (.Name s p1) X.env)::ap es X.env:=by rfl) (el:(bZ dE (ap es X.env)).any (·.1)=false:=by rfl)
  (ht:bB (.Call (.Attribute (.Name x p) m cN) (.Name s p1::es) [] dE) X.env=(do
   let ov ← bB (.Name x p) X.env
   eQ cN.atName
   let(f,first) ← dD [ov] (fG ov m pl)
   gX dE f first (bZ dE (ap (.Name s p1::es) X.env)) (eK dE (dc [] X.env))):=by rfl)
  (xB:dI (.Call (.Attribute (.Name x p) m cN) (.Name s p1::es) [] dE) none pos.line X.env=pure false:=by rfl) :
  XS X ct (.so x0::ms) rk (.Expr (.Call (.Attribute (.Name x p) m cN) (.Name s p1::es) [] dE) pos) (oP cs fs mi):=by
 obtain⟨t,pt,_,qt⟩:=ha
 refine⟨_,Fd (Tz (E:=E0) Fn hr hg hm h1 h2 h3 hk hb .nil nM (xn (uv hN hv hd jP) pt iR) iB iR el ht) xB,λF0 B F H ρ σ o E rs e z=>?_⟩
 obtain⟨ob,ds,g1,g2,g3⟩:=dY e
 obtain⟨hσ,ow,hB,put⟩:=rs.self (F':=F) (H':=H) (wb g1)
 refine⟨_,hσ,qt F0 B F H ρ σ ds _ rs g2 λvs F1 H1 x1 l=>?_⟩
 have mD:=rs.ext x1
 obtain⟨hσ,ow,hB,put⟩:=mD.self (F':=F) (H':=H) (wb g1)
 match ob,g3,ow with
 |.obj c [] [],g3,ow=>
  dsimp only at g3
  by_cases hc:cs.contains c=true
  ·rw[if_pos hc]at g3
   obtain⟨d,g4,g5⟩:=aR g3
   cases g5
   obtain⟨a,dx,us,fr,e1,e2,hF,hH,hl,ol⟩:=ow.obj_inv
   cases e1
   cases e2
   refine⟨F1,c,ds,d,x0,dx,vs++[],by simpa using hc,rfl,hH,hF,x1.fh,?_,g4,λF' H' s1 s2 s3 s4 hn o'=>?_⟩
   ·rw[bX];exact l.flat hz
   ·have sB:bL B (rC H1 x0):=λb o h=>by
     rw[DN (λe=>by rw[e,hB]at h;cases h)]
     exact mD.bh _ _ h
    exact z σ F' H' (put F' H' d s1 (sB.trans s2) s3 (λb o h t n=>s4 b o (sB _ _ h) t (mD.nf b o h t n)) (λb o h ne=>s2 _ _ (by rw[DN ne];exact h)) (λb o h ne t uA=>s4 b o (by rw[DN ne];exact h) t uA) o')
  ·rw[if_neg hc]at g3;cases g3
end
end L3
namespace L3
open PySem PySem.Spec L2
open PyProof.Rows hiding St
structure mL (K:ae)(mg:aK->Option aa)(x:aK)(st:bI)(ps:List aK)(f:af)(fd:aP):Prop where
 fn:Fun2 K x x st f fd
 mgx:mg x=some (.ref f)
 bd:bO K fd ps []
structure Dm (K:ae)(C:af)(m qual:aK)(st:bI)(ps:List aK)(f:af)(fd:aP):Prop where
 fn:Fun2 K m qual st f fd
 me:oB K C m f
 bd:bO K fd ps []
structure Dc (K:ae)(mg:aK->Option aa)(x:aK)(C:af):Prop where
 cl:kP K C
 mgx:mg x=some (.ref C)
 mks:cW K C=true
 kp:ar K (.ref C)=true
structure Dq (K:ae)(C:af)(m:aK)(f:af):Prop where
 sp:bK K (.ref C) "__getattribute__"=some (some (.builtin "type.__getattribute__"))
 rd:dU K C (.type "type")=true
 fc:dS K (.ref C) (.type "type") m=some (.val (.ref f))
theorem yf {K:ae}{x qual:aK}{st:bI}{f:af}{oc:aa}{od an:Option af}{sX:Array (Option aa)}{dV kV doc pm gx ct:aa}(l:K.lookup f=some ⟨oc,od,.func (gc x qual (lB st) (fO st) (aU st) dV kV doc pm an gx ct),sX⟩)
  (c:aL K gx qual=true) (k:ar K (.ref f)=true):Fun2 K x qual st f (gc x qual (lB st) (fO st) (aU st) dV kV doc pm an gx ct):=⟨⟨oc,od,dV,kV,doc,pm,an,gx,ct,sX,rfl,l,c⟩,k⟩
theorem VS {K:ae}{fd:aP}{ps:List aK}{ds:List aa}{T:af}{o:cu}{items:Array aa}{n:Nat}(hd:fd.defaults=.ref T)(ho:K.lookup T=some o)(hs:o.data=.seq items n)
  (h:∀us:List aa,(us++ds).length=ps.length->∃k,bindArgs fd ⟨us,[]⟩=seqItems? fd.defaults >>= k/\k (some items)=pure (ps.zip (us++ds))):bO K fd ps ds:=λs us X hl=>by
 obtain⟨k,h1,h2⟩:=h us hl
 exact PySem.W.binds_K X hd ho hs h1 h2
theorem zH (m:Nat){K:ae}{fd:aP}{ps:List aK}{ds:List aa}{T:af}{o:cu}{items:Array aa}{n:Nat}(ho:K.lookup T=some o)(h:∀us:List aa,us.length=m->∃k,bindArgs fd ⟨us,[]⟩=seqItems? fd.defaults >>= k/\k (some items)=pure (ps.zip (us++ds)))(hd:fd.defaults=.ref T:=by rfl)(hs:o.data=.seq items n:=by rfl)(hm:m+ds.length=ps.length:=by rfl):bO K fd ps ds :=
 VS hd ho hs λus hl=>h us (by rw[aV]at hl;omega)
end L3
namespace L3
open PySem PySem.Spec L2
open PyProof.Rows hiding St
def FB (x:aK):It:=⟨λi _=>∃c,x.cps[i]?=some c,λi H v H'=>H'=H/\∃c,x.cps[i]?=some c/\v=.str ⟨#[c]⟩,λi _=>x.cps[i]?=none⟩
theorem TC {P:aT}{w:bt}{K:ae}{tg:Expr}(x:aK)(t:Tok)(it:af):Turn P w K tg (FB x) [it] it (λi h=>h.IsStrIter it (cD x) x t i) where
 mem:=by simp
 obj:=λi h st b hb=>by
  have e:b=it:=by simpa using hb
  subst e
  obtain⟨o,e,c,d⟩:=st
  exact⟨o,e,λv z=>by rw[d]at z;cases z⟩
 keep:=λi h h' st k=>by
  obtain⟨o,e,c,d⟩:=st
  exact⟨o,k it (by simp) o e,c,d⟩
 item:=by
  intro X hP hw hK hc i ah s σ H E I hf st hg
  subst hP hw hK
  obtain⟨c,hx⟩:=hg
  obtain⟨f0,f1,f2,f3,f4,f5⟩:=hf it (by simp)
  have fin:∀h':aE,h'.IsStrIter it (cD x) x t (i+1)->dB it s.heap h'->aN (aA X.prog X.w) X.A (gI tg (.ref it) (.str ⟨#[c]⟩ s.toks)) (λ_ s2=>∃v H',Inv X ah σ H' s2/\RelV v (.str ⟨#[c]⟩ s.toks)/\(FB x).yld i H v H'/\s2.heap.IsStrIter it (cD x) x t (i+1)/\∀b∈[it],H' b=none) E { s with heap:=h',toks:=s.toks+1 }:=λh' mm sb=>by
   have I1:Inv X ah σ H { s with heap:=h',toks:=s.toks+1 }:=I.turned (t':=s.toks+1) (λb o hb e=>(sb.2 b hb).trans e) f0 f1 f3 f4 f5
   obtain⟨o,e,cc,d⟩:=id mm
   refine Jv (s:={ s with heap:=h',toks:=s.toks+1 }) e cc d ?_ ⟨.str ⟨#[c]⟩,H,I1,⟨_,rfl⟩,⟨rfl,c,hx,rfl⟩,mm,λb hb=>(hf b hb).1⟩
   unfold cD
   split<;>decide
  cases ha:x.cps.all (·<128)with
  |true=>
   have e:cD x = "str_ascii_iterator":=by unfold cD;rw[ha];rfl
   rw[e]at st fin
   exact wpAny_pyNext_ascii_item st hx λh' mm sb=>⟨_,rfl,by rw[e];exact fin h' mm sb⟩
  |false=>
   have e:cD x = "str_iterator":=by unfold cD;rw[ha];rfl
   rw[e]at st fin
   exact wpAny_pyNext_wide_item st hx λh' mm sb=>⟨_,rfl,by rw[e];exact fin h' mm sb⟩
 done:=by
  intro X hP hw hK hc i ah s σ H E I hf st hg
  subst hP hw hK
  obtain⟨f0,f1,f2,f3,f4,f5⟩:=hf it (by simp)
  cases ha:x.cps.all (·<128)with
  |true=>
   have e:cD x = "str_ascii_iterator":=by unfold cD;rw[ha];rfl
   rw[e]at st
   exact wpAny_pyNext_ascii_end (I.ok.hd hc) st hg λh' eb=>⟨rfl,I.turned (t':=s.toks) (λb o hb e=>eb b o hb e) f0 f1 f3 f4 f5⟩
  |false=>
   have e:cD x = "str_iterator":=by unfold cD;rw[ha];rfl
   rw[e]at st
   exact wpAny_pyNext_wide_end (I.ok.hd hc) st hg λh' eb=>⟨rfl,I.turned (t':=s.toks) (λb o hb e=>eb b o hb e) f0 f1 f3 f4 f5⟩
 self:=λA i s Q E st h=>by
  cases ha:x.cps.all (·<128)with
  |true=>
   have e:cD x = "str_ascii_iterator":=by unfold cD;rw[ha];rfl
   rw[e]at st
   exact wpAny_pyIter_striter_ascii st h
  |false=>
   have e:cD x = "str_iterator":=by unfold cD;rw[ha];rfl
   rw[e]at st
   exact wpAny_pyIter_striter_wide st h
def HA (tl:TE):TI:=λσ H R=>tl σ H λx H1=>∃z,x=.str z/\R (FB z) H1
section
variable {X:Cx}{ct:Nat->af}{ms:List Mo}{rk n m k:Nat}{st:bI}{rest:List bI}{a b c e tg:Expr}{f g h:EF}{p q:BF}{u w:SF}{pos:cy}
theorem Xe {l:Expr}{tl:TE}(hl:PE X l tl):PI X tg l (HA tl):=by
 intro ah s σ H R I h
 refine cO (hl ah s σ H _ I h) λv s1 cS=>?_
 obtain⟨x,H1,I1,r,z,e,q⟩:=cS
 subst e
 obtain⟨t,rfl⟩:=r
 refine wpAny_pyIter_strU ?_
 refine⟨s1.heap.objs.size,[s1.heap.objs.size],_,_,H1,rfl,I1.kept (t':=s1.toks) λb o e=>aq _ e,TC z t _,⟨_,br _ rfl,rfl,rfl⟩,λb hb=>?_,q⟩
 have e:b=s1.heap.objs.size:=by simpa using hb
 subst e
 exact I1.fpOk (aH _) (I1.hok.fresh (aH _))
def oS (x:aK):List D:=x.cps.toList.map λc=>.str ⟨#[c]⟩
def JM:D->Option (List D)
 |.str x=>some (oS x)
 |_=>none
theorem Xf (he:XE X ct ms m e f):XI X ct ms n tg e (λρ=>(f ρ).bind JM):=by
 obtain⟨t,pt,qt⟩:=he
 refine⟨_,Xe pt,λF0 B F H ρ σ ds R rs e w=>?_⟩
 obtain⟨d,h1,h2⟩:=aR e
 refine qt F0 B F H ρ σ _ _ rs h1 λv F' H' x l=>?_
 cases d with
 |str z=>
  cases h2
  refine⟨z,l.str,w _ F' H' x λi F2 H2 s1 s2 s3=>⟨λd hd=>?_,λhl=>?_⟩⟩
  ·unfold oS at hd
   rw[bn]at hd
   obtain⟨c,hc,rfl⟩:=bF.mp hd
   have tZ:z.cps[i]?=some c:=by simpa using hc
   refine⟨⟨c,tZ⟩,λy H3 hy=>?_⟩
   obtain⟨rfl,c2,h3,rfl⟩:=hy
   rw[tZ]at h3
   cases h3
   exact⟨F2,.refl s3,Al.of (.str _)⟩
  ·unfold oS at hl
   rw[aM,bQ]at hl
   exact Array.getElem?_eq_none hl
 |_=>cases h2
theorem TD {κ:Type}[DecidableEq κ](k:κ)(v:V):∀{ks:List κ} {vs:List V},ks.length=vs.length->putK (ks.zip vs) k v=(if ks.contains k=true then ks.zip ((ks.zip vs).map λp=>if p.1=k then v else p.2)else(ks++[k]).zip (vs++[v])):=by
 intro ks vs hl
 unfold putK
 have e:((ks.zip vs).any λkv=>decide (kv.1=k))=ks.contains k:=by
  rw[Bool.eq_iff_iff,List.any_eq_true,List.contains_iff_mem]
  constructor
  ·rintro⟨p,hp,he⟩
   have:=decide_eq_true_iff.mp he
   rw[←this]
   exact(gm hp).1
  ·intro hk
   obtain⟨i,hi,rfl⟩:=List.getElem_of_mem hk
   exact⟨(ks[i],vs[i]'(by omega)),dC.mpr ⟨i,by simp;omega,by simp⟩,by simp⟩
 rw[e]
 by_cases h:ks.contains k=true
 ·rw[if_pos h,if_pos h]
  clear e h
  induction ks generalizing vs with
  |nil=>simp
  |cons y ks ih=>
   cases vs with
   |nil=>simp at hl
   |cons u vs=>
    simp only[eS,bq,ih (by simpa using hl)]
    by_cases hy:y=k<;>simp[hy]
 ·rw[if_neg h,if_neg h,sj hl]
  rfl
end
end L3
namespace L3
open PySem PySem.Spec L2
open PyProof.Rows hiding St
section
variable {X:Cx}{ct:Nat->af}{ms:List Mo}{rk n m k:Nat}{st:bI}{rest:List bI}{a b c e tg:Expr}{f g h:EF}{p q:BF}{u w:SF}{pos:cy}
def o8 (i:Nat)(fj f:EF):SF:=λρ=>(f ρ).bind λd=>(eV i ρ).bind λo=>(fj ρ).bind λj=>match o with
 |.dK ks ds=>(sR j).bind λk=>if ks.length<16777216 then some (.nx (ρ.set i (some (.dK (fS ks ds k d).1 (fS ks ds k d).2))))else none
 |.dT ks ds=>(match j with
  |.tup js=>(mR js).bind λk=>if ks.length<16777216 then some (.nx (ρ.set i (some (.dT (fS ks ds k d).1 (fS ks ds k d).2))))else none
  |_=>none)
 |_=>none
theorem Mb {κ:Type}[DecidableEq κ]{R:D->V->Prop}{d:D}{v:V}(r:R d v)(k:κ){ks:List κ}{ds:List D}{vs:List V}(hl:ks.length=vs.length)(hp:Pr R ds vs) :
  ∃us,putK (ks.zip vs) k v=(fS ks ds k d).1.zip us/\(fS ks ds k d).1.length=us.length/\Pr R (fS ks ds k d).2 us:=by
 rw[TD k v hl]
 unfold fS
 by_cases h:ks.contains k=true
 ·rw[if_pos h,if_pos h]
  refine⟨_,rfl,by simp[hl],?_⟩
  clear h
  induction ks generalizing ds vs with
  |nil=>simp;exact .nil
  |cons y ks ih=>
   cases hp with
   |nil=>simp at hl
   |cons h t=>
    simp only[eS,bq]
    refine .cons ?_ (ih (by simpa using hl) t)
    by_cases hy:y=k
    ·rw[if_pos hy,if_pos hy];exact r
    ·rw[if_neg hy,if_neg hy];exact h
 ·rw[if_neg h,if_neg h]
  exact⟨_,rfl,by simp[hl],hp.append (.cons r .nil)⟩
theorem ML (i:Nat){x:aK}{j:Expr}{p1 i9:cy}{fj:EF}(hm:ms[i]?=some (.ow 1))(hu:X.A.units+1<gW)(hj:XE X ct ms 0 j fj)(he:XE X ct ms 0 e f)(hN:X.N[i]?=some x:=by rfl)(hv:qZ X.env.scope x:=by first|exact Or.inl rfl|exact Or.inr (Or.inl rfl)|exact Or.inr (Or.inr rfl))(hd:(x==("__debug__":aK))=false:=by decide)
  (jP:(x==("__classdict__":aK))=false:=by decide) (hs:dI e (some (.Subscript (.Name x p1) j i9)) pos.line X.env=pure false:=by rfl) :
  XS X ct ms rk (.Assign [.Subscript (.Name x p1) j i9] e pos) (o8 i fj f):=by
 obtain⟨t,pt,qt⟩:=he
 obtain⟨tj,De,Df⟩:=hj
 refine⟨_,UK hu (uv hN hv hd jP) De pt hs,λF0 B F H ρ σ o E rs e z=>?_⟩
 obtain⟨d,g1,g2⟩:=aR e
 obtain⟨d1,tV,g3,g4,g5⟩:=dY g2
 refine qt F0 B F H ρ σ d _ rs g1 λv0 F1 H1 x1 l0=>?_
 have mD:=rs.ext x1
 obtain⟨f1,fr,n1,b1,dj,i4,cf,put⟩:=mD.put (F':=F) (H':=H) hm
 obtain⟨v,hσ,ow⟩:=i4 d1 (wb g3)
 refine⟨v,hσ,Df F0 B F1 H1 ρ σ tV _ mD g4 λvj F2 H2 x2 lj=>?_⟩
 have KL:Dt X.K ct F2 d v0:=Dt.mono x2.ff l0
 cases d1 with
 |dK ks ds=>
  dsimp only at g5
  obtain⟨key,g6,g7⟩:=aR g5
  by_cases hz:ks.length<16777216
  ·rw[if_pos hz]at g7
   cases g7
   obtain⟨ad,vs,wG,rfl,rfl,hF,hH,hl,ol⟩:=ow.dK_inv
   have hA:=x2.hh _ _ hH
   have fA:F2 ad=none:=x2.nf ad _ hH nofun hF
   have e0:=ol.nil0
   subst e0
   have hp:Pr (Dt X.K ct F2) ds vs:=ol.pr λ_ _ _ _ q=>q.1.mono x2.ff
   obtain⟨us,yY,EH,Ht⟩:=Mb KL key hl hp
   have hk:=Js g6 lj
   subst hk
   refine⟨ad,_,rfl,nF.k hA (by rw[eP,←hl,kL,bu];exact hz),?_⟩
   rw[yY]
   refine z σ F2 _ (mD.change hm x2 hσ b1 dj cf put am fA (.inr (.dK fA zm EH (eJ.ofPr (Ht.mono λ_ _ q=>⟨q,rfl⟩)))) (fn:=[ad]) (by simp) ?_)
   intro a ha
   rw[aQ]at ha
   subst ha
   exact .inl am
  ·rw[if_neg hz]at g7;cases g7
 |dT ks ds=>
  cases tV with
  |tup js=>
   dsimp only at g5
   obtain⟨key,g6,g7⟩:=aR g5
   by_cases hz:ks.length<16777216
   ·rw[if_pos hz]at g7
    cases g7
    obtain⟨ad,vs,wG,rfl,rfl,hF,hH,hl,ol⟩:=ow.dT_inv
    have hA:=x2.hh _ _ hH
    have fA:F2 ad=none:=x2.nf ad _ hH nofun hF
    have e0:=ol.nil0
    subst e0
    have hp:Pr (Dt X.K ct F2) ds vs:=ol.pr λ_ _ _ _ q=>q.1.mono x2.ff
    obtain⟨us,yY,EH,Ht⟩:=Mb KL key hl hp
    obtain⟨bd,ws,rfl,hb,Hl⟩:=lj.tup x2.fh
    have hk:=MT g6 Hl
    subst hk
    refine⟨ad,_,rfl,nF.t hA hb (by rw[eP,←hl,kL,bu];exact hz),?_⟩
    rw[yY]
    refine z σ F2 _ (mD.change hm x2 hσ b1 dj cf put am fA (.inr (.dT fA zm EH (eJ.ofPr (Ht.mono λ_ _ q=>⟨q,rfl⟩)))) (fn:=[ad]) (by simp) ?_)
    intro a ha
    rw[aQ]at ha
    subst ha
    exact .inl am
   ·rw[if_neg hz]at g7;cases g7
  |_=>cases g5
 |_=>cases g5
def Di (K:ae):V->V->Hp->VK->Prop:=λo i H Q=>∃p xs k v,o=.ref p/\i=.int k/\fN K H p xs/\atI xs k=some v/\Q v H
theorem S4:Ad X (Di X.K):=by
 intro ah s σ H o i ov iv Q I ro ri h
 obtain⟨p,xs,k,z,rfl,rfl,hq,he,q⟩:=h
 cases ro
 obtain⟨t,rfl⟩:=ri
 obtain⟨bW,r,pl,hz⟩:=I.list hq
 obtain⟨j,h1,h2,h3,h4,h5⟩:=Ff he
 obtain⟨w,ew,oO⟩:=r.get h2
 have hl:=r.length
 have hn:=iD
 have fin:EP X ah σ Q w s:=⟨z,H,I,oO,q⟩
 by_cases h0:0<=k
 ·have hj:k.toNat=j:=by
   rw[mZ h0 h5]at h1
   exact Option.some.inj h1
  exact wpAny_getItem_list pl.isList h0 (by omega) (by rw[hj];simpa using ew) fin
 ·have hj:(k+(bW.toArray.size:Int)).toNat=j:=by
   rw[mh (by omega) h4]at h1
   rw[aI,←hl]
   exact Option.some.inj h1
  exact wpAny_getItem_list_neg pl.isList (by omega) (by rw[aI]<;>omega) (by omega) (by rw[hj];simpa using ew) fin
def nN (i:Nat)(fj:EF)(gi:Int->Int->Int)(f:EF):SF:=λρ=>(eV i ρ).bind λo=>(fj ρ).bind λj=>(f ρ).bind λy=>match o,j with
 |.lst ds,.int z=>(atI ds z).bind λx=>(match x,y with
  |.int a,.int b=>(lW ds z (.int (gi a b))).bind λpP=>some (.nx (ρ.set i (some (.lst pP))))
  |_,_=>none)
 |_,_=>none
theorem MU (i:Nat){x:aK}{op:iJ}{j:Expr}{p1 i9:cy}{fj:EF}{gi:Int->Int->Int}(ho:yM X op (EL gi))(hm:ms[i]?=some (.ow 1))(hj:XE X ct ms n j fj)(he:XE X ct ms m e f)(hN:X.N[i]?=some x:=by rfl)(hv:qZ X.env.scope x:=by first|exact Or.inl rfl|exact Or.inr (Or.inl rfl)|exact Or.inr (Or.inr rfl))(hd:(x==("__debug__":aK))=false:=by decide)
  (jP:(x==("__classdict__":aK))=false:=by decide) (ha:∀ov iv new,augStore j ov iv new=(do dD [new,ov,iv] (nB ov iv new);release [new,ov,iv] [];pure .next):=by intros;rfl) :
  XS X ct ms rk (.AugAssign (.Subscript (.Name x p1) j i9) op e pos) (nN i fj gi f):=by
 obtain⟨t,pt,qt⟩:=he
 obtain⟨tj,De,Df⟩:=hj
 refine⟨_,UR (uv hN hv hd jP) De S4 pt ho Mf ha,λF0 B F H ρ σ o E rs e z=>?_⟩
 obtain⟨d1,tV,g3,g4,g5⟩:=dY e
 obtain⟨d2,g6,g7⟩:=aR g5
 obtain⟨f1,fr,n1,b1,dj,i4,cf,put⟩:=rs.put (F':=F) (H':=H) hm
 obtain⟨v,hσ,ow⟩:=i4 d1 (wb g3)
 refine⟨v,hσ,Df F0 B F H ρ σ tV _ rs g4 λvj F2 H2 x2 lj=>?_⟩
 cases d1<;>try (cases g7;done)
 rename_i ds
 cases tV<;>try (cases g7;done)
 rename_i zi
 ·skip
  dsimp only at g7
  obtain⟨da,g8,g9⟩:=aR g7
  obtain⟨ad,vs,wG,rfl,rfl,hF,hH,ol⟩:=ow.lst_inv
  have hA:H2 ad=some (.lst vs):=x2.hh _ _ hH
  have hp:Pr (Al X.K ct F2 H2 0) ds vs:=ol.pr λ_ _ _ _ q=>q.1.mono x2.ff
  obtain⟨va,ON,GP⟩:=hp.atI g8
  refine⟨ad,vs,zi,va,rfl,lj.int,fN.of hA,ON,qt F0 B F2 H2 ρ σ d2 _ (rs.ext x2) g6 λvy F3 H3 x3 ly=>?_⟩
  have lc:=x2.trans x3
  cases da<;>try (cases g9;done)
  rename_i ia
  cases d2<;>try (cases g9;done)
  rename_i ib
  ·skip
   dsimp only at g9
   obtain⟨pP,OB,OC⟩:=aR g9
   cases OC
   obtain⟨jn,OD,OE⟩:=aR OB
   cases OE
   have OI:H3 ad=some (.lst vs):=x3.hh _ _ hA
   have fA:F3 ad=none:=lc.nf ad _ hH nofun hF
   have e0:=ol.nil0
   subst e0
   refine⟨ia,ib,GP.int,ly.int,ad,vs,zi,jn,rfl,lj.int,OI,by rw[←ol.length];exact OD,?_⟩
   refine z σ F3 _ (rs.change hm lc hσ b1 dj cf put am fA (.inr (.lst fA zm (eJ.set0 ⟨.int _,rfl⟩ (λ_ _ _ q=>q.2) jn (ol.mono λ_ _ _ _ q=>⟨q.1.mono lc.ff,q.2⟩)))) (fn:=[ad]) (by simp) ?_)
   intro a ha
   rw[aQ]at ha
   subst ha
   exact .inl am
structure Ic (K:ae)(C:af):Prop where
 cl:kP K C
 ha:aj K (.ref C) "__class__"=some (some (.builtin "object.__class__"))
 hn:bK K (.builtin "object.__class__") "__get__"=some (some (.builtin "getset_descriptor.__get__"))
 ht:fV K (.builtin "object.__class__")=some true
 hm:bp K C (.type "object")=some true
def rL (all sub:List Nat):D->Option D
 |.obj c _ _=>if all.contains c=true then some (.bl (sub.contains c))else none
 |_=>none
theorem MV {C:af}{x:aK}{all sub:List Nat}{pp p2:cy}(hI:∀c∈all,Ic X.K (ct c)/\aO X.K (.ref (ct c)) (.ref C)=some (sub.contains c))(hm:X.mg "isinstance"=none)(o6:X.mg x=some (.ref C))(he:XE X ct ms n e f)(hg:Gl X "isinstance":=by rfl)(nu:Gl X x:=by rfl)(hd2:(x==("__debug__":aK))=false:=by decide)
  (o7:ap [e,.Name x p2] X.env=(false,bB e X.env)::ap [.Name x p2] X.env:=by rfl) (qN:ap [.Name x p2] X.env=(false,bB (.Name x p2) X.env)::ap [] X.env:=by rfl) (el:(bZ pos (ap [.Name x p2] X.env)).any (·.1)=false:=by rfl) :
  XE X ct ms k (.Call (.Name "isinstance" pp) [e,.Name x p2] [] pos) (e1 (rL all sub) f):=by
 obtain⟨t,pt,qt⟩:=he
 refine⟨_,je SC hg hm wm (xn pt (xn (Fc (v:=.ref C) nu o6 rfl hd2) uw qN) o7) (by decide) (by decide) o7 el,λF0 B F H ρ σ d Q rs e w=>?_⟩
 obtain⟨d1,h1,h2⟩:=aR e
 refine qt F0 B F H ρ σ d1 _ rs h1 λv F' H' x l=>?_
 cases d1 with
 |obj c ns ds=>
  unfold rL at h2
  dsimp only at h2
  by_cases hc:all.contains c=true
  ·rw[if_pos hc]at h2
   cases h2
   obtain⟨a,dx,vs,rfl,ha,_⟩:=l.obj x.fh
   obtain⟨ic,xG⟩:=hI c (by simpa using hc)
   exact⟨_,C,_,_,rfl,.ins ha ic.cl ic.ha ic.hn ic.ht ic.hm,xG,w _ F' H' x (Al.of (.bl _))⟩
  ·rw[if_neg hc]at h2;cases h2
 |_=>cases h2
end
end L3
namespace L3
open PySem PySem.Spec L2
section
variable {K:ae}{ct:Nat->af}{n m k:Nat}
end
end L3
namespace PySem
section
variable {prog:aT}{w:bt}{A:bi}{R:Result->ai->Prop}{I:af}{fp wr:List af}{n:Nat}{P:Nat->aa->Prop}{St:Nat->aE->Prop}{kw:List (aK×aa)}
end
section
variable {prog:aT}{w:bt}{A:bi}{E:aa->ai->Prop}{s:ai}
end
end PySem
namespace L3
open PySem PySem.Spec L2
section
variable {X:Cx}{ct:Nat->af}{ms:List Mo}{e b:Expr}{f g:EF}{n m k:Nat}
end
end L3
namespace L3
open PySem PySem.Spec L2
open PyProof.Rows hiding St
section
variable {X:Cx}{ct:Nat->af}{ms:List Mo}{rk n m k:Nat}{a b c e o:Expr}{f g h:EF}{pos:cy}
end
end L3
namespace L2
open PySem PyProof.Rows
theorem TJ {X:Cx}{ah:List (af×cu)}{σ:St}{H:Hp}{s:ai}{QV:VK}{use:Option (aa->gU Unit)}{Q0:aa->ai->Prop}{iQ iter tg:Expr}{ifs:List Expr}{scope:eZ}{pos HU:cy}{N:List aK}{own:Nat}{cap:List Nat}{wi:TI}{g:TG}{tt:TT}{te:TE}(B:jZ X scope N own cap)(hc:X.calm=true)(hi:PI X tg iter wi)
    (kg:fK own g)
    (hg:∀cl C fp s₀ H₀,PG (g0 X scope cl N C fp s₀ H₀) tg g) (ht:∀cl C fp s₀ H₀,tQ (g0 X scope cl N C fp s₀ H₀) ifs tt) (he:∀cl C fp s₀ H₀,PE (g0 X scope cl N C fp s₀ H₀) iQ te)
    (hs:∀x,dg iter X.env x=pure x) (I:Inv X ah σ H s) (h:o9 wi own cap g tt te σ H QV)
    (fin:∀(D C:af) (H5:Hp) (s6:ai) (r:Flow),QV (.ref D) H5->Inv X ah σ H5 s6->ka X ah H5 C->(∃m,s6.heap.Ns C m)->nX (aA X.prog X.w) X.A X.xe use Q0 (.ref D) C (.ok r) s6) :
    aN (aA X.prog X.w) X.A (comprehension (.ListComp iQ [⟨tg,iter,ifs,0⟩] scope pos) scope X.env HU (newList []) false (bB iter X.env) use) Q0 X.xe s:=by
  obtain⟨cl,GV,c1,c2,_⟩:=jf (env:=X.env) scope.names [] (λx hx hf=>I.ok.has x.1 (B.free x hx hf)) (λy c e=>by simp at e)
  have rm:nV scope X.env=pure cl:=by
    have e:nV scope X.env=(forIn scope.names ([]:List (aK×af)) (λ(x:aK×ba) (cs:List (aK×af))=>if(x.2==ba.free)=true then do let a ← cellOf X.env x.1;pure (ForInStep.yield ((x.1,a)::cs))else pure (ForInStep.yield cs)) >>= pure:gU (List (aK×af))):=rfl
    rw[e,GV]
    rfl
  refine wpAny_comprehension_free (use:=use) rfl hs rm B.kind B.locs (cO (hi ah s σ H _ I h) λv s1 h1=>cO h1 λEM s2 h2=>?_)
  obtain⟨it,fp,tn,J,H2,e,I2,T,pZ,f2,W0⟩:=h2
  subst e
  obtain⟨W,⟨m0,w0⟩,ng⟩:=W0 s2.heap.objs.size (I2.hok.fresh (aH _))
  refine ik ?_
  have I3:Inv X ah σ (upd H2 s2.heap.objs.size (.lst [])) { s2 with heap:=s2.heap.push { cls:=.type "list",data:=.seq ([]:List aa).toArray } }:=I2.lnew .nil (dh _)
  generalize BW:({ s2 with heap:=s2.heap.push { cls:=.type "list",data:=.seq ([]:List aa).toArray } }:ai)=s3 at I3
  have k3:∀b o,s2.heap.get? b=some o->s3.heap.get? b=some o:=λb o e=>by rw[←BW];exact aq _ e
  have z3:s3.heap.objs.size=s2.heap.objs.size+1:=by rw[←BW];exact dO _ _
  have oI:∀b∈fp,b<s2.heap.objs.size:=λb hb=>by
    obtain⟨o,e,_⟩:=T.obj _ _ pZ b hb
    exact aG e
  have kU:∀b∈fp,b≠s2.heap.objs.size:=λb hb=>aY (oI b hb)
  have f3:∀b∈fp,ka X ah (upd H2 s2.heap.objs.size (.lst [])) b:=λb hb=>⟨by rw[zg (kU b hb)];exact(f2 b hb).1,(f2 b hb).2⟩
  have EY:tn 0 s3.heap:=T.keep _ _ _ pZ λb _ o e=>k3 b o e
  show aN _ _ (ko scope X.env.globals cl [] X.env.qual none .none (some X.env)) _ _ _
  refine Lp λh₁ kk wW wN=>?_
  have IB:=LW (t':=s3.toks) B I3 c1 c2 f3 (λb hb=>by rw[z3];exact cZ (oI b hb)) wW kk wN
  generalize cellsFrom (s3.heap.objs.size+1) scope.names cl=cl at IB ⊢
  generalize Ho:({ s3 with heap:=h₁,toks:=s3.toks }:ai)=s4 at IB
  have DJ:tn 0 s4.heap:=T.keep _ _ _ EY λb _ o e=>by rw[←Ho];exact kk b o e
  show eF (aA X.prog X.w) X.A (.compStart (.ListComp iQ [⟨tg,iter,ifs,0⟩] scope pos) 0 (.ref it) (.ref s2.heap.objs.size) (nW scope cl s3.heap.objs.size X.env))
      (nX (aA X.prog X.w) X.A X.xe use Q0 (.ref s2.heap.objs.size) s3.heap.objs.size) s4
  have lY:∀{H':Hp},(∀b∈fp,H' b=none)->∀b∈fp,ka (g0 X scope cl N s3.heap.objs.size fp s3 (upd H2 s2.heap.objs.size (.lst []))) [] H' b:=λhn b hb=>
    ⟨hn b hb,aY (by show b<s3.heap.objs.size;rw[z3];exact cZ (oI b hb)),IB.ok.exfs b hb,.inl hb,λx c e=>(IB.ok.exf b hb).2 x c e,λp hp=>(nomatch hp)⟩
  have loop:eF (aA X.prog X.w) X.A (.compLoop (.ListComp iQ [⟨tg,iter,ifs,0⟩] scope pos) 0 (.ref it) (.ref s2.heap.objs.size) (nW scope cl s3.heap.objs.size X.env))
      (nX (aA X.prog X.w) X.A X.xe use Q0 (.ref s2.heap.objs.size) s3.heap.objs.size) s4:=by
    refine Lo (λn s'=>∃i ys H',Inv (g0 X scope cl N s3.heap.objs.size fp s3 (upd H2 s2.heap.objs.size (.lst []))) [] (aC own none++fJ σ cap) H' s'/\tn i s'.heap/\(∀b∈fp,H' b=none)/\W i n ys H') ?_ m0
      ⟨0,[],_,IB,DJ,λb hb=>(f3 b hb).1,w0⟩
    rintro n s5 ⟨i,ys,H5,I5,tD,wH,w5⟩
    obtain⟨hD,t6⟩:=ng i n ys H5 w5
    rcases t6 with⟨stop,qn⟩|⟨go,ml,step⟩
    · refine cO (T.done (g0 X scope cl N s3.heap.objs.size fp s3 (upd H2 s2.heap.objs.size (.lst []))) rfl rfl rfl hc i [] s5 _ H5 (λ_ _=>False) I5 (lY wH) tD stop) λr s6 cS=>?_
      obtain⟨hr,I6⟩:=cS
      subst hr
      obtain⟨m,hm,_⟩:=id I6.loc
      refine fin s2.heap.objs.size s3.heap.objs.size H5 s6 _ qn ?_ (I3.fpOk (aH _) I6.free) ⟨m,hm⟩
      have sb:dB s3.heap.objs.size s6.heap s6.heap:=⟨rfl,λ_ _=>rfl⟩
      have U:=I6.base
      have nC:∀b o,s3.heap.get? b=some o->b≠s3.heap.objs.size:=λb o e=>aY (aG e)
      have nT:∀b o,H5 b=some o->b≠s3.heap.objs.size:=λb o e z=>by
        have q:H5 s3.heap.objs.size=none:=I6.free
        rw[z,q]at e
        cases e
      refine I3.call' (ch:=fp) I6.os ?_ (λa o e=>(I6.hok a o e).stay (λb u hb q=>sb.extBut b u ?_ q) (λ_ q=>q) λ_ _ q=>q) I6.bare (λb hb=>⟨(f3 b hb).2.2.2.1,(f3 b hb).2.1,(f3 b hb).2.2.2.2.1,(f3 b hb).2.2.2.2.2⟩)
      · exact{
          keep:=λb o e z hb he=>sb.extBut b o (nC b o e) (U.keep b o e z hb he)
          slot:=λb o e z hb he=>by
            obtain⟨sl,q⟩:=U.slot b o e z hb he
            exact⟨sl,sb.extBut b _ (nC b o e) q⟩
          free:=U.free
          there:=λb o e he=>by
            obtain⟨o',q⟩:=U.there b o e he
            exact⟨o',sb.extBut b o' (nC b o e) q⟩
          tups:=U.tups
          frzs:=U.frzs
          tbls:=U.tbls }
      · rcases hb with rfl|hb
        · exact nT _ _ e
        · exact nT _ _ hb
    · refine cO (T.item (g0 X scope cl N s3.heap.objs.size fp s3 (upd H2 s2.heap.objs.size (.lst []))) rfl rfl rfl hc i [] s5 _ H5 (λ_ _=>False) I5 (lY wH) tD go) λr s6 cS=>?_
      obtain⟨u,hr,h6⟩:=cS
      subst hr
      refine cO h6 λ_ s7 cS=>?_
      obtain⟨x,H7,I7,r7,y7,xS,GD⟩:=cS
      have Fy:=I7.pinned (lY GD) (T.obj _ _ xS)
      refine cO (hg cl s3.heap.objs.size fp s3 _ _ s7 _ H7 x u _ Fy r7 (kg _ _ _ _ (step x H7 y7))) λ_ s8 cS=>?_
      obtain⟨σ8,H8,I8,q8,l8,p8⟩:=cS
      have back:∀{H9:Hp} {s9:ai},Inv (g0 X scope cl N s3.heap.objs.size fp s3 (upd H2 s2.heap.objs.size (.lst []))) ([]++kE fp s7.heap) σ8 H9 s9 ->
          Inv (g0 X scope cl N s3.heap.objs.size fp s3 (upd H2 s2.heap.objs.size (.lst []))) [] (aC own none++fJ σ cap) H9 s9/\tn (i+1) s9.heap/\∀b∈fp,H9 b=none:=λ{H9 s9} I9=>by
        refine⟨(I9.unpinned).weak l8.symm (λj v e=>?_),T.keep _ _ _ xS λb hb o e=>(I9.pin (b,o) (av _ (av _ (vd hb e)))).1,λb hb=>?_⟩
        · by_cases hj:j<own
          · rw[bS (by rw[cP];exact hj),eU,if_pos hj]at e
            cases e
          · rw[p8 j (by omega)];exact e
        · obtain⟨o,e,d⟩:=T.obj _ _ xS b hb
          exact(I9.pin (b,o) (av _ (av _ (vd hb e)))).2.1
      refine cO (ht cl s3.heap.objs.size fp s3 _ _ s8 σ8 H8 _ I8 q8) λok s9 cS=>?_
      obtain⟨H9,I9,q9⟩:=cS
      cases ok with
      |false=>
        rw[if_neg aD]
        rw[if_neg aD]at q9
        obtain⟨m',wR,w'⟩:=q9
        obtain⟨b1,b2,b3⟩:=back I9
        exact⟨m',wR,i+1,ys,H9,b1,b2,b3,w'⟩
      |true=>
        rw[if_pos rfl]
        rw[if_pos rfl]at q9
        refine cO (he cl s3.heap.objs.size fp s3 _ _ s9 σ8 H9 _ I9 q9) λuy HY cS=>?_
        obtain⟨y,zX,Fw,r10,wI,m',wR,w'⟩:=cS
        refine cO (Iz _ HY σ8 zX (.ref s2.heap.objs.size) [y] (.ref s2.heap.objs.size) [uy] (λ_ zY=>zY=upd zX s2.heap.objs.size (.lst (ys++[y]))) Fw rfl (.cons r10 .nil) ⟨_,ys,y,rfl,rfl,wI,ml,rfl⟩) λ_ Qx cS=>?_
        obtain⟨_,zY,Fx,_,Gm⟩:=cS
        subst Gm
        obtain⟨b1,b2,b3⟩:=back Fx
        exact⟨m',wR,i+1,ys++[y],_,b1,b2,b3,w'⟩
  exact codeAny_compStart_list loop (T.self X.A 0 s4 _ _ DJ loop)
theorem Sg {X:Cx}{i:Nat}{x:aK}{pos' rW:cy}{iQ iter tg:Expr}{ifs:List Expr}{scope:eZ}{pos:cy}{N:List aK}{own:Nat}{cap:List Nat}{wi:TI}{g:TG}{tt:TT}{te:TE}(B:jZ X scope N own cap)(hc:X.calm=true)(hi:PI X tg iter wi)
  (kg:fK own g)
  (hg:∀cl C fp s₀ H₀,PG (g0 X scope cl N C fp s₀ H₀) tg g) (ht:∀cl C fp s₀ H₀,tQ (g0 X scope cl N C fp s₀ H₀) ifs tt) (he:∀cl C fp s₀ H₀,PE (g0 X scope cl N C fp s₀ H₀) iQ te)
  (hN:X.N.Nodup) (t7:X.N[i]?=some x) (hx:Loc X.env.scope x) (xB:dI (.ListComp iQ [⟨tg,iter,ifs,0⟩] scope pos) (some (.Name x pos')) rW.line X.env=pure true)
  (hs:∀x,dg iter X.env x=pure x:=by intro _;rfl) (hf:X.fn x=true\/X.env.scope.names.lookup x=some .local:=by first|exact .inl rfl|exact .inr rfl|assumption) :
  PS X (.Assign [.Name x pos'] (.ListComp iQ [⟨tg,iter,ifs,0⟩] scope pos) rW) (xT (o9 wi own cap g tt te) (o3 i)):=by
 intro ah s σ H D I h
 rw[exec_Assign_Name_used _ _ _ _ xB]
 refine ak (e8 (ak ?_))
 show aN _ X.A (do let _ ← comprehension (.ListComp iQ [⟨tg,iter,ifs,0⟩] scope pos) scope X.env _ (newList []) false (bB iter X.env) (some (iw (.Name x pos') X.env))) _ _ s
 refine ak (cV (TJ (use:=some (iw (.Name x pos') X.env)) (Q0:=λ_ s'=>∃σ' H',Inv X ah σ' H' s'/\D.nx σ' H') B hc hi kg hg ht he hs I h λDa C H5 s6 r q I6 fo hm=>?_) (λ_ s' hq=>aJ (aJ hq)) λ_ _ e=>e)
 show aN _ X.A (iw (.Name x pos') X.env (.ref Da)) _ _ _
 refine wpAny_assign_Name (LI (v:=.ref Da) I6 hN t7 hx rfl (λs7 I7 O8=>?_) hf)
 obtain⟨m,hm⟩:=hm
 obtain⟨a,sb,ha⟩:=O8
 obtain⟨f0,f1,f2,f3,f4,f5⟩:=fo
 have kU:C≠a:=by
  rcases ha with rfl|ha
  ·exact f1
  ·exactλz=>f4 x a ha z.symm
 refine⟨m,hm.sameBut sb kU,λh' Qz=>⟨_,H5,I7.turned (t':=s7.toks) (it:=C) (λb o hb e=>Qz.extBut b o hb e) f0 f1 f3 f4 f5,q⟩⟩
end L2
namespace L3
open PySem PySem.Spec L2
open PyProof.Rows hiding St
section
variable {X:Cx}{ct:Nat->af}{ms:List Mo}{rk n m k:Nat}{a b c e o:Expr}{f g h:EF}{pos:cy}
theorem ve {om:List Mo}{iQ iter tg:Expr}{ifs:List Expr}{scope:eZ}{N:List aK}{own:Nat}{cap:List Nat}{fi:Env->Option (List D)}{gg:D->Env->Option Env}{p:BF}{i:Nat}{x:aK}{pos' rW:cy}
  (hm:ms[i]?=some (.ow k)) (hN:X.N.Nodup) (t7:X.N[i]?=some x) (hx:Loc X.env.scope x)
  (B:jZ X scope N own cap) (hc:X.calm=true) (ho:om.length=own) (i6:∀i∈cap,i<ms.length) (hi:XIc X ct ms n tg iter fi)
  (hg:∀cl C fp s₀ H₀,sD (g0 X scope cl N C fp s₀ H₀) ct (om++gB ms cap) own n tg gg) (ht:∀cl C fp s₀ H₀,vB (g0 X scope cl N C fp s₀ H₀) ct (om++gB ms cap) ifs p) (he:∀cl C fp s₀ H₀,XO (g0 X scope cl N C fp s₀ H₀) ct (om++gB ms cap) (k-1) iQ f)
  (xB:dI (.ListComp iQ [⟨tg,iter,ifs,0⟩] scope pos) (some (.Name x pos')) rW.line X.env=pure true:=by rfl)
  (hs:∀x,dg iter X.env x=pure x:=by intro _;rfl) (hf:X.fn x=true\/X.env.scope.names.lookup x=some .local:=by first|exact .inl rfl|exact .inr rfl|assumption) :
  XS X ct ms rk (.Assign [.Name x pos'] (.ListComp iQ [⟨tg,iter,ifs,0⟩] scope pos) rW) (sSet i (fD fi own cap gg p f)):=by
 obtain⟨wi,g,tt,te,pi,kg,pg,pt,pe,q⟩:=Ml (k:=k-1) (pos:=pos) B hc ho i6 hi hg ht he
 refine⟨_,Sg B hc pi kg pg pt pe hN t7 hx xB hs hf,λF0 B F H ρ σ o E rs e w=>?_⟩
 obtain⟨d,h1,h2⟩:=aR e
 cases h2
 cases k with
 |succ k=>exact q F0 B F H ρ σ d _ rs h1 λv F' H' fp x l nd hf=>w _ F' H' (rs.set hm x l nd hf)
 |zero=>
  refine q F0 B F H ρ σ d _ rs h1 λv F' H' fp x l nd hf=>?_
  obtain⟨F2,x2,l2⟩:=l.freeze x hf
  exact w _ F2 H' (rs.set hm x2 (Ow.zero l2) bA λa z=>by cases z)
theorem Jf {i:Nat}{x:aK}{pos':cy}(hm:ms[i]?=some (.ow k))(hN:X.N[i]?=some x:=by rfl)(hv:qZ X.env.scope x:=by first|exact Or.inl rfl|exact Or.inr (Or.inl rfl)|exact Or.inr (Or.inr rfl))(hd:(x==("__debug__":aK))=false:=by decide)
  (jP:(x==("__classdict__":aK))=false:=by decide):XS X ct ms 0 (.Return (some (.Name x pos')) pos) (sRet (eV i)):=by
 refine⟨_,Nf (uv hN hv hd jP),λF0 B F H ρ σ o E rs e w=>?_⟩
 obtain⟨d,h1,h2⟩:=aR e
 cases h2
 obtain⟨fp,sl,nd,hb⟩:=rs.sl
 obtain⟨f1,fr,i1,i2,i3,i4,i5⟩:=sl.put hm
 obtain⟨v,Hu,l⟩:=i4 d (wb h1)
 obtain⟨F',x,l2⟩:=l.freeze (⟨rs.f0,rs.bh,rs.fh,rs.nf⟩:ez F0 B F H) (λz hz=>hb z (i1 z hz))
 exact⟨v,Hu,w v F' H [] x.ff x.hh x.fh x.nf (Ow.zero l2) bA λz hz=>by cases hz⟩
theorem Xg (hu:X.A.units+1<gW)(ha:XE X ct ms n a f)(hb:XE X ct ms m b g)(hm:dm .In b=false):XT X ct ms (.Compare a [.In] [b] pos) (tb λρ=>(f ρ).bind λx=>(g ρ).bind λy=>(ke y x).bind λr=>some (.bl r.isSome)):=by
 obtain⟨ta,tb',pa,pb,q⟩:=ha.bin hb
 refine⟨_,Wm (Wl hu pa pb) hm,λF0 B F H ρ σ t Q rs e w=>?_⟩
 obtain⟨d0,h0,h9⟩:=aR e
 obtain⟨d1,d2,h1,h2,h3⟩:=dY h0
 obtain⟨r,h4,h5⟩:=aR h3
 cases h5
 cases h9
 refine q F0 B F H ρ σ d1 d2 _ rs h1 h2 λx y F' H' x1 l1 l2=>?_
 obtain⟨a,o,rfl,g,_,h⟩:=Jc (r:=r) x1.fh l2 l1 h4
 refine⟨a,o,rfl,g,?_⟩
 cases r with
 |none=>rw[h.none_of];exact⟨_,rfl,w F' H' x1⟩
 |some d=>obtain⟨u,rfl,EG⟩:=h.some_of;exact⟨_,rfl,w F' H' x1⟩
end
end L3
namespace L2
open PySem PyProof.Rows
end L2
namespace L3
open PySem PySem.Spec L2
open PyProof.Rows hiding St
section
variable {X:Cx}{ct:Nat->af}{ms:List Mo}{rk n m k:Nat}{st:bI}{rest:List bI}{a b c e tg:Expr}{f g h:EF}{p q:BF}{u w:SF}{pos:cy}
end
end L3
namespace L3
open PySem PySem.Spec L2
open PyProof.Rows hiding St
theorem eJ.upd {R R':D->V->List af->Prop}{d:D}{ds:List D}{vs:List V}{fp:List af}{i:Nat}(h:eJ R ds vs fp)(e:ds[i]?=some d):∃v f,vs[i]?=some v/\R d v f/\(∀a∈f,a∈fp) /\
  ∀d',R' d' v f->fp.Nodup->(∀d v f',(∀a∈f',a∈fp)->(∀a∈f',a∉f)->R d v f'->R' d v f')->eJ R' (ds.set i d') vs fp:=by
 induction h generalizing i with
 |nil=>cases e
 |@cons _ _ _ _ f g h t ih=>
  cases i with
  |zero=>
   cases e
   refine⟨_,f,rfl,h,λa ha=>bb _ ha,λd' hd nd ot=>?_⟩
   rw[aX]at nd
   exact .cons hd (t.mono λd v f' hi r=>ot d v f' (λa ha=>av _ (hi a ha)) (λa ha hf=>nd.2.2 a hf a (hi a ha) rfl) r)
  |succ i=>
   obtain⟨v,f2,h1,h2,h3,h4⟩:=ih (i:=i) e
   refine⟨v,f2,h1,h2,λa ha=>av _ (h3 a ha),λd' hd nd ot=>?_⟩
   rw[aX]at nd
   exact .cons (ot _ _ f (λa ha=>bb _ ha) (λa ha hf=>nd.2.2 a ha a (h3 a hf) rfl) h) (h4 d' hd nd.2.1 λd v f' hi hn r=>ot d v f' (λa ha=>av _ (hi a ha)) hn r)
section
variable {X:Cx}{ct:Nat->af}{ms:List Mo}{rk n m k:Nat}{st:bI}{rest:List bI}{a b c e tg:Expr}{f g h:EF}{p q:BF}{u w:SF}{pos:cy}
def oQ (i:Nat)(fj fl f:EF):SF:=λρ=>(f ρ).bind λd=>(eV i ρ).bind λo=>(fj ρ).bind λj=>(fl ρ).bind λl=>match o,j,l with
 |.lst rs,.int y,.int z=>(ixN rs.length y).bind λy'=>(rs[y']?).bind λr=>(match r with
  |.lst ds=>(lW ds z d).bind λpP=>some (.nx (ρ.set i (some (.lst (rs.set y' (.lst pP))))))
  |_=>none)
 |_,_,_=>none
theorem TK (i:Nat){x:aK}{j l:Expr}{p1 p2 i9:cy}{fj fl:EF}(hm:ms[i]?=some (.ow 2))(hj:XE X ct ms n j fj)(hl:XE X ct ms m l fl)(hp:lA j)(he:XE X ct ms 0 e f)(hN:X.N[i]?=some x:=by rfl)(hv:qZ X.env.scope x:=by first|exact Or.inl rfl|exact Or.inr (Or.inl rfl)|exact Or.inr (Or.inr rfl))(hd:(x==("__debug__":aK))=false:=by decide)
  (jP:(x==("__classdict__":aK))=false:=by decide)
  (ha:∀v,iw (.Subscript (.Subscript (.Name x p1) j p2) l i9) X.env v=(do
   let ov ← dD [v] (bB (.Subscript (.Name x p1) j p2) X.env)
   let iv ← dD [v,ov] (bB l X.env)
   eQ i9
   dD [v,ov,iv] (nB ov iv v)
   release [v,ov,iv] []):=by intro _;rfl)
  (hs:swapsWithSole [.Subscript (.Subscript (.Name x p1) j p2) l i9] e pos.line X.env=pure false:=by rfl) (hw:swappedStores [.Subscript (.Subscript (.Name x p1) j p2) l i9] e X.env=pure none:=by rfl)
  (h1:(cU [.Subscript (.Subscript (.Name x p1) j p2) l i9] X.env).map (·.2)=[iw (.Subscript (.Subscript (.Name x p1) j p2) l i9) X.env]:=by rfl) :
  XS X ct ms rk (.Assign [.Subscript (.Subscript (.Name x p1) j p2) l i9] e pos) (oQ i fj fl f):=by
 obtain⟨t,pt,qt⟩:=he
 obtain⟨tj,De,Df⟩:=hj
 obtain⟨tl,Qp,Qs⟩:=hl
 refine⟨_,Wv pt (Wu (Nw MI (uv hN hv hd jP) De hp) Qp Mf ha) hs hw h1,λF0 B F H ρ σ o E rs e z=>?_⟩
 obtain⟨d,g1,g2⟩:=aR e
 obtain⟨d1,tV,g3,g4,g5⟩:=dY g2
 obtain⟨Ou,g6,g7⟩:=aR g5
 refine qt F0 B F H ρ σ d _ rs g1 λv0 F1 H1 x1 l0=>?_
 have mD:=rs.ext x1
 obtain⟨f1,fr,n1,b1,dj,i4,cf,put⟩:=mD.put (F':=F) (H':=H) hm
 obtain⟨v,hσ,ow⟩:=i4 d1 (wb g3)
 refine⟨v,hσ,Df F0 B F1 H1 ρ σ tV _ mD g4 λvj F2 H2 x2 lj=>?_⟩
 cases d1 with
 |lst YS=>
  cases tV with
  |int yi=>
   cases Ou with
   |int zi=>
    obtain⟨y',k1,k2⟩:=aR g7
    obtain⟨r,k3,k4⟩:=aR k2
    cases r with
    |lst ds=>
     obtain⟨pP,k5,k6⟩:=aR k4
     cases k6
     obtain⟨jn,k8,k9⟩:=aR k5
     cases k9
     obtain⟨ad,vs,wG,rfl,rfl,hF,hH,ol⟩:=ow.lst_inv
     obtain⟨vr,f2,q1,q2,q3,q4⟩:=eJ.upd (R':=Ow X.K ct F2 (upd H2 0 (.lst [])) 1) ol k3
     obtain⟨bd,us,Yd,rfl,rfl,OJ,GN,HP⟩:=q2.lst_inv
     clear q4
     have hA:H2 ad=some (.lst vs):=x2.hh _ _ hH
     refine⟨ad,vs,yi,.ref bd,rfl,lj.int,fN.of hA,?_,?_⟩
     ·unfold atI
      rw[←ol.length,k1]
      exact q1
     ·refine Qs F0 B F2 H2 ρ σ _ _ (mD.ext x2) g6 λvl F3 H3 x3 ll=>?_
      have lc:=x2.trans x3
      have hB:H3 bd=some (.lst us):=lc.hh _ _ GN
      have fB:F3 bd=none:=lc.nf bd _ GN nofun OJ
      have e0:=HP.nil0
      subst e0
      have zB:=bz.mp n1
      have Kj:bd∈wG:=q3 bd am
      have kU:ad≠bd:=λz=>zB.1 (z▸Kj)
      refine⟨bd,us,zi,jn,rfl,ll.int,hB,by rw[←HP.length];exact k8,?_⟩
      obtain⟨Y6,Yc,K3,Qq,YQ,Qr⟩:=eJ.upd (R':=Ow X.K ct F3 (upd H3 bd (.lst (us.set jn v0))) 1) ol k3
      rw[q1]at K3
      cases K3
      obtain⟨X9,Y5,Oz,eb,rfl,_,Kf,HQ⟩:=Qq.lst_inv
      cases eb
      have e1:=HQ.nil0
      subst e1
      rw[GN]at Kf
      cases Kf
      refine z σ F3 _ (mD.change hm lc hσ b1 dj cf put (ao _ Kj) fB (.inr (.lst (lc.nf ad _ hH nofun hF) (by rw[zg kU];exact lc.hh _ _ hH) (Qr (.lst (ds.set jn d)) (.inr (.lst fB zm (eJ.set0 ⟨Dt.mono lc.ff l0,rfl⟩ (λ_ _ _ q=>q.2) jn (HP.mono λ_ _ _ _ q=>⟨q.1.mono lc.ff,q.2⟩)))) zB.2 ?_))) (fn:=ad::wG) n1 λa ha=>.inl ha)
      intro d0 v1 f' lL GY o'
      refine(o'.ext lc).frame (.refl _) λa' Er=>⟨zg λe=>GY a' Er (by rw[e];exact am),((o'.ext lc).cells a' Er).1⟩
    |_=>cases k4
   |_=>cases g7
  |_=>cases g7
 |_=>cases g7
end
end L3
namespace L3
open PySem PySem.Spec L2
open PyProof.Rows hiding St
section
variable {K:ae}{ct:Nat->af}{F F' H B F0:Hp}
theorem SL.fz {ms:List Mo}{ρ:Env}{σ:St}{fp:List af}{i k:Nat}(h0:SL K ct F B H ms ρ σ fp)(s:bL F H):fp.Nodup->ms[i]?=some (.ow k)->∃f1:List af,(∀a∈f1,a∈fp) /\
  ∃fk,SL K ct (gK F H f1) B H (ms.set i (.ow 0)) ρ σ fk/\fk.Nodup/\∀a∈fk,a∈fp/\a∉f1:=by
 induction h0 generalizing i with
 |nil=>
  intro _ e
  simp at e
 |@no m0 o0 ms ρ σ fp t ih=>
  intro nd e
  cases i with
  |zero=>
   obtain⟨w1,w2,w3⟩:=ww (F:=F) (H:=H) (fp:=[]) s (λa z=>by cases z)
   exact⟨[],λa z=>(by cases z),fp,.no (t.frame w1 λa z=>⟨rfl,by unfold gK;rw[if_neg (by simp)];exact(t.cells a z).1⟩),nd,λa z=>⟨z,by simp⟩⟩
  |succ i=>
   obtain⟨f1,h1,fk,q1,q2,q3⟩:=ih (i:=i) nd (by simpa using e)
   exact⟨f1,h1,fk,.no q1,q2,q3⟩
 |@al n0 d0 v0 ms ρ σ fp h t ih=>
  intro nd e
  cases i with
  |zero=>
   simp at e
  |succ i=>
   obtain⟨f1,h1,fk,q1,q2,q3⟩:=ih (i:=i) nd (by simpa using e)
   obtain⟨w1,w2,w3⟩:=ww (F:=F) (H:=H) (fp:=f1) s (λa z=>(t.cells a (h1 a z)).1)
   exact⟨f1,h1,fk,.al (h.mono w1 (.refl _)) q1,q2,q3⟩
 |@px d0 v0 ms ρ σ fp h t ih=>
  intro nd e
  cases i with
  |zero=>
   simp at e
  |succ i=>
   obtain⟨f1,h1,fk,q1,q2,q3⟩:=ih (i:=i) nd (by simpa using e)
   obtain⟨w1,w2,w3⟩:=ww (F:=F) (H:=H) (fp:=f1) s (λa z=>(t.cells a (h1 a z)).1)
   exact⟨f1,h1,fk,.px (h.mono w1 (.refl _)) q1,q2,q3⟩
 |@so d0 x ms ρ σ fp h t ih=>
  intro nd e
  cases i with
  |zero=>
   simp at e
  |succ i=>
   obtain⟨n1,n2⟩:=bz.mp nd
   obtain⟨f1,h1,fk,q1,q2,q3⟩:=ih (i:=i) n2 (by simpa using e)
   obtain⟨w1,w2,w3⟩:=ww (F:=F) (H:=H) (fp:=f1) s (λa z=>(t.cells a (h1 a z)).1)
   refine⟨f1,λa z=>ao _ (h1 a z),x::fk,.so (h.frame w1 λa z=>⟨rfl,?_⟩) q1,bz.mpr ⟨λz=>n1 (q3 x z).1,q2⟩,λa z=>?_⟩
   ·rw[aQ]at z
    unfold gK
    rw[if_neg λq=>n1 (z▸h1 a q)]
    exact(h.cells a (by rw[z];exact am)).1
   ·rcases az.mp z with z|z
    ·exact⟨z▸am,λq=>n1 (z▸h1 a q)⟩
    ·exact⟨ao _ (q3 a z).1,(q3 a z).2⟩
 |@ow n0 d0 v0 ms ρ σ f fp h t ih=>
  intro nd e
  cases i with
  |zero=>
   obtain⟨w1,w2,w3⟩:=ww (F:=F) (H:=H) (fp:=f) s (λa z=>(h.cells a z).1)
   obtain⟨n1,n2,n3⟩:=aX.mp nd
   refine⟨f,λa z=>bb _ z,[]++fp,.ow ⟨h.dt w1 w3,rfl⟩ (t.frame w1 λa z=>⟨rfl,?_⟩),n2,λa z=>⟨av _ z,λq=>n3 a q a z rfl⟩⟩
   unfold gK
   rw[if_neg λq=>n3 a q a z rfl]
   exact(t.cells a z).1
  |succ i=>
   obtain⟨n1,n2,n3⟩:=aX.mp nd
   obtain⟨f1,h1,fk,q1,q2,q3⟩:=ih (i:=i) n2 (by simpa using e)
   obtain⟨w1,w2,w3⟩:=ww (F:=F) (H:=H) (fp:=f1) s (λa z=>(t.cells a (h1 a z)).1)
   refine⟨f1,λa z=>av _ (h1 a z),f++fk,.ow (h.frame w1 λa z=>⟨rfl,?_⟩) q1,aX.mpr ⟨n1,q2,λa z b zb=>n3 a z b (q3 b zb).1⟩,λa z=>?_⟩
   ·unfold gK
    rw[if_neg λq=>n3 a z a (h1 a q) rfl]
    exact(h.cells a z).1
   ·rcases bj.mp z with z|z
    ·exact⟨bb _ z,λq=>n3 a z a (h1 a q) rfl⟩
    ·exact⟨av _ (q3 a z).1,(q3 a z).2⟩
theorem SL.forget (m':Mo){ms:List Mo}{ρ:Env}{σ:St}{fp:List af}(i:Nat)(h0:SL K ct F B H ms ρ σ fp):∃fk,SL K ct F B H (ms.set i m') (ρ.set i none) σ fk/\fk.Sublist fp:=by
 induction h0 generalizing i with
 |nil=>
  exact⟨[],.nil,.refl _⟩
 |@no m0 o0 ms ρ σ fp t ih=>
  cases i with
  |zero=>
   exact⟨fp,.no t,.refl _⟩
  |succ i=>
   obtain⟨fk,q1,q2⟩:=ih i
   exact⟨fk,.no q1,q2⟩
 |@al n0 d0 v0 ms ρ σ fp h t ih=>
  cases i with
  |zero=>
   exact⟨fp,.no t,.refl _⟩
  |succ i=>
   obtain⟨fk,q1,q2⟩:=ih i
   exact⟨fk,.al h q1,q2⟩
 |@px d0 v0 ms ρ σ fp h t ih=>
  cases i with
  |zero=>
   exact⟨fp,.no t,.refl _⟩
  |succ i=>
   obtain⟨fk,q1,q2⟩:=ih i
   exact⟨fk,.px h q1,q2⟩
 |@so d0 x ms ρ σ fp h t ih=>
  cases i with
  |zero=>
   exact⟨fp,.no t,List.sublist_cons_self _ _⟩
  |succ i=>
   obtain⟨fk,q1,q2⟩:=ih i
   exact⟨_,.so h q1,q2.cons₂ _⟩
 |@ow n0 d0 v0 ms ρ σ f fp h t ih=>
  cases i with
  |zero=>
   exact⟨fp,.no t,List.sublist_append_right _ _⟩
  |succ i=>
   obtain⟨fk,q1,q2⟩:=ih i
   exact⟨_,.ow h q1,(List.Sublist.refl _).append q2⟩
theorem RS.fz {ms:List Mo}{ρ:Env}{σ:St}{i k:Nat}(rs:RS K ct F0 B ms F H ρ σ)(hm:ms[i]?=some (.ow k)):∃F',RS K ct F0 B (ms.set i (.ow 0)) F' H ρ σ:=by
 obtain⟨fp,sl,nd,hb⟩:=rs.sl
 obtain⟨f1,h1,fk,q1,q2,q3⟩:=sl.fz rs.fh nd hm
 obtain⟨w1,w2,w3⟩:=ww (F:=F) (H:=H) (fp:=f1) rs.fh (λa z=>(sl.cells a (h1 a z)).1)
 refine⟨gK F H f1,rs.f0.trans w1,rs.bh,w2,λa o ho nt hn=>?_,fk,q1,q2,λa z=>hb a (q3 a z).1⟩
 have:¬a∈f1:=λz=>by rw[hb a (h1 a z)]at ho;cases ho
 unfold gK;rw[if_neg this];exact rs.nf a o ho nt hn
theorem RS.forget {ms:List Mo}{ρ:Env}{σ:St}(m':Mo)(i:Nat)(rs:RS K ct F0 B ms F H ρ σ):RS K ct F0 B (ms.set i m') F H (ρ.set i none) σ:=by
 obtain⟨fp,sl,nd,hb⟩:=rs.sl
 obtain⟨fk,q1,q2⟩:=sl.forget m' i
 exact⟨rs.f0,rs.bh,rs.fh,rs.nf,fk,q1,q2.nodup nd,λa z=>hb a (q2.subset z)⟩
end
def rP (i:Nat):Out->Out
 |.nx ρ=>.nx (ρ.set i none)
 |.rt d=>.rt d
 |.bk ρ=>.bk (ρ.set i none)
 |.ct ρ=>.ct (ρ.set i none)
def sFz (i:Nat)(u:SF):SF:=λρ=>(u ρ).bind λo=>some (rP i o)
section
variable {X:Cx}{ct:Nat->af}{ms:List Mo}{rk k:Nat}
theorem Sh {ms:List Mo}{i k:Nat}(hm:ms[i]?=some (.ow k)):(ms.set i (.ow 0)).set i (.ow k)=ms:=by
 rw[List.set_set]
 apply gN
 intro j
 rw[List.getElem?_set]
 split
 ·next h=>
  subst h
  rw[hm]
  have:=(aS.mp hm).1
  rw[if_pos this]
 ·rfl
theorem X5 {i:Nat}{t:gH->St->Hp->Prop}{w:SF}(hm:ms[i]?=some (.ow k))
  (q:∀(F0 B F H:Hp) (ρ:Env) (σ:St) (o:Out) (E:gH),RS X.K ct F0 B (ms.set i (.ow 0)) F H ρ σ->w ρ=some o->jD X.K ct F0 B (ms.set i (.ow 0)) rk E o->t E σ H)
  (F0 B F H:Hp) (ρ:Env) (σ:St) (o:Out) (E:gH) (rs:RS X.K ct F0 B ms F H ρ σ) (e:sFz i w ρ=some o) (z:jD X.K ct F0 B ms rk E o):t E σ H:=by
 obtain⟨F',r2⟩:=rs.fz hm
 obtain⟨o1,e1,e2⟩:=aR e
 refine q F0 B F' H ρ σ o1 E r2 e1 ?_
 have back:∀{ρ':Env} {σ':St} {F2 H2:Hp},RS X.K ct F0 B (ms.set i (.ow 0)) F2 H2 ρ' σ'->RS X.K ct F0 B ms F2 H2 (ρ'.set i none) σ':=λr=>by
  have:=r.forget (.ow k) i
  rw[Sh hm]at this
  exact this
 cases o1 with
 |nx ρ'=>cases e2;exactλσ' F2 H2 r=>z σ' F2 H2 (back r)
 |rt d=>cases e2;exact z
 |bk ρ'=>cases e2;exactλσ' F2 H2 r=>z σ' F2 H2 (back r)
 |ct ρ'=>cases e2;exactλσ' F2 H2 r=>z σ' F2 H2 (back r)
theorem Ju {K8:List bI}{w:SF}{i:Nat}(hm:ms[i]?=some (.ow k))(h:oF X ct (ms.set i (.ow 0)) rk K8 w):oF X ct ms rk K8 (sFz i w):=by
 obtain⟨t,pt,qt⟩:=h
 exact⟨t,pt,X5 hm qt⟩
theorem zf7 {i:Nat}{d:D}:rP i (.rt d)=.rt d:=rfl
theorem zf8 {i:Nat}{ρ:Env}:rP i (.nx ρ)=.nx (ρ.set i none):=rfl
end
end L3
namespace L3
open PySem PySem.Spec L2
open PyProof.Rows hiding St
section
variable {X:Cx}{ct:Nat->af}{ms:List Mo}{rk n m k:Nat}{a b c tg:Expr}{pos:cy}
end
end L3
namespace L2
open PySem PySem.Spec PyProof.Rows
section
variable {X:Cx}{m8:List Expr}{kt:Nat}{pt:cy}
end
end L2
namespace L3
open PySem PySem.Spec L2
open PyProof.Rows hiding St
section
variable {X:Cx}{ct:Nat->af}{ms:List Mo}{n:Nat}{a b:Expr}{pos:cy}
end
end L3
namespace L3
open PySem PySem.Spec L2
open PyProof.Rows hiding St
section
variable {K:ae}{ct:Nat->af}{n m k:Nat}
end
end L3
namespace L2
open PySem PySem.Spec PyProof.Rows
section
variable {X:Cx}{e sp:Expr}{te:TE}{tp:TO}{pos p2:cy}
end
end L2
namespace L3
open PySem PySem.Spec L2
open PyProof.Rows hiding St
section
variable {X:Cx}{ct:Nat->af}{ms:List Mo}{n m:Nat}{e sp:Expr}{f g:EF}{pos p1:cy}
end
end L3
namespace L3
open PySem PySem.Spec L2
open PyProof.Rows hiding St
def kg {α:Type}(p q:Nat)(rv:Bool)(us ws:List α):List α:=if us.length=p/\ws.length=q then us++(if rv then ws.reverse else ws)else[]
section
variable {X:Cx}{ct:Nat->af}{ms:List Mo}{rk n m k kk:Nat}{e a:Expr}{f:EF}{x:aK}{pp pos xH:cy}{fa:af}{fd:aP}{ps ks:List aK}{mf:List D->Option D}
end
end L3
namespace L3
open PySem PySem.Spec L2
open PyProof.Rows hiding St
section
variable {X:Cx}{ct:Nat->af}{ms:List Mo}{rk n m k:Nat}{st:bI}{rest:List bI}{a b c e tg:Expr}{f g h:EF}{p q:BF}{u w:SF}{pos:cy}
end
end L3
namespace L3
open PySem PySem.Spec L2
open PyProof.Rows hiding St
section
variable {X:Cx}{ct:Nat->af}{ms:List Mo}{rk n m k:Nat}{a e:Expr}{f:EF}{pos:cy}
end
end L3
namespace L3
open PySem PySem.Spec L2
open PyProof.Rows hiding St
section
variable {X:Cx}{ct:Nat->af}{ms:List Mo}{n m l k:Nat}{a b c:Expr}{f g h:EF}{pos:cy}
end
end L3
namespace L3
open PySem PySem.Spec L2
open PyProof.Rows hiding St
section
variable {X:Cx}{ct:Nat->af}{ms:List Mo}{rk n m k:Nat}{a b c e tg:Expr}{f g h:EF}{pos:cy}
end
end L3
namespace L3
open PySem PySem.Spec L2
open PyProof.Rows hiding St
section
variable {X:Cx}{ct:Nat->af}{ms:List Mo}{n:Nat}{e tg:Expr}{f:EF}{pos:cy}
end
end L3
namespace L3
open PySem PySem.Spec L2
open PyProof.Rows hiding St
section
variable {X:Cx}{K:ae}{ct:Nat->af}{ms:List Mo}{n k:Nat}
end
end L3
namespace L3
open PySem PySem.Spec L2
open PyProof.Rows hiding St
def J6 (ns:List Int):List Int:=firstMet (λi=>ns.getD i 0) ns.length
section
variable {X:Cx}{ct:Nat->af}{ms:List Mo}{rk n m k:Nat}{a b c e:Expr}{f g h:EF}{pos:cy}
end
end L3
namespace L3
open PySem PySem.Spec L2
open PyProof.Rows hiding St
section
variable {K:ae}{ct:Nat->af}{F F' H H' B F0:Hp}
end
section
variable {X:Cx}{ct:Nat->af}{ms:List Mo}{rk n m k:Nat}{st:bI}{rest:List bI}{a b c e tg:Expr}{f g h:EF}{p q:BF}{u w:SF}{pos:cy}
end
section
variable {X:Cx}{ct:Nat->af}{ms:List Mo}{rk n m k:Nat}{st:bI}{rest:List bI}{a b c e tg:Expr}{f g h:EF}{p q:BF}{u w:SF}{pos:cy}{i j:Nat}
variable {kk:Nat}{fa:af}{fd:aP}{ps:List aK}{mf:List D->Option D}{x:aK}{pp:cy}
end
end L3
namespace L2
open PySem PySem.Spec
open PyProof.Rows hiding St
section
variable {X:Cx}{pos:cy}
end
end L2
namespace L3
open PySem PySem.Spec L2
open PyProof.Rows hiding St
section
variable {X:Cx}{ct:Nat->af}{ms:List Mo}{n:Nat}{pos:cy}
end
end L3
namespace L3
open PySem PySem.Spec L2
open PyProof.Rows hiding St
section
variable {X:Cx}{ct:Nat->af}{ms:List Mo}{rk n m k i:Nat}{a b c e:Expr}{f g h:EF}{pos:cy}
end
end L3
namespace L3
open PySem PySem.Spec L2
open PyProof.Rows hiding St
section
variable {X:Cx}{ct:Nat->af}{ms:List Mo}{rk n m k:Nat}{a b c e o:Expr}{f g h:EF}{pos:cy}
end
end L3
namespace L2
open PySem PySem.Spec
open PyProof.Rows hiding St
section
variable {X:Cx}{CX:pJ}{k:Nat}{f C:af}{fd:aP}{ps ks:List aK}{sp:Sp}{E:XK}{x m:aK}{p pos cN xH:cy}{e o:Expr}{es:List Expr}{kws:List ij}{te ta:TE}{t tk:TA}{nm:Option aK}
variable {g:List aa->List aa->List aa}{gV:List V->List V->List V}
end
end L2
namespace L3
open PySem PySem.Spec L2
open PyProof.Rows hiding St
section
variable {X:Cx}{ct:Nat->af}{ms:List Mo}{rk n m k kk:Nat}{e a:Expr}{f:EF}{x:aK}{pp pos xH:cy}{fa:af}{fd:aP}{ps ks:List aK}{pm cs:List Nat}{mi:Nat->List D->Option D}
end
end L3
namespace L3
open PySem PySem.Spec L2
open PyProof.Rows hiding St
section
variable {X:Cx}{ct:Nat->af}{ms:List Mo}{rk n m k i j:Nat}{a b c e:Expr}{f g h:EF}{pos:cy}
variable {kk:Nat}{fa:af}{fd:aP}{ps:List aK}{mf:List D->Option D}{x y:aK}{pp:cy}
end
end L3
namespace L3
open PySem PySem.Spec L2
open PyProof.Rows hiding St
open Classical in
open Classical in
section
variable {X:Cx}
end
section
variable {K:ae}{ct:Nat->af}{n m k:Nat}
end
section
variable {α:Type}[DecidableEq α]
end
end L3
namespace L3
open PySem PySem.Spec L2
open PyProof.Rows hiding St
section
variable {X:Cx}{ct:Nat->af}{ms:List Mo}{rk n m k:Nat}{st:bI}{rest:List bI}{a b c e tg:Expr}{f g h:EF}{p q:BF}{u w:SF}{pos:cy}{K:ae}
end
end L3
namespace L3
open PySem PySem.Spec L2
open PyProof.Rows hiding St
section
variable {X:Cx}{ct:Nat->af}{ms:List Mo}{rk n m k kk kq:Nat}{st:bI}{rest:List bI}{a b c e tg:Expr}{f g h:EF}{p q:BF}{u w:SF}{pos pp:cy}{K:ae}{x:aK}{fa:af}{fd:aP}{ps:List aK}{mf:List D->Option D}
theorem pQ (h:XO X ct ms k e f):XO X ct ms 0 e f:=XE.ow (XO.sh (n:=0) h)
theorem pf {own i:Nat}(hN:X.N.Nodup)(ho:i<own:=by decide)(hm:ms[i]?=some (.ow 0):=by rfl)(hi:X.N[i]?=some x:=by rfl)(hx:Loc X.env.scope x:=by first|exact Or.inl rfl|exact Or.inr rfl)
  (hf:X.fn x=true\/X.env.scope.names.lookup x=some .local:=by first|exact .inl rfl|exact .inr rfl|assumption):sD X ct ms own 0 (.Name x pos) (gV i):=Uh ho hm hN hi hx hf
theorem iI {i:Nat}{pos':cy}(hN:X.N.Nodup)(he:XO X ct ms k e f)(hm:ms[i]?=some (.ow k):=by rfl)(hi:X.N[i]?=some x:=by rfl)(hx:Loc X.env.scope x:=by first|exact Or.inl rfl|exact Or.inr rfl)
  (hs:dI e (some (.Name x pos')) pos.line X.env=pure false:=by rfl)
  (hf:X.fn x=true\/X.env.scope.names.lookup x=some .local:=by first|exact .inl rfl|exact .inr rfl|assumption):XS X ct ms rk (.Assign [.Name x pos'] e pos) (sSet i f):=W5 hm hN hi hx he hs hf
theorem mY {i:Nat}(hN:X.N.Nodup)(hm:ms[i]?=some (.ow 0):=by rfl)(hi:X.N[i]?=some x:=by rfl)(hx:Loc X.env.scope x:=by first|exact Or.inl rfl|exact Or.inr rfl)
  (hf:X.fn x=true\/X.env.scope.names.lookup x=some .local:=by first|exact .inl rfl|exact .inr rfl|assumption):XG X ct ms 0 (.Name x pos) (gV i):=Vv hm hN hi hx hf
theorem d9 {es:List Expr}{ns:List Nat}{fs:Env->Option (List D)}(d:mL X.K X.mg x st ps fa fd)(Fn:cB X.prog X.w X.K X.mg X.base eW kk fa fd ps (il X.K ct ns rk mf))(hr:dw kq X.A)(ha:XA X ct ms (e::es) ns fs)(n8:kk<=kq:=by decide)(hg:Gl X x:=by rfl)
  (iB:(x==("__debug__":aK))=false:=by decide) (he:ap (e::es) X.env=(false,bB e X.env)::ap es X.env:=by rfl) (el:(bZ pos (ap es X.env)).any (·.1)=false:=by rfl) :
  XO X ct ms rk (.Call (.Name x pp) (e::es) [] pos) (λρ=>(fs ρ).bind λds=>mf (ds++[])) :=
 Vu (ns:=ns) (nd:=[]) (iP:=[]) (by rw[bX];exact Fn) (hr.mono n8) hg d.mgx d.fn.kp d.bd .nil (λ_ _=>.nil) ha iB he el
theorem DW {om:List Mo}{iQ iter:Expr}{ifs:List Expr}{scope:eZ}{N:List aK}{own:Nat}{cap:List Nat}{fi:Env->Option (List D)}{gg:D->Env->Option Env}(hi:XIc X ct ms n tg iter fi)
  (hg:∀cl C fp s₀ H₀,sD (g0 X scope cl N C fp s₀ H₀) ct (om++gB ms cap) own n tg gg) (ht:∀cl C fp s₀ H₀,vB (g0 X scope cl N C fp s₀ H₀) ct (om++gB ms cap) ifs p) (he:∀cl C fp s₀ H₀,XO (g0 X scope cl N C fp s₀ H₀) ct (om++gB ms cap) k iQ f)
  (B:jZ X scope N own cap:=by exact yG (by rfl)) (hc:X.calm=true:=by rfl) (ho:om.length=own:=by rfl) (i6:∀i∈cap,i<ms.length:=by decide)
  (hs:∀x,dg iter X.env x=pure x:=by intro _;rfl):XO X ct ms (k+1) (.ListComp iQ [⟨tg,iter,ifs,0⟩] scope pos) (fD fi own cap gg p f):=U5 B hc ho i6 hi hg ht he hs
theorem kW {P:aT}{w:bt}{mg:aK->Option aa}{base:aE}{qual:aK}{N:List aK}{pm:List Nat}{bf:SF}(Fn:Fun2 K x qual st fa fd)(S:bE N ps (aU st))
  (body:∀(gx:aa) (A:bi) (outer:List PySem.Env) (s:ai) (H:Hp) (E:XK),dw kk (A.deeper (envOfC qual (aU st) s.heap.objs.size fa gx))->oF (lr eW P w K mg base N qual (aU st) fa gx A outer s H E).nox ct ms rk (fO st) bf)
  (xA:pm.length=ps.length:=by rfl) (Ey:ms.length=N.length:=by rfl) (n8:ps.length<=N.length:=by decide) (wV:∀(i n:Nat),pm[i]?=some n->ms[i]?=some (Mo.al n)\/(n=0/\ms[i]?=some (Mo.ow 0)):=by exact w9 (by decide)) :
  cB P w K mg base eW (kk+1) fa fd ps (il K ct pm rk (mOf N bf)):=lift Fn S xA Ey n8 wV body
theorem dN {i:Int}{j}:XE X ct ms 0 (.Constant (.int i) j pos) (eC (.int i)):=W2
theorem tJ {j}:XE X ct ms 0 (.Constant .none j pos) (eC .non):=W3
theorem nP (ha:XE X ct ms 0 a f)(hb:XE X ct ms 0 b g):XO X ct ms 1 (.BinOp a .Add b pos) (e2 fC f g):=Xk U8 (U9 (by decide) (by decide)) ha hb
theorem rZ (ha:XE X ct ms 0 a f)(hb:XE X ct ms 0 b g)(hp:lA b:=by exactλ_ _=>rfl):XE X ct ms 0 (.Subscript a b pos) (e2 ip f g):=zP (n:=0) zL zO ha hb hp
theorem nw {fs:Env->Option (List D)}(hm:X.mg "len"=none)(ha:XA X ct ms [e] [n] fs)(hg:Gl X "len":=by rfl)(he:ap [e] X.env=(false,bB e X.env)::ap [] X.env:=by rfl)(el:(bZ pos (ap [] X.env)).any (·.1)=false:=by rfl):XE X ct ms 0 (.Call (.Name "len" pp) [e] [] pos) (eN eO fs):=jk (k:=0) S8 U4 hg hm M9 ha (by decide) (by decide) he el
theorem Po {P:List aa->Prop}(h:P [])(us:List aa)(e:us.length=0):P us:=by
 cases us with
 |nil=>exact h
 |cons a t=>cases e
theorem pT {P:List aa->Prop}(h:∀a1,P [a1])(us:List aa)(e:us.length=1):P us:=by
 cases us with
 |nil=>cases e
 |cons a t=>exact Po (P:=λt=>P (a::t)) (h a) t (Nat.succ.inj e)
theorem sS {P:List aa->Prop}(h:∀a1 a2,P [a1,a2])(us:List aa)(e:us.length=2):P us:=by
 cases us with
 |nil=>cases e
 |cons a t=>exact pT (P:=λt=>P (a::t)) (h a) t (Nat.succ.inj e)
theorem yZ {P:List aa->Prop}(h:∀a1 a2 a3,P [a1,a2,a3])(us:List aa)(e:us.length=3):P us:=by
 cases us with
 |nil=>cases e
 |cons a t=>exact sS (P:=λt=>P (a::t)) (h a) t (Nat.succ.inj e)
theorem xI {P:List aa->Prop}(h:∀a1 a2 a3 a4,P [a1,a2,a3,a4])(us:List aa)(e:us.length=4):P us:=by
 cases us with
 |nil=>cases e
 |cons a t=>exact yZ (P:=λt=>P (a::t)) (h a) t (Nat.succ.inj e)
theorem Cs {P:List aa->Prop}(h:∀a1 a2 a3 a4 a5,P [a1,a2,a3,a4,a5])(us:List aa)(e:us.length=5):P us:=by
 cases us with
 |nil=>cases e
 |cons a t=>exact xI (P:=λt=>P (a::t)) (h a) t (Nat.succ.inj e)
end
end L3
namespace L3
open PySem PySem.Spec L2
open PyProof.Rows hiding St
section
variable {K:ae}{ct:Nat->af}{F B H:Hp}
end
section
variable {X:Cx}{ct:Nat->af}{ms:List Mo}{rk n m k i j:Nat}{a b c e:Expr}{f g h:EF}{p q:BF}{pos:cy}{K:ae}
end
end L3
set_option maxHeartbeats 1000000
namespace L3
open PySem PySem.Spec L2
open PyProof.Rows hiding St
inductive nJ where
 |ok (d:D)|xc (d:D)
inductive sC where
 |ok (o:Out)|xc (ρ:Env) (d:D)
abbrev mz:=Env->Option sC
abbrev zW:=Env->Option nJ
def tT (K:ae)(ct:Nat->af)(F H:Hp)(d:D)(a:af):Prop:=∃c ns ds T dx,d=.exc c ns ds/\F a=none/\F T=none/\n4 H a (ct c) dx (some T) /\
 ((ns=[]/\ds=[]/\dx=none)\/∃y vs,dx=some y/\F y=some (.xd (ns.zip vs))/\ns.length=vs.length/\Dts K ct F ds vs)
def qX (K:ae)(cl:Nat->af)(F0 B:Hp)(ms:List Mo)(rk:Nat)(E:gH)(G:GK):sC->Prop
 |.ok o=>jD K cl F0 B ms rk E o
 |.xc ρ d=>∀a σ F1 H0 F H,RS K cl F0 B ms F1 H0 ρ σ->ez F1 H0 F H->H0 a=none->tT K cl F H d a->G σ a H
theorem tT.note {K:ae}{ct:Nat->af}{F H:Hp}{d:D}{a:af}(h:tT K ct F H d a)(s:bL F H):∃C dx T,n4 H a C dx (some T)/\∀T',H T'=none->tT K ct F (dR H a C dx T') d a/\bL F (dR H a C dx T')/\∀b o,b≠a->H b=some o->dR H a C dx T' b=some o:=by
 obtain⟨c,ns,ds,T,dx,rfl,fa,fT,xr,r⟩:=h
 refine⟨ct c,dx,T,xr,λT' hT=>⟨⟨c,ns,ds,T',dx,rfl,fa,s.free hT,Ji xr hT,r⟩,λb o e=>?_,λb o hb e=>?_⟩⟩
 ·unfold dR
  rw[zg (zk e fa),zg (zk e (s.free hT))]
  exact s _ _ e
 ·unfold dR
  rw[zg hb,zg (zk e hT)]
  exact e
theorem ez.note {F1 H0 F H:Hp}{a C:af}{dx:Option af}{T':af}(x:ez F1 H0 F H)(ha:H0 a=none)(hT:H T'=none)(s:bL F (dR H a C dx T')):ez F1 H0 F (dR H a C dx T') :=
 ⟨x.ff,λb o e=>by
  unfold dR
  rw[zg (zk e ha),zg (zk (x.hh _ _ e) hT)]
  exact x.hh _ _ e,s,x.nf⟩
section
variable (X:Cx)(G:GK)(ct:Nat->af)(ms:List Mo)(rk:Nat)
def yO (st:bI)(f:mz):Prop:=∃t,PS X st t/\∀(F0 B F H:Hp) (ρ:Env) (σ:St) (o:sC) (E:gH),RS X.K ct F0 B ms F H ρ σ->f ρ=some o->qX X.K ct F0 B ms rk E G o->t E σ H
def nK (st:List bI)(f:mz):Prop:=∃t,nr X st t/\∀(F0 B F H:Hp) (ρ:Env) (σ:St) (o:sC) (E:gH),RS X.K ct F0 B ms F H ρ σ->f ρ=some o->qX X.K ct F0 B ms rk E G o->t E σ H
def JD (k:Nat)(e:Expr)(f:zW):Prop:=∃t,PE X e t/\∀(F0 B F H:Hp) (ρ:Env) (σ:St) (r:nJ) (Q:VK),RS X.K ct F0 B ms F H ρ σ->f ρ=some r ->
 (match r with
  |.ok d=>∀v F' H' fp,ez F H F' H'->Ow X.K ct F' H' k d v fp->fp.Nodup->(∀a∈fp,H a=none)->Q v H'
  |.xc d=>∀a F' H',ez F H F' H'->H a=none->tT X.K ct F' H' d a->G σ a H')->t σ H Q
end
def xOf (u:SF):mz:=λρ=>(u ρ).map .ok
def sSeqX (f g:mz):mz:=λρ=>(f ρ).bind λo=>match o with
 |.ok (.nx ρ')=>g ρ'
 |o=>some o
def sIfX (c:BF)(f g:mz):mz:=λρ=>(c ρ).bind λb=>if b=true then f ρ else g ρ
def sSetX (i:Nat)(f:zW):mz:=λρ=>(f ρ).bind λr=>match r with
 |.ok d=>some (.ok (.nx (ρ.set i (some d))))
 |.xc d=>some (.xc ρ d)
def sDropX (f:zW):mz:=λρ=>(f ρ).bind λr=>match r with
 |.ok _=>some (.ok (.nx ρ))
 |.xc d=>some (.xc ρ d)
def sRetX (f:zW):mz:=λρ=>(f ρ).bind λr=>match r with
 |.ok d=>some (.ok (.rt d))
 |.xc d=>some (.xc ρ d)
def wF (g:D->Env->Option Env)(b:mz):List D->mz
 |[],ρ=>some (.ok (.nx ρ))
 |d::ds,ρ=>(g d ρ).bind λρ1=>(b ρ1).bind λo=>match o with
   |.ok (.nx ρ')=>wF g b ds ρ'
   |.ok (.ct ρ')=>wF g b ds ρ'
   |.ok (.bk ρ')=>some (.ok (.nx ρ'))
   |.ok (.rt d)=>some (.ok (.rt d))
   |.xc ρ' d=>some (.xc ρ' d)
def sForX (f:Env->Option (List D))(g:D->Env->Option Env)(b:mz):mz:=λρ=>(f ρ).bind λds=>wF g b ds ρ
section
variable {X:Cx}{G:GK}{ct:Nat->af}{ms:List Mo}{rk n m k:Nat}{st:bI}{rest:List bI}{a b c e:Expr}{f g h:EF}{p q:BF}{u w:mz}{pos:cy}
theorem Xh {u:SF}(h:XS X ct ms rk st u):yO X G ct ms rk st (xOf u):=by
 obtain⟨t,pt,qt⟩:=h
 refine⟨t,pt,λF0 B F H ρ σ o E rs e z=>?_⟩
 obtain⟨o',h1,rfl⟩:=bF.mp e
 exact qt F0 B F H ρ σ o' E rs h1 z
theorem MW {u:SF}(h:oF X ct ms rk rest u):nK X G ct ms rk rest (xOf u):=by
 obtain⟨t,pt,qt⟩:=h
 refine⟨t,pt,λF0 B F H ρ σ o E rs e z=>?_⟩
 obtain⟨o',h1,rfl⟩:=bF.mp e
 exact qt F0 B F H ρ σ o' E rs h1 z
theorem Mc (h1:yO X G ct ms rk st u):nK X G ct ms rk [st] u:=by
 obtain⟨t,pt,qt⟩:=h1
 exact⟨_,Jg pt,qt⟩
theorem LH (h1:yO X G ct ms rk st u)(h2:nK X G ct ms rk rest w):nK X G ct ms rk (st::rest) (sSeqX u w):=by
 obtain⟨t,pt,qt⟩:=h1
 obtain⟨t2,pV,pW⟩:=h2
 refine⟨_,IM pt pV,λF0 B F H ρ σ o E rs e z=>?_⟩
 obtain⟨o1,e1,e2⟩:=aR e
 refine qt F0 B F H ρ σ o1 _ rs e1 ?_
 cases o1 with
 |xc ρ' d=>cases e2;exact z
 |ok o1=>
  cases o1 with
  |nx ρ'=>exactλσ' F' H' Dr=>pW F0 B F' H' ρ' σ' o E Dr e2 z
  |rt d=>cases e2;exact z
  |bk ρ'=>cases e2;exact z
  |ct ρ'=>cases e2;exact z
theorem WJ {Dv pZ:List bI}(hc:XT X ct ms c p)(h1:nK X G ct ms rk Dv u)(h2:nK X G ct ms rk pZ w):yO X G ct ms rk (.If c Dv pZ pos) (sIfX p u w):=by
 obtain⟨t,pt,qt⟩:=hc
 obtain⟨t1,sZ,tq⟩:=h1
 obtain⟨t2,pV,pW⟩:=h2
 refine⟨_,Nu pt sZ pV,λF0 B F H ρ σ o E rs e z=>?_⟩
 obtain⟨x,h1,h2⟩:=aR e
 refine qt F0 B F H ρ σ x _ rs h1 λF1 H1 x1=>?_
 cases x with
 |true=>rw[if_pos rfl]at h2 ⊢;exact tq F0 B F1 H1 ρ σ o E (rs.ext x1) h2 z
 |false=>rw[if_neg aD]at h2 ⊢;exact pW F0 B F1 H1 ρ σ o E (rs.ext x1) h2 z
theorem TL {f:zW}(he:JD X G ct ms k e f)(hs:dI e none pos.line X.env=pure false:=by rfl):yO X G ct ms rk (.Expr e pos) (sDropX f):=by
 obtain⟨t,pt,qt⟩:=he
 refine⟨_,Fd pt hs,λF0 B F H ρ σ o E rs e z=>?_⟩
 obtain⟨r,h1,h2⟩:=aR e
 refine qt F0 B F H ρ σ r _ rs h1 ?_
 cases r with
 |ok d=>cases h2;exactλv F' H' fp x l nd hf=>z σ F' H' (rs.ext x)
 |xc d=>cases h2;exactλa F' H' x ha xd=>z a σ F H F' H' rs x ha xd
end
end L3
set_option maxHeartbeats 1000000
namespace L3
open PySem PySem.Spec L2
open PyProof.Rows hiding St
def pL (K:ae)(ct:Nat->af)(pm:List Nat)(rk:Nat)(m:List D->Option nJ):Sp:=λvs H Q E=>∃(F:Hp) (ds:List D) (r:nJ),bL F H/\iy K ct F H pm ds vs/\m ds=some r /\
 match r with
  |.ok d=>∀v F' H' fp,ez F H F' H'->Ow K ct F' H' rk d v fp->fp.Nodup->(∀a∈fp,H a=none)->Q v H'
  |.xc d=>∀a F' H',ez F H F' H'->H a=none->tT K ct F' H' d a->E (.ref a) none H'
theorem pL.len {K:ae}{ct:Nat->af}{pm:List Nat}{rk:Nat}{m:List D->Option nJ}{ps:List aK}(h:pm.length=ps.length):∀vs H Q E,pL K ct pm rk m vs H Q E->vs.length=ps.length:=by
 rintro vs H Q E ⟨F,ds,r,_,l,_⟩
 rw[l.length,h]
theorem X6 {K:ae}{ct:Nat->af}{F H F1 H1 F' H':Hp}{σ:St}{d:D}{a:af}{G:GK}(x1:ez F H F1 H1)(x2:ez F1 H1 F' H')(ha:H1 a=none)(xd:tT K ct F' H' d a)(w:∀a F' H',ez F H F' H'->H a=none->tT K ct F' H' d a->G σ a H'):EX G σ (.ref a) none H':=by
 obtain⟨C,dx,T,xr,nt⟩:=xd.note x2.fh
 refine⟨a,C,dx,T,rfl,xr,λT' hT=>?_⟩
 obtain⟨q1,q2,_⟩:=nt T' hT
 exact w a F' _ ((x1.trans x2).note (x1.hh.free ha) hT q2) (x1.hh.free ha) q1
section
variable {X:Cx}{G:GK}{ct:Nat->af}{ms:List Mo}{rk n m k kk:Nat}{st:bI}{rest:List bI}{a b c e:Expr}{f g h:EF}{p q:BF}{u w:mz}{pos pp:cy}{fa:af}{fd:aP}{ps:List aK}{mf:List D->Option nJ}{x:aK}
theorem TN {es:List Expr}{ns nd:List Nat}{fs:Env->Option (List D)}{gp:List V}{iP:List D}{lK:List aa}(hx:jE X G)(Fn:cB X.prog X.w X.K X.mg X.base (tP X.prog X.w) kk fa fd ps (pL X.K ct (ns++nd) rk mf))(hr:dw kk X.A)(hg:Gl X x)(hm:X.mg x=some (.ref fa))(hk:ar X.K (.ref fa)=true)
  (hb:bO X.K fd ps lK) (hd:bR gp lK) (rq:∀F G,iy X.K ct F G nd iP gp) (ha:XA X ct ms (e::es) ns fs)
  (iB:(x==("__debug__":aK))=false:=by decide) (he:ap (e::es) X.env=(false,bB e X.env)::ap es X.env:=by rfl) (el:(bZ pos (ap es X.env)).any (·.1)=false:=by rfl) :
  JD X G ct ms rk (.Call (.Name x pp) (e::es) [] pos) (λρ=>(fs ρ).bind λds=>mf (ds++iP)):=by
 obtain⟨t,pt,_,qt⟩:=ha
 refine⟨_,TU Fn hr hg hm hk hb hd hx pt iB he el,λF0 B F H ρ σ r Q rs e w=>?_⟩
 obtain⟨ds,h1,h2⟩:=aR e
 refine qt F0 B F H ρ σ ds _ rs h1 λvs F1 H1 x1 l=>⟨F1,ds++iP,r,x1.fh,iy.append (rq F1 H1) l,h2,?_⟩
 cases r with
 |ok d=>exactλv F2 H2 fp x2 o nd hf=>w v F2 H2 fp (x1.trans x2) o nd λz hz=>x1.hh.free (hf z hz)
 |xc d=>exactλa F2 H2 x2 ha xd=>X6 x1 x2 ha xd w
def mOfX (N:List aK)(b:mz)(ds:List D):Option nJ:=(b (startD N ds)).bind λo=>match o with
 |.ok (.rt d)=>some (.ok d)
 |.ok (.nx _)=>some (.ok .non)
 |.xc _ d=>some (.xc d)
 |_=>none
theorem Ct {P:aT}{w:bt}{K:ae}{mg:aK->Option aa}{base:aE}{x qual:aK}{st:bI}{fa:af}{fd:aP}{N ps:List aK}{kk:Nat}{pm:List Nat}{bf:mz}(Fn:Fun2 K x qual st fa fd)(S:bE N ps (aU st))(xA:pm.length=ps.length)(Ey:ms.length=N.length)(n8:ps.length<=N.length)
  (wV:∀(i n:Nat),pm[i]?=some n->ms[i]?=some (Mo.al n)\/(n=0/\ms[i]?=some (Mo.ow 0)))
  (body:∀(gx:aa) (A:bi) (outer:List PySem.Env) (s:ai) (H:Hp) (E:XK),dw kk (A.deeper (envOfC qual (aU st) s.heap.objs.size fa gx))->nK (lr (tP P w) P w K mg base N qual (aU st) fa gx A outer s H E) (λ_ a H'=>E (.ref a) none H') ct ms rk (fO st) bf) :
  cB P w K mg base (tP P w) (kk+1) fa fd ps (pL K ct pm rk (mOfX N bf)):=by
 obtain⟨oc,od,dV,kV,doc,YO,an,gx,Ya,sX,rfl,lk,jP⟩:=Fn.ex
 refine Nv lk jP S (pL.len xA) λA outer s H vs Q E hr h=>?_
 obtain⟨F,ds,r,sF,l,hm,q⟩:=h
 obtain⟨t,pt,qt⟩:=body gx A outer s H E hr
 refine⟨t,pt,?_⟩
 obtain⟨o,h1,h2⟩:=aR hm
 have Pg:vs.length=pm.length:=l.length
 have hdl:ds.length=vs.length:=l.length'
 refine qt F H F H (startD N ds) (L2.start N vs) o _ ⟨.refl _,.refl _,sF,λ_ _ _ _ h=>h,[],?_,bA,λa z=>(by cases z)⟩ h1 ?_
 ·unfold startD L2.start
  rw[hdl]
  exact SL.start _ l wV (by omega)
 ·cases o with
  |xc ρ d=>
   cases h2
   exactλa σ F1 H0 F' H' rs x ha xd=>q a F' H' (ez.trans ⟨rs.f0,rs.bh,rs.fh,rs.nf⟩ x) (rs.bh.free ha) xd
  |ok o=>
   cases o with
   |nx ρ=>
    cases h2
    exactλσ F' H' r=>q .non F' H' [] ⟨r.f0,r.bh,r.fh,r.nf⟩ (Ow.scal .non rfl) bA λa z=>(by cases z)
   |rt d'=>
    cases h2
    exactλv F' H' fp s1 s2 s3 s4 o nd hf=>q v F' H' fp ⟨s1,s2,s3,s4⟩ o nd hf
   |bk ρ=>cases h2
   |ct ρ=>cases h2
def XR (X:Cx)(ct:Nat->af)(ms:List Mo)(e:Expr)(f:EF):Prop:=∃t,PE X e t/\∀(F0 B F H:Hp) (ρ:Env) (σ:St) (d:D) (Q:VK),RS X.K ct F0 B ms F H ρ σ->f ρ=some d ->
 (∀a F' H' c ns ds dx,ez F H F' H'->H a=none->d=.exc c ns ds->F' a=none->rf X.K (ct c)->n4 H' a (ct c) dx none->((ns=[]/\ds=[]/\dx=none)\/∃y vs,dx=some y/\F' y=some (.xd (ns.zip vs))/\ns.length=vs.length/\Dts X.K ct F' ds vs)->Q (.ref a) H')->t σ H Q
def sRaise (f:EF):mz:=λρ=>(f ρ).bind λd=>some (.xc ρ d)
theorem Tl (hc:X.calm=true)(hx:jE X G)(he:XR X ct ms e f):yO X G ct ms rk (.Raise (some e) none pos) (sRaise f):=by
 obtain⟨t,pt,qt⟩:=he
 refine⟨_,TY hc hx pt,λF0 B F H ρ σ o E rs e z=>?_⟩
 obtain⟨d,h1,h2⟩:=aR e
 cases h2
 refine qt F0 B F H ρ σ d _ rs h1 λa F' H' c ns ds dx x ha hd fa cl xr r=>⟨a,ct c,dx,rfl,cl,xr,λT hT=>?_⟩
 have sN:bL F' (dR H' a (ct c) dx T):=λb o e=>by
  unfold dR
  rw[zg (zk e fa),zg (zk e (x.fh.free hT))]
  exact x.fh _ _ e
 exact z a σ F H F' _ rs (x.note ha hT sN) ha ⟨c,ns,ds,T,dx,hd,fa,x.fh.free hT,Ji xr hT,r⟩
def oH:D->Option D
 |.non=>some .non
 |.int i=>if i.natAbs.log2<1920 then some (.int i)else none
 |_=>none
theorem Tn {K:ae}{F G':Hp}{d d':D}{v:V}(h:oH d=some d')(l:Al K ct F G' n d v):d'=d/\mM v/\∀F',Dt K ct F' d v:=by
 cases d with
 |non=>
  unfold oH at h
  cases h
  refine⟨rfl,.inl l.non,λF'=>?_⟩
  rw[l.non];exact .non
 |int i=>
  unfold oH at h
  dsimp only at h
  by_cases hi:i.natAbs.log2<1920
  ·rw[if_pos hi]at h
   cases h
   refine⟨rfl,.inr ⟨i,l.int,hi⟩,λF'=>?_⟩
   rw[l.int];exact .int i
  ·rw[if_neg hi]at h;cases h
 |_=>unfold oH at h;cases h
def pN (f:aK)(C:af):Sp:=λvs H Q _=>∃a u,vs=[.ref a,u]/\H a=some (lf a C none none)/\mM u/\∀dx,H dx=none->dx≠a->Q .non (upd (upd H dx (.xd [(f,u)])) a (lf a C (some dx) none))
theorem pN.len {f y z:aK}{C:af}:∀vs H Q E,pN f C vs H Q E->vs.length=[y,z].length:=by
 rintro vs H Q E ⟨a,u,rfl,_⟩
 rfl
theorem TQ {fn:aK}{c0:Nat}(cl:rf X.K (ct c0))(Hc:ar X.K (.ref (ct c0))=true)(hi:aj X.K (.ref (ct c0)) "__init__"=some (some (.ref fa)))(qM:bP X.K (.ref fa)=true)(Fn:cB X.prog X.w X.K X.mg X.base eW kk fa fd ps (pN fn (ct c0)))(hr:dw (kk+1) X.A)(hm:X.mg x=some (.ref (ct c0)))(hb:bO X.K fd ps [])
  (he:XE X ct ms n e f) (hg:Gl X x:=by rfl) (iB:(x==("__debug__":aK))=false:=by decide) (iR:ap [e] X.env=(false,bB e X.env)::ap [] X.env:=by rfl) (el:(bZ pos (ap [] X.env)).any (·.1)=false:=by rfl) :
  XR X ct ms (.Call (.Name x pp) [e] [] pos) (λρ=>(f ρ).bind λd=>(oH d).bind λd=>some (.exc c0 [fn] [d])):=by
 obtain⟨t,pt,qt⟩:=he
 refine⟨_,TX cl Hc hi qM Fn hr hg hm hb (xn pt uw iR) iB iR el,λF0 B F H ρ σ d Q rs e w=>?_⟩
 obtain⟨d1,h1,h2⟩:=aR e
 obtain⟨d2,h3,h4⟩:=aR h2
 cases h4
 refine qt F0 B F H ρ σ d1 _ rs h1 λv F1 H1 x1 l=>⟨by simp,λa ha=>⟨a,v,rfl,zm,?_⟩⟩
 obtain⟨rfl,fo,dt⟩:=Tn h3 l
 refine⟨fo,λdx Ew kU=>⟨rfl,?_⟩⟩
 have G0:H1 dx=none:=by rw[zg kU]at Ew;exact Ew
 have hH:upd (upd (upd H1 a (lf a (ct c0) none none)) dx (.xd [(fn,v)])) a (lf a (ct c0) (some dx) none)=upd (upd H1 dx (.xd [(fn,v)])) a (lf a (ct c0) (some dx) none):=by
  funext b
  by_cases h1:b=a
  ·rw[h1,zm,zm]
  ·rw[zg h1,zg h1]
   by_cases h2:b=dx
   ·rw[h2,zm,zm]
   ·rw[zg h2,zg h2,zg h1]
 rw[hH]
 have x2:ez F1 H1 (upd F1 dx (.xd [(fn,v)])) (upd H1 dx (.xd [(fn,v)])):=ez.newS x1.fh G0 _
 have GP:upd H1 dx (.xd [(fn,v)]) a=none:=by rw[zg (Ne.symm kU)];exact ha
 have x3:=ez.newO x2.fh GP (lf a (ct c0) (some dx) none)
 refine w a _ _ c0 [fn] [d2] (some dx) ((x1.trans x2).trans x3) (x1.hh.free ha) rfl ?_ cl ⟨zm,λT z=>by cases z⟩ (.inr ⟨dx,[v],rfl,zm,rfl,.cons (dt _) .nil⟩)
 rw[zg (Ne.symm kU)]
 exact x1.fh.free ha
end
end L3
set_option maxHeartbeats 1000000
namespace L3
open PySem PySem.Spec L2
open PyProof.Rows hiding St
section
variable {X:Cx}{G:GK}{ct:Nat->af}{ms:List Mo}{rk n m k kk:Nat}{a b c e tg:Expr}{f g h:EF}{u w:SF}{pos pp:cy}{fa:af}{fd:aP}{ps:List aK}{x:aK}
theorem TR {P:aT}{w:bt}{K:ae}{mg:aK->Option aa}{base:aE}{qual fn N0 N1:aK}{st:bI}{fa C:af}{fd:aP}{kk:Nat}(Fn:Fun2 K "__init__" qual st fa fd)(S:bE [N0,N1] [N0,N1] (aU st))(cl:rf K C)(hd:bv K C=true/\aj K (.ref C) "__setattr__"=some (some (.builtin "object.__setattr__"))/\dv K C fn=some none)
  (body:∀(gx:aa) (A:bi) (outer:List PySem.Env) (s:ai) (H:Hp) (E:XK),∃tf:TF,(∀σ H v (Q:Hp->Prop),σ[1]?=some (some v)->mM v->Q H->tf σ H Q)/\nr (lr eW P w K mg base [N0,N1] qual (aU st) fa gx A outer s H E).nox (fO st) (DE (uQ (rY K (rX 0) (λσ H Q=>tf σ H λH1=>∀x,Q (.str x) H1))) (uS K fn (rX 1) (rX 0)))) :
  cB P w K mg base eW (kk+1) fa fd [N0,N1] (pN fn C):=by
 refine Fn.ok S pN.len λgx A outer s H vs Q E hr h=>?_
 obtain⟨a,u,rfl,ha,fo,q⟩:=h
 obtain⟨tf,Pb,p⟩:=body gx A outer s H E
 exact⟨_,p,.ref a,rfl,Pb _ _ u _ rfl fo λx=>⟨a,C,none,none,rfl,cl,ha,u,rfl,.ref a,rfl,a,C,none,rfl,cl,hd.1,hd.2.1,hd.2.2,ha,λdx h1 h2=>q dx h1 h2⟩⟩
theorem Q9 {v:V}{σ:St}{H:Hp}{Q:Hp->Prop}(h1:σ[1]?=some (some v))(h2:mM v)(h3:Q H):rX 1 σ H (λv H1=>mM v/\Q H1):=⟨v,h1,h2,h3⟩
def thD (hit:Nat->Option Bool)(i:Option Nat)(u:SF)(rest:Nat->D->SF):Nat->D->SF:=λc d ρ=>(hit c).bind λb=>if b=true then
  (match i with
   |none=>u ρ
   |some i=>(u (ρ.set i (some d))).bind λo=>match o with
    |.nx ρ'=>some (.nx (ρ'.set i none))
    |.bk ρ'=>some (.bk (ρ'.set i none))
    |.ct ρ'=>some (.ct (ρ'.set i none))
    |.rt d=>some (.rt d))
 else rest c d ρ
def sTry (b:mz)(h:Nat->D->SF):SF:=λρ=>(b ρ).bind λo=>match o with
 |.ok o=>some o
 |.xc ρ' (.exc c ns ds)=>h c (.exc c ns ds) ρ'
 |.xc _ _=>none
def D4 (X:Cx)(ct:Nat->af)(ms:List Mo)(rk:Nat)(hs:List ExceptHandler)(h:Nat->D->SF):Prop:=∃th,PH X hs th/\∀(F0 B F H:Hp) (ρ:Env) (σ:St) (o:Out) (E:gH) (a:af) (c:Nat) (d:D),RS X.K ct F0 B ms F H ρ σ->Dt X.K ct F d (.ref a)->h c d ρ=some o->jD X.K ct F0 B ms rk E o->th a (ct c) E σ H
theorem VT:D4 X ct ms rk [] (λ_ _ _=>none):=⟨_,Wi,λF0 B F H ρ σ o E a c d rs dt e z=>by cases e⟩
theorem SL.unset {K:ae}{F B H:Hp}{ms:List Mo}{ρ:Env}{σ:St}{fp:List af}{i:Nat}(h0:SL K ct F B H ms ρ σ fp)(hm:ms[i]?=some (.ow 0)):∃fk,SL K ct F B H ms (ρ.set i Option.none) (σ.set i Option.none) fk/\(∀a∈fk,a∈fp)/\(fp.Nodup->fk.Nodup):=by
 induction h0 generalizing i with
 |nil=>simp at hm
 |no t ih=>
  cases i with
  |zero=>exact⟨_,.no t,λ_ z=>z,λz=>z⟩
  |succ i=>obtain⟨fk,h1,h2,h3⟩:=ih (by simpa using hm);exact⟨fk,.no h1,h2,h3⟩
 |al h t ih=>
  cases i with
  |zero=>simp at hm
  |succ i=>obtain⟨fk,h1,h2,h3⟩:=ih (by simpa using hm);exact⟨fk,.al h h1,h2,h3⟩
 |px h t ih=>
  cases i with
  |zero=>simp at hm
  |succ i=>obtain⟨fk,h1,h2,h3⟩:=ih (by simpa using hm);exact⟨fk,.px h h1,h2,h3⟩
 |so h t ih=>
  cases i with
  |zero=>simp at hm
  |succ i=>
   obtain⟨fk,h1,h2,h3⟩:=ih (by simpa using hm)
   refine⟨_,.so h h1,λa z=>(az.mp z).elim (λz=>z▸am) λz=>ao _ (h2 a z),λz=>?_⟩
   obtain⟨n1,n2⟩:=bz.mp z
   exact bz.mpr ⟨λz=>n1 (h2 _ z),h3 n2⟩
 |ow h t ih=>
  cases i with
  |zero=>exact⟨_,.no t,λa z=>av _ z,λz=>(aX.mp z).2.1⟩
  |succ i=>
   obtain⟨fk,h1,h2,h3⟩:=ih (by simpa using hm)
   refine⟨_,.ow h h1,λa z=>(bj.mp z).elim (λz=>bb _ z) λz=>av _ (h2 a z),λz=>?_⟩
   obtain⟨n1,n2,n3⟩:=aX.mp z
   exact aX.mpr ⟨n1,h3 n2,λa z b y=>n3 a z b (h2 b y)⟩
theorem RS.unset {K:ae}{F0 B F H:Hp}{ρ:Env}{σ:St}{i:Nat}(r:RS K ct F0 B ms F H ρ σ)(hm:ms[i]?=some (.ow 0)):RS K ct F0 B ms F H (ρ.set i none) (σ.set i none):=by
 obtain⟨fp,sl,nd,hb⟩:=r.sl
 obtain⟨fk,h1,h2,h3⟩:=sl.unset hm
 exact⟨r.f0,r.bh,r.fh,r.nf,fk,h1,h3 nd,λa z=>hb a (h2 a z)⟩
theorem WK {hs:List ExceptHandler}{np:cy}{nm:aK}{i:Nat}{body:List bI}{Ba:af}{hit:Nat->Option Bool}{r:Nat->D->SF}(hN:X.N.Nodup)(hi:X.N[i]?=some nm)(Ex:ms[i]?=some (.ow 0))(hm:X.mg x=some (.ref Ba))(hh:∀c b,hit c=some b->eh X.K (.ref (ct c)) (.ref Ba)=some b)(hb:∀a,oF (X.hd a) ct ms rk body u)(hr:D4 X ct ms rk hs r)
  (hl:X.env.scope.names.lookup nm=some .local:=by rfl) (hg:Gl X x:=by rfl) (kU:body≠[]:=by simp) (iB:(x==("__debug__":aK))=false:=by decide) :
  D4 X ct ms rk (.ExceptHandler (some (.Name x np)) (some nm) body pos::hs) (thD hit (some i) u r):=by
 obtain⟨th,ph,qh⟩:=hr
 refine⟨_,X3 hN hi hl hg hm (λa=>(hb a).choose_spec.1) ph kU iB,λF0 B F H ρ σ o E a c d rs dt e z=>?_⟩
 obtain⟨b,h1,h2⟩:=aR e
 refine⟨b,hh c b h1,?_⟩
 cases b with
 |true=>
  rw[if_pos rfl]at h2 ⊢
  obtain⟨o1,h3,h4⟩:=aR h2
  refine(hb a).choose_spec.2 F0 B F H (ρ.set i (some d)) (σ.set i (some (.ref a))) o1 _ (rs.set Ex (.refl rs.fh) (Ow.zero dt) bA λa z=>(by cases z)) h3 ?_
  cases o1 with
  |nx ρ'=>cases h4;exactλσ' F' H' q=>z _ F' H' (q.unset Ex)
  |bk ρ'=>cases h4;exactλσ' F' H' q=>z _ F' H' (q.unset Ex)
  |ct ρ'=>cases h4;exactλσ' F' H' q=>z _ F' H' (q.unset Ex)
  |rt d=>cases h4;exact z
 |false=>
  rw[if_neg aD]at h2 ⊢
  exact qh F0 B F H ρ σ o E a c d rs dt h2 z
theorem WL {body:List bI}{h0:ExceptHandler}{hs:List ExceptHandler}{bf:mz}{hf:Nat->D->SF}(hb:∀(E:aa->ai->Prop) (ah:List (af×cu)) (G:GK),cn (aA X.prog X.w) X.A X.env E->jE (X.tr E ah) G->nK (X.tr E ah) G ct ms rk body bf)(hh:D4 X ct ms rk (h0::hs) hf)
  (iR:X.stack=X.env::X.outer:=by rfl) (BG:X.env.frame=some X.env.locals:=by rfl):XS X ct ms rk (.Try body (h0::hs) [] [] pos) (sTry bf hf):=by
 obtain⟨th,ph,qh⟩:=hh
 refine⟨_,Wj (tb:=λE ah G h1 h2=>(hb E ah G h1 h2).choose) iR BG (λE ah G h1 h2=>(hb E ah G h1 h2).choose_spec.1) ph,λF0 B F H ρ σ o E rs e z E' ah h1 h2=>?_⟩
 obtain⟨r,g1,g2⟩:=aR e
 refine(hb E' ah (yD th E) h1 h2).choose_spec.2 F0 B F H ρ σ r E rs g1 ?_
 cases r with
 |ok o'=>cases g2;exact z
 |xc ρ' d=>
  intro a σ' F1 H0 F' H' Dr x ha xd
  obtain⟨c,ns,ds,T,dx,rfl,fa,fT,xr,rr⟩:=xd
  refine⟨ct c,dx,T,xr,?_⟩
  have x2:ez F1 H0 (upd F' a (lf a (ct c) dx (some T))) H':=⟨x.ff.trans (vw fa _),x.hh,λb o q=>by
   by_cases hb:b=a
   ·rw[hb,zm]at q;rw[hb,xr.1];exact q
   ·rw[zg hb]at q;exact x.fh _ _ q,λb o h n=>by rw[zg (zk h ha)];exact x.nf b o h n⟩
  refine qh F0 B _ H' ρ' σ' o E a c _ (Dr.ext x2) ?_ g2 z
  rcases rr with⟨rfl,rfl,rfl⟩|⟨y,vs,rfl,hy,hl,Gi⟩
  ·exact .exc0 zm
  ·exact .exc (vs:=vs) zm (vw fa _ _ _ hy) hl (Gi.mono (vw fa _))
end
end L3
set_option maxHeartbeats 1000000
namespace L2
open PySem PySem.Spec PyProof.Rows
section
variable {X:Cx}
theorem Mp:eI X (.builtin "isinstance") (λvs H Q=>∃v cv b,vs=[v,cv]/\(∀u,RelV cv u->(∃a C dx tb,v=.ref a/\H a=some (lf a C dx tb)/\(dx=none\/∃d fs,dx=some d/\H d=some (.xd fs))/\XIc X.K C/\aO X.K (.ref C) u=some b)\/(v=.non/\aO X.K (.type "NoneType") u=some b))/\Q (.bl b) H):=by
 intro ah s σ H vs us Q I r h
 obtain⟨v,cv,b,rfl,hk,q⟩:=h
 cases r with
 |cons rv r=>
  cases r with
  |cons ru r=>
   cases r
   rcases hk _ ru with⟨a,C,dx,tb,rfl,ha,hd,ic,e⟩|⟨rfl,e⟩
   ·cases rv
    obtain⟨a0,eo⟩:=(I.hok a _ ha).1
    have J:∃ox od,dG s.heap a ox C od:=by
     rcases hd with rfl|⟨d,fs,rfl,hd⟩
     ·exact⟨_,none,eo,rfl,rfl,trivial⟩
     ·obtain⟨mA,⟨od,es,ep,e2,_⟩,_⟩:=I.hok d _ hd
      exact⟨_,some od,eo,rfl,rfl,e2⟩
    obtain⟨ox,od,J⟩:=J
    exact bV (Mh ic) I.kIn J e (λz=>by cases z) λtk=>⟨.bl b,H,I.tok _,rfl,q⟩
   ·cases rv
    exact bV jT I.kIn trivial e (λz=>by cases z) λtk=>⟨.bl b,H,I.tok _,rfl,q⟩
theorem To:eI X (.builtin "isinstance") (λvs H Q=>∃(v:V) (tp:af) (cs:List af) (b:Bool),vs=[v,.ref tp]/\H tp=some (.tup (cs.map V.ref))/\((∃a C dx tb,v=.ref a/\H a=some (lf a C dx tb)/\(dx=none\/∃d fs,dx=some d/\H d=some (.xd fs))/\XIc X.K C/\dH X.K (.ref C) (cs.map aa.ref)=some b)\/(v=.non/\dH X.K (.type "NoneType") (cs.map aa.ref)=some b))/\Q (.bl b) H):=by
 intro ah s σ H vs us Q I r h
 obtain⟨v,tp,cs,b,rfl,Hs,hk,q⟩:=h
 obtain⟨_,bW,Qw,⟨o,eo,hc,n,Km⟩⟩:=I.hok tp _ Hs
 have all:∀(cs:List af) (bW:List aa),bR (cs.map V.ref) bW->bW=cs.map aa.ref:=by
  intro cs
  induction cs with
  |nil=>intro bW h;cases h;rfl
  |cons c cs ih=>intro bW h;cases h with|cons r1 r2=>cases r1;rw[bq,ih _ r2]
 have hits:=all cs bW Qw
 obtain⟨oc,P1,YN,sX⟩:=o
 dsimp only at hc Km
 subst hc Km
 cases r with
 |cons rv r=>
  cases r with
  |cons ru r=>
   cases r
   cases ru
   rcases hk with⟨a,C,dx,tb,rfl,ha,hd,ic,e⟩|⟨rfl,e⟩
   ·cases rv
    obtain⟨a0,J7⟩:=(I.hok a _ ha).1
    have J:∃ox od,dG s.heap a ox C od:=by
     rcases hd with rfl|⟨d,fs,rfl,hd⟩
     ·exact⟨_,none,J7,rfl,rfl,trivial⟩
     ·obtain⟨mA,⟨od,es,ep,e2,_⟩,_⟩:=I.hok d _ hd
      exact⟨_,some od,J7,rfl,rfl,e2⟩
    obtain⟨ox,od,J⟩:=J
    exact pI (Mh ic) I.kIn J eo (by rw[hits];exact e) (λz=>by cases z) λtk=>⟨.bl b,H,I.tok _,rfl,q⟩
   ·cases rv
    exact pI jT I.kIn trivial eo (by rw[hits];exact e) (λz=>by cases z) λtk=>⟨.bl b,H,I.tok _,rfl,q⟩
end
end L2
namespace L3
open PySem PySem.Spec L2
open PyProof.Rows hiding St
theorem Al.dtx {K:ae}{ct:Nat->af}{F G:Hp}{n c:Nat}{ns:List aK}{ds:List D}{v:V}(h:Al K ct F G n (.exc c ns ds) v):Dt K ct F (.exc c ns ds) v:=by
 cases n with
 |zero=>exact h
 |succ n=>
  rcases h with h|h
  ·exact h
  ·cases h
theorem Dt.exc_inv {K:ae}{ct:Nat->af}{F:Hp}{c:Nat}{ns:List aK}{ds:List D}{v:V}(h:Dt K ct F (.exc c ns ds) v):∃a dx tb,v=.ref a/\F a=some (lf a (ct c) dx tb)/\((ns=[]/\ds=[]/\dx=none)\/∃y vs,dx=some y/\F y=some (.xd (ns.zip vs))/\ns.length=vs.length/\Dts K ct F ds vs):=by
 cases h with
 |exc0 h=>exact⟨_,none,_,rfl,h,.inl ⟨rfl,rfl,rfl⟩⟩
 |exc h h' l t=>exact⟨_,some _,_,rfl,h,.inr ⟨_,_,rfl,h',l,t⟩⟩
def fldX (cs:List Nat)(x:aK):D->Option D
 |.exc c ns ds=>if cs.contains c=true then(ns.zip ds).lookup x else none
 |_=>none
def isiX (all sub:List Nat):D->Option D
 |.exc c _ _=>if all.contains c=true then some (.bl (sub.contains c))else none
 |.non=>some (.bl false)
 |_=>none
section
variable {X:Cx}{ct:Nat->af}{ms:List Mo}{n m k:Nat}{e:Expr}{f:EF}{pos:cy}
theorem VU {x:aK}{cs:List Nat}(he:XE X ct ms n e f)(hc:∀c∈cs,FC X.K (ct c) x)(hb:dP e x X.env (bB e X.env)=bB e X.env):XE X ct ms k (.Attribute e x pos) (e1 (fldX cs x) f):=by
 obtain⟨t,pt,qt⟩:=he
 refine⟨_,UJ pt hb,λF0 B F H ρ σ r Q rs e w=>?_⟩
 obtain⟨o,h1,h2⟩:=aR e
 refine qt F0 B F H ρ σ o _ rs h1 λv F1 H1 x1 l=>?_
 cases o with
 |exc c ns ds=>
  obtain⟨a,dx,tb,rfl,ha,rr⟩:=l.dtx.exc_inv
  unfold fldX at h2
  dsimp only at h2
  by_cases rn:cs.contains c=true
  ·rw[if_pos rn]at h2
   rcases rr with⟨rfl,rfl,rfl⟩|⟨y,vs,rfl,hy,hl,Gi⟩
   ·simp at h2
   ·obtain⟨u,hu,du⟩:=IA Gi.pr h2
    exact⟨a,_,y,tb,_,u,rfl,x1.fh _ _ ha,x1.fh _ _ hy,hc c (by simpa using rn),hu,w u F1 H1 x1 (Al.of du)⟩
  ·rw[if_neg rn]at h2;cases h2
 |_=>cases h2
theorem WM {C:af}{x:aK}{all sub:List Nat}{pp p2:cy}(hI:∀c∈all,L2.XIc X.K (ct c)/\aO X.K (.ref (ct c)) (.ref C)=some (sub.contains c))(hN:aO X.K (.type "NoneType") (.ref C)=some false)(hm:X.mg "isinstance"=none)(o6:X.mg x=some (.ref C))(he:XE X ct ms n e f)(hg:Gl X "isinstance":=by rfl)(nu:Gl X x:=by rfl)(hd2:(x==("__debug__":aK))=false:=by decide)
  (o7:ap [e,.Name x p2] X.env=(false,bB e X.env)::ap [.Name x p2] X.env:=by rfl) (qN:ap [.Name x p2] X.env=(false,bB (.Name x p2) X.env)::ap [] X.env:=by rfl) (el:(bZ pos (ap [.Name x p2] X.env)).any (·.1)=false:=by rfl) :
  XE X ct ms k (.Call (.Name "isinstance" pp) [e,.Name x p2] [] pos) (e1 (isiX all sub) f):=by
 obtain⟨t,pt,qt⟩:=he
 refine⟨_,je Mp hg hm wm (xn pt (xn (Fc (v:=.ref C) nu o6 rfl hd2) uw qN) o7) (by decide) (by decide) o7 el,λF0 B F H ρ σ d Q rs e w=>?_⟩
 obtain⟨d1,h1,h2⟩:=aR e
 refine qt F0 B F H ρ σ d1 _ rs h1 λv F' H' x l=>?_
 cases d1 with
 |exc c ns ds=>
  unfold isiX at h2
  dsimp only at h2
  by_cases hc:all.contains c=true
  ·rw[if_pos hc]at h2
   cases h2
   obtain⟨a,dx,tb,rfl,ha,rr⟩:=l.dtx.exc_inv
   obtain⟨ic,xG⟩:=hI c (by simpa using hc)
   refine⟨_,.ref C,_,rfl,λu ru=>.inl ⟨a,_,dx,tb,rfl,x.fh _ _ ha,?_,ic,?_⟩,w _ F' H' x (Al.of (.bl _))⟩
   ·rcases rr with⟨_,_,z⟩|⟨y,vs,z,hy,_⟩
    ·exact .inl z
    ·exact .inr ⟨y,_,z,x.fh _ _ hy⟩
   ·cases ru;exact xG
  ·rw[if_neg hc]at h2;cases h2
 |non=>
  cases h2
  exact⟨_,.ref C,_,rfl,λu ru=>.inr ⟨l.non,by cases ru;exact hN⟩,w _ F' H' x (Al.of (.bl _))⟩
 |_=>cases h2
theorem VV {all:List Nat}{pp p2:cy}(hI:∀c∈all,L2.XIc X.K (ct c)/\aO X.K (.ref (ct c)) (.type "ValueError")=some true)(hN:aO X.K (.type "NoneType") (.type "ValueError")=some false)(hm:X.mg "isinstance"=none)(o6:X.mg "ValueError"=none)(he:XE X ct ms n e f)(hg:Gl X "isinstance":=by rfl)(nu:Gl X "ValueError":=by rfl)
  (o7:ap [e,.Name "ValueError" p2] X.env=(false,bB e X.env)::ap [.Name "ValueError" p2] X.env:=by rfl) (qN:ap [.Name "ValueError" p2] X.env=(false,bB (.Name "ValueError" p2) X.env)::ap [] X.env:=by rfl) (el:(bZ pos (ap [.Name "ValueError" p2] X.env)).any (·.1)=false:=by rfl) :
  XE X ct ms k (.Call (.Name "isinstance" pp) [e,.Name "ValueError" p2] [] pos) (e1 (isiX all all) f):=by
 obtain⟨t,pt,qt⟩:=he
 refine⟨_,je Mp hg hm wm (xn pt (xn (MC (v:=.ty "ValueError") (u:=.type "ValueError") nu o6 rfl rfl) uw qN) o7) (by decide) (by decide) o7 el,λF0 B F H ρ σ d Q rs e w=>?_⟩
 obtain⟨d1,h1,h2⟩:=aR e
 refine qt F0 B F H ρ σ d1 _ rs h1 λv F' H' x l=>?_
 cases d1 with
 |exc c ns ds=>
  unfold isiX at h2
  dsimp only at h2
  by_cases hc:all.contains c=true
  ·rw[if_pos hc,hc]at h2
   cases h2
   obtain⟨a,dx,tb,rfl,ha,rr⟩:=l.dtx.exc_inv
   obtain⟨ic,xG⟩:=hI c (by simpa using hc)
   refine⟨_,.ty "ValueError",true,rfl,λu ru=>.inl ⟨a,_,dx,tb,rfl,x.fh _ _ ha,?_,ic,?_⟩,w _ F' H' x (Al.of (.bl _))⟩
   ·rcases rr with⟨_,_,z⟩|⟨y,vs,z,hy,_⟩
    ·exact .inl z
    ·exact .inr ⟨y,_,z,x.fh _ _ hy⟩
   ·cases ru;exact xG
  ·rw[if_neg hc]at h2;cases h2
 |non=>
  cases h2
  exact⟨_,.ty "ValueError",false,rfl,λu ru=>.inr ⟨l.non,by cases ru;exact hN⟩,w _ F' H' x (Al.of (.bl _))⟩
 |_=>cases h2
def DZ (X:Cx)(es:List Expr)(cs:List af):Prop:=PA X es (λ_ H Q=>Q (cs.map V.ref) H)
theorem VW:DZ X [] []:=uw
theorem um {x:aK}{p:cy}{es:List Expr}{C:af}{cs:List af}(hm:X.mg x=some (.ref C))(h:DZ X es cs)(hg:Gl X x:=by rfl)(hd:(x==("__debug__":aK))=false:=by decide)(hs:ap (.Name x p::es) X.env=(false,bB (.Name x p) X.env)::ap es X.env:=by rfl):DZ X (.Name x p::es) (C::cs) :=
 xn (Fc (v:=.ref C) hg hm rfl hd) h hs
theorem VX {cs:List af}{es:List Expr}{all sub:List Nat}{pp p2:cy}{j}(hI:∀c∈all,L2.XIc X.K (ct c)/\dH X.K (.ref (ct c)) (cs.map aa.ref)=some (sub.contains c))(hN:dH X.K (.type "NoneType") (cs.map aa.ref)=some false)(hm:X.mg "isinstance"=none)(OS:DZ X es cs)(he:XE X ct ms n e f)(hlen:cs.length<=1000:=by decide)(hg:Gl X "isinstance":=by rfl)
  (o7:ap [e,.Tuple es j p2] X.env=(false,bB e X.env)::ap [.Tuple es j p2] X.env:=by rfl) (qN:ap [.Tuple es j p2] X.env=(false,bB (.Tuple es j p2) X.env)::ap [] X.env:=by rfl) (el:(bZ pos (ap [.Tuple es j p2] X.env)).any (·.1)=false:=by rfl) :
  XE X ct ms k (.Call (.Name "isinstance" pp) [e,.Tuple es j p2] [] pos) (e1 (isiX all sub) f):=by
 obtain⟨t,pt,qt⟩:=he
 refine⟨_,je To hg hm wm (xn pt (xn (Nj OS) uw qN) o7) (by decide) (by decide) o7 el,λF0 B F H ρ σ d Q rs e w=>?_⟩
 obtain⟨d1,h1,h2⟩:=aR e
 refine qt F0 B F H ρ σ d1 _ rs h1 λv F' H' x l=>⟨by rw[aM];exact small hlen,λp hp=>?_⟩
 have x2:=ez.newS x.fh hp (.tup (cs.map V.ref))
 have l2:=l.mono x2.ff x2.hh
 cases d1 with
 |exc c ns ds=>
  unfold isiX at h2
  dsimp only at h2
  by_cases hc:all.contains c=true
  ·rw[if_pos hc]at h2
   cases h2
   obtain⟨a,dx,tb,rfl,ha,rr⟩:=l2.dtx.exc_inv
   obtain⟨ic,xG⟩:=hI c (by simpa using hc)
   refine⟨_,p,cs,_,rfl,zm,.inl ⟨a,_,dx,tb,rfl,x2.fh _ _ ha,?_,ic,xG⟩,w _ _ _ (x.trans x2) (Al.of (.bl _))⟩
   rcases rr with⟨_,_,z⟩|⟨y,vs,z,hy,_⟩
   ·exact .inl z
   ·exact .inr ⟨y,_,z,x2.fh _ _ hy⟩
  ·rw[if_neg hc]at h2;cases h2
 |non=>
  cases h2
  exact⟨_,p,cs,_,rfl,zm,.inr ⟨l.non,hN⟩,w _ _ _ (x.trans x2) (Al.of (.bl _))⟩
 |_=>cases h2
end
theorem WN {K:ae}{C B:af}{b:Bool}(h1:kO K B=true)(h2:lz K (.ref B)=some (.type "type"))(h3:iY K (.ref C) (.ref B)=some b)(h4:iY K (.ref B) (.type "BaseException")=some true):eh K (.ref C) (.ref B)=some b:=by
 unfold eh PySem.W.kitCls
 rw[h4,if_pos (by decide)]
 dsimp only
 rw[if_pos,h3]
 unfold kO at h1
 rw[h1,h2];rfl
def hitL (all sub:List Nat):Nat->Option Bool:=λc=>if all.contains c=true then some (sub.contains c)else none
theorem WO {K:ae}{ct:Nat->af}{B:af}{all sub:List Nat}(h:∀c∈all,eh K (.ref (ct c)) (.ref B)=some (sub.contains c)):∀c b,hitL all sub c=some b->eh K (.ref (ct c)) (.ref B)=some b:=by
 intro c b e
 unfold hitL at e
 by_cases hc:all.contains c=true
 ·rw[if_pos hc]at e
  cases e
  exact h c (by simpa using hc)
 ·rw[if_neg hc]at e;cases e
end L3
set_option maxHeartbeats 1000000
namespace L3
open PySem PySem.Spec L2
open PyProof.Rows hiding St
end L3
set_option maxHeartbeats 1000000
namespace L3
open PySem PySem.Spec L2
open PyProof.Rows hiding St
end L3
set_option maxHeartbeats 1000000
namespace L2
open PySem PySem.Spec PyProof.Rows
section
variable {prog:aT}{w:bt}{A:bi}{E:aa->ai->Prop}{s:ai}{z TI TO i1 i2 i3 l1 l2 l3:af}{xs ys zs:Array aa}{k1 k2 k3:Nat}
end
end L2
set_option maxHeartbeats 1000000
namespace L2
open PySem PySem.Spec PyProof.Rows
section
variable {X:Cx}{m8:List Expr}{kt:Nat}{pt:cy}
end
end L2
namespace L3
open PySem PySem.Spec L2
open PyProof.Rows hiding St
section
variable {X:Cx}{ct:Nat->af}{ms:List Mo}{n:Nat}{a b c:Expr}{pos:cy}
end
end L3
set_option maxHeartbeats 1000000
namespace L2
open PySem PySem.Spec PyProof.Rows
section
variable {X:Cx}{k:Nat}{f:af}{fd:aP}{ps:List aK}{sp:Sp}{ds:List aa}{gp:List V}{E:XK}{x:aK}{p pos:cy}{e:Expr}{es:List Expr}{t:TA}
end
end L2
namespace L3
open PySem PySem.Spec L2
open PyProof.Rows hiding St
section
variable {X:Cx}{ct:Nat->af}{ms:List Mo}{rk kk:Nat}{fa:af}{fd:aP}{ps:List aK}{mf:List D->Option D}{x:aK}{pp pos:cy}{e:Expr}
end
end L3
namespace PySem
section
variable {prog:aT}{w:bt}{A:bi}{R:Result->ai->Prop}{I:af}{fp wr:List af}{n:Nat}{P:Nat->aa->Prop}{St:Nat->aE->Prop}{kw:List (aK×aa)}
end
section
variable {prog:aT}{w:bt}{A:bi}{E:aa->ai->Prop}{s:ai}
end
end PySem
namespace L3
open PySem PySem.Spec L2
section
variable {X:Cx}{ct:Nat->af}{ms:List Mo}{e b:Expr}{f g:EF}{n m k:Nat}
end
end L3
set_option maxHeartbeats 1000000
namespace L3
open PySem PySem.Spec L2
open PyProof.Rows hiding St
section
variable {X:Cx}{ct:Nat->af}{ms:List Mo}{n:Nat}{a b c:Expr}{pos:cy}
end
end L3
set_option maxHeartbeats 1000000
namespace L3
open PySem PySem.Spec L2
open PyProof.Rows hiding St
section
variable {X:Cx}{ct:Nat->af}{ms:List Mo}{n m k:Nat}{e o:Expr}{f g:EF}{pos:cy}
end
end L3
set_option maxHeartbeats 1000000
namespace L3
open PySem PySem.Spec L2
open PyProof.Rows hiding St
theorem foldl_rep (c:Nat):∀(n:Nat) (eX:Array Nat),(aC n #[c]).foldl (· ++ ·) eX=eX++Array.replicate n c
 |0,eX=>by simp
 |n+1,eX=>by
  rw[cA,bM,foldl_rep c n,oV]
  congr 1
  apply Array.toList_inj.mp
  simp[cA]
section
variable {X:Cx}{ct:Nat->af}{K:ae}{ms:List Mo}{n m k:Nat}{e o:Expr}{f g:EF}{pos:cy}
end
end L3
set_option maxHeartbeats 1000000
namespace L3
open PySem PySem.Spec L2
open PyProof.Rows hiding St
section
variable {X:Cx}{ct:Nat->af}{ms:List Mo}{rk n m k i j:Nat}{e o:Expr}{f g:EF}{pos:cy}
end
end L3
set_option maxHeartbeats 1000000
namespace L3
open PySem PySem.Spec L2
open PyProof.Rows hiding St
section
variable {X:Cx}{ct:Nat->af}{ms:List Mo}{n m k rk:Nat}{a b e o:Expr}{f g:EF}{pos:cy}
end
end L3
set_option maxHeartbeats 1000000
namespace L2
open PySem PySem.Spec PyProof.Rows
section
variable {X:Cx}{e sl sp:Expr}{te:TE}{tl tp:TO}{pos p2:cy}
end
end L2
namespace L3
open PySem PySem.Spec L2
open PyProof.Rows hiding St
section
variable {X:Cx}{ct:Nat->af}{ms:List Mo}{n m k rk:Nat}{e o:Expr}{f g:EF}{pos:cy}
end
end L3
set_option maxHeartbeats 1000000
namespace L3
open PySem PySem.Spec L2
open PyProof.Rows hiding St
section
variable {K:ae}{ct:Nat->af}{a:af}{cq:List (List eA×V)}{u:HO}{F F' G H B F0:Hp}{ms:List Mo}{n rk:Nat}
end
section
variable {X:Cx}{ct:Nat->af}{ms:List Mo}{rk n:Nat}{rest:List bI}{e ty:Expr}{jV:List Expr}{j jj:Nat}{pt p1 pos:cy}{f:EF}{u:SF}{gs:List D->Env->Option Env}{gy:D->Env->Option Env}
end
end L3
set_option maxHeartbeats 1000000
namespace L3
open PySem PySem.Spec L2
open PyProof.Rows hiding St
section
variable {K:ae}{ct:Nat->af}{F H:Hp}{n:Nat}
end
end L3
set_option maxHeartbeats 1000000
namespace L3
open PySem PySem.Spec L2
open PyProof.Rows hiding St
section
variable {K:ae}{ct:Nat->af}{n:Nat}
end
end L3
set_option maxHeartbeats 4000000
namespace L3
open PySem L2
end L3
set_option maxHeartbeats 1000000
namespace L2
open PySem PySem.Spec PyProof.Rows
def rV (K:ae)(x:V)(H:Hp)(Q:VK):Prop:=∃(a:af) (qs:List (af×List V)) (π:List Nat),x=.ref a/\fN K H a (qs.map λq=>V.ref q.1)/\(∀q∈qs,fN K H q.1 q.2)/\qs.length<=1000/\π.length<=1000/\(∀i∈π,i<qs.length)/\TS.tsrt (qs.map λq=>(q.2.length:Int))=some π /\
 ∀p,H p=none->Q (.ref p) (upd H p (.lst (π.map λi=>V.ref (qs.getD i (0,[])).1)))
theorem Lu:∀{qs:List (af×List V)} {bW:List aa},bR (qs.map λq=>V.ref q.1) bW->bW=qs.map λq=>aa.ref q.1
 |[],_,.nil=>rfl
 |q::qs,_,.cons r t=>by cases r;rw[Lu t];rfl
theorem MX (qs:List (af×List V)):∀π:List Nat,(∀i∈π,i<qs.length)->bR (π.map λi=>V.ref (qs.getD i (0,[])).1) (π.map λi=>(qs.map λq=>aa.ref q.1).getD i aa.none)
 |[],_=>.nil
 |i::π,h=>.cons (by
   have hi:=h i am
   show(qs.map λq=>aa.ref q.1).getD i aa.none=.ref _
   rw[bo,bo,bn,bJ hi];rfl) (MX qs π λj hj=>h j (ao _ hj))
theorem Ul {X:Cx}{e:Expr}{ta:TE}{p p2 pos kp:cy}(hg:Gl X "sorted")(hm:X.mg "sorted"=none)(nu:Gl X "len")(o6:X.mg "len"=none)(ha:PE X e ta)(he:ap [e] X.env=(false,bB e X.env)::ap [] X.env:=by rfl) :
  PE X (.Call (.Name "sorted" p) [e] [⟨some "key",.Name "len" p2,kp⟩] pos) (λσ H Q=>ta σ H λx H1=>rV X.K x H1 Q):=by
 intro ah s σ H Q I h
 refine dA (yE (u:=.builtin "sorted") I hg hm SD ?_ (by decide) (by decide))
 refine PyProof.Rows.callWith_kw (cO ((xn ha uw he) pos ah s σ H (λvs H1=>match vs with|[x]=>rV X.K x H1 Q|_=>False) I ?_) λus s1 ⟨vs,H1,I1,r,q⟩=>?_) (by rw[he];rfl) (by rw[he];rfl)
 ·exact h
 ·match vs,q with
  |[x],q=>
   obtain⟨u,rfl,ru⟩:=r.one
   show aN _ _ (evalAll ((do let v ← bB (.Name "len" p2) X.env;eQ pos;pure v)::[])) _ _ s1
   refine wpAny_evalAll_cons (ak (yE (u:=.builtin "len") I1 nu o6 M9 ?_ (by decide) (by decide)))
   refine ak (e8 (aJ (wpAny_evalAll_nil ?_)))
   obtain⟨a,qs,π,rfl,hq,hl,hn,hπ,hb,ht,q⟩:=q
   cases(show u=aa.ref a from ru)
   obtain⟨bW,rv,pl,hz⟩:=I1.list hq
   have hits:=Lu rv
   subst hits
   refine Sf (vs:=qs.map λq=>aa.ref q.1) pl.isList (by rw[aM];exact hn) (by rw[aM,aM]) hπ (λi v hv=>?_) ht λh' tk c keep wZ=>?_
   ·rw[bn]at hv
    obtain⟨qi,h1,h2⟩:=bF.mp hv
    subst h2
    obtain⟨ts,rt,pt,tz⟩:=I1.list (hl qi (og h1))
    refine⟨qi.1,ts.toArray,rfl,pt.isList,?_,?_⟩
    ·have:=rt.length;simp only[aI];omega
    ·rw[bo,bn,h1]
     have:=rt.length
     simp only[aI,ie,fE]
     omega
   ·refine⟨.ref _,_,I1.laid (a:=s1.heap.objs.size+1) (o:=.lst (π.map λi=>V.ref (qs.getD i (0,[])).1)) (t':=tk) (λb u hb=>keep b u hb) (eY _) ?_,rfl,q _ (I1.hok.fresh (eY _))⟩
    exact⟨by rw[aM,bu];omega,_,c,MX qs π hb,by simpa[seqObj]using wZ⟩
end L2
namespace L3
open PySem PySem.Spec L2
def lR:List D->Option (List Int)
 |[]=>some []
 |.lst xs::ds=>(lR ds).bind λns=>some ((xs.length:Int)::ns)
 |_=>none
noncomputable def lE:D->Option D
 |.lst ds=>(lR ds).bind λks=>(TS.tsrt ks).bind λπ=>if ds.length<=1000/\π.length<=1000/\∀i∈π,i<ds.length then some (.lst (π.map λi=>ds.getD i .non))else none
 |_=>none
section
variable {X:Cx}{ct:Nat->af}{ms:List Mo}{e:Expr}{f:EF}
theorem Mq {K:ae}{F H:Hp}(s:bL F H):∀{ds:List D} {vs:List V} {ks:List Int},Pr (Al K ct F H 0) ds vs->lR ds=some ks->∃qs:List (af×List V),vs=qs.map (λq=>V.ref q.1)/\ks=qs.map (λq=>(q.2.length:Int))/\∀q∈qs,fN K H q.1 q.2
 |[],_,_,.nil,e=>by cases e;exact⟨[],rfl,rfl,nofun⟩
 |d::ds,_,ks,.cons (v:=v) h t,e=>by
  cases d with
  |lst xs=>
   obtain⟨ns,h1,h2⟩:=aR (show(lR ds).bind _=_ from e)
   cases h2
   obtain⟨qs,e1,e2,e3⟩:=Mq s t h1
   obtain⟨b,us,rfl,hb,hp⟩:=Al.lst h s
   exact⟨(b,us)::qs,by rw[e1];rfl,by rw[e2,hp.length];rfl,λq hq=>by
    rcases az.mp hq with rfl|hq
    ·exact hb
    ·exact e3 q hq⟩
  |_=>cases e
theorem MY {R:D->V->Prop}{ds:List D}{qs:List (af×List V)}(h:Pr R ds (qs.map λq=>V.ref q.1)):∀π:List Nat,(∀i∈π,i<ds.length)->Pr R (π.map λi=>ds.getD i .non) (π.map λi=>V.ref (qs.getD i (0,[])).1)
 |[],_=>.nil
 |i::π,hi=>by
  have hd:=hi i am
  obtain⟨v,h1,h2⟩:=h.get' (show ds[i]?=some ds[i]by simp[hd])
  refine .cons ?_ (MY h π λj hj=>hi j (ao _ hj))
  rw[bn]at h1
  obtain⟨q,h3,h4⟩:=bF.mp h1
  show R (ds.getD i .non) (V.ref (qs.getD i (0,[])).1)
  rw[bo,bo,h3,bJ hd,fE,fE,h4]
  exact h2
theorem Um {p p2 pos kp:cy}(hg:Gl X "sorted")(hm:X.mg "sorted"=none)(nu:Gl X "len")(o6:X.mg "len"=none)(ha:XE X ct ms 0 e f)(he:ap [e] X.env=(false,bB e X.env)::ap [] X.env:=by rfl) :
  XO X ct ms 1 (.Call (.Name "sorted" p) [e] [⟨some "key",.Name "len" p2,kp⟩] pos) (e1 lE f):=by
 obtain⟨ta,pa,qa⟩:=ha
 refine⟨_,Ul hg hm nu o6 pa he,λF0 B F H ρ σ d Q rs e w=>?_⟩
 obtain⟨d1,h1,h2⟩:=aR e
 refine qa F0 B F H ρ σ d1 _ rs h1 λx F1 H1 x1 l=>?_
 cases d1 with
 |lst ds=>
  obtain⟨ks,h3,h4⟩:=aR (show(lR ds).bind _=_ from h2)
  obtain⟨π,h5,h6⟩:=aR h4
  by_cases hz:ds.length<=1000/\π.length<=1000/\∀i∈π,i<ds.length
  ·rw[if_pos hz]at h6
   cases h6
   obtain⟨a,us,rfl,ha,hp⟩:=Al.lst l x1.fh
   obtain⟨qs,rfl,rfl,hq⟩:=Mq x1.fh hp h3
   have hl:ds.length=qs.length:=by have:=hp.length;rwa[aM]at this
   refine⟨a,qs,π,rfl,ha,hq,by omega,hz.2.1,λi hi=>by have:=hz.2.2 i hi;omega,h5,?_⟩
   exact zG x1.fh (MY hp π hz.2.2) λv F2 H2 fp x2 o nd hf=>w v F2 H2 fp (x1.trans x2) o nd λb hb=>x1.hh.free (hf b hb)
  ·rw[if_neg hz]at h6;cases h6
 |_=>cases h2
end
end L3
set_option maxHeartbeats 1000000
namespace L3
open PySem PySem.Spec L2
open PyProof.Rows hiding St
section
variable {X:Cx}{ct:Nat->af}{ms:List Mo}{rk n k:Nat}{e c:Expr}{f:EF}{p:BF}{pos:cy}
end
end L3
set_option maxHeartbeats 1000000
namespace L3
open PySem PySem.Spec L2
open PyProof.Rows hiding St
section
variable {X:Cx}{ct:Nat->af}{ms:List Mo}{rk n m k:Nat}{st:bI}{rest:List bI}{a b c e tg:Expr}{f g h:EF}{p q:BF}{u w:SF}{pos:cy}{i j:Nat}
variable {kk:Nat}{fa:af}{fd:aP}{ps:List aK}{mf:List D->Option D}{x:aK}{pp:cy}
end
end L3
namespace Fq
end Fq
set_option maxHeartbeats 4000000
namespace My
open PySem L2 L3
def top (i:Nat):bI:=PySem.Challenge.pw_ringbeat_k68_too_many_waits.main.body.getD i (.Pass ⟨0,0,0,0⟩)
abbrev ya:bI:=inClass (top 12) 0
abbrev yq:bI:=inClass (top 13) 0
abbrev zq:bI:=inClass (top 14) 0
abbrev zt:bI:=inClass (top 15) 0
abbrev yx:bI:=top 22
abbrev yy:bI:=top 23
abbrev xu:bI:=top 24
abbrev yz:bI:=top 25
abbrev yg:bI:=top 26
abbrev xb:bI:=top 27
abbrev zu:bI:=top 28
abbrev yr:bI:=inClass (top 31) 0
abbrev zo:bI:=inClass (top 31) 1
abbrev xf:bI:=inClass (top 31) 2
abbrev y0:bI:=inClass (top 31) 3
abbrev wj:bI:=top 33
abbrev zw:bI:=top 35
abbrev yh:bI:=inClass (top 46) 1
abbrev yb:bI:=inClass (top 46) 0
abbrev yt:bI:=top 37
abbrev zj:bI:=top 38
abbrev vm:bI:=top 39
abbrev zx:bI:=inClass (top 13) 2
abbrev zy:bI:=inClass (top 14) 2
abbrev zz:bI:=inClass (top 15) 2
abbrev xv:bI:=top 42
abbrev xw:bI:=top 43
abbrev zp:bI:=inClass (top 7) 0
abbrev xx:bI:=top 44
abbrev yj:bI:=top 48
abbrev y8:bI:=top 49
abbrev yk:bI:=top 50
abbrev j0:bI:=top 51
theorem Rr:bE ["self","start","goal","time","behind"] ["self","start","goal","time","behind"] (aU ya):=⟨rfl,rfl,rfl,by decide +kernel,rfl,by decide +kernel,by decide +kernel⟩
theorem Ru:bE ["self","start","goal","time","behind"] ["self","start","goal","time","behind"] (aU zq):=⟨rfl,rfl,rfl,by decide +kernel,rfl,by decide +kernel,by decide +kernel⟩
theorem Rv:bE ["self","start","goal","time","behind"] ["self","start","goal","time","behind"] (aU zt):=⟨rfl,rfl,rfl,by decide +kernel,rfl,by decide +kernel,by decide +kernel⟩
theorem RG:bE ["sign"] ["sign"] (aU yx):=⟨rfl,rfl,rfl,by decide +kernel,rfl,by decide +kernel,by decide +kernel⟩
theorem RH:bE ["sign"] ["sign"] (aU yy):=⟨rfl,rfl,rfl,by decide +kernel,rfl,by decide +kernel,by decide +kernel⟩
theorem Si:bE ["word"] ["word"] (aU xu):=⟨rfl,rfl,rfl,by decide +kernel,rfl,by decide +kernel,by decide +kernel⟩
theorem u7:bE ["names","seen","name"] ["names"] (aU yz):=⟨rfl,rfl,rfl,by decide +kernel,rfl,by decide +kernel,by decide +kernel⟩
theorem Rw:bE ["number","least","most"] ["number","least","most"] (aU yg):=⟨rfl,rfl,rfl,by decide +kernel,rfl,by decide +kernel,by decide +kernel⟩
theorem j1:bE ["arrow","many","least","most"] ["arrow","many"] (aU xb):=⟨rfl,rfl,rfl,by decide +kernel,rfl,by decide +kernel,by decide +kernel⟩
theorem ym:bE ["many","arrows","within","waited","arrow","placed","done","here"] ["many","arrows"] (aU zu):=⟨rfl,rfl,rfl,by decide +kernel,rfl,by decide +kernel,by decide +kernel⟩
theorem vb:bE ["self","names","arrows","number","arrow","placed"] ["self","names","arrows"] (aU yr):=⟨rfl,rfl,rfl,by decide +kernel,rfl,by decide +kernel,by decide +kernel⟩
theorem qp:bE ["self"] ["self"] (aU zo):=⟨rfl,rfl,rfl,by decide +kernel,rfl,by decide +kernel,by decide +kernel⟩
theorem RT:bE ["self","going"] ["self","going"] (aU xf):=⟨rfl,rfl,rfl,by decide +kernel,rfl,by decide +kernel,by decide +kernel⟩
theorem RI:bE ["self"] ["self"] (aU y0):=⟨rfl,rfl,rfl,by decide +kernel,rfl,by decide +kernel,by decide +kernel⟩
theorem Tp:bE ["one","other"] ["one","other"] (aU wj):=⟨rfl,rfl,rfl,by decide +kernel,rfl,by decide +kernel,by decide +kernel⟩
theorem xy:bE ["told","greatest","going","number","amount"] ["told"] (aU zw):=⟨rfl,rfl,rfl,by decide +kernel,rfl,by decide +kernel,by decide +kernel⟩
theorem jv:bE ["self","arrow","link"] ["self","arrow"] (aU yh):=⟨rfl,rfl,rfl,by decide +kernel,rfl,by decide +kernel,by decide +kernel⟩
theorem u8:bE ["self","net","times","beat","number"] ["self","net","times","beat"] (aU yb):=⟨rfl,rfl,rfl,by decide +kernel,rfl,by decide +kernel,by decide +kernel⟩
theorem vc:bE ["table","going","left_out","links","number","arrow"] ["table","going","left_out"] (aU yt):=⟨rfl,rfl,rfl,by decide +kernel,rfl,by decide +kernel,by decide +kernel⟩
theorem yc:bE ["rows","links","put","most","start","behind","slack"] ["rows","links","put"] (aU zj):=⟨rfl,rfl,rfl,by decide +kernel,rfl,by decide +kernel,by decide +kernel⟩
theorem v8:bE ["table","rounds","puts","without","many","links","greatest","order","depth","rows","number","going","put"] ["table","rounds","puts","without"] (aU vm):=⟨rfl,rfl,rfl,by decide +kernel,rfl,by decide +kernel,by decide +kernel⟩
theorem Rm:bE ["self"] ["self"] (aU zx):=⟨rfl,rfl,rfl,by decide +kernel,rfl,by decide +kernel,by decide +kernel⟩
theorem Rn:bE ["self"] ["self"] (aU zy):=⟨rfl,rfl,rfl,by decide +kernel,rfl,by decide +kernel,by decide +kernel⟩
theorem Ro:bE ["self"] ["self"] (aU zz):=⟨rfl,rfl,rfl,by decide +kernel,rfl,by decide +kernel,by decide +kernel⟩
theorem jo:bE ["waits","sets","wait"] ["waits"] (aU xv):=⟨rfl,rfl,rfl,by decide +kernel,rfl,by decide +kernel,by decide +kernel⟩
theorem Sj:bE ["table","puts","going","beat","without"] ["table","puts","going","beat","without"] (aU xw):=⟨rfl,rfl,rfl,by decide +kernel,rfl,by decide +kernel,by decide +kernel⟩
theorem Rk:bE ["self","many"] ["self","many"] (aU zp):=⟨rfl,rfl,rfl,by decide +kernel,rfl,by decide +kernel,by decide +kernel⟩
theorem vf:bE ["table","puts","going","beat","waits","chosen"] ["table","puts","going","beat"] (aU xx):=⟨rfl,rfl,rfl,by decide +kernel,rfl,by decide +kernel,by decide +kernel⟩
theorem Rx:bE ["_law_script","_law_k"] ["_law_script","_law_k"] (aU yj):=⟨rfl,rfl,rfl,by decide +kernel,rfl,by decide +kernel,by decide +kernel⟩
theorem u9:bE ["_law_cell","_law_k","_law_number"] ["_law_cell","_law_k"] (aU y8):=⟨rfl,rfl,rfl,by decide +kernel,rfl,by decide +kernel,by decide +kernel⟩
theorem wg:bE ["_law_table","_law_puts","_law_going","_law_beat","_law_many","_law_error","e","_law_told"] ["_law_table","_law_puts","_law_going","_law_beat","_law_many"] (aU yk):=⟨rfl,rfl,rfl,by decide +kernel,rfl,by decide +kernel,by decide +kernel⟩
theorem ue:bE ["_law_script","_law_cell","_law_many","_law_waits","_law_arrows","_law_k","_law_start","_law_table","_law_puts","_law_one","_law_going","_law_beat","_law_found"] ["_law_script"] (aU j0):=⟨rfl,rfl,rfl,by decide +kernel,rfl,by decide +kernel,by decide +kernel⟩
set_option genInjectivity false
set_option genSizeOf false
structure zT where
 c_Arrow:af
 c_Ride:af
 c_Wait:af
 c_Back:af
 c_Net:af
 c_Table:af
 c_BeatError:af
 c_BadNet:af
 c_Stuck:af
 c_Loose:af
 c_NoFit:af
 c_TooMany:af
 c_Unlike:af
 c_NoRow:af
 c_BadName:af
 f_Arrow___init:af
 d_Arrow___init:aP
 f_Ride___init:af
 d_Ride___init:aP
 f_Wait___init:af
 d_Wait___init:aP
 f_Back___init:af
 d_Back___init:aP
 f_is_letter:af
 d_is_letter:aP
 f_is_figure:af
 d_is_figure:aP
 f_is_name:af
 d_is_name:aP
 f_are_names:af
 d_are_names:aP
 f_lies_within:af
 d_lies_within:aP
 f_is_right:af
 d_is_right:aP
 f_placed_goings:af
 d_placed_goings:aP
 f_Net___init:af
 d_Net___init:aP
 f_Net_most_behind:af
 d_Net_most_behind:aP
 f_Net_into:af
 d_Net_into:aP
 f_Net_order:af
 d_Net_order:aP
 f_latest:af
 d_latest:aP
 f_greatest_told:af
 d_greatest_told:aP
 f_Table_slack:af
 d_Table_slack:aP
 f_Table___init:af
 d_Table___init:aP
 f_links_into:af
 d_links_into:aP
 f_lateness_in_last_row:af
 d_lateness_in_last_row:aP
 f_late:af
 d_late:aP
 f_Ride_may_drop:af
 d_Ride_may_drop:aP
 f_Wait_may_drop:af
 d_Wait_may_drop:aP
 f_Back_may_drop:af
 d_Back_may_drop:aP
 f_sets_of:af
 d_sets_of:aP
 f_is_late:af
 d_is_late:aP
 f_TooMany___init:af
 d_TooMany___init:aP
 f_give_up:af
 d_give_up:aP
 f_law_cell_at:af
 d_law_cell_at:aP
 f_law_mixed:af
 d_law_mixed:aP
 f_law_refused:af
 d_law_refused:aP
 f_law:af
 d_law:aP
set_option genSizeOf true
set_option genInjectivity true
def zT.ct (a:zT):Nat->af
 |0=>a.c_Arrow
 |1=>a.c_Ride
 |2=>a.c_Wait
 |3=>a.c_Back
 |4=>a.c_Net
 |5=>a.c_Table
 |6=>a.c_BeatError
 |7=>a.c_BadNet
 |8=>a.c_Stuck
 |9=>a.c_Loose
 |10=>a.c_NoFit
 |11=>a.c_TooMany
 |12=>a.c_Unlike
 |13=>a.c_NoRow
 |14=>a.c_BadName
 |_=>0
structure Txt (K:ae)(mg:aK->Option aa)(a:zT):Prop where
 Arrow:Dc K mg "Arrow" a.c_Arrow
 Ride:Dc K mg "Ride" a.c_Ride
 Wait:Dc K mg "Wait" a.c_Wait
 Back:Dc K mg "Back" a.c_Back
 Net:Dc K mg "Net" a.c_Net
 Table:Dc K mg "Table" a.c_Table
 Arrow___init:Dm K a.c_Arrow "__init__" "Arrow.__init__" ya ["self","start","goal","time","behind"] a.f_Arrow___init a.d_Arrow___init
 tR:Dm K a.c_Ride "__init__" "Ride.__init__" yq ["self","start","goal","time"] a.f_Ride___init a.d_Ride___init
 Wait___init:Dm K a.c_Wait "__init__" "Wait.__init__" zq ["self","start","goal","time","behind"] a.f_Wait___init a.d_Wait___init
 Wait___init_d1:∃lK,True/\bR [(V.int 0)] lK/\bO K a.d_Wait___init ["self","start","goal","time","behind"] lK
 Back___init:Dm K a.c_Back "__init__" "Back.__init__" zt ["self","start","goal","time","behind"] a.f_Back___init a.d_Back___init
 Back___init_d1:∃lK,True/\bR [(V.int 1)] lK/\bO K a.d_Back___init ["self","start","goal","time","behind"] lK
 is_letter:mL K mg "is_letter" yx ["sign"] a.f_is_letter a.d_is_letter
 is_figure:mL K mg "is_figure" yy ["sign"] a.f_is_figure a.d_is_figure
 is_name:mL K mg "is_name" xu ["word"] a.f_is_name a.d_is_name
 are_names:mL K mg "are_names" yz ["names"] a.f_are_names a.d_are_names
 lies_within:mL K mg "lies_within" yg ["number","least","most"] a.f_lies_within a.d_lies_within
 is_right:mL K mg "is_right" xb ["arrow","many"] a.f_is_right a.d_is_right
 placed_goings:mL K mg "placed_goings" zu ["many","arrows"] a.f_placed_goings a.d_placed_goings
 Net___init:Dm K a.c_Net "__init__" "Net.__init__" yr ["self","names","arrows"] a.f_Net___init a.d_Net___init
 Net_most_behind:Dm K a.c_Net "most_behind" "Net.most_behind" zo ["self"] a.f_Net_most_behind a.d_Net_most_behind
 Net_into:Dm K a.c_Net "into" "Net.into" xf ["self","going"] a.f_Net_into a.d_Net_into
 Net_order:Dm K a.c_Net "order" "Net.order" y0 ["self"] a.f_Net_order a.d_Net_order
 latest:mL K mg "latest" wj ["one","other"] a.f_latest a.d_latest
 greatest_told:mL K mg "greatest_told" zw ["told"] a.f_greatest_told a.d_greatest_told
 Table_slack:Dm K a.c_Table "slack" "Table.slack" yh ["self","arrow"] a.f_Table_slack a.d_Table_slack
 Table___init:Dm K a.c_Table "__init__" "Table.__init__" yb ["self","net","times","beat"] a.f_Table___init a.d_Table___init
 links_into:mL K mg "links_into" yt ["table","going","left_out"] a.f_links_into a.d_links_into
 lateness_in_last_row:mL K mg "lateness_in_last_row" zj ["rows","links","put"] a.f_lateness_in_last_row a.d_lateness_in_last_row
 late:mL K mg "late" vm ["table","rounds","puts","without"] a.f_late a.d_late
 late_d1:∃lK,True/\bR [V.non] lK/\bO K a.d_late ["table","rounds","puts","without"] lK
 Ride_may_drop:Dm K a.c_Ride "may_drop" "Ride.may_drop" zx ["self"] a.f_Ride_may_drop a.d_Ride_may_drop
 Wait_may_drop:Dm K a.c_Wait "may_drop" "Wait.may_drop" zy ["self"] a.f_Wait_may_drop a.d_Wait_may_drop
 Back_may_drop:Dm K a.c_Back "may_drop" "Back.may_drop" zz ["self"] a.f_Back_may_drop a.d_Back_may_drop
 sets_of:mL K mg "sets_of" xv ["waits"] a.f_sets_of a.d_sets_of
 is_late:mL K mg "is_late" xw ["table","puts","going","beat","without"] a.f_is_late a.d_is_late
 TooMany___init:Dm K a.c_TooMany "__init__" "TooMany.__init__" zp ["self","many"] a.f_TooMany___init a.d_TooMany___init
 give_up:mL K mg "give_up" xx ["table","puts","going","beat"] a.f_give_up a.d_give_up
 law_cell_at:mL K mg "_law_cell_at" yj ["_law_script","_law_k"] a.f_law_cell_at a.d_law_cell_at
 law_mixed:mL K mg "_law_mixed" y8 ["_law_cell","_law_k"] a.f_law_mixed a.d_law_mixed
 law_refused:mL K mg "_law_refused" yk ["_law_table","_law_puts","_law_going","_law_beat","_law_many"] a.f_law_refused a.d_law_refused
 law:mL K mg "law" j0 ["_law_script"] a.f_law a.d_law
 q_Arrow:Dq K a.c_Arrow "__init__" a.f_Arrow___init
 fld_arrows:∀c∈([4]:List Nat),kP K (a.ct c)/\ej K (a.ct c) "arrows"
 fld_beat:∀c∈([5]:List Nat),kP K (a.ct c)/\ej K (a.ct c) "beat"
 fld_behind:∀c∈([0,1,2,3]:List Nat),kP K (a.ct c)/\ej K (a.ct c) "behind"
 fld_goal:∀c∈([0,1,2,3]:List Nat),kP K (a.ct c)/\ej K (a.ct c) "goal"
 fld_names:∀c∈([4]:List Nat),kP K (a.ct c)/\ej K (a.ct c) "names"
 fld_net:∀c∈([5]:List Nat),kP K (a.ct c)/\ej K (a.ct c) "net"
 fld_start:∀c∈([0,1,2,3]:List Nat),kP K (a.ct c)/\ej K (a.ct c) "start"
 fld_time:∀c∈([0,1,2,3]:List Nat),kP K (a.ct c)/\ej K (a.ct c) "time"
 fld_times:∀c∈([5]:List Nat),kP K (a.ct c)/\ej K (a.ct c) "times"
 isi_Back:∀c∈([0,1,2,3,4,5]:List Nat),Ic K (a.ct c)/\aO K (.ref (a.ct c)) (.ref a.c_Back)=some (gP [3] c)
 isi_Ride:∀c∈([0,1,2,3,4,5]:List Nat),Ic K (a.ct c)/\aO K (.ref (a.ct c)) (.ref a.c_Ride)=some (gP [1] c)
 xm_BeatError:mg "BeatError"=some (.ref a.c_BeatError)
 xm_BadNet:mg "BadNet"=some (.ref a.c_BadNet)
 xm_Stuck:mg "Stuck"=some (.ref a.c_Stuck)
 xm_Loose:mg "Loose"=some (.ref a.c_Loose)
 xm_NoFit:mg "NoFit"=some (.ref a.c_NoFit)
 xm_TooMany:mg "TooMany"=some (.ref a.c_TooMany)
 xm_Unlike:mg "Unlike"=some (.ref a.c_Unlike)
 xm_NoRow:mg "NoRow"=some (.ref a.c_NoRow)
 xm_BadName:mg "BadName"=some (.ref a.c_BadName)
 xk_TooMany:ar K (.ref a.c_TooMany)=true
 xc_TooMany:rf K a.c_TooMany
 xs_TooMany:bv K a.c_TooMany=true/\aj K (.ref a.c_TooMany) "__setattr__"=some (some (.builtin "object.__setattr__"))/\dv K a.c_TooMany "many"=some none
 xq:bK K (.ref a.c_BeatError) "__getattribute__"=some (some (.builtin "type.__getattribute__"))/\dU K a.c_BeatError (.type "type")=true/\dS K (.ref a.c_BeatError) (.type "type") "__init__"=some (.val (.builtin "ValueError.__init__"))
 xat_many:∀c∈([11]:List Nat),FC K (a.ct c) "many"
 isx_0:(∀c∈([11]:List Nat),L2.XIc K (a.ct c)/\dH K (.ref (a.ct c)) [aa.ref a.c_BadNet,aa.ref a.c_Stuck,aa.ref a.c_Loose,aa.ref a.c_NoFit,aa.ref a.c_Unlike,aa.ref a.c_NoRow,aa.ref a.c_BadName]=some (gP [] c))/\dH K (.type "NoneType") [aa.ref a.c_BadNet,aa.ref a.c_Stuck,aa.ref a.c_Loose,aa.ref a.c_NoFit,aa.ref a.c_Unlike,aa.ref a.c_NoRow,aa.ref a.c_BadName]=some false
 isx_1:(∀c∈([11]:List Nat),L2.XIc K (a.ct c)/\aO K (.ref (a.ct c)) (.ref a.c_TooMany)=some (gP [11] c))/\aO K (.type "NoneType") (.ref a.c_TooMany)=some false
 isx_2:(∀c∈([11]:List Nat),L2.XIc K (a.ct c)/\aO K (.ref (a.ct c)) (.type "ValueError")=some true)/\aO K (.type "NoneType") (.type "ValueError")=some false
 hh_BeatError:∀c∈([11]:List Nat),eh K (.ref (a.ct c)) (.ref a.c_BeatError)=some (gP [11] c)
 b_ValueError:mg "ValueError"=none
 b_all:mg "all"=none
 b_bool:mg "bool"=none
 b_enumerate:mg "enumerate"=none
 b_int:mg "int"=none
 b_isinstance:mg "isinstance"=none
 b_len:mg "len"=none
 b_list:mg "list"=none
 b_max:mg "max"=none
 b_range:mg "range"=none
 b_sorted:mg "sorted"=none
 b_str:mg "str"=none
 g_MOST_ARROWS:∃t,mg "MOST_ARROWS"=some (.int 120 t)
 g_MOST_BEHIND:∃t,mg "MOST_BEHIND"=some (.int 4 t)
 g_MOST_NAMES:∃t,mg "MOST_NAMES"=some (.int 40 t)
 g_MOST_SIGNS:∃t,mg "MOST_SIGNS"=some (.int 8 t)
 g_MOST_TIME:∃t,mg "MOST_TIME"=some (.int 1000000000 t)
 g_MOST_WAITS:∃t,mg "MOST_WAITS"=some (.int 8 t)
noncomputable section
variable {P:aT}{w:bt}{K:ae}{mg:aK->Option aa}{base:aE}{a:zT}{ct:Nat->af}
def v9:Nat->List D->Option D:=uD ["self","start","goal","time","behind"]
  (sSeq (gE [0,1,2,3] "start" (eV 1))
  (sSeq (gE [0,1,2,3] "goal" (eV 2))
  (sSeq (gE [0,1,2,3] "time" (eV 3))
  (gE [0,1,2,3] "behind" (eV 4)))))
theorem ja (T:Txt K mg a):cB P w K mg base eW 1 a.f_Arrow___init a.d_Arrow___init ["self","start","goal","time","behind"] (qV K a.ct [0,1,2,3] [0,0,0,0] v9):=by
 refine u6 (ms:=[.ow 0,.ow 0,.ow 0,.ow 0]) (rk:=0) T.Arrow___init.fn Rr rfl rfl (by decide) (w9 (by decide)) λx0 gx A outer s H E hr=>?_
 exact(ze (qo T.fld_start (za 1 0))
  (ze (qo T.fld_goal (za 2 0))
  (ze (qo T.fld_time (za 3 0))
  (zf (qo T.fld_behind (za 4 0))))))
def uo:Nat->List D->Option D:=uD ["self","start","goal","time","behind"]
  (oP [0,1,2,3] (aCons (eV 1) (aCons (eV 2) (aCons (eV 3) (aCons (eV 4) aNil)))) v9)
theorem Ry (T:Txt K mg a):cB P w K mg base eW 2 a.f_Wait___init a.d_Wait___init ["self","start","goal","time","behind"] (qV K a.ct [2] [0,0,0,0] uo):=by
 have gz:=ja (P:=P) (w:=w) (base:=base) T
 refine u6 (ms:=[.ow 0,.ow 0,.ow 0,.ow 0]) (rk:=0) T.Wait___init.fn Ru rfl rfl (by decide) (w9 (by decide)) λx0 gx A outer s H E hr=>?_
 exact(zf (MK (ns:=[0,0,0,0]) gz (hr.mono (by decide)) T.Arrow.mgx T.q_Arrow.sp T.q_Arrow.rd T.q_Arrow.fc T.Arrow___init.fn.kp T.Arrow___init.bd (by decide) (zc (za 1 0) (zc (za 2 0) (zc (za 3 0) (zc (za 4 0) zh))))))
def uq:Nat->List D->Option D:=uD ["self","start","goal","time","behind"]
  (oP [0,1,2,3] (aCons (eV 1) (aCons (eV 2) (aCons (eV 3) (aCons (eV 4) aNil)))) v9)
theorem Rz (T:Txt K mg a):cB P w K mg base eW 2 a.f_Back___init a.d_Back___init ["self","start","goal","time","behind"] (qV K a.ct [3] [0,0,0,0] uq):=by
 have gz:=ja (P:=P) (w:=w) (base:=base) T
 refine u6 (ms:=[.ow 0,.ow 0,.ow 0,.ow 0]) (rk:=0) T.Back___init.fn Rv rfl rfl (by decide) (w9 (by decide)) λx0 gx A outer s H E hr=>?_
 exact(zf (MK (ns:=[0,0,0,0]) gz (hr.mono (by decide)) T.Arrow.mgx T.q_Arrow.sp T.q_Arrow.rd T.q_Arrow.fc T.Arrow___init.fn.kp T.Arrow___init.bd (by decide) (zc (za 1 0) (zc (za 2 0) (zc (za 3 0) (zc (za 4 0) zh))))))
def j2:List D->Option D:=mOf ["sign"]
  (sRet (eB (bAnd (tb (e2 uG (eC (.str "a")) (eV 0))) (tb (e2 uG (eV 0) (eC (.str "z")))))))
theorem RJ (T:Txt K mg a):cB P w K mg base eW 1 a.f_is_letter a.d_is_letter ["sign"] (il K a.ct [0] 0 j2):=by
 refine kW (ms:=[.ow 0]) T.is_letter.fn RG λ_ _ _ _ _ _ hr=>?_
 exact(zf (yn (XE.ow (uV (j9 (k:=0) zN zE (DP (n:=0)) (za 0 0) (cr _)) (uU (k:=0) (j9 (k:=0) zN zE (za 0 0) (DP (n:=0)) (cr _)))))))
def Ly:List D->Option D:=mOf ["sign"]
  (sRet (eB (bAnd (tb (e2 uG (eC (.str "0")) (eV 0))) (tb (e2 uG (eV 0) (eC (.str "9")))))))
theorem RW (T:Txt K mg a):cB P w K mg base eW 1 a.f_is_figure a.d_is_figure ["sign"] (il K a.ct [0] 0 Ly):=by
 refine kW (ms:=[.ow 0]) T.is_figure.fn RH λ_ _ _ _ _ _ hr=>?_
 exact(zf (yn (XE.ow (uV (j9 (k:=0) zN zE (DP (n:=0)) (za 0 0) (cr _)) (uU (k:=0) (j9 (k:=0) zN zE (za 0 0) (DP (n:=0)) (cr _)))))))
def RU:EF:=(fD (λρ=>((eV 0) ρ).bind JM) 1 [] (gV 0) kd (eB (bOr (tb (λρ=>((aCons (eV 0) aNil) ρ).bind λds=>j2 (ds++[]))) (tb (λρ=>((aCons (eV 0) aNil) ρ).bind λds=>Ly (ds++[]))))))
def L4:List D->Option D:=mOf ["word"]
  (sSeq (sIf (bOr (bNot (tb (e1 (jQ "str") (eV 0)))) (bOr (tb (e2 sv (eN eO (aCons (eV 0) aNil)) (eC (.int 1)))) (tb (e2 pR (eN eO (aCons (eV 0) aNil)) (eC (.int 8)))))) (sRet (eC (.bl false))) sSkip)
  (sRet (eB (bAnd (tb (λρ=>((aCons (e2 ip (eV 0) (eC (.int 0))) aNil) ρ).bind λds=>j2 (ds++[]))) (tb (eN Ah (aCons RU aNil)))))))
theorem Sk (T:Txt K mg a):cB P w K mg base eW 2 a.f_is_name a.d_is_name ["word"] (il K a.ct [0] 0 L4):=by
 have kQ:=RJ (P:=P) (w:=w) (base:=base) T
 have nI:=RW (P:=P) (w:=w) (base:=base) T
 refine kW (ms:=[.ow 0]) T.is_name.fn Si λ_ _ _ _ _ _ hr=>?_
 exact(ze (wx (XW.t (sy (ub (wf (yH (k:=0) (by decide) T.b_isinstance T.b_str WW (za 0 0)))) (sy (xi (k:=0) zQ zM (nw T.b_len (zc (za 0 0) zh)) dN (cr _)) (uT (xi (k:=0) tK qk (nw T.b_len (zc (za 0 0) zh)) (jz (n:=0) (d:=(.int 8)) rfl T.g_MOST_SIGNS.choose_spec rfl ⟨_,rfl⟩) (cr _)))))) (zf (yn (XE.ow (q0 (n:=0))))) yu)
  (zf (yn (XE.ow (uV (XO.sh (n:=0) (d9 T.is_letter kQ hr (zc (rZ (za 0 0) dN) zh))) (uU (k:=0) (jk (k:=0) (S3 rfl) VR rfl T.b_all WX (zc (XO.sh (n:=0) (DW (N:=["sign"]) (om:=[.ow 0]) (cap:=[]) (own:=1) (XI.cc (Xf (n:=0) (za 0 0))) (λ_ _ _ _ _=>(pf (show cY (["sign"]:List aK)from by decide +kernel))) (λ_ _ _ _ _=>zF) (λ_ _ _ _ _=>(XE.ow (Xm (XO.sh (n:=0) (d9 T.is_letter kQ hr (zc (za 0 0) zh))) (uU (k:=0) (XO.sh (n:=0) (d9 T.is_figure nI hr (zc (za 0 0) zh))))))))) zh))))))))
def RC:SF:=(sSeq (sIf (bOr (bNot (tb (λρ=>((aCons (eV 2) aNil) ρ).bind λds=>L4 (ds++[])))) (tb (λρ=>((eV 2) ρ).bind λx=>((eV 1) ρ).bind λy=>(ke y x).bind λr=>some (.bl r.isSome)))) (sRet (eC (.bl false))) sSkip)
  (o8 1 (eV 2) (eC (.bl true))))
def ur:List D->Option D:=mOf ["names","seen","name"]
  (sSeq (sIf (bOr (bNot (tb (e1 (jQ "list") (eV 0)))) (bOr (tb (e2 sv (eN eO (aCons (eV 0) aNil)) (eC (.int 1)))) (tb (e2 pR (eN eO (aCons (eV 0) aNil)) (eC (.int 40)))))) (sRet (eC (.bl false))) sSkip)
  (sSeq (sSet 1 (eC (.dK [] [])))
  (sSeq (sFor (lsD (eV 0)) (gV 2) RC)
  (sRet (eC (.bl true))))))
theorem RX (T:Txt K mg a):cB P w K mg base eW 3 a.f_are_names a.d_are_names ["names"] (il K a.ct [0] 0 ur):=by
 have pK:=Sk (P:=P) (w:=w) (base:=base) T
 refine kW (ms:=[.ow 0,.ow 1,.ow 0]) T.are_names.fn u7 λ_ _ _ _ _ _ hr=>?_
 exact(ze (wx (XW.t (sy (ub (wf (yH (k:=0) (by decide) T.b_isinstance T.b_list qw (za 0 0)))) (sy (xi (k:=0) zQ zM (nw T.b_len (zc (za 0 0) zh)) dN (cr _)) (uT (xi (k:=0) tK qk (nw T.b_len (zc (za 0 0) zh)) (jz (n:=0) (d:=(.int 40)) rfl T.g_MOST_NAMES.choose_spec rfl ⟨_,rfl⟩) (cr _)))))) (zf (yn (XE.ow (q0 (n:=0))))) yu)
  (ze (iI u7.nd Uc)
  (ze (vh (vi (za 0 0)) (mY u7.nd) (ze (wx (XW.t (sy (ub (wf (XO.sh (n:=0) (d9 T.is_name pK hr (zc (za 2 0) zh))))) (uT (Xg (DT hr) (za 2 0) (za 1 1) (by with_unfolding_all rfl))))) (zf (yn (XE.ow (q0 (n:=0))))) yu)
  (zf (ML 1 rfl (DT hr) (za 2 0) (q0 (n:=0))))) cn.never rfl)
  (zf (yn (XE.ow (q0 (n:=0))))))))
def ye:List D->Option D:=mOf ["number","least","most"]
  (sSeq (sIf (bOr (bNot (tb (e1 (jQ "int") (eV 0)))) (tb (e1 (jQ "bool") (eV 0)))) (sRet (eC (.bl false))) sSkip)
  (sRet (eB (bAnd (tb (e2 uG (eV 1) (eV 0))) (tb (e2 uG (eV 0) (eV 2)))))))
theorem RA (T:Txt K mg a):cB P w K mg base eW 1 a.f_lies_within a.d_lies_within ["number","least","most"] (il K a.ct [0,0,0] 0 ye):=by
 refine kW (ms:=[.ow 0,.ow 0,.ow 0]) T.lies_within.fn Rw λ_ _ _ _ _ _ hr=>?_
 exact(ze (wx (XW.t (sy (ub (wf (yH (k:=0) (by decide) T.b_isinstance T.b_int Nm (za 0 0)))) (uT (wf (yH (k:=0) (by decide) T.b_isinstance T.b_bool Mz (za 0 0)))))) (zf (yn (XE.ow (q0 (n:=0))))) yu)
  (zf (yn (XE.ow (uV (j9 (k:=0) zN zE (za 1 0) (za 0 0) (cr _)) (uU (k:=0) (j9 (k:=0) zN zE (za 0 0) (za 2 0) (cr _))))))))
def jp:List D->Option D:=mOf ["arrow","many","least","most"]
  (sSeq (sSet 2 (eIf (tb (e1 (rL [0,1,2,3,4,5] [3]) (eV 0))) (eC (.int 1)) (eC (.int 0))))
  (sSeq (sSet 3 (eIf (tb (e1 (rL [0,1,2,3,4,5] [1]) (eV 0))) (eC (.int 0)) (eC (.int 4))))
  (sSeq (sIf (bOr (bNot (tb (λρ=>((aCons (e1 (cC [0,1,2,3] "start") (eV 0)) (aCons (eC (.int 0)) (aCons (e2 nO (eV 1) (eC (.int 1))) aNil))) ρ).bind λds=>ye (ds++[])))) (bNot (tb (λρ=>((aCons (e1 (cC [0,1,2,3] "goal") (eV 0)) (aCons (eC (.int 0)) (aCons (e2 nO (eV 1) (eC (.int 1))) aNil))) ρ).bind λds=>ye (ds++[]))))) (sRet (eC (.bl false))) sSkip)
  (sRet (eB (bAnd (tb (λρ=>((aCons (e1 (cC [0,1,2,3] "time") (eV 0)) (aCons (eC (.int 0)) (aCons (eC (.int 1000000000)) aNil))) ρ).bind λds=>ye (ds++[]))) (tb (λρ=>((aCons (e1 (cC [0,1,2,3] "behind") (eV 0)) (aCons (eV 2) (aCons (eV 3) aNil))) ρ).bind λds=>ye (ds++[])))))))))
theorem RV (T:Txt K mg a):cB P w K mg base eW 2 a.f_is_right a.d_is_right ["arrow","many"] (il K a.ct [0,0] 0 jp):=by
 have fM:=RA (P:=P) (w:=w) (base:=base) T
 refine kW (ms:=[.ow 0,.ow 0,.ow 0,.ow 0]) T.is_right.fn j1 λ_ _ _ _ _ _ hr=>?_
 exact(ze (iI j1.nd (XE.ow (Jy (wf (MV (k:=0) T.isi_Back T.b_isinstance T.Back.mgx (za 0 0))) dN dN)))
  (ze (iI j1.nd (XE.ow (Jy (wf (MV (k:=0) T.isi_Ride T.b_isinstance T.Ride.mgx (za 0 0))) dN (jz (n:=0) (d:=(.int 4)) rfl T.g_MOST_BEHIND.choose_spec rfl ⟨_,rfl⟩))))
  (ze (wx (XW.t (sy (ub (wf (XO.sh (n:=0) (d9 T.lies_within fM hr (zc (yp (n:=0) (za 0 0) T.fld_start rfl) (zc dN (zc (xt (k:=0) zK zD (za 1 0) dN) zh))))))) (uT (ub (wf (XO.sh (n:=0) (d9 T.lies_within fM hr (zc (yp (n:=0) (za 0 0) T.fld_goal rfl) (zc dN (zc (xt (k:=0) zK zD (za 1 0) dN) zh)))))))))) (zf (yn (XE.ow (q0 (n:=0))))) yu)
  (zf (yn (XE.ow (uV (XO.sh (n:=0) (d9 T.lies_within fM hr (zc (yp (n:=0) (za 0 0) T.fld_time rfl) (zc dN (zc (jz (n:=0) (d:=(.int 1000000000)) rfl T.g_MOST_TIME.choose_spec rfl ⟨_,rfl⟩) zh))))) (uU (k:=0) (XO.sh (n:=0) (d9 T.lies_within fM hr (zc (yp (n:=0) (za 0 0) T.fld_behind rfl) (zc (za 2 0) (zc (za 3 0) zh)))))))))))))
def xj:SF:=(sIf (tb (e2 (n6 false) (e1 (cC [0,1,2,3] "start") (eV 4)) (eV 7))) (sSeq (nN 3 (e1 (cC [0,1,2,3] "goal") (eV 4)) (λi j=>i-j) (eC (.int 1)))
  (sIf (tb (e2 (n6 false) (e2 ip (eV 3) (e1 (cC [0,1,2,3] "goal") (eV 4))) (eC (.int 0)))) (sApp 5 (e1 (cC [0,1,2,3] "goal") (eV 4))) sSkip)) sSkip)
def wq:SF:=(sSeq (sSet 7 (e2 ip (eV 5) (eV 6)))
  (sSeq (sFor (lsD (eV 2)) (gV 4) xj)
  (xR 6 (i2 λi j=>.int (i+j)) (eC (.int 1)))))
def uf:EF:=(fD (λρ=>((aCons (eV 0) aNil) ρ).bind i8) 1 [3] (gV 0) (tb (e2 (n6 false) (e2 ip (eV 1) (eV 0)) (eC (.int 0)))) (eV 0))
def wt:SF:=(nN 3 (e1 (cC [0,1,2,3] "goal") (eV 4)) (λi j=>i+j) (eC (.int 1)))
def ug:EF:=(fD (lsD (eV 1)) 1 [] (gV 0) (tb (e2 (n6 false) (e1 (cC [0,1,2,3] "behind") (eV 0)) (eC (.int 0)))) (eV 0))
def xk:List D->Option D:=mOf ["many","arrows","within","waited","arrow","placed","done","here"]
  (sSeq (sSet 2 ug)
  (sSeq (sSet 3 (e2 kl (λρ=>((aCons (eC (.int 0)) aNil) ρ).bind λds=>some (.lst ds)) (eV 0)))
  (sSeq (sFor (lsD (eV 2)) (gV 4) wt)
  (sSeq (sSet 5 uf)
  (sSeq (sSet 6 (eC (.int 0)))
  (sSeq (oR (tb (e2 sv (eV 6) (eN eO (aCons (eV 5) aNil)))) wq)
  (sRet (eV 5))))))))
theorem uz (T:Txt K mg a):cB P w K mg base eW 1 a.f_placed_goings a.d_placed_goings ["many","arrows"] (il K a.ct [0,0] 0 xk):=by
 refine kW (ms:=[.ow 0,.ow 0,.ow 0,.ow 1,.ow 0,.ow 1,.ow 0,.ow 0]) T.placed_goings.fn ym λ_ _ _ _ _ _ hr=>?_
 exact(ze (ve (k:=0) (N:=["arrow"]) (om:=[.ow 0]) (cap:=[]) (own:=1) rfl ym.nd rfl (Or.inl rfl) (yG (by rfl)) rfl rfl (by decide) (IY (n:=0) (za 1 0)) (λ_ _ _ _ _=>(pf (show cY (["arrow"]:List aK)from by decide +kernel))) (λ_ _ _ _ _=>(DL (xi (k:=0) (j7 hr.u64) ql (yp (n:=0) (za 0 0) T.fld_behind rfl) dN (cr _)))) (λ_ _ _ _ _=>(XE.ow (za 0 0))))
  (ze (iI ym.nd (Fo (w8 (k:=0) (yo (XE.ow dN) xg)) (za 0 0)))
  (ze (vh (vi (za 2 0)) (mY ym.nd) (zf (MU 3 Nh rfl (yp (n:=0) (za 4 0) T.fld_goal rfl) dN)) cn.never rfl)
  (ze (ve (k:=1) (N:=["going","waited"]) (om:=[.ow 0]) (cap:=[3]) (own:=1) rfl ym.nd rfl (Or.inl rfl) (yG (by rfl)) rfl rfl (by decide) (XI.cc (vk (n:=0) T.b_range (zc (za 0 0) zh))) (λ_ _ _ _ _=>(pf (show cY (["going","waited"]:List aK)from by decide +kernel))) (λ_ _ _ _ _=>(DL (xi (k:=0) (j7 hr.u64) ql (zP (n:=1) zL zO (za 1 1) (za 0 0) (λ_ _=>rfl)) dN (cr _)))) (λ_ _ _ _ _=>(XE.ow (za 0 0))))
  (ze (iI ym.nd (XE.ow dN))
  (ze (Ue (xi (k:=0) zQ zM (za 6 0) (nw T.b_len (zc (za 5 1) zh)) (cr _)) (ze (iI ym.nd (XE.ow (zP (n:=1) zL zO (za 5 1) (za 6 0) (λ_ _=>rfl))))
  (ze (vh (vi (za 2 0)) (mY ym.nd) (zf (wx (xi (k:=0) (j7 hr.u64) ql (yp (n:=0) (za 4 0) T.fld_start rfl) (za 7 0) (cr _)) (ze (MU 3 Wy rfl (yp (n:=0) (za 4 0) T.fld_goal rfl) dN)
  (zf (wx (xi (k:=0) (j7 hr.u64) ql (zP (n:=1) zL zO (za 3 1) (yp (n:=0) (za 4 0) T.fld_goal rfl) (λ_ _=>rfl)) dN (cr _)) (zf (ud 5 rfl (XE.ow (yp (n:=0) (za 4 0) T.fld_goal rfl)))) yu))) yu)) cn.never rfl)
  (zf (Xb Nh rfl ym.nd rfl (Or.inl rfl) dN)))) cn.never)
  (zf (Jf (i:=5) rfl))))))))
def ua:SF:=(sIf (bNot (tb (λρ=>((aCons (eV 4) (aCons (eN eO (aCons (eV 1) aNil)) aNil)) ρ).bind λds=>jp (ds++[])))) kF sSkip)
def v7:Nat->List D->Option D:=uD ["self","names","arrows","number","arrow","placed"]
  (sSeq (sIf (bOr (bNot (tb (λρ=>((aCons (eV 1) aNil) ρ).bind λds=>ur (ds++[])))) (tb (e2 pR (eN eO (aCons (eV 2) aNil)) (eC (.int 120))))) kF sSkip)
  (sSeq (sFor (λρ=>((aCons (eV 2) aNil) ρ).bind λds=>match ds with|[.lst xs]=>some (eD 0 xs)|_=>none) (gT (gsCons (gV 3) (gsCons (gV 4) gsNil))) ua)
  (sSeq (sSet 5 (λρ=>((aCons (eN eO (aCons (eV 1) aNil)) (aCons (eV 2) aNil)) ρ).bind λds=>xk (ds++[])))
  (sSeq (sIf (tb (e2 sv (eN eO (aCons (eV 5) aNil)) (eN eO (aCons (eV 1) aNil)))) kF sSkip)
  (sSeq (gE [4] "names" (eN jG (aCons (eV 1) aNil)))
  (gE [4] "arrows" (eN jG (aCons (eV 2) aNil))))))))
theorem RD (T:Txt K mg a):cB P w K mg base eW 4 a.f_Net___init a.d_Net___init ["self","names","arrows"] (qV K a.ct [4] [0,0] v7):=by
 have nH:=RX (P:=P) (w:=w) (base:=base) T
 have oA:=RV (P:=P) (w:=w) (base:=base) T
 have gb:=uz (P:=P) (w:=w) (base:=base) T
 refine u6 (ms:=[.ow 0,.ow 0,.ow 0,.ow 0,.ow 0]) (rk:=0) T.Net___init.fn vb rfl rfl (by decide) (w9 (by decide)) λx0 gx A outer s H E hr=>?_
 exact(ze (wx (XW.t (sy (ub (wf (XO.sh (n:=0) (d9 T.are_names nH hr (zc (za 1 0) zh))))) (uT (xi (k:=0) tK qk (nw T.b_len (zc (za 2 0) zh)) (jz (n:=0) (d:=(.int 120)) rfl T.g_MOST_ARROWS.choose_spec rfl ⟨_,rfl⟩) (cr _))))) (zf qf) yu)
  (ze (vh (U6 T.b_enumerate (zc (za 2 0) zh)) (Jp (n:=1) rfl (v6 (mY vb.nd) (v6 (mY vb.nd) Jb))) (zf (wx (ub (wf (XO.sh (n:=0) (d9 T.is_right oA hr (zc (za 4 0) (zc (nw T.b_len (zc (za 1 0) zh)) zh)))))) (zf qf) yu)) cn.never rfl)
  (ze (iI vb.nd (d9 T.placed_goings gb hr (zc (nw T.b_len (zc (za 1 0) zh)) (zc (za 2 0) zh))))
  (ze (wx (xi (k:=0) zQ zM (nw T.b_len (zc (za 5 0) zh)) (nw T.b_len (zc (za 1 0) zh)) (cr _)) (zf qf) yu)
  (ze (qo T.fld_names (XO.sh (n:=0) (qd vv (E8 (n:=0) (by decide)) rfl T.b_list qw (zc (za 1 0) zh))))
  (zf (qo T.fld_arrows (XO.sh (n:=0) (qd vv (E8 (n:=0) (by decide)) rfl T.b_list qw (zc (za 2 0) zh))))))))))
def vn:EF:=(fD (lsD (e1 (cC [4] "arrows") (eV 0))) 1 [] (gV 0) kd (e1 (cC [0,1,2,3] "behind") (eV 0)))
def xl:List D->Option D:=mOf ["self"]
  (sRet (eN sU (aCons (e2 fC (λρ=>((aCons (eC (.int 1)) aNil) ρ).bind λds=>some (.lst ds)) vn) aNil)))
theorem qq (T:Txt K mg a):cB P w K mg base eW 1 a.f_Net_most_behind a.d_Net_most_behind ["self"] (il K a.ct [0] 0 xl):=by
 refine kW (ms:=[.ow 0]) T.Net_most_behind.fn qp λ_ _ _ _ _ _ hr=>?_
 exact(zf (yn (XE.ow (jk (k:=0) (SZ rfl) VQ rfl T.b_max Fk (zc (XO.sh (n:=0) (nP (XO.sh (n:=0) (w8 (k:=0) (yo (XE.ow dN) xg))) (XO.sh (n:=0) (DW (N:=["arrow"]) (om:=[.ow 0]) (cap:=[]) (own:=1) (IY (n:=0) (yp (n:=0) (za 0 0) T.fld_arrows rfl)) (λ_ _ _ _ _=>(pf (show cY (["arrow"]:List aK)from by decide +kernel))) (λ_ _ _ _ _=>zF) (λ_ _ _ _ _=>(XE.ow (yp (n:=0) (za 0 0) T.fld_behind rfl))))))) zh)))))
def jb:EF:=(fD (λρ=>((aCons (e1 (cC [4] "arrows") (eV 0)) aNil) ρ).bind λds=>match ds with|[.lst xs]=>some (eD 0 xs)|_=>none) 2 [1] (gT (gsCons (gV 0) (gsCons (gV 1) gsNil))) (tb (e2 (n6 false) (e1 (cC [0,1,2,3] "goal") (eV 1)) (eV 2))) (eV 0))
def uh:List D->Option D:=mOf ["self","going"]
  (sRet jb)
theorem Sb (T:Txt K mg a):cB P w K mg base eW 1 a.f_Net_into a.d_Net_into ["self","going"] (il K a.ct [0,0] 0 uh):=by
 refine kW (ms:=[.ow 0,.ow 0]) T.Net_into.fn RT λ_ _ _ _ _ _ hr=>?_
 exact(zf (yn (pQ (DW (N:=["number","arrow","going"]) (om:=[.ow 0,.ow 0]) (cap:=[1]) (own:=2) (IH (n:=0) T.b_enumerate (zc (yp (n:=0) (za 0 0) T.fld_arrows rfl) zh)) (λ_ _ _ _ _=>(Jd (n:=1) rfl (uc (pf (show cY (["number","arrow","going"]:List aK)from by decide +kernel)) (uc (pf (show cY (["number","arrow","going"]:List aK)from by decide +kernel)) IX)))) (λ_ _ _ _ _=>(DL (xi (k:=0) (j7 hr.u64) ql (yp (n:=0) (za 1 0) T.fld_goal rfl) (za 2 0) (cr _)))) (λ_ _ _ _ _=>(XE.ow (za 0 0)))))))
def ut:List D->Option D:=mOf ["self"]
  (sRet (λρ=>((aCons (eN eO (aCons (e1 (cC [4] "names") (eV 0)) aNil)) (aCons (e1 (cC [4] "arrows") (eV 0)) aNil)) ρ).bind λds=>xk (ds++[])))
theorem RY (T:Txt K mg a):cB P w K mg base eW 2 a.f_Net_order a.d_Net_order ["self"] (il K a.ct [0] 0 ut):=by
 have gb:=uz (P:=P) (w:=w) (base:=base) T
 refine kW (ms:=[.ow 0]) T.Net_order.fn RI λ_ _ _ _ _ _ hr=>?_
 exact(zf (yn (d9 T.placed_goings gb hr (zc (nw T.b_len (zc (yp (n:=0) (za 0 0) T.fld_names rfl) zh)) (zc (yp (n:=0) (za 0 0) T.fld_arrows rfl) zh)))))
def E5:List D->Option D:=mOf ["one","other"]
  (sSeq (sIf (tb (e2 (qO false) (eV 0) (eC .non))) (sRet (eV 1)) sSkip)
  (sSeq (sIf (tb (e2 (qO false) (eV 1) (eC .non))) (sRet (eV 0)) sSkip)
  (sRet (eN mS (aCons (eV 0) (aCons (eV 1) aNil))))))
theorem Tq (T:Txt K mg a):cB P w K mg base eW 1 a.f_latest a.d_latest ["one","other"] (il K a.ct [0,0] 0 E5):=by
 refine kW (ms:=[.ow 0,.ow 0]) T.latest.fn Tp λ_ _ _ _ _ _ hr=>?_
 exact(ze (wx (xi (k:=0) Jz Jr (za 0 0) tJ (cr _)) (zf (yn (XE.ow (za 1 0)))) yu)
  (ze (wx (xi (k:=0) Jz Jr (za 1 0) tJ (cr _)) (zf (yn (XE.ow (za 0 0)))) yu)
  (zf (yn (XE.ow (jk (k:=0) (Iw rfl) II rfl T.b_max Fk (zc (za 0 0) (zc (za 1 0) zh))))))))
def wu:SF:=(o8 1 (λρ=>((aCons (eV 2) (aCons (eV 3) aNil)) ρ).bind λds=>some (.tup ds)) (λρ=>((aCons (λρ=>((eV 1) ρ).bind λx=>((λρ=>((aCons (eV 2) (aCons (eV 3) aNil)) ρ).bind λds=>some (.tup ds)) ρ).bind λy=>(ke x y).bind λr=>some (r.getD .non)) (aCons (eV 4) aNil)) ρ).bind λds=>E5 (ds++[])))
def wn:List D->Option D:=mOf ["told","greatest","going","number","amount"]
  (sSeq (sSet 1 (eC (.dT [] [])))
  (sSeq (sFor (lsD (eV 0)) (gT (gsCons (gV 2) (gsCons (gV 3) (gsCons (gV 4) gsNil)))) wu)
  (sRet (eV 1))))
theorem Rp (T:Txt K mg a):cB P w K mg base eW 2 a.f_greatest_told a.d_greatest_told ["told"] (il K a.ct [0] 0 wn):=by
 have qU:=Tq (P:=P) (w:=w) (base:=base) T
 refine kW (ms:=[.ow 0,.ow 1,.ow 0,.ow 0,.ow 0]) T.greatest_told.fn xy λ_ _ _ _ _ _ hr=>?_
 exact(ze (iI xy.nd Ud)
  (ze (vh (vi (za 0 0)) (Jp (n:=0) rfl (v6 (mY xy.nd) (v6 (mY xy.nd) (v6 (mY xy.nd) Jb)))) (zf (ML 1 rfl (DT hr) (XO.sh (n:=0) (DQ (yo (XE.ow (za 2 0)) (yo (XE.ow (za 3 0)) xg)))) (XO.sh (n:=0) (d9 T.latest qU hr (zc (Vy (n:=1) (DT hr) (za 1 1) (XO.sh (n:=0) (DQ (yo (XE.ow (za 2 0)) (yo (XE.ow (za 3 0)) xg)))) ⟨rfl,rfl,rfl,rfl⟩) (zc (za 4 0) zh)))))) cn.never rfl)
  (zf (Jf (i:=1) rfl))))
def xo:List D->Option D:=mOf ["self","arrow","link"]
  (sSeq (sSet 2 (e2 ip (e1 (cC [4] "arrows") (e1 (cC [5] "net") (eV 0))) (eV 1)))
  (sRet (e2 nO (e2 nO (e2 fC (e2 ip (e1 (cC [5] "times") (eV 0)) (e1 (cC [0,1,2,3] "goal") (eV 2))) (e2 hU (e1 (cC [5] "beat") (eV 0)) (e1 (cC [0,1,2,3] "behind") (eV 2)))) (e2 ip (e1 (cC [5] "times") (eV 0)) (e1 (cC [0,1,2,3] "start") (eV 2)))) (e1 (cC [0,1,2,3] "time") (eV 2)))))
theorem jw (T:Txt K mg a):cB P w K mg base eW 1 a.f_Table_slack a.d_Table_slack ["self","arrow"] (il K a.ct [1,0] 0 xo):=by
 refine kW (ms:=[.al 1,.ow 0,.ow 0]) T.Table_slack.fn jv λ_ _ _ _ _ _ hr=>?_
 exact(ze (iI jv.nd (XE.ow (rZ (yp (n:=0) (yp (n:=1) (za 0 1) T.fld_net rfl) T.fld_arrows rfl) (za 1 0))))
  (zf (yn (XE.ow (xt (k:=0) zK zD (xt (k:=0) zK zD (XO.sh (n:=0) (nP (rZ (yp (n:=1) (za 0 1) T.fld_times rfl) (yp (n:=0) (za 2 0) T.fld_goal rfl)) (xt (k:=0) jy uk (yp (n:=1) (za 0 1) T.fld_beat rfl) (yp (n:=0) (za 2 0) T.fld_behind rfl)))) (rZ (yp (n:=1) (za 0 1) T.fld_times rfl) (yp (n:=0) (za 2 0) T.fld_start rfl))) (yp (n:=0) (za 2 0) T.fld_time rfl))))))
def w6:SF:=(sIf (tb (e2 sv (λρ=>((eV 0) ρ).bind λo=>((aCons (eV 4) aNil) ρ).bind λds=>hR 5 "slack" xo o (ds++[])) (eC (.int 0)))) kF sSkip)
def wv:Nat->List D->Option D:=uD ["self","net","times","beat","number"]
  (sSeq (gE [5] "net" (eV 1))
  (sSeq (gE [5] "times" (eN jG (aCons (eV 2) aNil)))
  (sSeq (gE [5] "beat" (eV 3))
  (sFor (λρ=>((aCons (eN eO (aCons (e1 (cC [4] "arrows") (eV 1)) aNil)) aNil) ρ).bind i8) (gV 4) w6))))
theorem Rt (T:Txt K mg a):cB P w K mg base eW 2 a.f_Table___init a.d_Table___init ["self","net","times","beat"] (qV K a.ct [5] [0,0,0] wv):=by
 have gL:=jw (P:=P) (w:=w) (base:=base) T
 refine u6 (ms:=[.ow 0,.ow 0,.ow 0,.ow 0]) (rk:=0) T.Table___init.fn u8 rfl rfl (by decide) (w9 (by decide)) λx0 gx A outer s H E hr=>?_
 exact(ze (qo T.fld_net (za 1 0))
  (ze (qo T.fld_times (XO.sh (n:=0) (qd vv (E8 (n:=0) (by decide)) rfl T.b_list qw (zc (za 2 0) zh))))
  (ze (qo T.fld_beat (za 3 0))
  (zf (vh (vk (n:=0) T.b_range (zc (nw T.b_len (zc (yp (n:=0) (za 1 0) T.fld_arrows rfl) zh)) zh)) (mY u8.nd) (zf (wx (xi (k:=0) zQ zM (XO.sh (n:=0) (Ja (n:=1) (c0:=5) (ns:=[0]) (nd:=[]) (iP:=[]) (za 0 1) T.Table.cl T.Table_slack.me gL (hr.mono (by decide)) T.Table_slack.bd .nil (λ_ _=>.nil) (zc (za 4 0) zh))) dN (cr _)) (zf qf) yu)) cn.never rfl)))))
def xh:SF:=(sIf (tb (e2 (inD true) (eV 4) (eV 2))) (sSeq (sSet 5 (e2 ip (e1 (cC [4] "arrows") (e1 (cC [5] "net") (eV 0))) (eV 4)))
  (sApp 3 (λρ=>((aCons (e1 (cC [0,1,2,3] "start") (eV 5)) (aCons (e1 (cC [0,1,2,3] "behind") (eV 5)) (aCons (λρ=>((eV 0) ρ).bind λo=>((aCons (eV 4) aNil) ρ).bind λds=>hR 5 "slack" xo o (ds++[])) aNil))) ρ).bind λds=>some (.tup ds)))) sSkip)
def wy:List D->Option D:=mOf ["table","going","left_out","links","number","arrow"]
  (sSeq (sSet 3 (λρ=>(aNil ρ).bind λds=>some (.lst ds)))
  (sSeq (sFor (lsD (λρ=>((e1 (cC [5] "net") (eV 0)) ρ).bind λo=>((aCons (eV 1) aNil) ρ).bind λds=>hR 4 "into" uh o (ds++[]))) (gV 4) xh)
  (sRet (eV 3))))
theorem RE (T:Txt K mg a):cB P w K mg base eW 2 a.f_links_into a.d_links_into ["table","going","left_out"] (il K a.ct [0,0,0] 0 wy):=by
 have oz:=Sb (P:=P) (w:=w) (base:=base) T
 have gL:=jw (P:=P) (w:=w) (base:=base) T
 refine kW (ms:=[.ow 0,.ow 0,.ow 0,.ow 1,.ow 0,.ow 0]) T.links_into.fn vc λ_ _ _ _ _ _ hr=>?_
 exact(ze (iI vc.nd (w8 (k:=0) xg))
  (ze (vh (vi (XO.sh (n:=0) (Ja (n:=0) (c0:=4) (ns:=[0]) (nd:=[]) (iP:=[]) (yp (n:=0) (za 0 0) T.fld_net rfl) T.Net.cl T.Net_into.me oz (hr.mono (by decide)) T.Net_into.bd .nil (λ_ _=>.nil) (zc (za 1 0) zh)))) (mY vc.nd) (zf (wx (xi (k:=0) RM W8 (za 4 0) (za 2 0) (by with_unfolding_all rfl)) (ze (iI vc.nd (XE.ow (rZ (yp (n:=0) (yp (n:=0) (za 0 0) T.fld_net rfl) T.fld_arrows rfl) (za 4 0))))
  (zf (ud 3 rfl (pQ (DQ (yo (XE.ow (yp (n:=0) (za 5 0) T.fld_start rfl)) (yo (XE.ow (yp (n:=0) (za 5 0) T.fld_behind rfl)) (yo (Ja (n:=1) (c0:=5) (ns:=[0]) (nd:=[]) (iP:=[]) (XE.up (za 0 0) (by decide:0<=1)) T.Table.cl T.Table_slack.me gL (hr.mono (by decide)) T.Table_slack.bd .nil (λ_ _=>.nil) (zc (za 4 0) zh)) xg)))))))) yu)) cn.never rfl)
  (zf (Jf (i:=3) rfl))))
def yw:SF:=(sSet 3 (eN mS (aCons (eV 3) (aCons (e2 nO (e2 ip (e2 ip (eV 0) (e2 nO (e1 sV (eC (.int 1))) (eV 5))) (eV 4)) (eV 6)) aNil))))
def xa:List D->Option D:=mOf ["rows","links","put","most","start","behind","slack"]
  (sSeq (sSet 3 (eN mS (aCons (eC (.int 0)) (aCons (eV 2) aNil))))
  (sSeq (sFor (lsD (eV 1)) (gT (gsCons (gV 4) (gsCons (gV 5) (gsCons (gV 6) gsNil)))) yw)
  (sRet (eV 3))))
theorem uu (T:Txt K mg a):cB P w K mg base eW 1 a.f_lateness_in_last_row a.d_lateness_in_last_row ["rows","links","put"] (il K a.ct [2,0,0] 0 xa):=by
 refine kW (ms:=[.al 2,.ow 0,.ow 0,.ow 0,.ow 0,.ow 0,.ow 0]) T.lateness_in_last_row.fn yc λ_ _ _ _ _ _ hr=>?_
 exact(ze (iI yc.nd (XE.ow (jk (k:=0) (Iw rfl) II rfl T.b_max Fk (zc dN (zc (za 2 0) zh)))))
  (ze (vh (vi (za 1 0)) (Jp (n:=0) rfl (v6 (mY yc.nd) (v6 (mY yc.nd) (v6 (mY yc.nd) Jb)))) (zf (iI yc.nd (XE.ow (jk (k:=0) (Iw rfl) II rfl T.b_max Fk (zc (za 3 0) (zc (xt (k:=0) zK zD (zP (n:=1) zL zO (zP (n:=2) zL zO (za 0 2) (xt (k:=0) zK zD (Nd (k:=0) dN) (za 5 0)) (λ_ _=>rfl)) (za 4 0) (λ_ _=>rfl)) (za 6 0)) zh)))))) cn.never rfl)
  (zf (yn (XE.ow (za 3 0))))))
def E6:SF:=(sSeq (sSet 12 (λρ=>((eV 6) ρ).bind λx=>((λρ=>((aCons (eV 11) (aCons (eV 10) aNil)) ρ).bind λds=>some (.tup ds)) ρ).bind λy=>((eC (.int 0)) ρ).bind λz=>(ke x y).bind λr=>some (r.getD z)))
  (oQ 9 (e1 sV (eC (.int 1))) (eV 11) (λρ=>((aCons (eV 9) (aCons (e2 ip (eV 5) (eV 11)) (aCons (eV 12) aNil))) ρ).bind λds=>xa (ds++[]))))
def IJ:SF:=(sSeq (sApp 9 (e2 kl (λρ=>((aCons (eC (.int 0)) aNil) ρ).bind λds=>some (.lst ds)) (eV 4)))
  (sFor (lsD (eV 7)) (gV 11) E6))
def Mr:EF:=(fD (λρ=>((aCons (eV 8) aNil) ρ).bind i8) 1 [4] (gV 0) kd (e2 kl (λρ=>((aCons (eC (.int 0)) aNil) ρ).bind λds=>some (.lst ds)) (eV 1)))
def IK:EF:=(fD (λρ=>((aCons (eV 4) aNil) ρ).bind i8) 1 [0,3] (gV 0) kd (λρ=>((aCons (eV 1) (aCons (eV 0) (aCons (eIf (tb (e2 (qO false) (eV 2) (eC .non))) (λρ=>(aNil ρ).bind λds=>some (.lst ds)) (eV 2)) aNil))) ρ).bind λds=>wy (ds++[])))
def Fp:List D->Option D:=mOf ["table","rounds","puts","without","many","links","greatest","order","depth","rows","number","going","put"]
  (sSeq (sSet 4 (eN eO (aCons (e1 (cC [4] "names") (e1 (cC [5] "net") (eV 0))) aNil)))
  (sSeq (sSet 5 IK)
  (sSeq (sSet 6 (λρ=>((aCons (eV 2) aNil) ρ).bind λds=>wn (ds++[])))
  (sSeq (sSet 7 (λρ=>((e1 (cC [5] "net") (eV 0)) ρ).bind λo=>hR 4 "order" ut o []))
  (sSeq (sSet 8 (λρ=>((e1 (cC [5] "net") (eV 0)) ρ).bind λo=>hR 4 "most_behind" xl o []))
  (sSeq (sSet 9 Mr)
  (sSeq (sFor (λρ=>((aCons (eV 1) aNil) ρ).bind i8) (gV 10) IJ)
  (sFz 9 (sRet (λρ=>((eV 9) ρ).bind λd=>((pInt (eV 8)) ρ).bind λl=>(pNo ρ).bind λh=>jR d l h))))))))))
theorem VY (T:Txt K mg a):cB P w K mg base eW 3 a.f_late a.d_late ["table","rounds","puts","without"] (il K a.ct [0,0,0,0] 0 Fp):=by
 have m7:=RE (P:=P) (w:=w) (base:=base) T
 have lq:=Rp (P:=P) (w:=w) (base:=base) T
 have nG:=RY (P:=P) (w:=w) (base:=base) T
 have kb:=qq (P:=P) (w:=w) (base:=base) T
 have hJ:=uu (P:=P) (w:=w) (base:=base) T
 refine kW (ms:=[.ow 0,.ow 0,.ow 0,.ow 0,.ow 0,.ow 0,.ow 0,.ow 0,.ow 0,.ow 2,.ow 0,.ow 0,.ow 0]) T.late.fn v8 λ_ _ _ _ _ _ hr=>?_
 exact(ze (iI v8.nd (XE.ow (nw T.b_len (zc (yp (n:=0) (yp (n:=0) (za 0 0) T.fld_net rfl) T.fld_names rfl) zh))))
  (ze (ve (k:=0) (N:=["going","table","without"]) (om:=[.ow 0]) (cap:=[0,3]) (own:=1) rfl v8.nd rfl (Or.inl rfl) (yG (by rfl)) rfl rfl (by decide) (XI.cc (vk (n:=0) T.b_range (zc (za 4 0) zh))) (λ_ _ _ _ _=>(pf (show cY (["going","table","without"]:List aK)from by decide +kernel))) (λ_ _ _ _ _=>zF) (λ_ _ _ _ _=>(d9 T.links_into m7 hr (zc (za 1 0) (zc (za 0 0) (zc (Jy (xi (k:=0) Jz Jr (za 2 0) tJ (cr _)) (XO.sh (n:=0) (w8 (k:=0) xg)) (za 2 0)) zh))))))
  (ze (iI v8.nd (d9 T.greatest_told lq hr (zc (za 2 0) zh)))
  (ze (iI v8.nd (vz (n:=0) (c0:=4) (nd:=[]) (iP:=[]) (yp (n:=0) (za 0 0) T.fld_net rfl) T.Net.cl T.Net_order.me nG (hr.mono (by decide)) T.Net_order.bd .nil (λ_ _=>.nil)))
  (ze (iI v8.nd (vz (n:=0) (c0:=4) (nd:=[]) (iP:=[]) (yp (n:=0) (za 0 0) T.fld_net rfl) T.Net.cl T.Net_most_behind.me kb (hr.mono (by decide)) T.Net_most_behind.bd .nil (λ_ _=>.nil)))
  (ze (ve (k:=2) (N:=["number","many"]) (om:=[.ow 0]) (cap:=[4]) (own:=1) rfl v8.nd rfl (Or.inl rfl) (yG (by rfl)) rfl rfl (by decide) (XI.cc (vk (n:=0) T.b_range (zc (za 8 0) zh))) (λ_ _ _ _ _=>(pf (show cY (["number","many"]:List aK)from by decide +kernel))) (λ_ _ _ _ _=>zF) (λ_ _ _ _ _=>(Fo (w8 (k:=0) (yo (XE.ow dN) xg)) (za 1 0))))
  (ze (vh (vk (n:=0) T.b_range (zc (za 1 0) zh)) (mY v8.nd) (ze (ud 9 rfl (Fo (w8 (k:=0) (yo (XE.ow dN) xg)) (za 4 0)))
  (zf (vh (vi (za 7 0)) (mY v8.nd) (ze (iI v8.nd (XE.ow (Vz (n:=0) (DT hr) (za 6 0) (XO.sh (n:=0) (DQ (yo (XE.ow (za 11 0)) (yo (XE.ow (za 10 0)) xg)))) dN ⟨rfl,rfl,rfl,rfl⟩)))
  (zf (TK 9 rfl (Nd (k:=0) dN) (za 11 0) (λ_ _=>rfl) (XO.sh (n:=0) (d9 T.lateness_in_last_row hJ hr (zc (za 9 2) (zc (rZ (za 5 0) (za 11 0)) (zc (za 12 0) zh)))))))) cn.never rfl))) cn.never rfl)
  (Ju (i:=9) rfl (zf (yn (pQ (Mn (n:=0) (by decide) (za 9 0) (Je (za 8 0)) Xr))))))))))))
def vo:List D->Option D:=mOf ["self"]
  (sRet (eC (.bl false)))
theorem u0 (T:Txt K mg a):cB P w K mg base eW 1 a.f_Ride_may_drop a.d_Ride_may_drop ["self"] (il K a.ct [0] 0 vo):=by
 refine kW (ms:=[.ow 0]) T.Ride_may_drop.fn Rm λ_ _ _ _ _ _ hr=>?_
 exact(zf (yn (XE.ow (q0 (n:=0)))))
def vp:List D->Option D:=mOf ["self"]
  (sRet (eC (.bl true)))
theorem u3 (T:Txt K mg a):cB P w K mg base eW 1 a.f_Wait_may_drop a.d_Wait_may_drop ["self"] (il K a.ct [0] 0 vp):=by
 refine kW (ms:=[.ow 0]) T.Wait_may_drop.fn Rn λ_ _ _ _ _ _ hr=>?_
 exact(zf (yn (XE.ow (q0 (n:=0)))))
def vq:List D->Option D:=mOf ["self"]
  (sRet (eC (.bl false)))
theorem u4 (T:Txt K mg a):cB P w K mg base eW 1 a.f_Back_may_drop a.d_Back_may_drop ["self"] (il K a.ct [0] 0 vq):=by
 refine kW (ms:=[.ow 0]) T.Back_may_drop.fn Ro λ_ _ _ _ _ _ hr=>?_
 exact(zf (yn (XE.ow (q0 (n:=0)))))
def j3:EF:=(fD (lsD (eV 1)) 1 [2] (gV 0) kd (e2 fC (eV 0) (λρ=>((aCons (eV 1) aNil) ρ).bind λds=>some (.lst ds))))
def wk:SF:=(sSet 1 (e2 fC (eV 1) j3))
def jc:List D->Option D:=mOf ["waits","sets","wait"]
  (sSeq (sSet 1 (λρ=>((aCons (λρ=>(aNil ρ).bind λds=>some (.lst ds)) aNil) ρ).bind λds=>some (.lst ds)))
  (sSeq (sFor (lsD (eV 0)) (gV 2) wk)
  (sRet (e1 lE (eV 1)))))
theorem Lv (T:Txt K mg a):cB P w K mg base eW 1 a.f_sets_of a.d_sets_of ["waits"] (il K a.ct [0] 0 jc):=by
 refine kW (ms:=[.ow 0,.ow 0,.ow 0]) T.sets_of.fn jo λ_ _ _ _ _ _ hr=>?_
 exact(ze (iI jo.nd (pQ (w8 (k:=0) (yo (pQ (w8 (k:=0) xg)) xg))))
  (ze (vh (vi (za 0 0)) (mY jo.nd) (zf (iI jo.nd (pQ (nP (za 1 0) (XO.sh (n:=0) (DW (N:=["chosen","wait"]) (om:=[.ow 0]) (cap:=[2]) (own:=1) (IY (n:=0) (za 1 0)) (λ_ _ _ _ _=>(pf (show cY (["chosen","wait"]:List aK)from by decide +kernel))) (λ_ _ _ _ _=>zF) (λ_ _ _ _ _=>(pQ (nP (za 0 0) (XO.sh (n:=0) (w8 (k:=0) (yo (XE.ow (za 1 0)) xg)))))))))))) cn.never rfl)
  (zf (yn (pQ (Um rfl T.b_sorted rfl T.b_len (za 1 0)))))))
def wd:List D->Option D:=mOf ["table","puts","going","beat","without"]
  (sRet (e2 pR (e2 ip (e2 ip (λρ=>((aCons (eV 0) (aCons (e2 fC (eV 3) (eC (.int 1))) (aCons (eV 1) (aCons (eV 4) aNil)))) ρ).bind λds=>Fp (ds++[])) (eV 3)) (eV 2)) (eC (.int 0))))
theorem Lz (T:Txt K mg a):cB P w K mg base eW 4 a.f_is_late a.d_is_late ["table","puts","going","beat","without"] (il K a.ct [0,0,0,0,0] 0 wd):=by
 have uX:=VY (P:=P) (w:=w) (base:=base) T
 have zU:=T.late_d1.choose_spec
 refine kW (ms:=[.ow 0,.ow 0,.ow 0,.ow 0,.ow 0]) T.is_late.fn Sj λ_ _ _ _ _ _ hr=>?_
 exact(zf (yn (XE.ow (j9 (k:=0) tK qk (rZ (rZ (XO.sh (n:=0) (d9 T.late uX hr (zc (za 0 0) (zc (XO.sh (n:=0) (nP (za 3 0) dN)) (zc (za 1 0) (zc (za 4 0) zh)))))) (za 3 0)) (za 2 0)) dN (cr _)))))
theorem Rl (T:Txt K mg a):cB P w K mg base eW 1 a.f_TooMany___init a.d_TooMany___init ["self","many"] (pN "many" a.c_TooMany) :=
 TR (kk:=0) T.TooMany___init.fn Rk T.xc_TooMany T.xs_TooMany λgx A outer s H E=>⟨_,λ_ _ _ _ h1 h2 h3=>Q9 h1 h2 h3,IM (Fd (TZ (B:=a.c_BeatError) rfl T.xm_BeatError T.xq.1 T.xq.2.1 T.xq.2.2 (uv (i:=0) rfl (Or.inl rfl)) (UI (Mg T3 (Mg (X2 (uv (i:=1) rfl (Or.inl rfl))) UH))))) (Jg (UG (uv (i:=0) rfl (Or.inl rfl)) (uv (i:=1) rfl (Or.inl rfl))))⟩
def wl:SF:=(sIf (bNot (tb (λρ=>((aCons (eV 0) (aCons (eV 1) (aCons (eV 2) (aCons (eV 3) (aCons (eV 5) aNil))))) ρ).bind λds=>wd (ds++[])))) (sRet (eV 5)) sSkip)
def vt:EF:=(fD (λρ=>((aCons (e1 (cC [4] "arrows") (e1 (cC [5] "net") (eV 0))) aNil) ρ).bind λds=>match ds with|[.lst xs]=>some (eD 0 xs)|_=>none) 2 [] (gT (gsCons (gV 0) (gsCons (gV 1) gsNil))) (tb (λρ=>((λρ=>((eV 1) ρ).bind λo=>hR 1 "may_drop" vo o []) ρ).or ((λρ=>((λρ=>((eV 1) ρ).bind λo=>hR 2 "may_drop" vp o []) ρ).or ((λρ=>((eV 1) ρ).bind λo=>hR 3 "may_drop" vq o []) ρ)) ρ))) (eV 0))
def wz:List D->Option D:=mOf ["table","puts","going","beat","waits","chosen"]
  (sSeq (sSet 4 vt)
  (sSeq (sIf (tb (e2 pR (eN eO (aCons (eV 4) aNil)) (eC (.int 8)))) kF sSkip)
  (sSeq (sIf (tb (λρ=>((aCons (eV 0) (aCons (eV 1) (aCons (eV 2) (aCons (eV 3) (aCons (eV 4) aNil))))) ρ).bind λds=>wd (ds++[]))) (sRet (eC .non)) sSkip)
  (sSeq (sFor (lsD (λρ=>((aCons (eV 4) aNil) ρ).bind λds=>jc (ds++[]))) (gV 5) wl)
  (sRet (eC .non))))))
theorem LA (T:Txt K mg a):cB P w K mg base eW 5 a.f_give_up a.d_give_up ["table","puts","going","beat"] (il K a.ct [0,0,0,0] 0 wz):=by
 have fY:=u0 (P:=P) (w:=w) (base:=base) T
 have fZ:=u3 (P:=P) (w:=w) (base:=base) T
 have fX:=u4 (P:=P) (w:=w) (base:=base) T
 have gQ:=Lz (P:=P) (w:=w) (base:=base) T
 have kD:=Lv (P:=P) (w:=w) (base:=base) T
 refine kW (ms:=[.ow 0,.ow 0,.ow 0,.ow 0,.ow 0,.ow 0]) T.give_up.fn vf λ_ _ _ _ _ _ hr=>?_
 exact(ze (ve (k:=0) (N:=["number","arrow"]) (om:=[.ow 0,.ow 0]) (cap:=[]) (own:=2) rfl vf.nd rfl (Or.inl rfl) (yG (by rfl)) rfl rfl (by decide) (IH (n:=0) T.b_enumerate (zc (yp (n:=0) (yp (n:=0) (za 0 0) T.fld_net rfl) T.fld_arrows rfl) zh)) (λ_ _ _ _ _=>(Jd (n:=1) rfl (uc (pf (show cY (["number","arrow"]:List aK)from by decide +kernel)) (uc (pf (show cY (["number","arrow"]:List aK)from by decide +kernel)) IX)))) (λ_ _ _ _ _=>(DL (wf (XO.sh (n:=0) (Ft (vz (n:=0) (c0:=1) (nd:=[]) (iP:=[]) (za 1 0) T.Ride.cl T.Ride_may_drop.me fY (hr.mono (by decide)) T.Ride_may_drop.bd .nil (λ_ _=>.nil)) (Ft (vz (n:=0) (c0:=2) (nd:=[]) (iP:=[]) (za 1 0) T.Wait.cl T.Wait_may_drop.me fZ (hr.mono (by decide)) T.Wait_may_drop.bd .nil (λ_ _=>.nil)) (vz (n:=0) (c0:=3) (nd:=[]) (iP:=[]) (za 1 0) T.Back.cl T.Back_may_drop.me fX (hr.mono (by decide)) T.Back_may_drop.bd .nil (λ_ _=>.nil)))))))) (λ_ _ _ _ _=>(XE.ow (za 0 0))))
  (ze (wx (xi (k:=0) tK qk (nw T.b_len (zc (za 4 0) zh)) (jz (n:=0) (d:=(.int 8)) rfl T.g_MOST_WAITS.choose_spec rfl ⟨_,rfl⟩) (cr _)) (zf qf) yu)
  (ze (wx (wf (XO.sh (n:=0) (d9 T.is_late gQ hr (zc (za 0 0) (zc (za 1 0) (zc (za 2 0) (zc (za 3 0) (zc (za 4 0) zh)))))))) (zf (yn (XE.ow tJ))) yu)
  (ze (vh (vi (XO.sh (n:=0) (d9 T.sets_of kD hr (zc (za 4 0) zh)))) (mY vf.nd) (zf (wx (ub (wf (XO.sh (n:=0) (d9 T.is_late gQ hr (zc (za 0 0) (zc (za 1 0) (zc (za 2 0) (zc (za 3 0) (zc (za 5 0) zh))))))))) (zf (yn (XE.ow (za 5 0)))) yu)) cn.never rfl)
  (zf (yn (XE.ow tJ)))))))
def jd:EF:=(fD (λρ=>((aCons (e1 (cC [4] "arrows") (e1 (cC [5] "net") (eV 0))) aNil) ρ).bind λds=>match ds with|[.lst xs]=>some (eD 0 xs)|_=>none) 2 [] (gT (gsCons (gV 0) (gsCons (gV 1) gsNil))) (tb (λρ=>((λρ=>((eV 1) ρ).bind λo=>hR 1 "may_drop" vo o []) ρ).or ((λρ=>((λρ=>((eV 1) ρ).bind λo=>hR 2 "may_drop" vp o []) ρ).or ((λρ=>((eV 1) ρ).bind λo=>hR 3 "may_drop" vq o []) ρ)) ρ))) (eV 0))
def RZ:SF:=(sIf (bNot (tb (λρ=>((aCons (eV 0) (aCons (eV 1) (aCons (eV 2) (aCons (eV 3) (aCons (eV 5) aNil))))) ρ).bind λds=>wd (ds++[])))) (sRet (eV 5)) sSkip)
def jq:List D->Option nJ:=mOfX ["table","puts","going","beat","waits","chosen"]
  (sSeqX (xOf (sSet 4 jd))
  (sSeqX (sIfX (tb (e2 pR (eN eO (aCons (eV 4) aNil)) (eC (.int 8)))) (sRaise (λρ=>((eN eO (aCons (eV 4) aNil)) ρ).bind λd=>(oH d).bind λd=>some (.exc 11 ["many"] [d]))) (xOf sSkip))
  (xOf (sSeq (sIf (tb (λρ=>((aCons (eV 0) (aCons (eV 1) (aCons (eV 2) (aCons (eV 3) (aCons (eV 4) aNil))))) ρ).bind λds=>wd (ds++[]))) (sRet (eC .non)) sSkip)
  (sSeq (sFor (lsD (λρ=>((aCons (eV 4) aNil) ρ).bind λds=>jc (ds++[]))) (gV 5) RZ)
  (sRet (eC .non)))))))
theorem Sd (T:Txt K mg a):cB P w K mg base (tP P w) 5 a.f_give_up a.d_give_up ["table","puts","going","beat"] (pL K a.ct [0,0,0,0] 0 jq):=by
 have kB:=Rl (P:=P) (w:=w) (base:=base) T
 have fY:=u0 (P:=P) (w:=w) (base:=base) T
 have fZ:=u3 (P:=P) (w:=w) (base:=base) T
 have fX:=u4 (P:=P) (w:=w) (base:=base) T
 have gQ:=Lz (P:=P) (w:=w) (base:=base) T
 have kD:=Lv (P:=P) (w:=w) (base:=base) T
 refine Ct (ms:=[.ow 0,.ow 0,.ow 0,.ow 0,.ow 0,.ow 0]) T.give_up.fn vf rfl rfl (by decide) (w9 (by decide)) λ_ _ _ _ _ _ hr=>?_
 exact(LH (Xh (ve (k:=0) (N:=["number","arrow"]) (om:=[.ow 0,.ow 0]) (cap:=[]) (own:=2) rfl vf.nd rfl (Or.inl rfl) (yG (by rfl)) rfl rfl (by decide) (IH (n:=0) T.b_enumerate (zc (yp (n:=0) (yp (n:=0) (za 0 0) T.fld_net rfl) T.fld_arrows rfl) zh)) (λ_ _ _ _ _=>(Jd (n:=1) rfl (uc (pf (show cY (["number","arrow"]:List aK)from by decide +kernel)) (uc (pf (show cY (["number","arrow"]:List aK)from by decide +kernel)) IX)))) (λ_ _ _ _ _=>(DL (wf (XO.sh (n:=0) (Ft (vz (n:=0) (c0:=1) (nd:=[]) (iP:=[]) (za 1 0) T.Ride.cl T.Ride_may_drop.me fY (hr.mono (by decide)) T.Ride_may_drop.bd .nil (λ_ _=>.nil)) (Ft (vz (n:=0) (c0:=2) (nd:=[]) (iP:=[]) (za 1 0) T.Wait.cl T.Wait_may_drop.me fZ (hr.mono (by decide)) T.Wait_may_drop.bd .nil (λ_ _=>.nil)) (vz (n:=0) (c0:=3) (nd:=[]) (iP:=[]) (za 1 0) T.Back.cl T.Back_may_drop.me fX (hr.mono (by decide)) T.Back_may_drop.bd .nil (λ_ _=>.nil)))))))) (λ_ _ _ _ _=>(XE.ow (za 0 0)))))
  (LH (WJ (xi (k:=0) tK qk (nw T.b_len (zc (za 4 0) zh)) (jz (n:=0) (d:=(.int 8)) rfl T.g_MOST_WAITS.choose_spec rfl ⟨_,rfl⟩) (cr _)) (Mc (Tl rfl SS (TQ (c0:=11) (fn:="many") T.xc_TooMany T.xk_TooMany T.TooMany___init.me.at_ T.TooMany___init.me.fn kB (hr.mono (by decide)) T.xm_TooMany T.TooMany___init.bd (nw T.b_len (zc (za 4 0) zh))))) (MW yu))
  (MW (ze (wx (wf (XO.sh (n:=0) (d9 T.is_late gQ hr (zc (za 0 0) (zc (za 1 0) (zc (za 2 0) (zc (za 3 0) (zc (za 4 0) zh)))))))) (zf (yn (XE.ow tJ))) yu)
  (ze (vh (vi (XO.sh (n:=0) (d9 T.sets_of kD hr (zc (za 4 0) zh)))) (mY vf.nd) (zf (wx (ub (wf (XO.sh (n:=0) (d9 T.is_late gQ hr (zc (za 0 0) (zc (za 1 0) (zc (za 2 0) (zc (za 3 0) (zc (za 5 0) zh))))))))) (zf (yn (XE.ow (za 5 0)))) yu)) cn.leaving rfl)
  (zf (yn (XE.ow tJ))))))))
def we:List D->Option D:=mOf ["_law_script","_law_k"]
  (sSeq (sIf (tb (e2 sv (eV 1) (eN eO (aCons (eV 0) aNil)))) (sRet (e2 ip (eV 0) (eV 1))) sSkip)
  (sRet (eC (.int 0))))
theorem RB (T:Txt K mg a):cB P w K mg base eW 1 a.f_law_cell_at a.d_law_cell_at ["_law_script","_law_k"] (il K a.ct [0,0] 0 we):=by
 refine kW (ms:=[.ow 0,.ow 0]) T.law_cell_at.fn Rx λ_ _ _ _ _ _ hr=>?_
 exact(ze (wx (xi (k:=0) zQ zM (za 1 0) (nw T.b_len (zc (za 0 0) zh)) (cr _)) (zf (yn (XE.ow (rZ (za 0 0) (za 1 0))))) yu)
  (zf (yn (XE.ow dN))))
def xp:List D->Option D:=mOf ["_law_cell","_law_k","_law_number"]
  (sSeq (sIf (bAnd (tb (e2 GI (eV 0) (e2 tw (eC (.int 1)) (eC (.int 90))))) (bAnd (tb (e2 (n6 false) (e2 fR (eV 0) (eC (.int 2))) (eC (.int 1)))) (tb (e2 pR (e2 pX (eV 0) (e2 fC (eC (.int 1)) (e2 hU (eC (.int 31)) (eV 1)))) (eC (.int 0)))))) (sRet (e2 fR (e2 pX (eV 0) (e2 fC (eC (.int 1)) (e2 hU (eC (.int 31)) (eV 1)))) (eC (.int 2147483648)))) sSkip)
  (sSeq (sSet 2 (e2 fR (e2 hU (e2 fC (e2 fC (eV 0) (e2 hU (eC (.int 7919)) (eV 1))) (eC (.int 1))) (eC (.int 48271))) (eC (.int 2147483647))))
  (sSeq (sSet 2 (e2 fR (e2 hU (eV 2) (e2 fC (e2 kh (eV 2) (eC (.int 1009))) (eC (.int 69621)))) (eC (.int 2147483647))))
  (sRet (e2 fR (e2 hU (eV 2) (e2 fC (e2 fC (e2 kh (eV 2) (eC (.int 2003))) (eC (.int 39373))) (eV 1))) (eC (.int 2147483629)))))))
theorem R0 (T:Txt K mg a):cB P w K mg base eW 1 a.f_law_mixed a.d_law_mixed ["_law_cell","_law_k"] (il K a.ct [0,0] 0 xp):=by
 refine kW (ms:=[.ow 0,.ow 0,.ow 0]) T.law_mixed.fn u9 λ_ _ _ _ _ _ hr=>?_
 exact(ze (wx (XW.t (Jo (xi (k:=0) X0 W6 (za 0 0) (xt (k:=0) WB Vx dN dN) (cr _)) (Jo (xi (k:=0) (j7 hr.u64) ql (xt (k:=0) wa wc (za 0 0) dN) dN (cr _)) (MQ (xi (k:=0) tK qk (xt (k:=0) Ni MS (za 0 0) (XO.sh (n:=0) (nP dN (xt (k:=0) jy uk dN (za 1 0))))) dN (cr _)))))) (zf (yn (XE.ow (xt (k:=0) wa wc (xt (k:=0) Ni MS (za 0 0) (XO.sh (n:=0) (nP dN (xt (k:=0) jy uk dN (za 1 0))))) dN)))) yu)
  (ze (iI u9.nd (XE.ow (xt (k:=0) wa wc (xt (k:=0) jy uk (XO.sh (n:=0) (nP (XO.sh (n:=0) (nP (za 0 0) (xt (k:=0) jy uk dN (za 1 0)))) dN)) dN) dN)))
  (ze (iI u9.nd (XE.ow (xt (k:=0) wa wc (xt (k:=0) jy uk (za 2 0) (XO.sh (n:=0) (nP (xt (k:=0) j6 qj (za 2 0) dN) dN))) dN)))
  (zf (yn (XE.ow (xt (k:=0) wa wc (xt (k:=0) jy uk (za 2 0) (XO.sh (n:=0) (nP (XO.sh (n:=0) (nP (xt (k:=0) j6 qj (za 2 0) dN) dN)) (za 1 0)))) dN)))))))
def wp:List D->Option D:=mOf ["_law_table","_law_puts","_law_going","_law_beat","_law_many","_law_error","e","_law_told"]
  (sSeq (sSet 5 (eC .non))
  (sSeq (sTry (sDropX (λρ=>((aCons (eV 0) (aCons (eV 1) (aCons (eV 2) (aCons (eV 3) aNil)))) ρ).bind λds=>jq (ds++[]))) (thD (hitL [11] [11]) (some 6) (sSet 5 (eV 6)) (λ_ _ _=>none)))
  (sSeq (sIf (bOr (bNot (tb (e1 (isiX [11] [11]) (eV 5)))) (bNot (tb (e1 (isiX [11] [11]) (eV 5))))) (sRet (eC (.bl false))) sSkip)
  (sSeq (sIf (tb (e1 (isiX [11] []) (eV 5))) (sRet (eC (.bl false))) sSkip)
  (sSeq (sSet 7 (e1 (fldX [11] "many") (eV 5)))
  (sRet (eB (bAnd (tb (e1 (jQ "int") (eV 7))) (bAnd (tb (eB (bNot (tb (e1 (jQ "bool") (eV 7)))))) (tb (e2 (n6 false) (eV 7) (eV 4))))))))))))
theorem Rq (T:Txt K mg a):cB P w K mg base eW 6 a.f_law_refused a.d_law_refused ["_law_table","_law_puts","_law_going","_law_beat","_law_many"] (il K a.ct [0,0,0,0,0] 0 wp):=by
 have oy:=Sd (P:=P) (w:=w) (base:=base) T
 have kC:=LA (P:=P) (w:=w) (base:=base) T
 refine kW (ms:=[.ow 0,.ow 0,.ow 0,.ow 0,.ow 0,.ow 0,.ow 0,.ow 0]) T.law_refused.fn wg λ_ _ _ _ _ _ hr=>?_
 exact(ze (iI wg.nd (XE.ow tJ))
  (ze (WL (λE ah G h1 h2=>(Mc (TL (TN (iP:=[]) (ns:=[0,0,0,0]) (nd:=[]) h2 oy (hr.mono (by decide)) rfl T.give_up.mgx T.give_up.fn.kp T.give_up.bd .nil (λ_ _=>.nil) (zc (za 0 0) (zc (za 1 0) (zc (za 2 0) (zc (za 3 0) zh)))))))) (WK (i:=6) wg.nd rfl rfl T.xm_BeatError (WO T.hh_BeatError) (λa=>(zf (iI wg.nd (XE.ow (za 6 0))))) VT))
  (ze (wx (XW.t (sy (ub (wf (WM (k:=0) T.isx_1.1 T.isx_1.2 T.b_isinstance T.xm_TooMany (za 5 0)))) (uT (ub (wf (VV (k:=0) T.isx_2.1 T.isx_2.2 T.b_isinstance T.b_ValueError (za 5 0))))))) (zf (yn (XE.ow (q0 (n:=0))))) yu)
  (ze (wx (wf (VX (hlen:=Nat.le_of_ble_eq_true rfl) (k:=0) (cs:=[a.c_BadNet,a.c_Stuck,a.c_Loose,a.c_NoFit,a.c_Unlike,a.c_NoRow,a.c_BadName]) T.isx_0.1 T.isx_0.2 T.b_isinstance (um T.xm_BadNet (um T.xm_Stuck (um T.xm_Loose (um T.xm_NoFit (um T.xm_Unlike (um T.xm_NoRow (um T.xm_BadName VW))))))) (za 5 0))) (zf (yn (XE.ow (q0 (n:=0))))) yu)
  (ze (iI wg.nd (XE.ow (VU (k:=0) (za 5 0) T.xat_many rfl)))
  (zf (yn (XE.ow (uV (yH (k:=0) (by decide) T.b_isinstance T.b_int Nm (za 7 0)) (uV (W4 (k:=0) (yH (k:=0) (by decide) T.b_isinstance T.b_bool Mz (za 7 0))) (uU (k:=0) (j9 (k:=0) (j7 hr.u64) ql (za 7 0) (za 4 0) (cr _)))))))))))))
def zI:SF:=(sApp 8 (λρ=>((aCons (e2 fR (λρ=>((aCons (eV 9) (aCons (eC (.int 1)) aNil)) ρ).bind λds=>xp (ds++[])) (eV 2)) (aCons (e2 fR (λρ=>((aCons (eV 9) (aCons (eC (.int 2)) aNil)) ρ).bind λds=>xp (ds++[])) (eC (.int 3))) (aCons (e2 fR (eV 9) (eC (.int 20))) aNil))) ρ).bind λds=>some (.tup ds)))
def Fb:EF:=(fD (λρ=>((aCons (eV 2) aNil) ρ).bind i8) 1 [] (gV 0) kd (e2 ip (eC (.str "abcde")) (eV 0)))
def j4:SF:=(sSeq (sSet 6 (e2 fR (λρ=>((aCons (eV 1) (aCons (e2 fC (eC (.int 10)) (eV 5)) aNil)) ρ).bind λds=>xp (ds++[])) (eV 2)))
  (sSeq (sApp 4 (λρ=>((aCons (eV 6) (aCons (e2 fR (λρ=>((aCons (eV 1) (aCons (e2 fC (eC (.int 50)) (eV 5)) aNil)) ρ).bind λds=>xp (ds++[])) (eV 2)) (aCons (e2 fR (λρ=>((aCons (eV 1) (aCons (e2 fC (eC (.int 90)) (eV 5)) aNil)) ρ).bind λds=>xp (ds++[])) (eC (.int 11))) (aCons (eC (.int 1)) aNil)))) ρ).bind λds=>uo 2 (ds++[])))
  (sIf (tb (e2 (n6 false) (e2 fR (λρ=>((aCons (eV 1) (aCons (e2 fC (eC (.int 130)) (eV 5)) aNil)) ρ).bind λds=>xp (ds++[])) (eC (.int 3))) (eC (.int 0)))) (sApp 4 (λρ=>((aCons (eV 6) (aCons (eV 6) (aCons (eC (.int 3)) aNil))) ρ).bind λds=>uq 3 (ds++[(.int 1)]))) sSkip)))
def Fv:List D->Option D:=mOf ["_law_script","_law_cell","_law_many","_law_waits","_law_arrows","_law_k","_law_start","_law_table","_law_puts","_law_one","_law_going","_law_beat","_law_found"]
  (sSeq (sSet 1 (λρ=>((aCons (eV 0) (aCons (eC (.int 0)) aNil)) ρ).bind λds=>we (ds++[])))
  (sSeq (sSet 2 (e2 fC (eC (.int 1)) (e2 fR (eV 1) (eC (.int 5)))))
  (sSeq (sSet 3 (e2 ip (λρ=>((aCons (e2 fR (e2 kh (eV 1) (eC (.int 5))) (eC (.int 31))) (aCons (eC (.int 7)) (aCons (eC (.int 8)) (aCons (eC (.int 9)) aNil)))) ρ).bind λds=>some (.lst ds)) (e2 fR (e2 kh (eV 1) (eC (.int 155))) (eC (.int 4)))))
  (sSeq (sSet 4 (λρ=>(aNil ρ).bind λds=>some (.lst ds)))
  (sSeq (sFor (λρ=>((aCons (eV 3) aNil) ρ).bind i8) (gV 5) j4)
  (sFz 4 (sSeq (sSet 7 (λρ=>((aCons (λρ=>((aCons Fb (aCons (eV 4) aNil)) ρ).bind λds=>v7 4 (ds++[])) (aCons (e2 kl (λρ=>((aCons (eC (.int 0)) aNil) ρ).bind λds=>some (.lst ds)) (eV 2)) (aCons (eC (.int 10)) aNil))) ρ).bind λds=>wv 5 (ds++[])))
  (sSeq (sSet 8 (λρ=>(aNil ρ).bind λds=>some (.lst ds)))
  (sSeq (sFor (lsD (λρ=>((eV 0) ρ).bind λd=>((pInt (eC (.int 2))) ρ).bind λl=>((pInt (eC (.int 6))) ρ).bind λh=>jR d l h)) (gV 9) zI)
  (sFz 8 (sSeq (sSet 10 (e2 fR (λρ=>((aCons (eV 0) (aCons (eC (.int 1)) aNil)) ρ).bind λds=>we (ds++[])) (eV 2)))
  (sSeq (sSet 11 (e2 fR (e2 kh (λρ=>((aCons (eV 0) (aCons (eC (.int 1)) aNil)) ρ).bind λds=>we (ds++[])) (eC (.int 5))) (eC (.int 3))))
  (sSeq (sIf (tb (e2 pR (eV 3) (eC (.int 8)))) (sRet (eB (bAnd (tb (λρ=>((aCons (eV 7) (aCons (eV 8) (aCons (eV 10) (aCons (eV 11) (aCons (eV 3) aNil))))) ρ).bind λds=>wp (ds++[]))) (tb (λρ=>((aCons (eV 7) (aCons (λρ=>(aNil ρ).bind λds=>some (.lst ds)) (aCons (eV 10) (aCons (eV 11) (aCons (eV 3) aNil))))) ρ).bind λds=>wp (ds++[])))))) sSkip)
  (sSeq (sSet 12 (λρ=>((aCons (eV 7) (aCons (eN jG (aCons (eV 8) aNil)) (aCons (eV 10) (aCons (eV 11) aNil)))) ρ).bind λds=>wz (ds++[])))
  (sSeq (sIf (bAnd (tb (e2 (qO true) (eV 12) (eC .non))) (bOr (bNot (tb (e1 (jQ "list") (eV 12)))) (tb (e2 pR (eN eO (aCons (eV 12) aNil)) (eV 3))))) (sRet (eC (.bl false))) sSkip)
  (sRet (e2 (n6 false) (λρ=>((aCons (eV 7) (aCons (λρ=>(aNil ρ).bind λds=>some (.lst ds)) (aCons (eV 10) (aCons (eV 11) aNil)))) ρ).bind λds=>wz (ds++[])) (λρ=>(aNil ρ).bind λds=>some (.lst ds)))))))))))))))))))
theorem WP (T:Txt K mg a):cB P w K mg base eW 7 a.f_law a.d_law ["_law_script"] (il K a.ct [0] 0 Fv):=by
 have gM:=RB (P:=P) (w:=w) (base:=base) T
 have eR:=R0 (P:=P) (w:=w) (base:=base) T
 have my:=Ry (P:=P) (w:=w) (base:=base) T
 have qI:=T.Wait___init_d1.choose_spec
 have mw:=Rz (P:=P) (w:=w) (base:=base) T
 have ig:=T.Back___init_d1.choose_spec
 have lG:=Rt (P:=P) (w:=w) (base:=base) T
 have m6:=RD (P:=P) (w:=w) (base:=base) T
 have jB:=Rq (P:=P) (w:=w) (base:=base) T
 have kC:=LA (P:=P) (w:=w) (base:=base) T
 refine kW (ms:=[.ow 0,.ow 0,.ow 0,.ow 0,.ow 1,.ow 0,.ow 0,.ow 0,.ow 1,.ow 0,.ow 0,.ow 0,.ow 0]) T.law.fn ue λ_ _ _ _ _ _ hr=>?_
 exact(ze (iI ue.nd (d9 T.law_cell_at gM hr (zc (za 0 0) (zc dN zh))))
  (ze (iI ue.nd (pQ (nP dN (xt (k:=0) wa wc (za 1 0) dN))))
  (ze (iI ue.nd (XE.ow (rZ (XO.sh (n:=0) (w8 (k:=0) (yo (XE.ow (xt (k:=0) wa wc (xt (k:=0) j6 qj (za 1 0) dN) dN)) (yo (XE.ow dN) (yo (XE.ow dN) (yo (XE.ow dN) xg)))))) (xt (k:=0) wa wc (xt (k:=0) j6 qj (za 1 0) dN) dN))))
  (ze (iI ue.nd (w8 (k:=0) xg))
  (ze (vh (vk (n:=0) T.b_range (zc (za 3 0) zh)) (mY ue.nd) (ze (iI ue.nd (XE.ow (xt (k:=0) wa wc (XO.sh (n:=0) (d9 T.law_mixed eR hr (zc (za 1 0) (zc (XO.sh (n:=0) (nP dN (za 5 0))) zh)))) (za 2 0))))
  (ze (ud 4 rfl (pQ (Fa (c0:=2) (iP:=[]) (ns:=[0,0,0,0]) (nd:=[]) ⟨T.Wait.mks,T.Wait___init.me.at_,T.Wait___init.me.fn,T.Wait.kp⟩ (by decide) my (hr.mono (by decide)) rfl T.Wait.mgx T.Wait___init.bd .nil (λ_ _=>.nil) (zc (za 6 0) (zc (xt (k:=0) wa wc (XO.sh (n:=0) (d9 T.law_mixed eR hr (zc (za 1 0) (zc (XO.sh (n:=0) (nP dN (za 5 0))) zh)))) (za 2 0)) (zc (xt (k:=0) wa wc (XO.sh (n:=0) (d9 T.law_mixed eR hr (zc (za 1 0) (zc (XO.sh (n:=0) (nP dN (za 5 0))) zh)))) dN) (zc dN zh)))))))
  (zf (wx (xi (k:=0) (j7 hr.u64) ql (xt (k:=0) wa wc (XO.sh (n:=0) (d9 T.law_mixed eR hr (zc (za 1 0) (zc (XO.sh (n:=0) (nP dN (za 5 0))) zh)))) dN) dN (cr _)) (zf (ud 4 rfl (pQ (Fa (c0:=3) (iP:=[(.int 1)]) (ns:=[0,0,0]) (nd:=[0]) ⟨T.Back.mks,T.Back___init.me.at_,T.Back___init.me.fn,T.Back.kp⟩ (by decide) mw (hr.mono (by decide)) rfl T.Back.mgx (ig).2.2 (ig).2.1 (λ_ _=>(.cons (Al.of (.int _)) .nil)) (zc (za 6 0) (zc (za 6 0) (zc dN zh))))))) yu)))) cn.never rfl)
  (Ju (i:=4) rfl (ze (iI ue.nd (pQ (Fa (c0:=5) (iP:=[]) (ns:=[0,0,0]) (nd:=[]) ⟨T.Table.mks,T.Table___init.me.at_,T.Table___init.me.fn,T.Table.kp⟩ (by decide) lG (hr.mono (by decide)) rfl T.Table.mgx T.Table___init.bd .nil (λ_ _=>.nil) (zc (XO.sh (n:=0) (Fa (c0:=4) (iP:=[]) (ns:=[0,0]) (nd:=[]) ⟨T.Net.mks,T.Net___init.me.at_,T.Net___init.me.fn,T.Net.kp⟩ (by decide) m6 (hr.mono (by decide)) rfl T.Net.mgx T.Net___init.bd .nil (λ_ _=>.nil) (zc (XO.sh (n:=0) (DW (N:=["_law_k"]) (om:=[.ow 0]) (cap:=[]) (own:=1) (XI.cc (vk (n:=0) T.b_range (zc (za 2 0) zh))) (λ_ _ _ _ _=>(pf (show cY (["_law_k"]:List aK)from by decide +kernel))) (λ_ _ _ _ _=>zF) (λ_ _ _ _ _=>(XE.ow (rZ (DP (n:=0)) (za 0 0)))))) (zc (za 4 0) zh)))) (zc (XO.sh (n:=0) (Fo (w8 (k:=0) (yo (XE.ow dN) xg)) (za 2 0))) (zc dN zh))))))
  (ze (iI ue.nd (w8 (k:=0) xg))
  (ze (vh (vi (XO.sh (n:=0) (Mn (n:=0) (by decide) (za 0 0) (Je dN) (Je dN)))) (mY ue.nd) (zf (ud 8 rfl (pQ (DQ (yo (XE.ow (xt (k:=0) wa wc (XO.sh (n:=0) (d9 T.law_mixed eR hr (zc (za 9 0) (zc dN zh)))) (za 2 0))) (yo (XE.ow (xt (k:=0) wa wc (XO.sh (n:=0) (d9 T.law_mixed eR hr (zc (za 9 0) (zc dN zh)))) dN)) (yo (XE.ow (xt (k:=0) wa wc (za 9 0) dN)) xg))))))) cn.never rfl)
  (Ju (i:=8) rfl (ze (iI ue.nd (XE.ow (xt (k:=0) wa wc (XO.sh (n:=0) (d9 T.law_cell_at gM hr (zc (za 0 0) (zc dN zh)))) (za 2 0))))
  (ze (iI ue.nd (XE.ow (xt (k:=0) wa wc (xt (k:=0) j6 qj (XO.sh (n:=0) (d9 T.law_cell_at gM hr (zc (za 0 0) (zc dN zh)))) dN) dN)))
  (ze (wx (xi (k:=0) tK qk (za 3 0) dN (cr _)) (zf (yn (XE.ow (uV (XO.sh (n:=0) (d9 T.law_refused jB hr (zc (za 7 0) (zc (za 8 0) (zc (za 10 0) (zc (za 11 0) (zc (za 3 0) zh))))))) (uU (k:=0) (XO.sh (n:=0) (d9 T.law_refused jB hr (zc (za 7 0) (zc (XO.sh (n:=0) (w8 (k:=0) xg)) (zc (za 10 0) (zc (za 11 0) (zc (za 3 0) zh)))))))))))) yu)
  (ze (iI ue.nd (d9 T.give_up kC hr (zc (za 7 0) (zc (XO.sh (n:=0) (qd vv (E8 (n:=0) (by decide)) rfl T.b_list qw (zc (za 8 0) zh))) (zc (za 10 0) (zc (za 11 0) zh))))))
  (ze (wx (XW.t (Jo (xi (k:=0) Ug S7 (za 12 0) tJ (cr _)) (MQ (XW.t (sy (ub (wf (yH (k:=0) (by decide) T.b_isinstance T.b_list qw (za 12 0)))) (uT (xi (k:=0) tK qk (nw T.b_len (zc (za 12 0) zh)) (za 3 0) (cr _)))))))) (zf (yn (XE.ow (q0 (n:=0))))) yu)
  (zf (yn (XE.ow (j9 (k:=0) (j7 hr.u64) ql (XO.sh (n:=0) (d9 T.give_up kC hr (zc (za 7 0) (zc (XO.sh (n:=0) (w8 (k:=0) xg)) (zc (za 10 0) (zc (za 11 0) zh)))))) (XO.sh (n:=0) (w8 (k:=0) xg)) (cr _))))))))))))))))))))
end
local macro_rules| `(tactic|walk_at "mir")=>`(tactic|simp -implicitDefEqProofs [mOf,startD,sSeq,sIf,sSet,sRet,sRetN,sDrop,sPar,sAsg,sApp,sFor,lsD,zi2,sSkip,eV,eC,e1,e2,eN,aNil,aCons,pNo,pInt,jm,tb,zmb,bNot,bAnd,bOr,eB,eIf,gV,gT,gsCons,gsNil,zfz,zf0,zix,ziy,ziz,zi0,jl,zf2,zf1,zf3,zi1,zma,D.isN,D.isB,zi4,zmc,zdz,ul,zbi,ziw,zfx,zfy,zc2,jm,zbj,zd0,sFz,zf7,zf8, *])
def gu (n:Nat)(f:Nat->Int):List D:=(bC n).map λg=>D.int (f g)
theorem VZ (n:Nat)(f:Nat->Int):(gu n f).length=n:=by simp[gu]
theorem DR {n:Nat}(f:Nat->Int){g:Nat}(h:g<n):atI (gu n f) (g:Int)=some (.int (f g)):=by
 refine jx ?_
 simp[gu,h]
theorem V0 {n:Nat}(f:Nat->Int){g:Nat}(h:g<n)(v:Int):lW (gu n f) (g:Int) (.int v)=some (gu n λx=>if x=g then v else f x):=by
 unfold lW
 have hx:ixN (gu n f).length (g:Int)=some g:=by
  unfold ixN
  rw[VZ]
  rw[if_pos (by omega),if_pos (by omega)]
  simp
 rw[hx]
 simp only[bw,Option.some.injEq]
 apply hE
 ·simp[gu]
 ·intro i h1 h2
  simp[gu,li]
  by_cases hi:g=i
  ·subst hi;simp
  ·rw[if_neg hi,if_neg (λz=>hi z.symm)]
theorem MZ {i:Nat}{fj f:EF}{gi:Int->Int->Int}{ρ:L3.Env}{n g:Nat}{w:Nat->Int}{y:Int}(h1:(ρ[i]?).join=some (.lst (gu n w)))(h2:fj ρ=some (.int (g:Int)))(h3:f ρ=some (.int y))(hg:g<n) :
  nN i fj gi f ρ=some (.nx (ρ.set i (some (.lst (gu n λx=>if x=g then gi (w g) y else w x))))):=by
 unfold nN
 have:eV i ρ=some (.lst (gu n w)):=h1
 rw[this,h2,h3]
 simp only[bw,DR w hg,V0 w hg]
def aW (p:List Nat):List D:=p.map λ(x:Nat)=>D.int (x:Int)
theorem Fs {f:EF}{r:L3.Env}{n:Nat}(h:f r=some (.int (n:Int)))(hn:n<=1000000):((aCons f aNil) r).bind i8=some ((bC n).map λ(t:Nat)=>D.int (t:Int)):=by
 have e:(aCons f aNil) r=some [.int (n:Int)]:=by unfold aCons;rw[h];rfl
 rw[e,bw,E9 (by omega) (by omega)]
 unfold kG
 simp
theorem DM {α:Type}{fi:L3.Env->Option (List D)}{own:Nat}{cap:List Nat}{g:D->L3.Env->Option L3.Env}{p:BF}{f:EF}{r:L3.Env}(enc:α->D)(q:α->Bool)(h:α->D)(xs:List α)(hi:fi r=some (xs.map enc))(hl:xs.length<=16777216)
  (st:∀x∈xs,∃ρ1,g (enc x) (aC own none++gA r cap)=some ρ1/\p ρ1=some (q x)/\(q x=true->f ρ1=some (h x))):fD fi own cap g p f r=some (.lst ((xs.filter q).map h)):=by
 unfold fD
 rw[hi]
 simp only[bw,aM]
 rw[if_pos hl,LD enc q h xs st]
 rfl
theorem V1 {n i:Nat}(h:i<n):ixN n (i:Int)=some i:=by
 unfold ixN
 rw[if_pos (by omega),if_pos (by omega)]
 simp
theorem qr {α:Type}{fi:L3.Env->Option (List D)}{own:Nat}{cap:List Nat}{g:D->L3.Env->Option L3.Env}{f:EF}{r:L3.Env}(enc:α->D)(h:α->D)(xs:List α)(hi:fi r=some (xs.map enc))(hl:xs.length<=16777216)
  (st:∀x∈xs,∃ρ1,g (enc x) (aC own none++gA r cap)=some ρ1/\f ρ1=some (h x)):fD fi own cap g kd f r=some (.lst (xs.map h)):=by
 have:=DM (p:=kd) enc (λ_=>true) h xs hi hl λx hx=>by
  obtain⟨ρ1,h1,h2⟩:=st x hx
  exact⟨ρ1,h1,rfl,λ_=>h2⟩
 rw[this,List.filter_eq_self.mpr λ_ _=>rfl]
theorem IZ {α:Type}(enc:α->D):∀(as:List α) (k:Nat),eD k (as.map enc)=(as.zipIdx k).map λ(p:α×Nat)=>D.tup [.int (p.2:Int),enc p.1]
 |[],_=>rfl
 |a::as,k=>by
  show _::eD (k+1) (as.map enc)=_::_
  rw[IZ enc as (k+1)]
theorem Nn {α:Type}{as:List α}{p:α×Nat}(h:p∈as.zipIdx):as[p.2]?=some p.1:=List.mem_zipIdx_iff_getElem?.mp h
theorem LB {α:Type}(q:α->Bool):∀(as:List α) (k:Nat),((as.zipIdx k).filter λp=>q p.1).map (·.1)=as.filter q
 |[],_=>rfl
 |a::as,k=>by
  rw[qS,qQ,qQ]
  cases h:q a<;>simp[h,LB q as (k+1)]
inductive Kd where
 |ride|wait|back
deriving DecidableEq
structure de where
 c:Kd
 s:Nat
 g:Nat
 t:Int
 b:Nat
deriving DecidableEq
namespace Kahn
def cnt (W:List de)(P:List Nat)(g:Nat):Nat:=W.countP λa=>decide (a.g=g/\a.s∉P)
structure Ok (W:List de)(many:Nat)(p:List Nat):Prop where
 nd:p.Nodup
 lt:∀x∈p,x<many
 ord:∀(i x:Nat),p[i]?=some x->∀a∈W,a.g=x->a.s∈p.take i
theorem Ok.snoc {W:List de}{many:Nat}{p:List Nat}{x:Nat}(h:Ok W many p)(hx:x∉p)(hl:x<many)(ho:∀a∈W,a.g=x->a.s∈p):Ok W many (p++[x]) where
 nd:=by
  rw[aX]
  exact⟨h.nd,by simp,λa ha b hb e=>by simp at hb;subst hb;subst e;exact hx ha⟩
 lt:=λy hy=>by
  rcases bj.mp hy with hy|hy
  ·exact h.lt y hy
  ·simp at hy;subst hy;exact hl
 ord:=λi y hy a ha e=>by
  by_cases hi:i<p.length
  ·rw[bS hi]at hy
   rw[fW (by omega)]
   exact h.ord i y hy a ha e
  ·rw[cJ (by omega)]at hy
   have yW:i-p.length=0:=by
    cases hq:i-p.length with
    |zero=>rfl
    |succ k=>rw[hq]at hy;simp at hy
   rw[yW]at hy
   simp at hy
   subst hy
   have:i=p.length:=by omega
   rw[this,sf]
   ·exact ho a ha e
   ·rfl
def stp (here:Nat)(S:(Nat->Int)×List Nat)(a:de):(Nat->Int)×List Nat :=
 if a.s=here then
  let f':Nat->Int:=λx=>if x=a.g then S.1 a.g-1 else S.1 x
  (f',if f' a.g=0 then S.2++[a.g]else S.2)
 else S
structure In (W:List de)(many:Nat)(P:List Nat)(here:Nat)(pre:List de)(S:(Nat->Int)×List Nat):Prop where
 ok:Ok W many S.2
 f:∀g,S.1 g=(cnt W P g:Int)-(pre.countP λa=>decide (a.g=g/\a.s=here):Nat)
 z:∀g,g<many->(g∈S.2↔S.1 g=0)
 sub:∀x,(x∈P\/x=here)->x∈S.2
theorem WQ {W pre post:List de}{P:List Nat}{here:Nat}{a:de}(e:W=pre++a::post)(hP:here∉P)(ha:a.s=here):(pre.countP λx=>decide (x.g=a.g/\x.s=here))+1<=cnt W P a.g:=by
 unfold cnt
 rw[e,dW,fQ]
 have h1:(pre.countP λx=>decide (x.g=a.g/\x.s=here))<=pre.countP λx=>decide (x.g=a.g/\x.s∉P):=by
  apply List.countP_mono_left
  intro x _ hx
  simp at hx ⊢
  exact⟨hx.1,by rw[hx.2];exact hP⟩
 have h2:(decide (a.g=a.g/\a.s∉P))=true:=by simp[ha,hP]
 rw[h2]
 simp only[if_true]
 omega
theorem In.step {W pre post:List de}{many:Nat}{P:List Nat}{here:Nat}{a:de}{S:(Nat->Int)×List Nat}(h:In W many P here pre S)(e:W=pre++a::post)(hP:here∉P)(hl:a.g<many):In W many P here (pre++[a]) (stp here S a):=by
 by_cases ha:a.s=here
 ·have OX:=WQ e hP ha
  have hf:∀g,(if g=a.g then S.1 a.g-1 else S.1 g)=(cnt W P g:Int)-((pre++[a]).countP λx=>decide (x.g=g/\x.s=here):Nat):=λg=>by
   rw[dW,nQ]
   by_cases hg:g=a.g
   ·subst hg
    rw[if_pos rfl,h.f]
    have:decide (a.g=a.g/\a.s=here)=true:=by simp[ha]
    rw[this]
    simp only[if_true]
    omega
   ·rw[if_neg hg,h.f]
    have:decide (a.g=g/\a.s=here)=false:=by simp;intro z;exact absurd z.symm hg
    rw[this]
    simp
  have kU:S.1 a.g≠0:=by rw[h.f];omega
  have BR:a.g∉S.2:=λz=>kU ((h.z a.g hl).mp z)
  by_cases h0:S.1 a.g-1=0
  ·have es:stp here S a=(λx=>if x=a.g then S.1 a.g-1 else S.1 x,S.2++[a.g]):=by unfold stp;simp[ha,h0]
   rw[es]
   refine⟨h.ok.snoc BR hl λb hb eb=>?_,hf,λg hg=>?_,λx hx=>bb _ (h.sub x hx)⟩
   ·
    refine h.sub _ (Classical.byContradiction λhc=>?_)
    have Kk:b.s∉P:=λz=>hc (.inl z)
    have qL:b.s≠here:=λz=>hc (.inr z)
    have h1:cnt W P a.g=(pre.countP λx=>decide (x.g=a.g/\x.s=here))+1:=by
     have:=h.f a.g
     omega
    have h2:(W.countP λx=>decide (x.g=a.g/\x.s=here))+(W.countP λx=>decide (x.g=a.g/\x.s∉P/\x.s≠here))<=cnt W P a.g:=by
     have:cnt W P a.g=(W.countP λx=>decide (x.g=a.g/\x.s=here))+(W.countP λx=>decide (x.g=a.g/\x.s∉P/\x.s≠here)):=by
      unfold cnt
      clear h1 hc Kk qL eb hb h0 hf OX e h
      induction W with
      |nil=>rfl
      |cons x W ih=>
       simp only[fQ]
       rw[ih]
       by_cases q1:x.g=a.g<;>by_cases q2:x.s=here<;>by_cases q3:x.s∈P<;>simp_all<;>omega
     omega
    have h3:(pre.countP λx=>decide (x.g=a.g/\x.s=here))+1<=W.countP λx=>decide (x.g=a.g/\x.s=here):=by
     rw[e,dW,fQ]
     have:decide (a.g=a.g/\a.s=here)=true:=by simp[ha]
     rw[this]
     simp only[if_true]
     omega
    have h4:0<W.countP λx=>decide (x.g=a.g/\x.s∉P/\x.s≠here):=by
     rw[List.countP_pos_iff]
     exact⟨b,hb,by simp[eb,Kk,qL]⟩
    omega
   ·rw[bj,aQ]
    by_cases nu:g=a.g
    ·subst nu;simp[h0]
    ·dsimp only;rw[if_neg nu,h.z g hg];simp[nu]
  ·have es:stp here S a=(λx=>if x=a.g then S.1 a.g-1 else S.1 x,S.2):=by unfold stp;simp[ha,h0]
   rw[es]
   refine⟨h.ok,hf,λg hg=>?_,h.sub⟩
   by_cases nu:g=a.g
   ·subst nu
    dsimp only
    rw[if_pos rfl]
    exact⟨λz=>absurd z BR,λz=>absurd z h0⟩
   ·dsimp only;rw[if_neg nu];exact h.z g hg
 ·have:stp here S a=S:=by unfold stp;rw[if_neg ha]
  rw[this]
  refine⟨h.ok,λg=>?_,h.z,h.sub⟩
  rw[dW,nQ]
  have:decide (a.g=g/\a.s=here)=false:=by simp[ha]
  rw[this,h.f]
  simp
theorem In.fold {W:List de}{many:Nat}{P:List Nat}{here:Nat}(hP:here∉P)(hl:∀a∈W,a.g<many):∀(post pre:List de) (S:(Nat->Int)×List Nat),W=pre++post->In W many P here pre S->In W many P here W (post.foldl (stp here) S)
 |[],pre,S,e,h=>by rw[e] ;simpa using(by rw[bX]at e;subst e;exact h)
 |a::post,pre,S,e,h=>by
  have:=In.fold hP hl post (pre++[a]) (stp here S a) (by rw[e];simp) (h.step e hP (hl a (by rw[e];simp)))
  exact this
theorem Uo {W:List de}{P:List Nat}{here g:Nat}(hP:here∉P):(cnt W P g:Int)-(W.countP λa=>decide (a.g=g/\a.s=here):Nat)=cnt W (P++[here]) g:=by
 have:cnt W P g=(W.countP λa=>decide (a.g=g/\a.s=here))+cnt W (P++[here]) g:=by
  unfold cnt
  induction W with
  |nil=>rfl
  |cons x W ih=>
   simp only[fQ]
   rw[ih]
   by_cases q1:x.g=g<;>by_cases q2:x.s=here<;>by_cases q3:x.s∈P<;>simp_all<;>omega
 omega
structure Wh (W:List de)(many:Nat)(f:Nat->Int)(p:List Nat)(d:Nat):Prop where
 ok:Ok W many p
 dl:d<=p.length
 fe:∀g,f g=cnt W (p.take d) g
 z:∀g,g<many->(g∈p↔f g=0)
theorem Wh.step {W:List de}{many:Nat}{f:Nat->Int}{p:List Nat}{d here:Nat}(h:Wh W many f p d)(hl:∀a∈W,a.g<many)(hh:p[d]?=some here) :
  Wh W many (W.foldl (stp here) (f,p)).1 (W.foldl (stp here) (f,p)).2 (d+1)/\∃q,(W.foldl (stp here) (f,p)).2=p++q:=by
 have hd:d<p.length:=(aS.mp hh).1
 have hP:here∉p.take d:=λz=>by
  obtain⟨i,hi,e⟩:=dC.mp z
  have yW:i<d:=by rw[cG]at hi;omega
  rw[qC]at e
  have e2:p[d]=here:=by have:=aS.mp hh;exact this.2
  have:=(lg (xs:=p) (h₀:=by omega) (h₁:=hd) h.ok.nd).mp (e.trans e2.symm)
  omega
 have G1:∀(l:List de) (S:(Nat->Int)×List Nat),∃q,(l.foldl (stp here) S).2=S.2++q:=by
  intro l
  induction l with
  |nil=>exactλS=>⟨[],by simp⟩
  |cons a l ih=>
   intro S
   obtain⟨q,hq⟩:=ih (stp here S a)
   have:∃r,(stp here S a).2=S.2++r:=by
    by_cases ha:a.s=here
    ·by_cases h0:S.1 a.g-1=0
     ·exact⟨[a.g],by unfold stp;simp[ha,h0]⟩
     ·exact⟨[],by unfold stp;simp[ha,h0]⟩
    ·exact⟨[],by unfold stp;simp[ha]⟩
   obtain⟨r,hr⟩:=this
   exact⟨r++q,by rw[bM,hq,hr,fq]⟩
 obtain⟨q,hq⟩:=G1 W (f,p)
 have I:=In.fold hP hl W [] (f,p) rfl ⟨h.ok,λg=>by show f g=_;rw[h.fe];simp,h.z,λx hx=>by
  rcases hx with hx|rfl
  ·exact iW hx
  ·exact dk.mpr ⟨d,hh⟩⟩
 have BX:(W.foldl (stp here) (f,p)).2.take (d+1)=p.take d++[here]:=by
  rw[hq]
  show(p++q).take (d+1)=_
  rw[fW (by omega),List.take_succ,hh]
  rfl
 refine⟨⟨I.ok,?_,λg=>?_,I.z⟩,q,hq⟩
 ·rw[hq]
  show d+1<=(p++q).length
  rw[aV];omega
 ·rw[I.f,BX]
  exact Uo hP
theorem cnt_zero {W:List de}{P:List Nat}{g:Nat}:cnt W P g=0↔∀a∈W,a.g=g->a.s∈P:=by
 unfold cnt
 rw[List.countP_eq_zero]
 constructor
 ·intro h a ha e
  have:=h a ha
  simp at this
  exact Classical.byContradiction λz=>z (this e)
 ·intro h a ha
  simp
  exact h a ha
theorem Wh.all {W:List de}{many:Nat}{f:Nat->Int}{p:List Nat}(h:Wh W many f p p.length)(rank:Nat->Nat)(hr:∀a∈W,rank a.s<rank a.g)(hs:∀a∈W,a.s<many):∀g,g<many->g∈p:=by
 have:∀n g,rank g<n->g<many->g∈p:=by
  intro n
  induction n with
  |zero=>intro g h;omega
  |succ n ih=>
   intro g hg hl
   rw[h.z g hl,h.fe,List.take_length]
   have:cnt W p g=0:=cnt_zero.mpr λa ha e=>ih a.s (by have:=hr a ha;rw[e]at this;omega) (hs a ha)
   rw[this];rfl
 exactλg hl=>this (rank g+1) g (by omega) hl
theorem len_of {many:Nat}{p:List Nat}(nd:p.Nodup)(lt:∀x∈p,x<many)(all:∀g,g<many->g∈p):p.length=many:=by
 have h1:p.Perm (bC many):=by
  rw[mn nd hG]
  intro a
  rw[cL]
  exact⟨lt a,all a⟩
 simpa using h1.length_eq
theorem len_le {many:Nat}{p:List Nat}(nd:p.Nodup)(lt:∀x∈p,x<many):p.length<=many:=by
 have h1:(p++(bC many).filter λx=>decide (x∉p)).Perm (bC many):=by
  rw[mn (by
   rw[aX]
   refine⟨nd,hG.filter _,λa ha b hb e=>?_⟩
   subst e
   simp at hb
   exact hb.2 ha) hG]
  intro a
  rw[bj,bN,cL]
  constructor
  ·rintro(h|h)
   ·exact lt a h
   ·exact h.1
  ·intro h
   by_cases ha:a∈p
   ·exact .inl ha
   ·exact .inr ⟨h,by simpa using ha⟩
 have:=h1.length_eq
 rw[aV,cK]at this
 omega
end Kahn
def Kd.n:Kd->Nat
 |.ride=>1|.wait=>2|.back=>3
def bG (a:de):D:=.obj a.c.n ["start","goal","time","behind"] [.int a.s,.int a.g,.int a.t,.int a.b]
theorem fs (a:de):cC [0,1,2,3] "start" (bG a)=some (.int a.s):=by obtain⟨c,_,_,_,_⟩:=a;cases c<;>rfl
theorem fg (a:de):cC [0,1,2,3] "goal" (bG a)=some (.int a.g):=by obtain⟨c,_,_,_,_⟩:=a;cases c<;>rfl
theorem ft (a:de):cC [0,1,2,3] "time" (bG a)=some (.int a.t):=by obtain⟨c,_,_,_,_⟩:=a;cases c<;>rfl
theorem fb (a:de):cC [0,1,2,3] "behind" (bG a)=some (.int a.b):=by obtain⟨c,_,_,_,_⟩:=a;cases c<;>rfl
structure Right (many:Nat)(a:de):Prop where
 s:a.s<many
 g:a.g<many
 t0:0<=a.t
 t1:a.t<=1000000000
 b:a.b<=4
 r:a.c=.ride->a.b=0
 k:a.c=.back->1<=a.b
theorem jr {n l m:Int}(h1:l<=n)(h2:n<=m):ye [.int n,.int l,.int m]=some (.bl true):=by
 unfold ye
 have q1 (i:Int):jQ "int" (.int i)=some (.bl true):=rfl
 have q2 (i:Int):jQ "bool" (.int i)=some (.bl false):=rfl
 walk_at "mir"
theorem isA (all sub:List Nat)(a:de):rL all sub (bG a)=if all.contains a.c.n=true then some (.bl (sub.contains a.c.n))else none:=rfl
theorem V2 {many:Nat}{a:de}(h:Right many a):jp [bG a,.int (many:Int)]=some (.bl true):=by
 have w1:ye [.int (a.s:Int),.int 0,.int ((many:Int)-1)]=some (.bl true):=jr (by omega) (by have:=h.s;omega)
 have w2:ye [.int (a.g:Int),.int 0,.int ((many:Int)-1)]=some (.bl true):=jr (by omega) (by have:=h.g;omega)
 have w3:ye [.int a.t,.int 0,.int 1000000000]=some (.bl true):=jr h.t0 h.t1
 have f1:=fs a
 have f2:=fg a
 have f3:=ft a
 have f4:=fb a
 have hi:=λall sub=>isA all sub a
 have hb:=h.b
 have hr:=h.r
 have hk:=h.k
 clear h
 unfold jp
 cases hc:a.c with
 |ride=>
  have w4:ye [.int (a.b:Int),.int 0,.int 0]=some (.bl true):=jr (by omega) (by have:=hr hc;omega)
  rw[hc]at hi
  clear hr hk hb
  have hn:Kd.ride.n=1:=rfl
  walk_at "mir"
 |wait=>
  have w4:ye [.int (a.b:Int),.int 0,.int 4]=some (.bl true):=jr (by omega) (by omega)
  rw[hc]at hi
  clear hr hk hb
  have hn:Kd.wait.n=2:=rfl
  walk_at "mir"
 |back=>
  have w4:ye [.int (a.b:Int),.int 1,.int 4]=some (.bl true):=jr (by have:=hk hc;omega) (by omega)
  rw[hc]at hi
  clear hr hk hb
  have hn:Kd.back.n=3:=rfl
  walk_at "mir"
def W0 (as:List de):List de:=as.filter λa=>decide (a.b=0)
theorem RK (as:List de)(l:as.length<=16777216)(r:L3.Env)(h:r[1]?.join=some (.lst (as.map bG))) :
  ug r=some (.lst ((W0 as).map bG)):=by
 have e:lsD (eV 1) r=some (as.map bG):=by unfold lsD;have:eV 1 r=some (.lst (as.map bG)):=h;rw[this];rfl
 refine DM bG (λa=>decide (a.b=0)) bG as e l λa _=>⟨_,rfl,?_,λ_=>rfl⟩
 have:=fb a
 walk_at "mir"
def AJ (s:(Nat->Int)×Option D)(a:de):(Nat->Int)×Option D:=(λx=>if x=a.g then s.1 a.g+1 else s.1 x,some (bG a))
theorem Ms:∀(W:List de) (s:(Nat->Int)×Option D) (g:Nat),(W.foldl AJ s).1 g=s.1 g+(W.countP λa=>decide (a.g=g):Nat)
 |[],s,g=>by simp
 |a::W,s,g=>by
  rw[bM,Ms W,fQ]
  by_cases hg:g=a.g
  ·subst hg;simp[AJ];omega
  ·have:decide (a.g=g)=false:=by simp;exactλz=>hg z.symm
   simp[AJ,hg,this]
theorem Mt (p:List Nat)(x:Nat):aW p++[D.int (x:Int)]=aW (p++[x]):=by simp[aW]
theorem V3 {many:Nat}{as:List de}{f:Nat->Int}{p:List Nat}{here d:Nat}{x4:Option D}(hm:many<=1000)(hW:∀a∈W0 as,a.s<many/\a.g<many)(h:Kahn.Wh (W0 as) many f p d)(hh:p[d]?=some here) :
  ∃x,gq (gV 4) xj ((W0 as).map bG) [some (.int (many:Int)),some (.lst (as.map bG)),some (.lst ((W0 as).map bG)),some (.lst (gu many f)),x4,some (.lst (aW p)),some (.int (d:Int)),some (.int (here:Int))] =
   some (.nx [some (.int (many:Int)),some (.lst (as.map bG)),some (.lst ((W0 as).map bG)),some (.lst (gu many ((W0 as).foldl (Kahn.stp here) (f,p)).1)),x,some (.lst (aW ((W0 as).foldl (Kahn.stp here) (f,p)).2)),some (.int (d:Int)),some (.int (here:Int))]):=by
 have hd:d<p.length:=(aS.mp hh).1
 have hP:here∉p.take d:=λz=>by
  obtain⟨i,hi,e⟩:=dC.mp z
  have yW:i<d:=by rw[cG]at hi;omega
  rw[qC]at e
  have e2:p[d]=here:=(aS.mp hh).2
  have:=(lg (xs:=p) (h₀:=by omega) (h₁:=hd) h.ok.nd).mp (e.trans e2.symm)
  omega
 obtain⟨ρ',h1,x,pre,e1,e2⟩:=qm (g:=gV 4) (b:=xj) (ds:=(W0 as).map bG) (ρ:=[some (.int (many:Int)),some (.lst (as.map bG)),some (.lst ((W0 as).map bG)),some (.lst (gu many f)),x4,some (.lst (aW p)),some (.int (d:Int)),some (.int (here:Int))])
  (λds ρ=>∃x pre,ds=pre.map bG/\(∃post,W0 as=pre++post)/\Kahn.In (W0 as) many (p.take d) here pre (pre.foldl (Kahn.stp here) (f,p))/\ρ=[some (.int (many:Int)),some (.lst (as.map bG)),some (.lst ((W0 as).map bG)),some (.lst (gu many (pre.foldl (Kahn.stp here) (f,p)).1)),x,some (.lst (aW (pre.foldl (Kahn.stp here) (f,p)).2)),some (.int (d:Int)),some (.int (here:Int))])
  ⟨x4,[],rfl,⟨_,rfl⟩,⟨h.ok,λg=>by show f g=_;rw[h.fe];simp,h.z,λx hx=>by
   rcases hx with hx|rfl
   ·exact iW hx
   ·exact dk.mpr ⟨d,hh⟩⟩,rfl⟩ (by
  rintro ds dd post ρ e ⟨x,pre,rfl,⟨iG,e'⟩,I,rfl⟩
  rw[e',gk]at e
  have e3:=nh e
  cases iG with
  |nil=>cases e3
  |cons a iG=>
   rw[bq]at e3
   cases e3
   have ha:a∈W0 as:=by rw[e'];simp
   have hl:=Kahn.len_le I.ok.nd I.ok.lt
   have I2:=I.step e' hP (hW a ha).2
   refine⟨_,_,rfl,.inl ?_,some (bG a),pre++[a],by simp,⟨iG,by rw[e'];simp⟩,by rw[ku];exact I2,rfl⟩
   rw[ku]
   generalize pre.foldl (Kahn.stp here) (f,p)=S at hl
   show xj _=some (.nx [_,_,_,some (.lst (gu many (Kahn.stp here S a).1)),_,some (.lst (aW (Kahn.stp here S a).2)),_,_])
   have f1:=fs a
   have f2:=fg a
   have hlen:(aW S.2).length<16777216:=by simp[aW];omega
   unfold xj
   by_cases hs:a.s=here
   ·have ED:((a.s:Nat):Int)=(here:Int):=by rw[hs]
    have au:=MZ (i:=3) (fj:=e1 (cC [0,1,2,3] "goal") (eV 4)) (f:=eC (.int 1)) (gi:=λi j=>i-j) (ρ:=[some (.int (many:Int)),some (.lst (as.map bG)),some (.lst ((W0 as).map bG)),some (.lst (gu many S.1)),some (bG a),some (.lst (aW S.2)),some (.int (d:Int)),some (.int (here:Int))]) (n:=many) (g:=a.g) (w:=S.1) (y:=1) rfl (by walk_at "mir") rfl (hW a ha).2
    have va:ip (.lst (gu many λx=>if x=a.g then S.1 a.g-1 else S.1 x)) (.int (a.g:Int))=some (.int (S.1 a.g-1)):=by
     have:=DR (λx=>if x=a.g then S.1 a.g-1 else S.1 x) (hW a ha).2
     rw[if_pos rfl]at this
     exact this
    by_cases h0:S.1 a.g-1=0
    ·have es:Kahn.stp here S a=(λx=>if x=a.g then S.1 a.g-1 else S.1 x,S.2++[a.g]):=by unfold Kahn.stp;simp[hs,h0]
     rw[es,←Mt]
     rw[h0]at va
     clear I I2 e' es
     walk_at "mir"
    ·have es:Kahn.stp here S a=(λx=>if x=a.g then S.1 a.g-1 else S.1 x,S.2):=by unfold Kahn.stp;simp[hs,h0]
     rw[es]
     clear I I2 e' es
     walk_at "mir"
   ·have es:Kahn.stp here S a=S:=by unfold Kahn.stp;rw[if_neg hs]
    rw[es]
    have ED:¬((a.s:Nat):Int)=(here:Int):=by omega
    clear I I2 e' es
    walk_at "mir")
 obtain⟨⟨post,e2⟩,I,rfl⟩:=e2
 have:pre=W0 as:=by
  have:=congrArg iV e1
  rw[aM,aM]at this
  rw[e2,aV]at this
  have hp:post=[]:=lw (by omega)
  rw[e2,hp,bX]
 rw[this]at h1
 exact⟨x,h1⟩
theorem Up {many:Nat}(as:List de)(l:as.length<=1000)(hm:many<=1000)(hs:∀a∈as,a.s<many/\a.g<many) :
  ∃(f:Nat->Int) (p:List Nat),xk [.int (many:Int),.lst (as.map bG)]=some (.lst (aW p))/\Kahn.Wh (W0 as) many f p p.length:=by
 have hW:∀a∈W0 as,a.s<many/\a.g<many:=λa ha=>hs a (bN.mp ha).1
 obtain⟨c1,_⟩:=IE (g:=gV 4) (b:=wt) bG (λs:(Nat->Int)×Option D=>[some (.int (many:Int)),some (.lst (as.map bG)),some (.lst ((W0 as).map bG)),some (.lst (gu many s.1)),s.2,none,none,none])
  AJ (λ_=>True) (W0 as) (λ_=>0,none) trivial (λs a ha _=>by
   refine⟨_,rfl,.inl ?_,trivial⟩
   unfold wt
   have f2:=fg a
   rw[MZ (n:=many) (g:=a.g) (w:=s.1) (y:=1) rfl (by walk_at "mir") rfl (hW a ha).2]
   rfl)
 have c2:=Ms (W0 as) (λ_=>0,none)
 generalize OK:(W0 as).foldl AJ (λ_=>0,none)=S0 at c1 c2
 obtain⟨f0,y4⟩:=S0
 dsimp only at c1 c2
 have O4:∀r:L3.Env,r[0]?.join=some (.int (many:Int))->r[3]?.join=some (.lst (gu many f0))->uf r=some (.lst (aW ((bC many).filter λg=>decide (f0 g=0)))):=by
  intro r h0 h3
  refine DM (λ(t:Nat)=>D.int (t:Int)) (λg=>decide (f0 g=0)) (λ(t:Nat)=>D.int (t:Int)) (bC many) (Fs h0 (by omega)) (by rw[cK];omega) ?_
  ·intro g hg
   refine⟨_,rfl,?_,λ_=>rfl⟩
   have hg:g<many:=cL.mp hg
   have hv:ip (.lst (gu many f0)) (.int (g:Int))=some (.int (f0 g)):=DR f0 hg
   have hc:gA r [3]=[some (.lst (gu many f0))]:=by unfold gA;simp[h3]
   rw[hc]
   walk_at "mir"
 generalize hq:((bC many).filter λg=>decide (f0 g=0))=p0 at O4
 have w0:Kahn.Wh (W0 as) many f0 p0 0:=by
  have hf:∀g,f0 g=Kahn.cnt (W0 as) [] g:=λg=>by
   rw[c2 g]
   unfold Kahn.cnt
   simp
  refine⟨⟨by rw[←hq];exact hG.filter _,λx hx=>by rw[←hq,bN,cL]at hx;exact hx.1,λi x hx a ha e=>?_⟩,by omega,hf,λg hg=>by rw[←hq,bN,cL];simp[hg]⟩
  have rJ:x∈p0:=dk.mpr ⟨i,hx⟩
  rw[←hq,bN]at rJ
  have h0:f0 x=0:=by simpa using rJ.2
  rw[hf]at h0
  have:=Kahn.cnt_zero.mp (by exact_mod_cast h0) a ha e
  cases this
 obtain⟨ρ',h1,⟨f,p,d,x4,x7,rfl,wh⟩,h3⟩:=Lr (c:=tb (e2 sv (eV 6) (eN eO (aCons (eV 5) aNil)))) (b:=wq)
  (λρ=>∃f p d x4 x7,ρ=[some (.int (many:Int)),some (.lst (as.map bG)),some (.lst ((W0 as).map bG)),some (.lst (gu many f)),x4,some (.lst (aW p)),some (.int ((d:Nat):Int)),x7]/\Kahn.Wh (W0 as) many f p d)
  (λρ:L3.Env=>match ρ[6]? with|some (some (D.int i))=>(1001-i).toNat|_=>0) (by
   rintro ρ ⟨f,p,d,x4,x7,rfl,wh⟩
   have hl:(aW p).length=p.length:=by simp[aW]
   refine⟨decide ((d:Int)<(p.length:Int)),by walk_at "mir",λht=>?_⟩
   have hd:d<p.length:=by simpa using ht
   have hh:p[d]?=some p[d]:=by simp[hd]
   obtain⟨x,Ym⟩:=V3 (x4:=x4) hm hW wh hh
   obtain⟨DK,q,_⟩:=wh.step (λa ha=>(hW a ha).2) hh
   have n8:=Kahn.len_le DK.ok.nd DK.ok.lt
   have hdl:=DK.dl
   refine⟨_,.inl ?_,⟨_,_,d+1,x,some (.int (p[d]:Int)),rfl,DK⟩,?_⟩
   ·have OZ:ip (.lst (aW p)) (.int (d:Int))=some (.int (p[d]:Int)):=jx (by simp[aW,hd])
    have Yk:i2 (λi j=>D.int (i+j)) (.int (d:Int)) (.int 1)=some (.int ((d+1:Nat):Int)):=by simp[i2]
    unfold wq xR
    clear wh DK n8 hdl
    walk_at "mir"
   ·show(1001-((d+1:Nat):Int)).toNat<(1001-(d:Int)).toNat
    omega) ou [some (.int (many:Int)),some (.lst (as.map bG)),some (.lst ((W0 as).map bG)),some (.lst (gu many f0)),y4,some (.lst (aW p0)),some (.int ((0:Nat):Int)),none] ⟨f0,p0,0,y4,none,rfl,w0⟩ (by
   show(1001-((0:Nat):Int)).toNat<ou
   have:(1001:Nat)<ou:=VO (by decide)
   omega)
 have hd:d=p.length:=by
  have hl:(aW p).length=p.length:=by simp[aW]
  have h4:(tb (e2 sv (eV 6) (eN eO (aCons (eV 5) aNil)))) [some (.int (many:Int)),some (.lst (as.map bG)),some (.lst ((W0 as).map bG)),some (.lst (gu many f)),x4,some (.lst (aW p)),some (.int (d:Int)),x7]=some (decide ((d:Int)<(p.length:Int))):=by walk_at "mir"
  rw[h4]at h3
  have:=wh.dl
  simp at h3
  omega
 subst hd
 refine⟨f,p,?_,wh⟩
 have r1:=RK as (by omega)
 have rp:kl (.lst [.int 0]) (.int (many:Int))=some (.lst (gu many λ_=>0)):=by
  unfold kl
  dsimp only
  rw[if_pos ⟨by omega,by omega,by simp⟩]
  congr 2
  unfold gu
  rw[ir,cK]
  simp
 rw[show(((0:Nat):Int))=0 from rfl]at h1
 unfold xk oR
 clear hs hW c2 OK hq w0 wh h3 l hm
 walk_at "mir"
def bx (ns:List D)(as:List de):D:=.obj 4 ["names","arrows"] [.lst ns,.lst (as.map bG)]
structure jC (many:Nat)(as:List de):Prop where
 pos:1<=many
 le:many<=40
 len:as.length<=120
 right:∀a∈as,Right many a
 rank:∃rank:Nat->Nat,∀a∈as,a.b=0->rank a.s<rank a.g
theorem jC.placed {many:Nat}{as:List de}(h:jC many as):∃p:List Nat,xk [.int (many:Int),.lst (as.map bG)]=some (.lst (aW p))/\Kahn.Ok (W0 as) many p/\p.length=many/\∀g,g<many->g∈p:=by
 obtain⟨f,p,h1,h2⟩:=Up (many:=many) as (by have:=h.len;omega) (by have:=h.le;omega) (λa ha=>⟨(h.right a ha).s,(h.right a ha).g⟩)
 obtain⟨rank,hr⟩:=h.rank
 have all:=h2.all rank (λa ha=>by
  have:=bN.mp ha
  exact hr a this.1 (by simpa using this.2)) (λa ha=>(h.right a (bN.mp ha).1).s)
 exact⟨p,h1,h2.ok,Kahn.len_of h2.ok.nd h2.ok.lt all,all⟩
theorem X7 {many:Nat}{as:List de}{ns:List D}(h:jC many as)(hn:ns.length=many)(Yp:ur [.lst ns]=some (.bl true)):v7 4 [.lst ns,.lst (as.map bG)]=some (bx ns as):=by
 obtain⟨p,hp,_,hl,_⟩:=h.placed
 have hlen:=h.len
 obtain⟨ρ',h1,x3,x4,rfl⟩:=qm (g:=gT (gsCons (gV 3) (gsCons (gV 4) gsNil))) (b:=ua) (ds:=eD 0 (as.map bG)) (ρ:=[some (.obj 4 [] []),some (.lst ns),some (.lst (as.map bG)),none,none,none])
  (λ_ ρ=>∃x3 x4,ρ=[some (.obj 4 [] []),some (.lst ns),some (.lst (as.map bG)),x3,x4,none]) ⟨none,none,rfl⟩ (by
   rintro pre d post ρ e ⟨x3,x4,rfl⟩
   obtain⟨x,hx,rfl⟩:=ID (Jt e)
   rw[bn]at hx
   obtain⟨a,ha,rfl⟩:=bF.mp hx
   have hr:=V2 (h.right a (dk.mpr ⟨_,ha⟩))
   refine⟨_,_,rfl,.inl ?_,some (.int (0+pre.length:Nat)),some (bG a),rfl⟩
   unfold ua
   rw[←hn]at hr
   clear hp hl hn hlen h
   walk_at "mir")
 have hz:(aW p).length=many:=by simp[aW,hl]
 have Yl:¬((as.length:Int) > 120):=by omega
 rw[←hn]at hp hz
 have l1:∀ds:List D,jG [.lst ds]=some (.lst ds):=λ_=>rfl
 have s1:gE [4] "names" (eN jG (aCons (eV 1) aNil)) [some (D.obj 4 [] []),some (.lst ns),some (.lst (as.map bG)),x3,x4,some (.lst (aW p))]=some (.nx [some (D.obj 4 ["names"] [.lst ns]),some (.lst ns),some (.lst (as.map bG)),x3,x4,some (.lst (aW p))]):=rfl
 have s2:gE [4] "arrows" (eN jG (aCons (eV 2) aNil)) [some (D.obj 4 ["names"] [.lst ns]),some (.lst ns),some (.lst (as.map bG)),x3,x4,some (.lst (aW p))]=some (.nx [some (bx ns as),some (.lst ns),some (.lst (as.map bG)),x3,x4,some (.lst (aW p))]):=rfl
 clear h hlen hl hn
 unfold v7 uD
 walk_at "mir"
abbrev T:=Option Int
def lt (m:Int):T->T
 |none=>none
 |some i=>some (i+m)
def mx:T->T->T
 |none,b=>b
 |a,none=>a
 |some i,some j=>some (if j > i then j else i)
theorem Uq (a b:T):E5 [gR a,gR b]=some (gR (mx a b)):=by
 unfold E5
 cases a<;>cases b<;>simp only[gR,mx]<;>walk_at "mir"
theorem L5 {κ:Type}(h:κ×D->D):∀(ks:List κ) (ds:List D),ks.zip ((ks.zip ds).map h)=(ks.zip ds).map λp=>(p.1,h p)
 |[],_=>rfl
 |_::_,[]=>rfl
 |k::ks,d::ds=>by
  show(k,h (k,d))::ks.zip ((ks.zip ds).map h)=(k,h (k,d))::(ks.zip ds).map _
  rw[L5 h ks ds]
theorem Ur {κ:Type}[DecidableEq κ]{ks:List κ}{ds:List D}(hl:ks.length=ds.length)(k k':κ)(d:D):iA (fS ks ds k d).1 (fS ks ds k d).2 k'=if k'=k then some d else iA ks ds k':=by
 unfold fS
 by_cases hc:ks.contains k=true
 ·rw[if_pos hc]
  unfold iA
  dsimp only
  rw[L5,List.find?_map]
  by_cases hk:k'=k
  ·subst hk
   rw[if_pos rfl]
   have hm:k'∈ks:=by simpa using hc
   have:∃p∈ks.zip ds,p.1=k':=by
    obtain⟨i,hi,e⟩:=dC.mp hm
    refine⟨(ks[i],ds[i]),?_,e⟩
    rw[dC]
    exact⟨i,by rw[eP];omega,by simp⟩
   obtain⟨p,hp,he⟩:=this
   cases hf:(ks.zip ds).find? ((λp:κ×D=>decide (p.1=k')) ∘ λp:κ×D=>(p.1,if p.1=k' then d else p.2))with
   |none=>
    rw[pv]at hf
    have:=hf p hp
    simp[he]at this
   |some q=>
    have hq:=sg hf
    simp at hq
    simp[hq]
  ·rw[if_neg hk]
   have:((λp:κ×D=>decide (p.1=k')) ∘ λp:κ×D=>(p.1,if p.1=k then d else p.2))=λp:κ×D=>decide (p.1=k'):=rfl
   rw[this]
   cases hf:(ks.zip ds).find? λp=>decide (p.1=k')with
   |none=>rfl
   |some q=>
    have hq:=sg hf
    simp at hq
    have kU:¬q.1=k:=λz=>hk (hq▸z)
    simp[kU]
 ·rw[if_neg hc]
  unfold iA
  dsimp only
  have hz:(ks++[k]).zip (ds++[d])=ks.zip ds++[(k,d)]:=by
   rw[sj hl];rfl
  rw[hz,List.find?_append]
  by_cases hk:k'=k
  ·subst hk
   rw[if_pos rfl]
   have hn:(ks.zip ds).find? (λp=>decide (p.1=k'))=none:=by
    rw[pv]
    intro p hp
    have hm:=(gm (a:=p.1) (b:=p.2) hp).1
    have o6:¬k'∈ks:=by simpa using hc
    simp
    intro z
    exact o6 (z▸hm)
   rw[hn]
   simp
  ·rw[if_neg hk]
   have:¬k=k':=λz=>hk z.symm
   cases hf:(ks.zip ds).find? (λp=>decide (p.1=k'))<;>simp[this]
theorem V4 {κ:Type}[DecidableEq κ]{ks:List κ}{ds:List D}(hl:ks.length=ds.length)(k:κ)(d:D):(fS ks ds k d).1.length=(fS ks ds k d).2.length/\(fS ks ds k d).1.length<=ks.length+1:=by
 unfold fS
 by_cases hc:ks.contains k=true
 ·rw[if_pos hc];simp;omega
 ·rw[if_neg hc];simp[hl]
abbrev Fl:=Nat×Nat×Int
def ck (q:Fl):D:=.tup [.int (q.1:Int),.int (q.2.1:Int),.int q.2.2]
def fl (fs:List Fl)(g r:Nat):T:=(fs.filter λq=>decide (q.1=g/\q.2.1=r)).foldl (λw q=>mx w (some q.2.2)) none
structure jK (d:D)(n:Nat)(f:Nat->Nat->T):Prop where
 is:∃ks ds,d=.dT ks ds/\ks.length=ds.length/\ks.length<=n/\∀g r:Nat,iA ks ds [.inl (g:Int),.inl (r:Int)]=(f g r).map D.int
theorem jK.get {d:D}{n:Nat}{f:Nat->Nat->T}(h:jK d n f)(g r:Nat):((ke d (.tup [.int (g:Int),.int (r:Int)])).bind λr=>some (r.getD .non))=some (gR (f g r)):=by
 obtain⟨ks,ds,rfl,h1,h2,h3⟩:=h.is
 show some ((iA ks ds [.inl (g:Int),.inl (r:Int)]).getD .non)=_
 rw[h3]
 cases f g r<;>rfl
theorem jK.getI {d:D}{n:Nat}{f:Nat->Nat->T}(h:jK d n f)(g r:Nat)(z:D):((ke d (.tup [.int (g:Int),.int (r:Int)])).bind λr=>some (r.getD z))=some (((f g r).map D.int).getD z):=by
 obtain⟨ks,ds,rfl,h1,h2,h3⟩:=h.is
 show some ((iA ks ds [.inl (g:Int),.inl (r:Int)]).getD z)=_
 rw[h3]
theorem WR (a:T)(t:Int):some (gR (mx a (some t)))=(mx a (some t)).map D.int:=by cases a<;>rfl
theorem WS (fs:List Fl)(hl:fs.length<=1000):∃d,wn [.lst (fs.map ck)]=some d/\jK d 1000 (fl fs):=by
 obtain⟨ρ',h1,d,x2,x3,x4,pre,e1,rfl,hd⟩:=qm (g:=gT (gsCons (gV 2) (gsCons (gV 3) (gsCons (gV 4) gsNil)))) (b:=wu) (ds:=fs.map ck) (ρ:=[some (.lst (fs.map ck)),some (.dT [] []),none,none,none])
  (λds ρ=>∃d x2 x3 x4,∃pre:List Fl,ds=pre.map ck/\ρ=[some (.lst (fs.map ck)),some d,x2,x3,x4]/\jK d pre.length (fl pre))
  ⟨_,none,none,none,[],rfl,rfl,⟨[],[],rfl,rfl,by simp,λ_ _=>rfl⟩⟩ (by
   rintro ds dd post ρ e ⟨d,x2,x3,x4,pre,rfl,rfl,hd⟩
   obtain⟨q,hq,rfl⟩:∃q,fs[pre.length]?=some q/\ck q=dd:=by
    have:=Jt e
    rw[bn,aM]at this
    exact bF.mp this
   have hlen:pre.length<fs.length:=(aS.mp hq).1
   obtain⟨g,r,t⟩:=q
   have hg:=hd.get g r
   obtain⟨ks,ds,rfl,k1,k2,k3⟩:=hd.is
   have hm:=Uq (fl pre g r) (some t)
   have ml:ks.length<16777216:=by omega
   refine⟨_,_,rfl,.inl ?_,.dT (fS ks ds [.inl (g:Int),.inl (r:Int)] (gR (mx (fl pre g r) (some t)))).1 (fS ks ds [.inl (g:Int),.inl (r:Int)] (gR (mx (fl pre g r) (some t)))).2,some (.int (g:Int)),some (.int (r:Int)),some (.int t),pre++[(g,r,t)],by simp,rfl,?_⟩
   ·have hk:mR [.int (g:Int),.int (r:Int)]=some [.inl (g:Int),.inl (r:Int)]:=rfl
    have he:gR (some t)=.int t:=rfl
    rw[he]at hm
    unfold wu o8
    generalize gR (fl pre g r)=z at hg hm
    clear k1 k2 k3 e hq hd
    walk_at "mir"
   ·obtain⟨p1,p2⟩:=V4 k1 [.inl (g:Int),.inl (r:Int)] (gR (mx (fl pre g r) (some t)))
    refine⟨_,_,rfl,p1,by rw[aV,fL];omega,λg' r'=>?_⟩
    rw[Ur k1]
    have hf:fl (pre++[(g,r,t)]) g' r'=if g=g'/\r=r' then mx (fl pre g' r') (some t)else fl pre g' r':=by
     unfold fl
     rw[List.filter_append,ku]
     by_cases hc:g=g'/\r=r'
     ·rw[if_pos hc];simp[hc]
     ·rw[if_neg hc]
      have:([(g,r,t)]:List Fl).filter (λq=>decide (q.1=g'/\q.2.1=r'))=[]:=by
       rw[List.filter_eq_nil_iff]
       intro q hq
       rw[aQ]at hq
       subst hq
       simpa using hc
      rw[this];rfl
    rw[hf]
    by_cases hc:g=g'/\r=r'
    ·obtain⟨rfl,rfl⟩:=hc
     rw[if_pos rfl,if_pos ⟨rfl,rfl⟩,WR]
    ·rw[if_neg hc,if_neg ?_]
     ·exact k3 g' r'
     ·intro z
      simp at z
      exact hc ⟨by omega,by omega⟩)
 have:pre=fs:=by
  have hi:∀(a b:List Fl),a.map ck=b.map ck->a=b:=by
   intro a
   induction a with
   |nil=>intro b h;cases b with|nil=>rfl|cons _ _=>cases h
   |cons x a ih=>
    intro b h
    cases b with
    |nil=>cases h
    |cons y b=>
     simp only[bq,List.cons.injEq]at h
     obtain⟨h1,h2⟩:=h
     rw[ih b h2]
     obtain⟨x1,x2,x3⟩:=x
     obtain⟨y1,y2,y3⟩:=y
     simp[ck]at h1
     obtain⟨e1,e2,e3⟩:=h1
     have e1:x1=y1:=by omega
     have e2:x2=y2:=by omega
     rw[e1,e2,e3]
  exact(hi _ _ e1).symm
 subst this
 refine⟨d,?_,?_⟩
 ·unfold wn
  walk_at "mir"
 ·obtain⟨ks,ds,a,b,c,f⟩:=hd.is
  exact⟨ks,ds,a,b,by omega,f⟩
def eT (n:Nat)(f:Nat->T):List D:=(bC n).map λg=>gR (f g)
def cz (n m:Nat)(Y:Nat->Nat->T):List D:=(bC m).map λi=>D.lst (eT n (Y i))
theorem Us (n:Nat)(f:Nat->T):(eT n f).length=n:=by simp[eT]
theorem IF (n m:Nat)(Y:Nat->Nat->T):(cz n m Y).length=m:=by simp[cz]
theorem M0 {n:Nat}(f:Nat->T){g:Nat}(h:g<n):atI (eT n f) (g:Int)=some (gR (f g)):=jx (by simp[eT,h])
theorem jt {n:Nat}{f f':Nat->T}(h:∀g,g<n->f g=f' g):eT n f=eT n f':=by
 unfold eT
 apply eG
 intro g hg
 rw[h g (cL.mp hg)]
theorem Ut {n:Nat}(f:Nat->T){g:Nat}(h:g<n)(v:T):lW (eT n f) (g:Int) (gR v)=some (eT n λx=>if x=g then v else f x):=by
 unfold lW
 have hx:ixN (eT n f).length (g:Int)=some g:=by rw[Us];exact V1 h
 rw[hx]
 simp only[bw,Option.some.injEq]
 apply hE
 ·simp[eT]
 ·intro i h1 h2
  simp[eT,li]
  by_cases hi:g=i
  ·subst hi;simp
  ·rw[if_neg hi,if_neg (λz=>hi z.symm)]
def dep (as:List de):Nat:=as.foldl (λm a=>max m a.b) 1
theorem I0:∀(as:List de) (m:Nat),m<=as.foldl (λm a=>max m a.b) m/\(∀a∈as,a.b<=as.foldl (λm a=>max m a.b) m)/\((∀a∈as,a.b<=4)->m<=4->as.foldl (λm a=>max m a.b) m<=4)
 |[],m=>⟨aH _,λa h=>(by cases h),λ_ h=>h⟩
 |x::as,m=>by
  obtain⟨h1,h2,h3⟩:=I0 as (max m x.b)
  refine⟨by show m<=as.foldl _ (max m x.b);omega,λa ha=>?_,λh4 hm=>h3 (λa ha=>h4 a (ao _ ha)) (by have:=h4 x am;omega)⟩
  show a.b<=as.foldl _ (max m x.b)
  rcases az.mp ha with rfl|ha
  ·omega
  ·exact h2 a ha
theorem Np {as:List de}{a:de}(h:a∈as):a.b<=dep as:=(I0 as 1).2.1 a h
theorem Xt {as:List de}(h:∀a∈as,a.b<=4):dep as<=4:=(I0 as 1).2.2 h (by decide)
theorem Mu {α:Type}(f:α->Int):∀xs:List α,iC (xs.map λx=>D.int (f x))=some (xs.map f)
 |[]=>rfl
 |x::xs=>by
  show(iC (xs.map λx=>D.int (f x))).bind _=_
  rw[Mu f xs];rfl
theorem M3:∀(as:List de) (m:Nat),(as.map λa=>(a.b:Int)).foldl max (m:Int)=((as.foldl (λm a=>max m a.b) m:Nat):Int)
 |[],m=>rfl
 |x::as,m=>by
  show(as.map λa=>(a.b:Int)).foldl max (max (m:Int) (x.b:Int))=_
  rw[show max (m:Int) (x.b:Int)=((max m x.b:Nat):Int)by omega,M3 as]
  rfl
theorem Mv (ns:List D)(as:List de):cC [4] "names" (bx ns as)=some (.lst ns):=rfl
theorem L6 (ns:List D)(as:List de):cC [4] "arrows" (bx ns as)=some (.lst (as.map bG)):=rfl
theorem Xu {ns:List D}{as:List de}(hl:as.length<=1000):xl [bx ns as]=some (.int (dep as:Int)):=by
 have q:∀r:L3.Env,r[0]?.join=some (bx ns as)->vn r=some (.lst (as.map λa=>D.int (a.b:Int))):=λr hr=>by
  have e:lsD (e1 (cC [4] "arrows") (eV 0)) r=some (as.map bG):=by
   have:eV 0 r=some (bx ns as):=hr
   unfold lsD e1
   rw[this];rfl
  exact qr bG (λa=>D.int (a.b:Int)) as e (by omega) λa _=>⟨_,rfl,by have:=fb a;walk_at "mir"⟩
 have m1:sU [.lst ([.int 1]++as.map λa=>D.int (a.b:Int))]=some (.int (dep as:Int)):=by
  unfold sU
  dsimp only
  have:iC ([.int 1]++as.map λa=>D.int (a.b:Int))=some (1::as.map λa=>(a.b:Int)):=by
   show(iC (as.map λa=>D.int (a.b:Int))).bind _=_
   rw[Mu];rfl
  rw[this]
  show some (D.int ((as.map λa=>(a.b:Int)).foldl max ((1:Nat):Int)))=_
  rw[M3];rfl
 have m2:fC (.lst [.int 1]) (.lst (as.map λa=>D.int (a.b:Int)))=some (.lst ([.int 1]++as.map λa=>D.int (a.b:Int))):=Ui (by simp;omega)
 generalize [D.int 1]++as.map (λa=>D.int (a.b:Int))=zs at m1 m2
 unfold xl
 clear hl
 walk_at "mir"
theorem Jk {m:aK}{f:List D->Option D}{ns:List D}{as:List de}{ds:List D}(h:(["names","arrows"]:List aK).contains m=false):hR 4 m f (bx ns as) ds=f (bx ns as::ds):=by
 show(if 4=4/\(["names","arrows"]:List aK).contains m=false then f (bx ns as::ds)else none)=_
 rw[if_pos ⟨rfl,h⟩]
theorem Uu {ns:List D}{as:List de}(hl:as.length<=1000):hR 4 "most_behind" xl (bx ns as) []=some (.int (dep as:Int)):=by
 rw[Jk (by decide +kernel)]
 exact Xu hl
def into (as:List de)(g:Nat):List Nat:=(as.zipIdx.filter λp=>decide (p.1.g=g)).map (·.2)
theorem Xv {ns:List D}{as:List de}(hl:as.length<=1000)(g:Nat):uh [bx ns as,.int (g:Int)]=some (.lst (aW (into as g))):=by
 have q:∀r:L3.Env,r[0]?.join=some (bx ns as)->r[1]?.join=some (.int (g:Int))->jb r=some (.lst (aW (into as g))):=λr hr O5=>by
  have e:(λρ=>((aCons (e1 (cC [4] "arrows") (eV 0)) aNil) ρ).bind λds=>match ds with|[.lst xs]=>some (eD 0 xs)|_=>none) r=some (as.zipIdx.map λp=>D.tup [.int (p.2:Int),bG p.1]):=by
   have:eV 0 r=some (bx ns as):=hr
   have e2:e1 (cC [4] "arrows") (eV 0) r=some (.lst (as.map bG)):=by unfold e1;rw[this];rfl
   show((aCons (e1 (cC [4] "arrows") (eV 0)) aNil) r).bind _=_
   unfold aCons
   rw[e2]
   show some (eD 0 (as.map bG))=_
   rw[IZ bG]
  have hc:gA r [1]=[some (.int (g:Int))]:=by unfold gA;simp[O5]
  have:=DM (own:=2) (cap:=[1]) (fi:=λρ=>((aCons (e1 (cC [4] "arrows") (eV 0)) aNil) ρ).bind λds=>match ds with|[.lst xs]=>some (eD 0 xs)|_=>none) (g:=gT (gsCons (gV 0) (gsCons (gV 1) gsNil))) (p:=tb (e2 (n6 false) (e1 (cC [0,1,2,3] "goal") (eV 1)) (eV 2))) (f:=eV 0) (λp:de×Nat=>D.tup [.int (p.2:Int),bG p.1]) (λp=>decide (p.1.g=g)) (λp=>D.int (p.2:Int)) as.zipIdx e (by simp;omega) (λp _=>by
    refine⟨_,rfl,?_,λ_=>rfl⟩
    rw[hc]
    have:=fg p.1
    have hd:decide ((p.1.g:Int)=(g:Int))=decide (p.1.g=g):=by
     by_cases h:p.1.g=g
     ·simp[h]
     ·have:¬(p.1.g:Int)=(g:Int):=by omega
      simp[h,this]
    rw[←hd]
    walk_at "mir")
  rw[show jb r=_ from this]
  unfold into aW
  rw[dX]
  rfl
 unfold uh
 clear hl
 walk_at "mir"
def tm (as:List de)(Y:Nat->Nat->T)(L g:Nat)(w:T):T:=(as.filter λa=>decide (a.g=g)).foldl (λw a=>mx w (lt a.t (Y (L-a.b) a.s))) w
theorem Uv {xs:List D}{n b:Nat}(hn:xs.length=n+1)(hb:b<=n):atI xs (-1-(b:Int))=xs[n-b]?:=by
 unfold atI
 have:ixN xs.length (-1-(b:Int))=some (n-b):=by
  unfold ixN
  rw[if_neg (by omega),if_pos (by omega)]
  congr 1
  omega
 rw[this];rfl
def wr (Y:Nat->Nat->T)(L:Nat)(Z:Nat->T):Nat->Nat->T:=λi g=>if i=L then Z g else Y i g
theorem Mw {as:List de}{Y Y':Nat->Nat->T}{L g:Nat}(w:T)(h:∀a∈as,a.g=g->Y (L-a.b) a.s=Y' (L-a.b) a.s):tm as Y L g w=tm as Y' L g w:=by
 unfold tm
 have h2:∀a∈as.filter (λa=>decide (a.g=g)),Y (L-a.b) a.s=Y' (L-a.b) a.s:=λa ha=>by
  have:=bN.mp ha
  exact h a this.1 (by simpa using this.2)
 generalize as.filter (λa=>decide (a.g=g))=bs at h2
 induction bs generalizing w with
 |nil=>rfl
 |cons b bs ih=>
  rw[bM,bM,h2 b am]
  exact ih _ λa ha=>h2 a (ao _ ha)
theorem Uw {many L x:Nat}{Y:Nat->Nat->T}(hx:x<many)(v:T):(cz many (L+1) Y).set L (.lst (eT many λy=>if y=x then v else Y L y))=cz many (L+1) (wr Y L λy=>if y=x then v else Y L y):=by
 apply hE
 ·simp[cz]
 ·intro i h1 h2
  have hi:i<L+1:=by simpa[cz]using h2
  rw[li]
  by_cases hL:L=i
  ·subst hL
   rw[if_pos rfl]
   simp only[cz,lh,jY]
   congr 1
   exact jt λg _=>by simp[wr]
  ·rw[if_neg hL]
   have:¬i=L:=λz=>hL z.symm
   simp only[cz,lh,jY]
   congr 1
   exact jt λg _=>by simp[wr,this]
structure Run (as:List de)(many depth rounds:Nat)(past:Nat->Nat->T)(f:Nat->Nat->T)(Y:Nat->Nat->T):Prop where
 past:∀i,i<depth->∀g,g<many->Y i g=past i g
 rc:∀r,r<rounds->∀g,g<many->Y (depth+r) g=tm as Y (depth+r) g (f g r)
theorem Tr {many m:Nat}(Y:Nat->Nat->T)(Z:Nat->T):cz many m Y++[D.lst (eT many Z)]=cz many (m+1) (wr Y m Z):=by
 unfold cz
 rw[List.range_succ,gk]
 congr 1
 ·apply eG
  intro i hi
  have:i≠m:=by have:=cL.mp hi;omega
  congr 1
  exact jt λg _=>by simp[wr,this]
 ·simp only[bq,kx]
  congr 2
  exact jt λg _=>by simp[wr]
theorem Ts {ns:List D}{as:List de}{many:Nat}(h:jC many as)(hn:ns.length=many):∃p:List Nat,hR 4 "order" ut (bx ns as) []=some (.lst (aW p))/\Kahn.Ok (W0 as) many p/\p.length=many/\∀g,g<many->g∈p:=by
 obtain⟨p,h1,h2⟩:=h.placed
 refine⟨p,?_,h2⟩
 rw[Jk (by decide +kernel)]
 have f1:=Mv ns as
 have f2:=L6 ns as
 rw[←hn]at h1
 unfold ut
 clear hn h h2
 walk_at "mir"
theorem Tt {many k n:Nat}(Y:Nat->Nat->T):(cz many (n+k) Y).drop n=cz many k λr g=>Y (n+r) g:=by
 apply hE
 ·simp[cz]
 ·intro i h1 h2
  simp only[cz,List.getElem_drop,lh,jY]
def cx (net:D)(many:Nat)(pl:Nat->Int)(B:Nat):D:=.obj 5 ["net","times","beat"] [net,.lst (gu many pl),.int (B:Int)]
theorem DS (net:D)(many:Nat)(pl:Nat->Int)(B:Nat):cC [5] "net" (cx net many pl B)=some net:=rfl
theorem Ux (net:D)(many:Nat)(pl:Nat->Int)(B:Nat):cC [5] "times" (cx net many pl B)=some (.lst (gu many pl)):=rfl
theorem V5 (net:D)(many:Nat)(pl:Nat->Int)(B:Nat):cC [5] "beat" (cx net many pl B)=some (.int (B:Int)):=rfl
def oT (pl:Nat->Int)(B:Nat)(a:de):Int:=pl a.g+(B:Int)*(a.b:Int)-pl a.s-a.t
theorem M4 {ns:List D}{as:List de}{many B i:Nat}{pl:Nat->Int}{a:de}(hB:B<=150000000)(hs:a.s<many)(hg:a.g<many)(hi:as[i]?=some a):xo [cx (bx ns as) many pl B,.int (i:Int)]=some (.int (oT pl B a)):=by
 have f1:=DS (bx ns as) many pl B
 have f2:=Ux (bx ns as) many pl B
 have f3:=V5 (bx ns as) many pl B
 have f4:cC [4] "arrows" (bx ns as)=some (.lst (as.map bG)):=rfl
 have i1:ip (.lst (as.map bG)) (.int (i:Int))=some (bG a):=jx (by rw[bn,hi];rfl)
 have g1:=fs a
 have g2:=fg a
 have g3:=ft a
 have g4:=fb a
 have i2:ip (.lst (gu many pl)) (.int (a.g:Int))=some (.int (pl a.g)):=DR pl hg
 have i3:ip (.lst (gu many pl)) (.int (a.s:Int))=some (.int (pl a.s)):=DR pl hs
 have u1:hU (.int (B:Int)) (.int (a.b:Int))=some (.int ((B:Int)*(a.b:Int))):=zbi (by omega) (by omega)
 generalize cx (bx ns as) many pl B=tb at *
 unfold xo oT
 clear hi hs hg hB
 walk_at "mir"
theorem M5 {m:aK}{f:List D->Option D}{net:D}{many B:Nat}{pl:Nat->Int}{ds:List D}(h:(["net","times","beat"]:List aK).contains m=false):hR 5 m f (cx net many pl B) ds=f (cx net many pl B::ds):=by
 show(if 5=5/\(["net","times","beat"]:List aK).contains m=false then f (cx net many pl B::ds)else none)=_
 rw[if_pos ⟨rfl,h⟩]
theorem V6 {ns:List D}{as:List de}{many B:Nat}{pl:Nat->Int}(h:jC many as)(hB:B<=150000000)(Hr:∀a∈as,0<=oT pl B a):wv 5 [bx ns as,.lst (gu many pl),.int (B:Int)]=some (cx (bx ns as) many pl B):=by
 obtain⟨ρ',h1,x4,rfl⟩:=IC (g:=gV 4) (b:=w6) (lo:=0) (n:=as.length) (ρ:=[some (cx (bx ns as) many pl B),some (bx ns as),some (.lst (gu many pl)),some (.int (B:Int)),none])
  (λ_ ρ=>∃x4,ρ=[some (cx (bx ns as) many pl B),some (bx ns as),some (.lst (gu many pl)),some (.int (B:Int)),x4]) ⟨none,rfl⟩ (by
   rintro i ρ hi ⟨x4,rfl⟩
   have ha:as[i]?=some as[i]:=bJ hi
   have hm:as[i]∈as:=qR hi
   have s1:=M4 (ns:=ns) (pl:=pl) hB (h.right _ hm).s (h.right _ hm).g ha
   have s2:=M5 (m:="slack") (f:=xo) (net:=bx ns as) (many:=many) (B:=B) (pl:=pl) (ds:=[.int (i:Int)]) (by decide +kernel)
   rw[s1]at s2
   have s3:¬oT pl B as[i]<0:=by have:=Hr _ hm;omega
   refine⟨_,_,rfl,.inl ?_,some (.int (i:Int)),rfl⟩
   rw[show(0:Int)+(i:Int)=(i:Int)by omega]
   generalize cx (bx ns as) many pl B=tb,oT pl B as[i]=v at *
   unfold w6
   clear s1 h hB Hr ha hm hi
   walk_at "mir")
 have hlen:=h.len
 have r1:i8 [.int (as.length:Int)]=some (kG 0 as.length):=by rw[E9 (by omega) (by omega)];rfl
 have f4:cC [4] "arrows" (bx ns as)=some (.lst (as.map bG)):=rfl
 have s1:gE [5] "net" (eV 1) [some (D.obj 5 [] []),some (bx ns as),some (.lst (gu many pl)),some (.int (B:Int)),none]=some (.nx [some (D.obj 5 ["net"] [bx ns as]),some (bx ns as),some (.lst (gu many pl)),some (.int (B:Int)),none]):=rfl
 have s2:gE [5] "times" (eN jG (aCons (eV 2) aNil)) [some (D.obj 5 ["net"] [bx ns as]),some (bx ns as),some (.lst (gu many pl)),some (.int (B:Int)),none]=some (.nx [some (D.obj 5 ["net","times"] [bx ns as,.lst (gu many pl)]),some (bx ns as),some (.lst (gu many pl)),some (.int (B:Int)),none]):=rfl
 have s3:gE [5] "beat" (eV 3) [some (D.obj 5 ["net","times"] [bx ns as,.lst (gu many pl)]),some (bx ns as),some (.lst (gu many pl)),some (.int (B:Int)),none]=some (.nx [some (cx (bx ns as) many pl B),some (bx ns as),some (.lst (gu many pl)),some (.int (B:Int)),none]):=rfl
 generalize cx (bx ns as) many pl B=tb at *
 generalize bx ns as=net,gu many pl=vs at *
 unfold wv uD
 clear h hB Hr hlen
 walk_at "mir"
theorem V7 (neg:Bool)(n:Nat)(out:List Nat):inD neg (.int (n:Int)) (.lst (aW out))=some (.bl (if neg then !decide (n∈out)else decide (n∈out))):=by
 have hs:(aW out).all D.sc=true:=by
  unfold aW
  rw[List.all_map]
  exact fP.mpr λx _=>rfl
 have hi:uE (.int (n:Int)) (aW out)=decide (n∈out):=by
  unfold uE aW
  rw[List.any_map]
  induction out with
  |nil=>rfl
  |cons x out ih=>
   rw[d6,ih (by unfold aW;rw[List.all_map];exact fP.mpr λx _=>rfl)]
   show(((x:Int)==(n:Int)) || decide (n∈out))=_
   by_cases h:x=n
   ·subst h;simp
   ·have h':¬(x:Int)=(n:Int):=by omega
    have h2:¬n=x:=λz=>h z.symm
    simp[h',h2]
 show(if _ then _ else _)=_
 rw[if_pos ⟨rfl,hs⟩,hi]
def lat (pl:Nat->Int)(B:Nat)(as:List de)(out:List Nat):List de:=(as.zipIdx.filter λp=>decide (p.2∉out)).map λp=>{ p.1 with t:=- oT pl B p.1 }
def encL (a:de):D:=.tup [.int a.s,.int a.b,.int (-a.t)]
def lst1 (pl:Nat->Int)(B:Nat)(out:List Nat)(s:List de×Option D×Option D)(p:de×Nat):List de×Option D×Option D:=if p.2∈out then(s.1,some (.int (p.2:Int)),s.2.2)else(s.1++[{ p.1 with t:=- oT pl B p.1 }],some (.int (p.2:Int)),some (bG p.1))
theorem L7 (pl:Nat->Int)(B:Nat)(out:List Nat):∀(ps:List (de×Nat)) (s:List de×Option D×Option D),(ps.foldl (lst1 pl B out) s).1=s.1++(ps.filter λp=>decide (p.2∉out)).map λp=>{ p.1 with t:=- oT pl B p.1 }
 |[],s=>by simp
 |p::ps,s=>by
  rw[bM,L7 pl B out ps]
  unfold lst1
  by_cases h:p.2∈out
  ·rw[if_pos h];simp[h]
  ·rw[if_neg h];simp[h]
theorem Uy (pl:Nat->Int)(B:Nat)(as:List de)(out:List Nat)(g:Nat):((as.zipIdx.filter λp=>decide (p.1.g=g)).filter λp=>decide (p.2∉out)).map (λp=>({ p.1 with t:=- oT pl B p.1 }:de))=(lat pl B as out).filter λa=>decide (a.g=g):=by
 unfold lat
 rw[List.filter_map,pq,pq]
 congr 1
 apply List.filter_congr
 intro p _
 show(decide _&&decide _)=(decide _&&decide _)
 rw[Bool.and_comm]
theorem V8 {ns:List D}{as:List de}{many B:Nat}{pl:Nat->Int}(h:jC many as)(hB:B<=150000000)(g:Nat)(out:List Nat):wy [cx (bx ns as) many pl B,.int (g:Int),.lst (aW out)]=some (.lst (((lat pl B as out).filter λa=>decide (a.g=g)).map encL)):=by
 have hlen:=h.len
 have hn:aW (into as g)=(as.zipIdx.filter (λp=>decide (p.1.g=g))).map λp=>D.int (p.2:Int):=by unfold into aW;rw[dX];rfl
 have BU:∀p∈as.zipIdx.filter (λp=>decide (p.1.g=g)),as[p.2]?=some p.1:=λp hp=>Nn (bN.mp hp).1
 have el:(as.zipIdx.filter (λp=>decide (p.1.g=g))).length<=120:=bH (List.length_filter_le _ _) (by rw[pA];exact hlen)
 have t6:=Uy pl B as out g
 generalize as.zipIdx.filter (λp=>decide (p.1.g=g))=ps at *
 have in1:=Xv (ns:=ns) (as:=as) (by omega) g
 have HB:=Jk (m:="into") (f:=uh) (ns:=ns) (as:=as) (ds:=[.int (g:Int)]) (by decide +kernel)
 rw[in1]at HB
 have main:∀(qs:List (de×Nat)) (s:List de×Option D×Option D),(∀p∈qs,as[p.2]?=some p.1)->s.1.length+qs.length<=120 ->
   ∃y4 y5,gq (gV 4) xh (qs.map λp=>D.int (p.2:Int)) [some (cx (bx ns as) many pl B),some (.int (g:Int)),some (.lst (aW out)),some (.lst (s.1.map encL)),s.2.1,s.2.2]=some (.nx [some (cx (bx ns as) many pl B),some (.int (g:Int)),some (.lst (aW out)),some (.lst ((qs.foldl (lst1 pl B out) s).1.map encL)),y4,y5]):=by
  intro qs
  induction qs with
  |nil=>exactλs _ _=>⟨s.2.1,s.2.2,rfl⟩
  |cons p qs ih=>
   intro s hq hl
   obtain⟨y4,y5,hy⟩:=ih (lst1 pl B out s p) (λq rG=>hq q (ao _ rG)) (by
    unfold lst1
    rw[aB]at hl
    split
    ·dsimp only;omega
    ·dsimp only;rw[aV,fL];omega)
   refine⟨y4,y5,?_⟩
   rw[bM,bq]
   have hp:=hq p am
   have hm:p.1∈as:=dk.mpr ⟨_,hp⟩
   have step:xh [some (cx (bx ns as) many pl B),some (.int (g:Int)),some (.lst (aW out)),some (.lst (s.1.map encL)),some (.int (p.2:Int)),s.2.2]=some (.nx [some (cx (bx ns as) many pl B),some (.int (g:Int)),some (.lst (aW out)),some (.lst ((lst1 pl B out s p).1.map encL)),(lst1 pl B out s p).2.1,(lst1 pl B out s p).2.2]):=by
    have n1:=V7 true p.2 out
    have f1:=DS (bx ns as) many pl B
    have f4:cC [4] "arrows" (bx ns as)=some (.lst (as.map bG)):=rfl
    have i1:ip (.lst (as.map bG)) (.int (p.2:Int))=some (bG p.1):=jx (by rw[bn,hp];rfl)
    have g1:=fs p.1
    have g4:=fb p.1
    have s1:=M4 (ns:=ns) (pl:=pl) hB (h.right _ hm).s (h.right _ hm).g hp
    have s2:=M5 (m:="slack") (f:=xo) (net:=bx ns as) (many:=many) (B:=B) (pl:=pl) (ds:=[.int (p.2:Int)]) (by decide +kernel)
    rw[s1]at s2
    have hz:s.1.length<16777216:=by rw[aB]at hl;omega
    unfold lst1
    by_cases ho:p.2∈out
    ·rw[if_pos ho]
     dsimp only
     rw[decide_eq_true ho]at n1
     generalize cx (bx ns as) many pl B=tb,aW out=os at *
     unfold xh
     clear ih hy hq hl hp hm s1 h hB t6 BU el in1 HB hlen hn ho
     walk_at "mir"
    ·rw[if_neg ho]
     dsimp only
     rw[decide_eq_false ho]at n1
     rw[gk]
     have e1:[({ p.1 with t:=- oT pl B p.1 }:de)].map encL=[.tup [.int p.1.s,.int p.1.b,.int (oT pl B p.1)]]:=by
      show[D.tup [_,_,_]]=_
      rw[Int.neg_neg]
     rw[e1]
     generalize cx (bx ns as) many pl B=tb,aW out=os,oT pl B p.1=v at *
     unfold xh
     clear ih hy hq hl hp hm s1 h hB t6 BU el in1 HB hlen hn ho e1
     walk_at "mir"
   show((gV 4) (.int (p.2:Int)) _).bind _=_
   show(xh [some (cx (bx ns as) many pl B),some (.int (g:Int)),some (.lst (aW out)),some (.lst (s.1.map encL)),some (.int (p.2:Int)),s.2.2]).bind _=_
   rw[step]
   exact hy
 obtain⟨y4,y5,hf⟩:=main ps ([],none,none) BU (by simpa using el)
 rw[L7]at hf
 rw[show(([]:List de)++(ps.filter λp=>decide (p.2∉out)).map λp=>({ p.1 with t:=- oT pl B p.1 }:de))=_ from t6,←hn]at hf
 have f1:=DS (bx ns as) many pl B
 generalize cx (bx ns as) many pl B=tb at *
 generalize bx ns as=net,((lat pl B as out).filter λa=>decide (a.g=g)).map encL=zs,aW (into as g)=ms,aW out=os at *
 unfold wy
 clear main t6 BU el in1 hlen hn h hB
 replace hf:gq (gV 4) xh ms [some tb,some (.int (g:Int)),some (.lst os),some (.lst []),none,none]=_:=hf
 walk_at "mir"
def sT (Y:Nat->Nat->T)(L:Nat)(s:T×Option D×Option D×Option D)(a:de):T×Option D×Option D×Option D:=(mx s.1 (lt a.t (Y (L-a.b) a.s)),some (.int (a.s:Int)),some (.int (a.b:Int)),some (.int (-a.t)))
theorem IG (Y:Nat->Nat->T)(L:Nat):∀(bs:List de) (s:T×Option D×Option D×Option D),(bs.foldl (sT Y L) s).1=bs.foldl (λw a=>mx w (lt a.t (Y (L-a.b) a.s))) s.1
 |[],s=>rfl
 |b::bs,s=>by rw[bM,IG Y L bs];rfl
theorem Nx (w v:Int):∃u,mx (some w) (some v)=some u/\mS [.int w,.int v]=some (.int u):=⟨_,rfl,by rw[zbj]⟩
theorem Sl {many L:Nat}{Y:Nat->Nat->T}(hS:∀i,i<=L->∀g,g<many->∃y,Y i g=some y){bs:List de}(hb:∀a∈bs,a.b<=L/\a.s<many)(put:Int) :
  ∃v,bs.foldl (λw a=>mx w (lt a.t (Y (L-a.b) a.s))) (mx (some 0) (some put))=some v/\xa [.lst (cz many (L+1) Y),.lst (bs.map encL),.int put]=some (.int v):=by
 obtain⟨w0,Hv,EI⟩:=Nx 0 put
 obtain⟨e1,e2⟩:=IE (g:=gT (gsCons (gV 4) (gsCons (gV 5) (gsCons (gV 6) gsNil)))) (b:=yw) encL (λs:T×Option D×Option D×Option D=>[some (.lst (cz many (L+1) Y)),some (.lst (bs.map encL)),some (.int put),some (gR s.1),s.2.1,s.2.2.1,s.2.2.2])
  (sT Y L) (λs=>∃w,s.1=some w) bs (some w0,none,none,none) ⟨w0,rfl⟩ (λs a ha hs=>by
   obtain⟨w,hw⟩:=hs
   obtain⟨h1,h2⟩:=hb a ha
   obtain⟨y,hy⟩:=hS (L-a.b) (by omega) a.s h2
   obtain⟨u,yY,EH⟩:=Nx w (y+a.t)
   have i2:ip (.lst (cz many (L+1) Y)) (.int (-1-(a.b:Int)))=some (.lst (eT many (Y (L-a.b)))):=by
    show atI _ _=_
    rw[Uv (n:=L) (by rw[IF]) h1]
    unfold cz
    rw[bn,dJ (by omega)]
    rfl
   have i3:ip (.lst (eT many (Y (L-a.b)))) (.int (a.s:Int))=some (.int y):=by
    have:=M0 (Y (L-a.b)) h2
    rw[hy]at this
    exact this
   have e:mx s.1 (lt a.t (Y (L-a.b) a.s))=some u:=by rw[hw,hy];exact yY
   refine⟨_,rfl,.inl ?_,u,e⟩
   unfold sT
   rw[e,hw]
   have o1:∀i,gR (some i)=.int i:=λ_=>rfl
   have o2:y - -a.t=y+a.t:=by omega
   unfold yw
   generalize cz many (L+1) Y=rs,bs.map encL=ls at *
   clear Hv EI hw h1 h2 hy yY e hS hb ha
   walk_at "mir")
 rw[IG]at e2
 obtain⟨v,hv⟩:=e2
 have e3:=IG Y L bs (some w0,none,none,none)
 rw[hv]at e3
 generalize bs.foldl (sT Y L) (some w0,none,none,none)=S at e1 e3
 refine⟨v,by rw[Hv];exact hv,?_⟩
 rw[e3]at e1
 have o1:∀i,gR (some i)=.int i:=λ_=>rfl
 replace e1:gq (gT (gsCons (gV 4) (gsCons (gV 5) (gsCons (gV 6) gsNil)))) yw (bs.map encL) [some (.lst (cz many (L+1) Y)),some (.lst (bs.map encL)),some (.int put),some (.int w0),none,none,none]=some (.nx [some (.lst (cz many (L+1) Y)),some (.lst (bs.map encL)),some (.int put),some (.int v),S.2.1,S.2.2.1,S.2.2.2]):=e1
 generalize cz many (L+1) Y=rs,bs.map encL=ls at *
 unfold xa
 clear hS hb hv e3 Hv
 walk_at "mir"
theorem HV (o:T):∃p:Int,((o.map D.int).getD (.int 0))=.int p/\mx (some 0) (some p)=mx (some 0) o:=by
 cases o with
 |none=>exact⟨0,rfl,by show some _=some _;congr 1⟩
 |some v=>exact⟨v,rfl,rfl⟩
theorem Jl {pl:Nat->Int}{B:Nat}{as:List de}{out:List Nat}{a:de}(h:a∈lat pl B as out):∃b∈as,a.s=b.s/\a.g=b.g/\a.b=b.b/\a.t =-oT pl B b:=by
 obtain⟨p,hp,rfl⟩:=ky.mp h
 exact⟨p.1,dk.mpr ⟨_,Nn (bN.mp hp).1⟩,rfl,rfl,rfl,rfl⟩
theorem Xw {tb puts wo:Option D}{as bs:List de}{many L r rounds dp:Nat}{Y:Nat->Nat->T}{f:Nat->Nat->T}{d:D}{n:Nat}{x11 x12:Option D}{p:List Nat}(hd:jK d n f)(hS:∀i,i<=L->∀g,g<many->∃y,Y i g=some y)(hb:∀a∈bs,a.b<=L/\a.s<many)(lL:∀a∈bs,a.b=0->∃c∈as,c.s=a.s/\c.g=a.g/\c.b=0)(ok:Kahn.Ok (W0 as) many p)
  (Cu:D) (wQ:∀g,g<many->ip Cu (.int (g:Int))=some (.lst ((bs.filter λa=>decide (a.g=g)).map encL))) :
  ∃(Z:Nat->T) (sd se:Option D),gq (gV 11) E6 (aW p) [tb,some (.int (rounds:Int)),puts,wo,some (.int (many:Int)),some Cu,some d,some (.lst (aW p)),some (.int (dp:Int)),some (.lst (cz many (L+1) Y)),some (.int (r:Int)),x11,x12] =
   some (.nx [tb,some (.int (rounds:Int)),puts,wo,some (.int (many:Int)),some Cu,some d,some (.lst (aW p)),some (.int (dp:Int)),some (.lst (cz many (L+1) (wr Y L Z))),some (.int (r:Int)),sd,se])/\(∀g,g<many->∃z,Z g=some z)/\∀g∈p,Z g=tm bs (wr Y L Z) L g (mx (some 0) (f g r)):=by
 obtain⟨ρ',h1,pre,Z,sd,se,e1,⟨post,e2⟩,tY,hZ,rfl⟩:=qm (g:=gV 11) (b:=E6) (ds:=aW p) (ρ:=[tb,some (.int (rounds:Int)),puts,wo,some (.int (many:Int)),some Cu,some d,some (.lst (aW p)),some (.int (dp:Int)),some (.lst (cz many (L+1) Y)),some (.int (r:Int)),x11,x12])
  (λds ρ=>∃(pre:List Nat) (Z:Nat->T) (sd se:Option D),ds=aW pre/\(∃post,p=pre++post)/\(∀g,g<many->∃z,Z g=some z)/\(∀g∈pre,Z g=tm bs (wr Y L Z) L g (mx (some 0) (f g r)))/\ρ=[tb,some (.int (rounds:Int)),puts,wo,some (.int (many:Int)),some Cu,some d,some (.lst (aW p)),some (.int (dp:Int)),some (.lst (cz many (L+1) (wr Y L Z))),some (.int (r:Int)),sd,se])
  ⟨[],Y L,x11,x12,rfl,⟨p,rfl⟩,λg hg=>hS L (aH _) g hg,λg hg=>(by cases hg),by
   have:wr Y L (Y L)=Y:=by
    funext i g
    unfold wr
    by_cases h:i=L
    ·rw[if_pos h,h]
    ·rw[if_neg h]
   rw[this]⟩ (by
  rintro ds dd post ρ e ⟨pre,Z,sd,se,rfl,⟨iG,e'⟩,tY,hZ,rfl⟩
  have e3:aW iG=dd::post:=by
   have:aW p=aW pre++aW iG:=by rw[e'];simp[aW]
   rw[this]at e
   exact nh e
  cases iG with
  |nil=>cases e3
  |cons x iG=>
   have rq:dd=.int (x:Int):=by
    have:aW (x::iG)=.int (x:Int)::aW iG:=rfl
    rw[this]at e3
    cases e3
    rfl
   subst rq
   have hx:x∈p:=by rw[e'];simp
   have Hy:=ok.lt x hx
   have BS:p[pre.length]?=some x:=by rw[e'];simp
   have rH:∀a∈bs,a.b=0->a.g=x->a.s∈pre:=λa ha h0 hg=>by
    obtain⟨c,hc,c1,c2,c3⟩:=lL a ha h0
    have:=ok.ord pre.length x BS c (bN.mpr ⟨hc,by simpa using c3⟩) (c2.trans hg)
    rw[e',sf]at this
    ·rw[←c1];exact this
    ·rfl
   have Ez:x∉pre:=λz=>by
    have:=ok.nd
    rw[e',aX]at this
    exact this.2.2 x z x am rfl
   have rB:∀g∈pre,∀a∈bs,a.b=0->a.g=g->a.s≠x:=λg hg a ha h0 wJ z=>by
    obtain⟨c,hc,c1,c2,c3⟩:=lL a ha h0
    obtain⟨i,hi,ei⟩:=dC.mp hg
    have EC:p[i]?=some g:=by rw[e',bS hi];simp[hi,ei]
    have:=ok.ord i g EC c (bN.mpr ⟨hc,by simpa using c3⟩) (c2.trans wJ)
    rw[e',fW (by omega),c1]at this
    exact Ez (z▸iW this)
   have BA:∀i,i<=L->∀g,g<many->∃y,wr Y L Z i g=some y:=λi hi g hg=>by
    unfold wr
    by_cases h:i=L
    ·rw[if_pos h];exact tY g hg
    ·rw[if_neg h];exact hS i hi g hg
   have G5:=hd.getI x r (.int 0)
   obtain⟨pt,Kv,EC⟩:=HV (f x r)
   rw[Kv]at G5
   have wQ:=wQ x Hy
   obtain⟨v,hv,Kx⟩:=Sl BA (bs:=bs.filter λa=>decide (a.g=x)) (λa ha=>hb a (bN.mp ha).1) pt
   rw[EC]at hv
   have key:∀g,(∀a∈bs,a.g=g->a.b=0->a.s≠x)->∀(v w:T),tm bs (wr Y L λy=>if y=x then v else Z y) L g w=tm bs (wr Y L Z) L g w:=λg hg v w=>by
    refine Mw w λa ha wJ=>?_
    unfold wr
    by_cases hL:L-a.b=L
    ·rw[if_pos hL,if_pos hL]
     dsimp only
     rw[if_neg ?_]
     by_cases h0:a.b=0
     ·exact hg a ha wJ h0
     ·have:=(hb a ha).1
      omega
    ·rw[if_neg hL,if_neg hL]
   have hv:tm bs (wr Y L Z) L x (mx (some 0) (f x r))=some v:=hv
   refine⟨_,_,rfl,.inl ?_,pre++[x],λy=>if y=x then some v else Z y,some (.int (x:Int)),some (.int pt),(Mt pre x).symm▸rfl,⟨iG,by rw[e'];simp⟩,λg hg=>?_,?_,rfl⟩
   ·have BV:=Uw (many:=many) (L:=L) (x:=x) (Y:=wr Y L Z) Hy (some v)
    have hY:(wr (wr Y L Z) L λy=>if y=x then some v else wr Y L Z L y)=wr Y L λy=>if y=x then some v else Z y:=by
     funext i g
     unfold wr
     by_cases h:i=L<;>simp[h]
    have O9:lW (eT many (wr Y L Z L)) (x:Int) (.int v)=some (eT many λy=>if y=x then some v else wr Y L Z L y):=Ut _ Hy (some v)
    rw[hY]at BV
    have OZ:ixN (cz many (L+1) (wr Y L Z)).length (-1)=some L:=by
     rw[IF]
     unfold ixN
     rw[if_neg (by omega),if_pos (by omega)]
     congr 1
     omega
    have O6:(cz many (L+1) (wr Y L Z))[L]?=some (.lst (eT many (wr Y L Z L))):=by
     unfold cz
     rw[bn,dJ (by omega)]
     rfl
    unfold E6 oQ
    clear key rB rH Ez BS hx hv e e' e3 hZ tY ok hb hd hS BA lL Kv EC hY
    walk_at "mir"
   ·by_cases h:g=x
    ·exact⟨v,by dsimp only;rw[if_pos h]⟩
    ·obtain⟨z,hz⟩:=tY g hg
     exact⟨z,by dsimp only;rw[if_neg h,hz]⟩
   ·intro g hg
    rcases bj.mp hg with hg|hg
    ·have kU:g≠x:=λz=>Ez (z▸hg)
     dsimp only
     rw[if_neg kU,key g (λa ha wJ h0=>rB g hg a ha h0 wJ)]
     exact hZ g hg
    ·rw[aQ]at hg
     subst hg
     dsimp only
     rw[if_pos rfl,key g (λa ha wJ h0 z=>Ez (z▸rH a ha h0 wJ)),hv])
 have pS:pre=p:=by
  have hl:=congrArg iV e1
  simp[aW]at hl
  rw[e2,aV]at hl
  have:post=[]:=lw (by omega)
  rw[e2,this,bX]
 subst pS
 exact⟨Z,sd,se,h1,tY,hZ⟩
inductive vA:D->List Nat->Prop
 |no:vA .non []
 |some (out:List Nat):vA (.lst (aW out)) out
theorem Xx {ns:List D}{as:List de}{many rounds B:Nat}{pl:Nat->Int}{wo:D}{out:List Nat}{puts:List Fl}(h:jC many as)(hn:ns.length=many)(hr:rounds<=1000)(hB:B<=150000000)(hw:vA wo out)(el:puts.length<=1000) :
  ∃Y,Fp [cx (bx ns as) many pl B,.int (rounds:Int),.lst (puts.map ck),wo]=some (.lst (cz many rounds λr g=>Y (dep as+r) g))/\Run (lat pl B as out) many (dep as) rounds (λ_ _=>some 0) (λg r=>mx (some 0) (fl puts g r)) Y/\∀i,i<dep as+rounds->∀g,g<many->∃y,Y i g=some y:=by
 obtain⟨p,hp,ok,rF,nL⟩:=Ts h hn
 have hlen:=h.len
 have n8:=h.le
 have rA:=Xt λa ha=>(h.right a ha).b
 have mo:=Uu (ns:=ns) (as:=as) (by omega)
 obtain⟨d,Eu,hd2⟩:=WS puts el
 have wL:∀a∈lat pl B as out,a.b<=dep as/\a.s<many:=λa ha=>by
  obtain⟨b,hb,b1,b2,b3,b4⟩:=Jl ha
  exact⟨by rw[b3];exact Np hb,by rw[b1];exact(h.right b hb).s⟩
 have lL:∀a∈lat pl B as out,a.b=0->∃c∈as,c.s=a.s/\c.g=a.g/\c.b=0:=λa ha h0=>by
  obtain⟨b,hb,b1,b2,b3,b4⟩:=Jl ha
  exact⟨b,hb,b1.symm,b2.symm,by omega⟩
 have tl:=λg=>V8 (ns:=ns) (pl:=pl) h hB g out
 have q2:∀r:L3.Env,r[0]?.join=some (cx (bx ns as) many pl B)->r[3]?.join=some wo->r[4]?.join=some (.int (many:Int))->IK r=some (.lst ((bC many).map λg=>D.lst (((lat pl B as out).filter λa=>decide (a.g=g)).map encL))):=λr h0 h3 h4=>by
  unfold IK
  refine qr (r:=r) (own:=1) (cap:=[0,3]) (g:=gV 0) (fi:=λρ=>((aCons (eV 4) aNil) ρ).bind i8) (f:=λρ=>((aCons (eV 1) (aCons (eV 0) (aCons (eIf (tb (e2 (qO false) (eV 2) (eC .non))) (λρ=>(aNil ρ).bind λds=>some (.lst ds)) (eV 2)) aNil))) ρ).bind λds=>wy (ds++[])) (λ(t:Nat)=>D.int (t:Int)) (λ(g:Nat)=>D.lst (((lat pl B as out).filter λa=>decide (a.g=g)).map encL)) (bC many) (Fs h4 (by omega)) (by rw[cK];omega) λg hg=>⟨_,rfl,?_⟩
  have i6:gA r [0,3]=[some (cx (bx ns as) many pl B),some wo]:=by unfold gA;simp[h0,h3]
  rw[i6]
  have t1:=tl g
  generalize cx (bx ns as) many pl B=tb,((lat pl B as out).filter λa=>decide (a.g=g)).map encL=zs at *
  cases hw with
  |no=>
   have e0:aW []=[]:=rfl
   rw[e0]at t1
   clear i6 h0 h3 h4 hg tl lL wL hd2 Eu rA n8 hlen nL rF ok hp h hn hr hB mo
   walk_at "mir"
  |some out=>
   clear i6 h0 h3 h4 hg tl lL wL hd2 Eu rA n8 hlen nL rF ok hp h hn hr hB mo
   walk_at "mir"
 have q1:∀r:L3.Env,r[4]?.join=some (.int (many:Int))->r[8]?.join=some (.int (dep as:Int))->Mr r=some (.lst (cz many (dep as) λ_ _=>some 0)):=λr h4 h8=>by
  refine qr (λ(t:Nat)=>D.int (t:Int)) (λ_=>D.lst (eT many λ_=>some 0)) (bC (dep as)) (Fs h8 (by omega)) (by rw[cK];omega) λg _=>⟨_,rfl,?_⟩
  have i6:gA r [4]=[some (.int (many:Int))]:=by unfold gA;simp[h4]
  rw[i6]
  have rp:kl (.lst [.int 0]) (.int (many:Int))=some (.lst (eT many λ_=>some 0)):=by
   unfold kl
   dsimp only
   rw[if_pos ⟨by omega,by omega,by simp⟩]
   congr 2
   unfold eT
   rw[ir,cK]
   simp[gR]
  clear i6 h4 h8 q2 tl lL wL hd2 Eu rA n8 hlen nL rF ok hp h hn hr hB mo
  walk_at "mir"
 have wQ:∀g,g<many->ip (.lst ((bC many).map λg=>D.lst (((lat pl B as out).filter λa=>decide (a.g=g)).map encL))) (.int (g:Int))=some (.lst (((lat pl B as out).filter λa=>decide (a.g=g)).map encL)):=λg hg=>jx (by simp[hg])
 generalize (D.lst ((bC many).map λg=>D.lst (((lat pl B as out).filter λa=>decide (a.g=g)).map encL)))=LK at q2 wQ
 obtain⟨ρ',h1,Y,Iv,sd,se,rfl,run,hS⟩:=IC (g:=gV 10) (b:=IJ) (lo:=0) (n:=rounds) (ρ:=[some (cx (bx ns as) many pl B),some (.int (rounds:Int)),some (.lst (puts.map ck)),some wo,some (.int (many:Int)),some LK,some d,some (.lst (aW p)),some (.int (dep as:Int)),some (.lst (cz many (dep as) λ_ _=>some 0)),none,none,none])
  (λr ρ=>∃Y Iv sd se,ρ=[some (cx (bx ns as) many pl B),some (.int (rounds:Int)),some (.lst (puts.map ck)),some wo,some (.int (many:Int)),some LK,some d,some (.lst (aW p)),some (.int (dep as:Int)),some (.lst (cz many (dep as+r) Y)),Iv,sd,se]/\Run (lat pl B as out) many (dep as) r (λ_ _=>some 0) (λg r=>mx (some 0) (fl puts g r)) Y/\∀i,i<dep as+r->∀g,g<many->∃y,Y i g=some y)
  ⟨λ_ _=>some 0,none,none,none,rfl,⟨λ_ _ _ _=>rfl,λr hr=>by omega⟩,λi hi g hg=>⟨0,rfl⟩⟩ (by
   rintro r ρ Hm ⟨Y,Iv,sd,se,rfl,run,hS⟩
   obtain⟨Z,z11,Ri,hz,tY,hZ⟩:=Xw (tb:=some (cx (bx ns as) many pl B)) (puts:=some (.lst (puts.map ck))) (wo:=some wo) (as:=as) (bs:=lat pl B as out) (many:=many) (L:=dep as+r) (r:=r) (rounds:=rounds) (dp:=dep as) (Y:=wr Y (dep as+r) λ_=>some 0) (x11:=sd) (x12:=se) (p:=p) hd2
    (λi hi g hg=>by
     unfold wr
     by_cases he:i=dep as+r
     ·rw[if_pos he];exact⟨0,rfl⟩
     ·rw[if_neg he];exact hS i (by omega) g hg)
    (λa ha=>⟨by have:=(wL a ha).1;omega,(wL a ha).2⟩) lL ok LK wQ
   have EI:wr (wr Y (dep as+r) λ_=>some 0) (dep as+r) Z=wr Y (dep as+r) Z:=by
    funext i g
    unfold wr
    by_cases hi:i=dep as+r<;>simp[hi]
   rw[EI]at hz hZ
   refine⟨_,_,rfl,.inl ?_,wr Y (dep as+r) Z,some (.int (r:Int)),z11,Ri,rfl,⟨?_,?_⟩,?_⟩
   ·have e0:(0:Int)+(r:Int)=(r:Int):=by omega
    have rp:kl (.lst [.int 0]) (.int (many:Int))=some (.lst (eT many λ_=>some 0)):=by
     unfold kl
     dsimp only
     rw[if_pos ⟨by omega,by omega,by simp⟩]
     congr 2
     unfold eT
     rw[ir,cK]
     simp[gR]
    have BM:(cz many (dep as+r) Y).length<16777216:=by rw[IF];omega
    have Ys:=Tr (many:=many) (m:=dep as+r) Y λ_=>some 0
    rw[e0]
    generalize cx (bx ns as) many pl B=tb,puts.map ck=xO at *
    unfold IJ
    clear hZ tY EI wQ q1 q2 tl lL wL run hS nL ok hp h hn Eu hd2 hlen n8 rA hr Hm rF hw hB mo
    walk_at "mir"
    rfl
   ·intro i hi g hg
    unfold wr
    rw[if_neg (by omega)]
    exact run.past i hi g hg
   ·intro r2 Yq g hg
    by_cases he:r2=r
    ·subst he
     have:wr Y (dep as+r2) Z (dep as+r2) g=Z g:=by simp[wr]
     rw[this]
     exact hZ g (nL g hg)
    ·have h3:wr Y (dep as+r) Z (dep as+r2) g=Y (dep as+r2) g:=by unfold wr;rw[if_neg (by omega)]
     rw[h3,run.rc r2 (by omega) g hg]
     refine Mw _ λa _ _=>?_
     unfold wr
     rw[if_neg (by omega)]
   ·intro i hi g hg
    unfold wr
    by_cases he:i=dep as+r
    ·rw[if_pos he];exact tY g hg
    ·rw[if_neg he];exact hS i (by omega) g hg)
 refine⟨Y,?_,run,hS⟩
 have r1:i8 [.int (rounds:Int)]=some (kG 0 rounds):=by rw[E9 (by omega) (by omega)];rfl
 have k2:=q2 [some (cx (bx ns as) many pl B),some (.int (rounds:Int)),some (.lst (puts.map ck)),some wo,some (.int (many:Int)),none,none,none,none,none,none,none,none] rfl rfl rfl
 have k1:=q1 [some (cx (bx ns as) many pl B),some (.int (rounds:Int)),some (.lst (puts.map ck)),some wo,some (.int (many:Int)),some LK,some d,some (.lst (aW p)),some (.int (dep as:Int)),none,none,none,none] rfl rfl
 have e3:cutD (cz many (dep as+rounds) Y) (some (dep as:Int)) none=cz many rounds λr g=>Y (dep as+r) g:=by rw[SY _ (dep as),Tt]
 have f1:=DS (bx ns as) many pl B
 have f2:=Mv ns as
 have l1:eO [.lst ns]=some (.int (many:Int)):=by rw[jl,hn]
 generalize cx (bx ns as) many pl B=tb at *
 generalize bx ns as=net,puts.map ck=xO,(cz many rounds λr g=>Y (dep as+r) g)=res,(cz many (dep as) λ_ _=>some 0)=YR,cz many (dep as+rounds) Y=mD at *
 unfold Fp
 clear wQ q1 q2 tl lL wL run hS nL ok h hn hd2 hlen n8 rA hr rF hw hB el
 walk_at "mir"
theorem V9 {many m:Nat}{Y:Nat->Nat->T}{i g:Nat}(hi:i<m)(hg:g<many):ip (.lst (cz many m Y)) (.int (i:Int))=some (.lst (eT many (Y i)))/\ip (.lst (eT many (Y i))) (.int (g:Int))=some (gR (Y i g)) :=
 ⟨jx (by unfold cz;rw[bn,dJ hi];rfl),M0 _ hg⟩
def iH (as:List de):List Nat:=(as.zipIdx.filter λp=>decide (p.1.c=.wait)).map (·.2)
theorem M6 {ns:List D}{as:List de}{many B:Nat}{pl:Nat->Int}(hl:as.length<=1000)(r:L3.Env)(h:r[0]?.join=some (cx (bx ns as) many pl B)):vt r=some (.lst (aW (iH as))):=by
 have f1:=DS (bx ns as) many pl B
 have f2:=L6 ns as
 have e0:(λρ=>((aCons (e1 (cC [4] "arrows") (e1 (cC [5] "net") (eV 0))) aNil) ρ).bind λds=>match ds with|[.lst xs]=>some (eD 0 xs)|_=>none) r=some (as.zipIdx.map λp=>D.tup [.int (p.2:Int),bG p.1]):=by
  have e:eV 0 r=some (cx (bx ns as) many pl B):=h
  show((aCons (e1 (cC [4] "arrows") (e1 (cC [5] "net") (eV 0))) aNil) r).bind _=_
  have:(aCons (e1 (cC [4] "arrows") (e1 (cC [5] "net") (eV 0))) aNil) r=some [.lst (as.map bG)]:=by
   generalize cx (bx ns as) many pl B=tb at *
   generalize bx ns as=nd at *
   unfold aCons e1 aNil
   rw[e]
   simp[f1,f2]
  rw[this]
  show some (eD 0 (as.map bG))=_
  rw[IZ]
 unfold aW iH
 rw[dX]
 refine DM (λp:de×Nat=>D.tup [.int (p.2:Int),bG p.1]) (λp=>decide (p.1.c=.wait)) _ as.zipIdx e0 (by rw[pA];omega) λp _=>⟨[some (.int (p.2:Int)),some (bG p.1)],rfl,?_,λ_=>rfl⟩
 obtain⟨⟨c,s,g,t,b⟩,i⟩:=p
 cases c<;>rfl
theorem Mx {ns:List D}{as:List de}{many B going beat:Nat}{pl:Nat->Int}{puts:List Fl}(h:jC many as)(hn:ns.length=many)(hb:beat<=900)(hB:B<=150000000)(hg:going<many)(el:puts.length<=1000)(out:List Nat) :
  ∃Y,Run (lat pl B as out) many (dep as) (beat+1) (λ_ _=>some 0) (λg r=>mx (some 0) (fl puts g r)) Y/\∃y:Int,Y (dep as+beat) going=some y/\wd [cx (bx ns as) many pl B,.lst (puts.map ck),.int (going:Int),.int (beat:Int),.lst (aW out)]=some (.bl (decide (y > 0))):=by
 obtain⟨Y,l1,run,hS⟩:=Xx (ns:=ns) (pl:=pl) (rounds:=beat+1) (puts:=puts) h hn (by omega) hB (.some out) el
 obtain⟨y,hy⟩:=hS (dep as+beat) (by omega) going hg
 refine⟨Y,run,y,hy,?_⟩
 obtain⟨i1,i2⟩:=V9 (many:=many) (m:=beat+1) (Y:=λr g=>Y (dep as+r) g) (i:=beat) (by omega) hg
 replace i2:ip (.lst (eT many λg=>Y (dep as+beat) g)) (.int (going:Int))=some (.int y):=by rw[i2,hy];rfl
 have e1:((beat+1:Nat):Int)=(beat:Int)+1:=by omega
 rw[e1]at l1
 replace i1:ip (.lst (cz many (beat+1) λr g=>Y (dep as+r) g)) (.int (beat:Int))=some (.lst (eT many λg=>Y (dep as+beat) g)):=i1
 generalize cx (bx ns as) many pl B=tb,puts.map ck=xO,cz many (beat+1) (λr g=>Y (dep as+r) g)=rs,eT many (λg=>Y (dep as+beat) g)=vs,aW out=no at *
 unfold wd
 clear run hS hy h hn hb hB hg el e1
 walk_at "mir"
def nv (ws:List Nat):List (List Nat):=ws.foldl (λS w=>S++S.map (·++[w])) [[]]
theorem M7 (ws:List Nat):∀S:List (List Nat),(ws.foldl (λS w=>S++S.map (·++[w])) S).length=2 ^ ws.length*S.length:=by
 induction ws with
 |nil=>intro S;simp
 |cons w ws ih=>
  intro S
  rw[bM,ih,aV,aM,aB,nS]
  rw[←Nat.two_mul,nq]
def mE:Nat->List Int->List Int
 |0,l=>l
 |n+1,l=>mE n (l++l.map (·+1))
theorem Wa (ws:List Nat):∀S:List (List Nat),(ws.foldl (λS w=>S++S.map (·++[w])) S).map (λx=>(x.length:Int))=mE ws.length (S.map λx=>(x.length:Int)):=by
 induction ws with
 |nil=>intro S;rfl
 |cons w ws ih=>
  intro S
  rw[bM,ih,aB]
  show mE _ _=mE ws.length (S.map (λx=>(x.length:Int))++(S.map λx=>(x.length:Int)).map (·+1))
  refine congrArg (mE ws.length) ?_
  rw[gk,dX,dX]
  congr 1
  exact eG λx _=>by show((x++[w]).length:Int)=(x.length:Int)+1;simp
theorem Tu (S:List (List Nat)):lR (S.map λx=>D.lst (aW x))=some (S.map λx=>(x.length:Int)):=by
 induction S with
 |nil=>rfl
 |cons x S ih=>
  show(lR (S.map λx=>D.lst (aW x))).bind _=_
  rw[ih]
  simp[aW]
theorem Xy (ws:List Nat):∀(S:List (List Nat)) (W:D) (y2:Option D),2 ^ ws.length*S.length<=1000->(∀x∈S,x.length+ws.length<=1000)->∃z2,gq (gV 2) wk (aW ws) [some W,some (.lst (S.map λx=>D.lst (aW x))),y2]=some (.nx [some W,some (.lst ((ws.foldl (λS w=>S++S.map (·++[w])) S).map λx=>D.lst (aW x))),z2]):=by
 induction ws with
 |nil=>intro S W y2 _ _;exact⟨y2,rfl⟩
 |cons w ws ih=>
  intro S W y2 hS hx
  rw[aB,nS,nq]at hS
  have hp:1<=2 ^ ws.length:=Nat.one_le_two_pow
  have BA:2*S.length<=1000:=bH (Nat.le_mul_of_pos_left _ hp) hS
  obtain⟨z2,h2⟩:=ih (S++S.map (·++[w])) W (some (.int (w:Int))) (by rw[aV,aM,show S.length+S.length=2*S.length by omega];exact hS) (λx rJ=>by
   rcases bj.mp rJ with h|h
   ·have:=hx x h;rw[aB]at this;omega
   ·obtain⟨y,hy,rfl⟩:=ky.mp h
    have:=hx y hy
    rw[aB]at this
    simp;omega)
  refine⟨z2,?_⟩
  have q:j3 [some W,some (.lst (S.map λx=>D.lst (aW x))),some (.int (w:Int))]=some (.lst ((S.map (·++[w])).map λx=>D.lst (aW x))):=by
   rw[dX]
   refine qr (λx:List Nat=>D.lst (aW x)) _ S rfl (by omega) λx rJ=>⟨[some (.lst (aW x)),some (.int (w:Int))],rfl,?_⟩
   have ad:fC (.lst (aW x)) (.lst [.int (w:Int)])=some (.lst (aW (x++[w]))):=by
    have:=hx x rJ
    rw[aB]at this
    show(if _ then some (D.lst _)else none)=_
    rw[if_pos (by simp[aW];omega)]
    simp[aW]
   show _=some (D.lst (aW (x++[w])))
   generalize aW (x++[w])=R,aW x=X at *
   clear h2 ih hx rJ hS hp BA
   walk_at "mir"
  have ad:fC (.lst (S.map λx=>D.lst (aW x))) (.lst ((S.map (·++[w])).map λx=>D.lst (aW x)))=some (.lst ((S++S.map (·++[w])).map λx=>D.lst (aW x))):=by
   show(if _ then some (D.lst _)else none)=_
   rw[if_pos (by simp;omega),gk]
  rw[bM,←h2]
  have st:wk [some W,some (.lst (S.map λx=>D.lst (aW x))),some (.int (w:Int))]=some (.nx [some W,some (.lst ((S++S.map (·++[w])).map λx=>D.lst (aW x))),some (.int (w:Int))]):=by
   generalize (S++S.map (·++[w])).map (λx=>D.lst (aW x))=R at *
   generalize (S.map (·++[w])).map (λx=>D.lst (aW x))=R2,S.map (λx=>D.lst (aW x))=R1 at *
   unfold wk
   generalize j3=Q at *
   clear h2 ih hx hS hp BA
   walk_at "mir"
  show(gV 2 (D.int (w:Int)) _).bind _=_
  show(wk [some W,some (.lst (S.map λx=>D.lst (aW x))),some (.int (w:Int))]).bind _=_
  rw[st];rfl
def oN (n i:Nat):Int:=if i<n then Int.ofNat (i%2+i/2%2+i/4%2+i/8%2+i/16%2+i/32%2+i/64%2+i/128%2)else 0
theorem M8:∀(n:Nat) (l:List Int),(mE n l).length=2 ^ n*l.length
 |0,l=>by simp[mE]
 |n+1,l=>by
  show(mE n (l++l.map (·+1))).length=_
  rw[M8 n,aV,aM,nS,←Nat.two_mul,nq]
def sx (n:Nat)(l:List Int):Bool:=(bC l.length).all λi=>decide (l.getD i 0=oN n i)
theorem Wb:sx 2 (mE 1 [0])=true/\sx 4 (mE 2 [0])=true/\sx 8 (mE 3 [0])=true/\sx 16 (mE 4 [0])=true/\sx 32 (mE 5 [0])=true/\sx 64 (mE 6 [0])=true/\sx 128 (mE 7 [0])=true/\sx 256 (mE 8 [0])=true:=by decide +kernel
theorem Xz {n:Nat}{l:List Int}(h:sx n l=true)(hl:l.length=n):(λi=>l.getD i 0)=oN n:=by
 funext i
 by_cases hi:i<n
 ·have:=fP.mp h i (cL.mpr (by omega))
  exact of_decide_eq_true this
 ·unfold oN
  rw[if_neg hi,bo,di (by omega)];rfl
noncomputable def rh (n:Nat)(kf:Nat->Int):Bool:=match L2.TS.tsort n kf with
 |some π=>(π.length==n)&&(π.head?==some 0)&&π.all (λi=>decide (i<n))
 |none=>false
theorem FT:rh 2 (oN 2)=true:=by decide +kernel
theorem FU:rh 4 (oN 4)=true:=by decide +kernel
theorem FV:rh 8 (oN 8)=true:=by decide +kernel
theorem FW:rh 16 (oN 16)=true:=by decide +kernel
theorem FY:rh 32 (oN 32)=true:=by decide +kernel
theorem FZ:rh 64 (oN 64)=true:=by decide +kernel
theorem Ga:rh 128 (oN 128)=true:=by decide +kernel
theorem Gb:rh 256 (oN 256)=true:=by decide +kernel
structure D1 (n:Nat)(kf:Nat->Int)(π:List Nat):Prop where
 len:π.length=n
 head:π.head?=some 0
 lt:∀i∈π,i<n
theorem XB {n:Nat}{kf:Nat->Int}(h:rh n kf=true):∃π,L2.TS.tsort n kf=some π/\D1 n kf π:=by
 unfold rh at h
 cases e:L2.TS.tsort n kf with
 |none=>rw[e]at h;cases h
 |some π=>
  rw[e]at h
  simp only[bT,beq_iff_eq]at h
  exact⟨π,rfl,h.1.1,h.1.2,λi hi=>of_decide_eq_true (fP.mp h.2 i hi)⟩
theorem VA {n:Nat}(hn:n<=8):∃π,L2.TS.tsrt (mE n [0])=some π/\D1 (2 ^ n) (oN (2 ^ n)) π:=by
 have big:∀m N,2<=N->2 ^ m=N->sx N (mE m [0])=true->rh N (oN N)=true->∃π,L2.TS.tsrt (mE m [0])=some π/\D1 (2 ^ m) (oN (2 ^ m)) π:=by
  intro m N h2 hN h3 h4
  have hl:(mE m [0]).length=N:=by rw[M8,←hN];simp
  obtain⟨π,e,s⟩:=XB h4
  refine⟨π,?_,by rw[hN];exact s⟩
  unfold L2.TS.tsrt
  rw[if_neg (by omega),hl,Xz h3 hl,e]
 obtain⟨p1,p2,p3,p4,p5,p6,p7,p8⟩:=Wb
 have:n=0\/n=1\/n=2\/n=3\/n=4\/n=5\/n=6\/n=7\/n=8:=by omega
 rcases this with rfl|rfl|rfl|rfl|rfl|rfl|rfl|rfl|rfl
 ·exact⟨[0],rfl,rfl,rfl,by simp⟩
 ·exact big 1 2 (by decide) rfl p1 FT
 ·exact big 2 4 (by decide) rfl p2 FU
 ·exact big 3 8 (by decide) rfl p3 FV
 ·exact big 4 16 (by decide) rfl p4 FW
 ·exact big 5 32 (by decide) rfl p5 FY
 ·exact big 6 64 (by decide) rfl p6 FZ
 ·exact big 7 128 (by decide) rfl p7 Ga
 ·exact big 8 256 (by decide) rfl p8 Gb
theorem XC {ws:List Nat}(h:ws.length<=8):∃π,D1 (2 ^ ws.length) (oN (2 ^ ws.length)) π/\jc [.lst (aW ws)]=some (.lst ((π.map λi=>(nv ws).getD i []).map λx=>D.lst (aW x))):=by
 obtain⟨π,e,s⟩:=VA h
 refine⟨π,s,?_⟩
 have hp:2 ^ ws.length<=256:=by
  have:=jA (show 0<2 by decide) h
  exact this
 obtain⟨z2,g⟩:=Xy ws [[]] (.lst (aW ws)) none (by simpa using(by omega:2 ^ ws.length<=1000)) (λx hx=>by
  rw[aQ.mp hx]
  simp;omega)
 have sl:(nv ws).length=2 ^ ws.length:=by unfold nv;rw[M7];simp
 have so:lE (.lst ((nv ws).map λx=>D.lst (aW x)))=some (.lst ((π.map λi=>(nv ws).getD i []).map λx=>D.lst (aW x))):=by
  unfold lE
  dsimp only
  rw[Tu,bw]
  have:(nv ws).map (λx=>(x.length:Int))=mE ws.length [0]:=Wa ws [[]]
  rw[this,e,bw,if_pos ⟨by rw[aM,sl];omega,by rw[s.len];omega,λi hi=>by rw[aM,sl];exact s.lt i hi⟩]
  congr 2
  rw[dX]
  refine eG λi hi=>?_
  have hi:=s.lt i hi
  show((nv ws).map λx=>D.lst (aW x)).getD i .non=D.lst (aW ((nv ws).getD i []))
  rw[bo,bo,bn,bJ (by omega)];rfl
 have g:gq (gV 2) wk (aW ws) [some (.lst (aW ws)),some (.lst [.lst []]),none]=some (.nx [some (.lst (aW ws)),some (.lst ((nv ws).map λx=>D.lst (aW x))),z2]):=g
 generalize (π.map λi=>(nv ws).getD i []).map (λx=>D.lst (aW x))=R,(nv ws).map (λx=>D.lst (aW x))=S,aW ws=W at *
 clear s e sl hp h
 unfold jc
 generalize wk=B at *
 walk_at "mir"
theorem XD (ws:List Nat):∀(S:List (List Nat)) (x:List Nat),x∈ws.foldl (λS w=>S++S.map (·++[w])) S->∃y∈S,x.length<=y.length+ws.length:=by
 induction ws with
 |nil=>intro S x hx;exact⟨x,hx,by simp⟩
 |cons w ws ih=>
  intro S x hx
  obtain⟨y,hy,hl⟩:=ih _ x hx
  rcases bj.mp hy with h|h
  ·exact⟨y,h,by rw[aB];omega⟩
  ·obtain⟨z,hz,rfl⟩:=ky.mp h
   exact⟨z,hz,by rw[aV]at hl;simp at hl ⊢;omega⟩
theorem Tv (ws:List Nat):∀S:List (List Nat),S.head?=some []->(ws.foldl (λS w=>S++S.map (·++[w])) S).head?=some []:=by
 induction ws with
 |nil=>intro S h;exact h
 |cons w ws ih=>
  intro S h
  refine ih _ ?_
  cases S with
  |nil=>cases h
  |cons a S=>exact h
theorem LC {α:Type}{g:D->L3.Env->Option L3.Env}{b:SF}(enc:α->D)(I:L3.Env->Prop)(N:α->Prop)(R:α->D->Prop):∀(xs:List α) (ρ:L3.Env),I ρ->(∀x∈xs,∀ρ,I ρ->∃ρ1,g (enc x) ρ=some ρ1/\((N x/\∃ρ2,b ρ1=some (.nx ρ2)/\I ρ2)\/∃w,R x w/\b ρ1=some (.rt w))) ->
  ((∀x∈xs,N x)/\∃ρ',gq g b (xs.map enc) ρ=some (.nx ρ')/\I ρ')\/∃pre x post w,xs=pre++x::post/\(∀y∈pre,N y)/\R x w/\gq g b (xs.map enc) ρ=some (.rt w)
 |[],ρ,h,_=>.inl ⟨λ_ h=>(by cases h),ρ,rfl,h⟩
 |x::xs,ρ,h,st=>by
  obtain⟨ρ1,h1,h2⟩:=st x am ρ h
  have Rf:gq g b ((x::xs).map enc) ρ=(g (enc x) ρ).bind λρ1=>(b ρ1).bind λo=>match o with
    |.nx ρ'=>gq g b (xs.map enc) ρ'
    |.ct ρ'=>gq g b (xs.map enc) ρ'
    |.bk ρ'=>some (.nx ρ')
    |.rt d=>some (.rt d):=rfl
  rw[Rf,h1,bw]
  rcases h2 with⟨e,ρ2,h2,h3⟩|⟨w,e,h2⟩
  ·rw[h2,bw]
   rcases LC enc I N R xs ρ2 h3 λy hy=>st y (ao _ hy)with⟨a1,ρ',a2,a3⟩|⟨pre,z,post,w,a1,a2,a3,a4⟩
   ·refine .inl ⟨λy hy=>?_,ρ',a2,a3⟩
    rcases az.mp hy with rfl|hy
    ·exact e
    ·exact a1 y hy
   ·refine .inr ⟨x::pre,z,post,w,by rw[a1];rfl,λy hy=>?_,a3,a4⟩
    rcases az.mp hy with rfl|hy
    ·exact e
    ·exact a2 y hy
  ·rw[h2]
   exact .inr ⟨[],x,xs,w,rfl,λ_ h=>(by cases h),e,rfl⟩
theorem VB {as:List de}{Y:Nat->Nat->T}{L g:Nat}(h:∀a∈as,a.g=g->∃z:Int,z<=0/\lt a.t (Y (L-a.b) a.s)=some z):tm as Y L g (some 0)=some 0:=by
 unfold tm
 have key:∀bs:List de,(∀a∈bs,∃z:Int,z<=0/\lt a.t (Y (L-a.b) a.s)=some z)->bs.foldl (λw a=>mx w (lt a.t (Y (L-a.b) a.s))) (some 0)=some 0:=by
  intro bs
  induction bs with
  |nil=>intro _;rfl
  |cons a bs ih=>
   intro hb
   obtain⟨z,hz,e⟩:=hb a am
   rw[bM,e]
   have:mx (some 0) (some z)=some 0:=by simp only[mx];congr 1;omega
   rw[this]
   exact ih λa ha=>hb a (ao _ ha)
 exact key _ λa ha=>by
  have:=bN.mp ha
  exact h a this.1 (by simpa using this.2)
theorem Uz {as:List de}{many rounds depth:Nat}{Y:Nat->Nat->T}(hr:Run as many depth rounds (λ_ _=>some 0) (λg r=>mx (some 0) (fl [] g r)) Y)(hb:∀a∈as,1<=a.b/\a.b<=depth/\a.s<many/\a.t<=0):∀r,r<rounds->∀g,g<many->Y (depth+r) g=some 0:=by
 have key:∀n r,r<n->r<rounds->∀g,g<many->Y (depth+r) g=some 0:=by
  intro n
  induction n with
  |zero=>intro r h;omega
  |succ n ih=>
   intro r hn Hm g hg
   rw[hr.rc r Hm g hg]
   show tm as Y (depth+r) g (some 0)=some 0
   refine VB λa ha _=>?_
   obtain⟨b1,b2,b3,b4⟩:=hb a ha
   have:Y (depth+r-a.b) a.s=some 0:=by
    by_cases c:a.b<=r
    ·rw[show depth+r-a.b=depth+(r-a.b)by omega]
     exact ih (r-a.b) (by omega) (by omega) a.s b3
    ·exact hr.past _ (by omega) _ b3
   rw[this]
   exact⟨0+a.t,by omega,rfl⟩
 exactλr=>key (r+1) r (by omega)
section
variable {ns:List D}{as:List de}{many B going beat:Nat}{pl:Nat->Int}{puts:List Fl}
theorem Nq (h:jC many as)(hn:ns.length=many)(hb:beat<=900)(hB:B<=150000000)(hg:going<many)(el:puts.length<=1000)(h8:(iH as).length<=8) :
  ∃w,wz [cx (bx ns as) many pl B,.lst (puts.map ck),.int (going:Int),.int (beat:Int)]=some w/\(w=.non\/∃x:List Nat,w=.lst (aW x)/\x.length<=(iH as).length) /\
   ((∀out,wd [cx (bx ns as) many pl B,.lst (puts.map ck),.int (going:Int),.int (beat:Int),.lst (aW out)]=some (.bl false))->w=.lst []):=by
 have hlen:=h.len
 have q:=M6 (ns:=ns) (as:=as) (many:=many) (B:=B) (pl:=pl) (by omega) [some (cx (bx ns as) many pl B),some (.lst (puts.map ck)),some (.int (going:Int)),some (.int (beat:Int)),none,none] rfl
 have la:∀out,∃e:Bool,wd [cx (bx ns as) many pl B,.lst (puts.map ck),.int (going:Int),.int (beat:Int),.lst (aW out)]=some (.bl e):=λout=>by
  obtain⟨_,_,y,_,e⟩:=Mx (pl:=pl) (puts:=puts) h hn hb hB hg el out
  exact⟨_,e⟩
 obtain⟨π,sr,so⟩:=XC h8
 obtain⟨L,hL⟩:∃L,L = π.map λi=>(nv (iH as)).getD i []:=⟨_,rfl⟩
 rw[←hL]at so
 have sl:(nv (iH as)).length=2 ^ (iH as).length:=by unfold nv;rw[M7];simp
 have short:∀x∈L,x.length<=(iH as).length:=λx hx=>by
  rw[hL]at hx
  obtain⟨i,hi,rfl⟩:=ky.mp hx
  have hi:=sr.lt i hi
  rw[bo,bJ (by omega),fE]
  obtain⟨y,hy,hl⟩:=XD (iH as) [[]] _ (qR (by omega:i<(nv (iH as)).length))
  rw[aQ.mp hy]at hl
  simpa using hl
 have first:∃L',L=[]::L':=by
  have h1:=sr.head
  cases π with
  |nil=>cases h1
  |cons i π=>
   cases h1
   refine⟨π.map λi=>(nv (iH as)).getD i [],hL.trans ?_⟩
   rw[bq]
   refine congrArg (·::_) ?_
   have:=Tv (iH as) [[]] rfl
   show(nv (iH as)).getD 0 []=[]
   unfold nv
   revert this
   generalize (iH as).foldl (λS w=>S++S.map (·++[w])) [[]]=Z
   intro this
   cases Z with
   |nil=>cases this
   |cons a Z=>cases this;rfl
 have ln:eO [.lst (aW (iH as))]=some (.int ((iH as).length:Int)):=by rw[jl];simp[aW]
 have c8:¬((iH as).length:Int) > 8:=by omega
 obtain⟨e,he⟩:=la (iH as)
 have lp:=LC (g:=gV 5) (b:=wl) (λx:List Nat=>D.lst (aW x)) (λρ=>∃y5,ρ=[some (cx (bx ns as) many pl B),some (.lst (puts.map ck)),some (.int (going:Int)),some (.int (beat:Int)),some (.lst (aW (iH as))),y5])
  (λx=>wd [cx (bx ns as) many pl B,.lst (puts.map ck),.int (going:Int),.int (beat:Int),.lst (aW x)]=some (.bl true)) (λx w=>w=.lst (aW x)) L [some (cx (bx ns as) many pl B),some (.lst (puts.map ck)),some (.int (going:Int)),some (.int (beat:Int)),some (.lst (aW (iH as))),none] ⟨_,rfl⟩ (by
  rintro x hx ρ ⟨y5,rfl⟩
  refine⟨[some (cx (bx ns as) many pl B),some (.lst (puts.map ck)),some (.int (going:Int)),some (.int (beat:Int)),some (.lst (aW (iH as))),some (.lst (aW x))],rfl,?_⟩
  obtain⟨e,he⟩:=la x
  cases e with
  |true=>
   refine .inl ⟨he,[some (cx (bx ns as) many pl B),some (.lst (puts.map ck)),some (.int (going:Int)),some (.int (beat:Int)),some (.lst (aW (iH as))),some (.lst (aW x))],?_,_,rfl⟩
   generalize cx (bx ns as) many pl B=tb,puts.map ck=xO,aW x=X,aW (iH as)=W at *
   unfold wl
   clear la first short so sr q ln hL
   walk_at "mir"
  |false=>
   refine .inr ⟨_,rfl,?_⟩
   generalize cx (bx ns as) many pl B=tb,puts.map ck=xO,aW x=X,aW (iH as)=W at *
   unfold wl
   clear la first short so sr q ln hL
   walk_at "mir")
 cases e with
 |true=>
  refine⟨.non,?_,.inl rfl,λno=>?_⟩
  ·generalize cx (bx ns as) many pl B=tb at *
   generalize puts.map ck=xO,aW (iH as)=W at *
   clear la first short so sr lp hL h8
   unfold wz
   generalize vt=Q,wl=B1 at *
   walk_at "mir"
  ·have:=no (iH as)
   rw[he]at this
   cases this
 |false=>
  rcases lp with⟨no,ρ',lp,y5,rfl⟩|⟨pre,x,post,w,e1,e2,rfl,lp⟩
  ·refine⟨.non,?_,.inl rfl,λok=>?_⟩
   ·generalize L.map (λx=>D.lst (aW x))=LL at *
    generalize cx (bx ns as) many pl B=tb,puts.map ck=xO,aW (iH as)=W at *
    clear la first short sr no hL h8
    unfold wz
    generalize vt=Q,wl=B1 at *
    walk_at "mir"
   ·obtain⟨L',e⟩:=first
    have a1:=no [] (by rw[e];exact am)
    rw[ok []]at a1
    cases a1
  ·refine⟨.lst (aW x),?_,.inr ⟨x,rfl,short x (by rw[e1];simp)⟩,λok=>?_⟩
   ·generalize L.map (λx=>D.lst (aW x))=LL at *
    generalize cx (bx ns as) many pl B=tb,puts.map ck=xO,aW (iH as)=W,aW x=X at *
    clear la first short sr e1 e2 hL h8
    unfold wz
    generalize vt=Q,wl=B1 at *
    walk_at "mir"
   ·obtain⟨L',e⟩:=first
    cases pre with
    |nil=>
     rw[e]at e1
     obtain⟨rfl,_⟩:=List.cons.inj e1
     rfl
    |cons y pre=>
     have:=e2 y am
     rw[ok y]at this
     cases this
end
theorem Nr (ns:List Int)(i:Int)(hi:0<=i):∃c,we [.lst (ns.map .int),.int i]=some (.int c):=by
 obtain⟨k,rfl⟩:∃k:Nat,i=k:=⟨i.toNat,by omega⟩
 unfold we
 by_cases h:k<ns.length
 ·refine⟨ns[k],?_⟩
  have:ip (.lst (ns.map .int)) (.int (k:Int))=some (.int ns[k]):=VP D.int (.inl rfl) (by simp[h])
  walk_at "mir"
 ·refine⟨0,?_⟩
  walk_at "mir"
theorem zJ (c:Int){k:Int}(h0:0<=k)(h1:k<=1000000):∃r:Nat,xp [.int c,.int k]=some (.int (r:Int))/\r<2147483648:=by
 have m0:hU (.int 31) (.int k)=some (.int (31*k)):=zbi (by decide) (by decide)
 have s0:pX (.int c) (.int (1+31*k))=some (.int (c/2 ^ (1+31*k).toNat)):=zc2 (by omega)
 have fin:∀z:Int,∀m:Int,0<m->m<=2147483648->∃r:Nat,(some (D.int (z%m)):Option D)=some (.int (r:Int))/\r<2147483648:=λz m hm o6=>by
  have a1:=lZ z (by omega:m≠0)
  have a2:=qB z hm
  exact⟨(z%m).toNat,by rw[pj a1],by omega⟩
 generalize hn:(c+7919*k+1)*48271%2147483647=n1
 have b1:0<=n1/\n1<2147483647:=by omega
 have m1:hU (.int 7919) (.int k)=some (.int (7919*k)):=zbi (by decide) (by decide)
 have m2:hU (.int (c+7919*k+1)) (.int 48271)=some (.int ((c+7919*k+1)*48271)):=ziw (by decide) (by decide)
 have m3:hU (.int n1) (.int (n1/1009+69621))=some (.int (n1*(n1/1009+69621))):=zbi (by omega) (by omega)
 generalize uB:n1*(n1/1009+69621)%2147483647=n2
 have b2:0<=n2/\n2<2147483647:=by omega
 have m4:hU (.int n2) (.int (n2/2003+39373+k))=some (.int (n2*(n2/2003+39373+k))):=zbi (by omega) (by omega)
 unfold xp
 by_cases hr:(1237940039285380274899124224:Int)<=c
 ·by_cases qL:¬c%2=1
  ·obtain⟨r,e1,e2⟩:=fin (n2*(n2/2003+39373+k)) 2147483629 (by decide) (by decide)
   refine⟨r,?_,e2⟩
   rw[←e1]
   clear e1 e2 fin b1 b2 h0 h1 s0
   walk_at "mir"
  replace qL:c%2=1:=Classical.byContradiction qL
  by_cases hs:c/2 ^ (1+31*k).toNat > 0
  ·obtain⟨r,e1,e2⟩:=fin (c/2 ^ (1+31*k).toNat) 2147483648 (by decide) (by decide)
   refine⟨r,?_,e2⟩
   rw[←e1]
   generalize c/2 ^ (1+31*k).toNat=q at s0 hs
   clear e1 e2 fin hn uB b1 b2 h0 h1
   walk_at "mir"
  ·obtain⟨r,e1,e2⟩:=fin (n2*(n2/2003+39373+k)) 2147483629 (by decide) (by decide)
   refine⟨r,?_,e2⟩
   rw[←e1]
   generalize c/2 ^ (1+31*k).toNat=q at s0 hs
   clear e1 e2 fin b1 b2 h0 h1
   walk_at "mir"
 ·obtain⟨r,e1,e2⟩:=fin (n2*(n2/2003+39373+k)) 2147483629 (by decide) (by decide)
  refine⟨r,?_,e2⟩
  rw[←e1]
  clear e1 e2 fin b1 b2 h0 h1 s0
  walk_at "mir"
def xK (k:Nat):aK:=⟨#[97+k]⟩
def lu (n:Nat):List D:=(bC n).map λ(k:Nat)=>D.str (xK k)
def KA:Option D->Bool
 |some (.bl true)=>true
 |_=>false
theorem XF {x:Option D}(h:KA x=true):x=some (.bl true):=by
 unfold KA at h
 split at h
 ·rfl
 ·cases h
theorem X8 {n:Nat}(h1:1<=n)(h2:n<=6):ur [.lst (lu n)]=some (.bl true):=by
 have:n=1\/n=2\/n=3\/n=4\/n=5\/n=6:=by omega
 rcases this with rfl|rfl|rfl|rfl|rfl|rfl<;>exact XF (by decide +kernel)
def HC (x:Option D)(c:aK):Bool:=match x with
 |some (.str a)=>decide (a=c)
 |_=>false
theorem XH {x:Option D}{c:aK}(h:HC x c=true):x=some (.str c):=by
 unfold HC at h
 split at h
 ·rw[of_decide_eq_true h]
 ·cases h
theorem UA {ns:List Int}{r:L3.Env}(i a b:Nat)(h:r[i]?.join=some (.lst (ns.map .int))):lsD (λρ=>((eV i) ρ).bind λd=>((pInt (eC (.int a))) ρ).bind λl=>((pInt (eC (.int b))) ρ).bind λh=>jR d l h) r=some (((ns.drop a).take (b-a)).map .int):=by
 have e:eV i r=some (.lst (ns.map .int)):=h
 unfold lsD
 show(((eV i) r).bind _).bind _=_
 rw[e]
 show some (cutD (ns.map .int) (some (a:Int)) (some (b:Int)))=_
 rw[Uj,List.map_take,List.map_drop]
theorem HE:∀l,l<5->HC (ip (.str "abcde") (.int ((l:Nat):Int))) (xK l)=true:=by decide +kernel
structure Ar (many:Nat)(a:de):Prop where
 s:a.s<many
 g:a.g<many
 t0:0<=a.t
 t1:a.t<=10
 b:a.b=1
 c:a.c≠.ride
theorem VC (as:List de):(iH as).length=as.countP λa=>decide (a.c=.wait):=by
 unfold iH
 rw[aM]
 have:=congrArg iV (LB (λa:de=>decide (a.c=.wait)) as 0)
 rw[aM]at this
 rw[this,List.countP_eq_length_filter]
theorem UB (c:Int){many n:Nat}(hm:1<=many)(hn:n<=30){x0 x3 x7 x8 x9 x10 x11 x12:Option D} :
  ∃(as:List de) (y5 y6:Option D),gq (gV 5) j4 (kG 0 n) [x0,some (.int c),some (.int (many:Int)),x3,some (.lst []),none,none,x7,x8,x9,x10,x11,x12]=some (.nx [x0,some (.int c),some (.int (many:Int)),x3,some (.lst (as.map bG)),y5,y6,x7,x8,x9,x10,x11,x12])/\(∀a∈as,Ar many a)/\as.length<=2*n/\(as.countP λa=>decide (a.c=.wait))=n:=by
 obtain⟨ρ',h1,as,y5,y6,rfl,ha,hl,hc⟩:=IC (g:=gV 5) (b:=j4) (lo:=0) (n:=n) (ρ:=[x0,some (.int c),some (.int (many:Int)),x3,some (.lst []),none,none,x7,x8,x9,x10,x11,x12])
  (λk ρ=>∃(as:List de) (y5 y6:Option D),ρ=[x0,some (.int c),some (.int (many:Int)),x3,some (.lst (as.map bG)),y5,y6,x7,x8,x9,x10,x11,x12]/\(∀a∈as,Ar many a)/\as.length<=2*k/\(as.countP λa=>decide (a.c=.wait))=k)
  ⟨[],none,none,rfl,λ_ h=>(by cases h),aH _,rfl⟩ (by
   rintro j ρ hj ⟨as,y5,y6,rfl,ha,hl,hc⟩
   obtain⟨z1,m1,_⟩:=zJ c (k:=10+(j:Int)) (by omega) (by omega)
   obtain⟨z2,m2,_⟩:=zJ c (k:=50+(j:Int)) (by omega) (by omega)
   obtain⟨z3,m3,_⟩:=zJ c (k:=90+(j:Int)) (by omega) (by omega)
   obtain⟨z4,m4,_⟩:=zJ c (k:=130+(j:Int)) (by omega) (by omega)
   have u1:fR (.int (z1:Int)) (.int (many:Int))=some (.int ((z1%many:Nat):Int)):=by rw[ul (by omega)];simp
   have u2:fR (.int (z2:Int)) (.int (many:Int))=some (.int ((z2%many:Nat):Int)):=by rw[ul (by omega)];simp
   have g1:z1%many<many:=Nat.mod_lt _ (by omega)
   have g2:z2%many<many:=Nat.mod_lt _ (by omega)
   generalize z1%many=s,z2%many=g at *
   obtain⟨W,hW⟩:∃W:de,W=⟨.wait,s,g,(z3:Int)%11,1⟩:=⟨_,rfl⟩
   obtain⟨Bk,Ep⟩:∃W:de,W=⟨.back,s,s,3,1⟩:=⟨_,rfl⟩
   have r2:uo 2 [.int (s:Int),.int (g:Int),.int ((z3:Int)%11),.int 1]=some (bG W):=by rw[hW];rfl
   have r3:uq 3 [.int (s:Int),.int (s:Int),.int 3,.int 1]=some (bG Bk):=by rw[Ep];rfl
   have l1:(as.map bG).length<16777216:=by rw[aM];omega
   have l2:(as.map bG).length+1<16777216:=by rw[aM];omega
   have aw:Ar many W:=by rw[hW];exact⟨g1,g2,by show 0<=(z3:Int)%11;omega,by show(z3:Int)%11<=10;omega,rfl,nofun⟩
   have ab:Ar many Bk:=by rw[Ep];exact⟨g1,g1,by show(0:Int)<=3;decide,by show(3:Int)<=10;decide,rfl,nofun⟩
   have cw:W.c=.wait:=by rw[hW]
   have cb:Bk.c=.back:=by rw[Ep]
   clear hW Ep
   rw[Int.zero_add]
   by_cases q:(z4:Int)%3=0
   ·refine⟨_,[x0,some (.int c),some (.int (many:Int)),x3,some (.lst ((as++[W,Bk]).map bG)),some (.int (j:Int)),some (.int (s:Int)),x7,x8,x9,x10,x11,x12],rfl,.inl ?_,_,_,_,rfl,λa h=>?_,by rw[aV];simp;omega,by rw[dW,hc];simp[cw,cb]⟩
    ·have e:(as++[W,Bk]).map bG=as.map bG++[bG W]++[bG Bk]:=by simp
     rw[e]
     generalize bG W=ew,bG Bk=eb,as.map bG=A at *
     clear e ha hl hc aw ab g1 g2 hj hm hn cw cb
     unfold j4
     walk_at "mir"
    ·rcases bj.mp h with h|h
     ·exact ha a h
     ·rcases az.mp h with rfl|h
      ·exact aw
      ·rw[aQ.mp h];exact ab
   ·refine⟨_,[x0,some (.int c),some (.int (many:Int)),x3,some (.lst ((as++[W]).map bG)),some (.int (j:Int)),some (.int (s:Int)),x7,x8,x9,x10,x11,x12],rfl,.inl ?_,_,_,_,rfl,λa h=>?_,by rw[aV];simp;omega,by rw[dW,hc];simp[cw,cb]⟩
    ·have e:(as++[W]).map bG=as.map bG++[bG W]:=by simp
     rw[e]
     generalize bG W=ew,as.map bG=A at *
     clear e ha hl hc aw ab g1 g2 hj hm hn cw cb r3
     unfold j4
     walk_at "mir"
    ·rcases bj.mp h with h|h
     ·exact ha a h
     ·rw[aQ.mp h];exact aw)
 exact⟨as,y5,y6,h1,ha,hl,hc⟩
theorem XJ {many:Nat}(hm:1<=many)(cs:List Int)(hc:cs.length<=60){x0 x1 x3 x4 x5 x6 x7 x10 x11 x12:Option D} :
  ∃(ps:List Fl) (y9:Option D),gq (gV 9) zI (cs.map .int) [x0,x1,some (.int (many:Int)),x3,x4,x5,x6,x7,some (.lst []),none,x10,x11,x12]=some (.nx [x0,x1,some (.int (many:Int)),x3,x4,x5,x6,x7,some (.lst (ps.map ck)),y9,x10,x11,x12])/\ps.length=cs.length:=by
 obtain⟨ρ',h1,ps,y9,rfl,hl⟩:=qm (g:=gV 9) (b:=zI) (ds:=cs.map .int) (ρ:=[x0,x1,some (.int (many:Int)),x3,x4,x5,x6,x7,some (.lst []),none,x10,x11,x12])
  (λds ρ=>∃(ps:List Fl) (y9:Option D),ρ=[x0,x1,some (.int (many:Int)),x3,x4,x5,x6,x7,some (.lst (ps.map ck)),y9,x10,x11,x12]/\ps.length=ds.length)
  ⟨[],none,rfl,rfl⟩ (by
   rintro pre d post ρ e ⟨ps,y9,rfl,hl⟩
   have el:pre.length<60:=by
    have:=congrArg iV e
    simp at this
    omega
   have hd:=Jt e
   rw[bn]at hd
   obtain⟨c,_,rfl⟩:=bF.mp hd
   obtain⟨z1,m1,_⟩:=zJ c (k:=1) (by decide) (by decide)
   obtain⟨z2,m2,_⟩:=zJ c (k:=2) (by decide) (by decide)
   have u1:fR (.int (z1:Int)) (.int (many:Int))=some (.int ((z1%many:Nat):Int)):=by rw[ul (by omega)];simp
   have u2:fR (.int (z2:Int)) (.int 3)=some (.int ((z2%3:Nat):Int)):=by rw[ul (by omega)];simp
   generalize z1%many=s,z2%3=r at *
   have l1:(ps.map ck).length<16777216:=by rw[aM];omega
   refine⟨_,[x0,x1,some (.int (many:Int)),x3,x4,x5,x6,x7,some (.lst ((ps++[(s,r,c%20)]).map ck)),some (.int c),x10,x11,x12],rfl,.inl ?_,_,_,rfl,by simp[hl]⟩
   have e2:(ps++[(s,r,c%20)]).map ck=ps.map ck++[.tup [.int (s:Int),.int (r:Int),.int (c%20)]]:=by simp[ck]
   rw[e2]
   generalize ps.map ck=A at *
   clear e e2 hd hl el
   unfold zI
   walk_at "mir")
 exact⟨ps,y9,h1,by simpa using hl⟩
local macro_rules| `(tactic|walk_at "mix")=>`(tactic|simp -implicitDefEqProofs [mOfX,sSeqX,sDropX,sForX,sIfX,sRaise,sTry,thD,hitL,isiX,fldX,xOf,sRetX,sSetX,mOf,startD,sSeq,sIf,sSet,sRet,sRetN,sDrop,sPar,sAsg,sApp,sFor,lsD,zi2,sSkip,eV,eC,e1,e2,eN,aNil,aCons,pNo,pInt,jm,tb,zmb,bNot,bAnd,bOr,eB,eIf,gV,gT,gsCons,gsNil,zfz,zf0,zix,ziy,ziz,zi0,jl,zf2,zf1,zf3,zi1,zma,D.isN,D.isB,zi4,zmc,zdz,ul,zbi,ziw,zfx,zfy,zc2,jm,zbj,zd0,sFz,zf7,zf8, *])
theorem L8 {ns:List D}{as:List de}{many B n:Nat}{pl:Nat->Int}{pD gD bD:D}(hl:as.length<=1000)(h9:9<=n)(hn:n<=100)(hw:(iH as).length=n):wp [cx (bx ns as) many pl B,pD,gD,bD,.int (n:Int)]=some (.bl true):=by
 have q:jd [some (cx (bx ns as) many pl B),some pD,some gD,some bD,none,none]=some (.lst (aW (iH as))):=M6 (ns:=ns) (as:=as) (many:=many) (B:=B) (pl:=pl) hl [some (cx (bx ns as) many pl B),some pD,some gD,some bD,none,none] rfl
 have ln:eO [.lst (aW (iH as))]=some (.int (n:Int)):=by rw[jl];simp[aW,hw]
 have c9:(n:Int) > 8:=by omega
 have fm:oH (.int (n:Int))=some (.int (n:Int)):=by
  show(if _ then _ else _)=_
  rw[if_pos ?_]
  show(n:Int).natAbs.log2<1920
  rw[Int.natAbs_natCast]
  exact kn (Nat.log2_le_self n) (by omega)
 have h2:jq [cx (bx ns as) many pl B,pD,gD,bD]=some (.xc (.exc 11 ["many"] [.int (n:Int)])):=by
  generalize cx (bx ns as) many pl B=tb,aW (iH as)=W at *
  unfold jq
  generalize jd=Q at *
  clear hl hn hw h9
  walk_at "mix"
 have e2:jQ "bool" (.int (n:Int))=some (.bl false):=rfl
 have e3:jQ "int" (.int (n:Int))=some (.bl true):=rfl
 generalize cx (bx ns as) many pl B=tb at *
 unfold wp
 clear hl hn hw h9 q ln fm c9
 walk_at "mix"
theorem UC (ns:List Int)(_:ns.length<=63):Fv [.lst (ns.map .int)]=some (.bl true):=by
 obtain⟨c,c0⟩:=Nr ns 0 (by decide)
 obtain⟨d,c1⟩:=Nr ns 1 (by decide)
 obtain⟨many,BP,wU,Hg⟩:∃m:Nat,1+c%5=(m:Int)/\1<=m/\m<=5:=⟨(1+c%5).toNat,by omega,by omega,by omega⟩
 obtain⟨n,hn,sO⟩:∃n:Nat,ip (.lst [.int (c/5%31),.int 7,.int 8,.int 9]) (.int (c/155%4))=some (.int (n:Int))/\n<=30:=by
  have:c/155%4=0\/c/155%4=1\/c/155%4=2\/c/155%4=3:=by omega
  rcases this with e|e|e|e<;>rw[e]
  ·exact⟨(c/5%31).toNat,by show some (D.int _)=some (D.int _);congr 2;omega,by omega⟩
  ·exact⟨7,rfl,by decide⟩
  ·exact⟨8,rfl,by decide⟩
  ·exact⟨9,rfl,by decide⟩
 have rg:i8 [.int (n:Int)]=some (kG 0 n):=by rw[E9 (by omega) (by omega)];simp
 obtain⟨as,y5,y6,la,ha,BB,yR⟩:=UB c (n:=n) wU sO (x0:=some (.lst (ns.map .int))) (x3:=some (.int (n:Int))) (x7:=none) (x8:=none) (x9:=none) (x10:=none) (x11:=none) (x12:=none)
 have hw:(iH as).length=n:=(VC as).trans yR
 have nl:(lu many).length=many:=by unfold lu;rw[aM,cK]
 have ok:jC many as:=⟨wU,by omega,by omega,λa h=>by
  have:=ha a h
  exact⟨this.s,this.g,this.t0,by have:=this.t1;omega,by rw[this.b];decide,λz=>absurd z this.c,λ_=>by rw[this.b];exact aH _⟩,λ_=>0,λa h z=>by rw[(ha a h).b]at z;cases z⟩
 have sl:∀a∈as,0<=oT (λ_=>0) 10 a:=λa h=>by
  have:=ha a h
  have h1:=this.t1
  show 0<=(0:Int)+((10:Nat):Int)*(a.b:Int)-0-a.t
  rw[this.b]
  omega
 have nt:=X7 (ns:=lu many) ok nl (X8 wU (by omega))
 have tbl:=V6 (ns:=lu many) (B:=10) (pl:=λ_=>0) ok (by decide) sl
 have rp:kl (.lst [.int 0]) (.int (many:Int))=some (.lst (gu many λ_=>0)):=by
  have e:gu many (λ_=>0)=aC many (D.int 0):=by unfold gu;rw[ir,cK]
  unfold kl
  dsimp only
  rw[if_pos ⟨by omega,by omega,by simp⟩,e]
  simp
 have q1:∀r:L3.Env,r[2]?.join=some (.int (many:Int))->Fb r=some (.lst (lu many)):=λr hr=>by
  refine qr (λ(t:Nat)=>D.int (t:Int)) _ (bC many) (Fs (by rw[←hr];rfl) (by omega)) (by simp;omega) λk hk=>⟨[some (.int (k:Int))],rfl,?_⟩
  have:=XH (HE k (by have:=cL.mp hk;omega))
  generalize xK k=L at *
  clear hk hr nl la ha yR BB hw ok sl nt tbl rp BP hn rg c0 c1 wU Hg sO
  walk_at "mir"
 have q1:=q1 [some (.lst (ns.map .int)),some (.int c),some (.int (many:Int)),some (.int (n:Int)),some (.lst (as.map bG)),y5,y6,none,none,none,none,none,none] rfl
 have ce:=UA (ns:=ns) (r:=[some (.lst (ns.map .int)),some (.int c),some (.int (many:Int)),some (.int (n:Int)),some (.lst (as.map bG)),y5,y6,some (cx (bx (lu many) as) many (λ_=>0) 10),some (.lst []),none,none,none,none]) 0 2 6 rfl
 obtain⟨ps,y9,lp,el⟩:=XJ wU ((ns.drop 2).take (6-2)) (by rw[cG];omega) (x0:=some (.lst (ns.map .int))) (x1:=some (.int c)) (x3:=some (.int (n:Int))) (x4:=some (.lst (as.map bG))) (x5:=y5) (x6:=y6) (x7:=some (cx (bx (lu many) as) many (λ_=>0) 10)) (x10:=none) (x11:=none) (x12:=none)
 have el:ps.length<=1000:=by rw[el,cG];omega
 obtain⟨g,hg,yV⟩:∃g:Nat,fR (.int d) (.int (many:Int))=some (.int (g:Int))/\g<many:=by
  refine⟨(d%(many:Int)).toNat,?_,?_⟩
  ·rw[ul (by omega),pj (lZ _ (by omega))]
  ·have:=qB d (show(0:Int)<(many:Int)by omega)
   have:=lZ d (show(many:Int)≠0 by omega)
   omega
 obtain⟨b,hb,sq⟩:∃b:Nat,d/5%3=(b:Int)/\b<=2:=⟨(d/5%3).toNat,by omega,by omega⟩
 by_cases h9:(n:Int) > 8
 ·have r1:=L8 (ns:=lu many) (as:=as) (many:=many) (B:=10) (pl:=λ_=>0) (pD:=.lst (ps.map ck)) (gD:=.int (g:Int)) (bD:=.int (b:Int)) (by omega) (by omega) (by omega) hw
  have r2:=L8 (ns:=lu many) (as:=as) (many:=many) (B:=10) (pl:=λ_=>0) (pD:=.lst []) (gD:=.int (g:Int)) (bD:=.int (b:Int)) (by omega) (by omega) (by omega) hw
  rw[show((10:Nat):Int)=10 from rfl]at tbl
  generalize cx (bx (lu many) as) many (λ_=>0) 10=TB at *
  generalize bx (lu many) as=NT at *
  generalize lu many=NM,gu many (λ_=>0)=VE,as.map bG=AS,ps.map ck=PS,D.lst (ns.map .int)=S0,((ns.drop 2).take (6-2)).map D.int=CS,kG 0 n=UP at *
  clear ha yR BB hw ok sl nl el yV sq wU Hg sO
  unfold Fv
  generalize (lsD (λρ=>((eV 0) ρ).bind λd=>((pInt (eC (.int 2))) ρ).bind λl=>((pInt (eC (.int 6))) ρ).bind λh=>jR d l h))=LS,zI=B1,j4=B2,Fb=Q1 at *
  walk_at "mir"
 ·obtain⟨w,g1,g2,_⟩:=Nq (ns:=lu many) (B:=10) (pl:=λ_=>0) (puts:=ps) (beat:=b) ok nl (by omega) (by decide) yV el (by omega)
  obtain⟨v,g3,_,g4⟩:=Nq (ns:=lu many) (B:=10) (pl:=λ_=>0) (puts:=[]) (beat:=b) ok nl (by omega) (by decide) yV (by simp) (by omega)
  have zero:∀out,wd [cx (bx (lu many) as) many (λ_=>0) 10,.lst (([]:List Fl).map ck),.int (g:Int),.int (b:Int),.lst (aW out)]=some (.bl false):=λout=>by
   obtain⟨Y,run,y,hy,e⟩:=Mx (ns:=lu many) (B:=10) (pl:=λ_=>0) (puts:=[]) (beat:=b) ok nl (by omega) (by decide) yV (by simp) out
   have:=Uz run (λa h=>by
    obtain⟨a',h',e1,e2,e3,e4⟩:=Jl h
    have q:=ha a' h'
    have s:=sl a' h'
    exact⟨by rw[e3,q.b];exact aH _,by rw[e3];exact Np h',by rw[e1];exact q.s,by rw[e4];omega⟩) b (by omega) g yV
   rw[hy]at this
   cases this
   rw[e];rfl
  have hv:=g4 zero
  subst hv
  have g3:wz [cx (bx (lu many) as) many (λ_=>0) 10,.lst [],.int (g:Int),.int (b:Int)]=some (.lst []):=g3
  have ls:jG [.lst (ps.map ck)]=some (.lst (ps.map ck)):=rfl
  have e0:n6 false (.lst []) (.lst [])=some (.bl true):=rfl
  rw[show((10:Nat):Int)=10 from rfl]at tbl
  have fin:∀cond:BF,cond [some (.lst (ns.map .int)),some (.int c),some (.int (many:Int)),some (.int (n:Int)),some (.lst (as.map bG)),y5,y6,some (cx (bx (lu many) as) many (λ_=>0) 10),some (.lst (ps.map ck)),y9,some (.int (g:Int)),some (.int (b:Int)),some w]=some false->True:=λ_ _=>trivial
  have cd:bAnd (tb (e2 (qO true) (eV 12) (eC .non))) (bOr (bNot (tb (e1 (jQ "list") (eV 12)))) (tb (e2 pR (eN eO (aCons (eV 12) aNil)) (eV 3)))) [some (.lst (ns.map .int)),some (.int c),some (.int (many:Int)),some (.int (n:Int)),some (.lst (as.map bG)),y5,y6,some (cx (bx (lu many) as) many (λ_=>0) 10),some (.lst (ps.map ck)),y9,some (.int (g:Int)),some (.int (b:Int)),some w]=some false:=by
   rcases g2 with rfl|⟨x,rfl,hx⟩
   ·generalize cx (bx (lu many) as) many (λ_=>0) 10=TB at *
    generalize as.map bG=AS,ps.map ck=PS,D.lst (ns.map .int)=S0 at *
    clear g1 g3 g4 zero ls e0 tbl nt rp q1 la lp ce ha yR BB ok sl el fin
    walk_at "mir"
   ·have i1:jQ "list" (.lst (aW x))=some (.bl true):=rfl
    have i2:eO [.lst (aW x)]=some (.int (x.length:Int)):=by rw[jl];simp[aW]
    have i3:¬(x.length:Int) > (n:Int):=by omega
    have i4:qO true (.lst (aW x)) .non=some (.bl true):=rfl
    generalize aW x=X,cx (bx (lu many) as) many (λ_=>0) 10=TB,as.map bG=AS,ps.map ck=PS,D.lst (ns.map .int)=S0 at *
    clear g1 g3 g4 zero ls e0 tbl nt rp q1 la lp ce ha yR BB ok sl el fin hx
    walk_at "mir"
  clear g2 g4 zero fin
  generalize cx (bx (lu many) as) many (λ_=>0) 10=TB at *
  generalize bx (lu many) as=NT at *
  generalize lu many=NM,gu many (λ_=>0)=VE,as.map bG=AS,ps.map ck=PS,D.lst (ns.map .int)=S0,((ns.drop 2).take (6-2)).map D.int=CS,kG 0 n=UP at *
  clear ha yR BB hw ok sl nl el yV sq wU Hg sO
  unfold Fv
  generalize (bAnd (tb (e2 (qO true) (eV 12) (eC .non))) (bOr (bNot (tb (e1 (jQ "list") (eV 12)))) (tb (e2 pR (eN eO (aCons (eV 12) aNil)) (eV 3)))))=CD,(lsD (λρ=>((eV 0) ρ).bind λd=>((pInt (eC (.int 2))) ρ).bind λl=>((pInt (eC (.int 6))) ρ).bind λh=>jR d l h))=LS,zI=B1,j4=B2,Fb=Q1 at *
  walk_at "mir"
section
variable {P:aT}{w:bt}{K:ae}{mg:aK->Option aa}{base:aE}{a:zT}
theorem XM (T:Txt K mg a):cB P w K mg base eW 7 a.f_law a.d_law ["_law_script"] (mX K):=Xc (WP T) UC
end
abbrev cX (x q:aK)(s:bI):=gc x q (lB s) (fO s) (aU s)
theorem all_mk {l:kM}{w:bt}{K:ae}{h:aE}{mg:aK->Option aa}(X:K.In h)(G:h.Ns ax mg)(OT:mg "law"=some (.ref fa))
  
  {lU mW:aK} {lJ jO kZ:List aa} {kT lH:Bool} {lX:List aK} {kR:Option Bool} {lM lN lO lP lQ:Option aa}
  (aC_Arrow:ay K ax "Arrow"=some (some (.ref c_Arrow))) (pg_Arrow:cE K c_Arrow aK.empty=true) (hd_Arrow:bv K c_Arrow=true) (po_Arrow:cR K c_Arrow=true) (sa_Arrow:aj K (.ref c_Arrow) "__setattr__"=some (some (.builtin "object.__setattr__"))) (mk_Arrow:cW K c_Arrow=true) (kc_Arrow:ar K (.ref c_Arrow)=true)
  (aC_Ride:ay K ax "Ride"=some (some (.ref c_Ride))) (pg_Ride:cE K c_Ride aK.empty=true) (hd_Ride:bv K c_Ride=true) (po_Ride:cR K c_Ride=true) (sa_Ride:aj K (.ref c_Ride) "__setattr__"=some (some (.builtin "object.__setattr__"))) (mk_Ride:cW K c_Ride=true) (kc_Ride:ar K (.ref c_Ride)=true)
  (aC_Wait:ay K ax "Wait"=some (some (.ref c_Wait))) (pg_Wait:cE K c_Wait aK.empty=true) (hd_Wait:bv K c_Wait=true) (po_Wait:cR K c_Wait=true) (sa_Wait:aj K (.ref c_Wait) "__setattr__"=some (some (.builtin "object.__setattr__"))) (mk_Wait:cW K c_Wait=true) (kc_Wait:ar K (.ref c_Wait)=true)
  (aC_Back:ay K ax "Back"=some (some (.ref c_Back))) (pg_Back:cE K c_Back aK.empty=true) (hd_Back:bv K c_Back=true) (po_Back:cR K c_Back=true) (sa_Back:aj K (.ref c_Back) "__setattr__"=some (some (.builtin "object.__setattr__"))) (mk_Back:cW K c_Back=true) (kc_Back:ar K (.ref c_Back)=true)
  (aC_Net:ay K ax "Net"=some (some (.ref c_Net))) (pg_Net:cE K c_Net aK.empty=true) (hd_Net:bv K c_Net=true) (po_Net:cR K c_Net=true) (sa_Net:aj K (.ref c_Net) "__setattr__"=some (some (.builtin "object.__setattr__"))) (mk_Net:cW K c_Net=true) (kc_Net:ar K (.ref c_Net)=true)
  (aC_Table:ay K ax "Table"=some (some (.ref c_Table))) (pg_Table:cE K c_Table aK.empty=true) (hd_Table:bv K c_Table=true) (po_Table:cR K c_Table=true) (sa_Table:aj K (.ref c_Table) "__setattr__"=some (some (.builtin "object.__setattr__"))) (mk_Table:cW K c_Table=true) (kc_Table:ar K (.ref c_Table)=true)
  (xC_BeatError:ay K ax "BeatError"=some (some (.ref c_BeatError)))
  (xC_BadNet:ay K ax "BadNet"=some (some (.ref c_BadNet)))
  (xC_Stuck:ay K ax "Stuck"=some (some (.ref c_Stuck)))
  (xC_Loose:ay K ax "Loose"=some (some (.ref c_Loose)))
  (xC_NoFit:ay K ax "NoFit"=some (some (.ref c_NoFit)))
  (xC_TooMany:ay K ax "TooMany"=some (some (.ref c_TooMany)))
  (xC_Unlike:ay K ax "Unlike"=some (some (.ref c_Unlike)))
  (xC_NoRow:ay K ax "NoRow"=some (some (.ref c_NoRow)))
  (xC_BadName:ay K ax "BadName"=some (some (.ref c_BadName)))
  (xo_TooMany:K.lookup c_TooMany=some (excClassObj lU mW c_TooMany pM lJ jO kT lX kZ lH kR oG lM lN lO lP lQ "ValueError.__new__")) (xv_TooMany:fI jO)
  (xV_TooMany:bp K c_TooMany (.type "ValueError")=some true) (xB_TooMany:bp K c_TooMany (.type "BaseException")=some true) (xA_TooMany:bp K c_TooMany (.type "AttributeError")=some false) (xN_TooMany:bp K c_TooMany (.type "NameError")=some false) (xS_TooMany:bK K (.ref c_TooMany) "__call__"=some (some (.builtin "type.__call__"))) (xT_TooMany:qG K (.ref c_TooMany) (.type "type")=some true) (xK_TooMany:ar K (.ref c_TooMany)=true)
  (xs1_TooMany:aj K (.ref c_TooMany) "__setattr__"=some (some (.builtin "object.__setattr__"))) (xs2_TooMany:dv K c_TooMany "many"=some none)
  (xga_TooMany:aj K (.ref c_TooMany) "__getattribute__"=some (some (.builtin "BaseException.__getattribute__"))) (xgn_TooMany:aj K (.ref c_TooMany) "__getattr__"=some none) (xhd_TooMany:bv K c_TooMany=true) (xca_TooMany:aj K (.ref c_TooMany) "__class__"=some (some (.builtin "object.__class__"))) (xmo_TooMany:bp K c_TooMany (.type "object")=some true)
  (xno_TooMany:aj K (.ref c_TooMany) "many"=some none)
  (xcg:bK K (.builtin "object.__class__") "__get__"=some (some (.builtin "getset_descriptor.__get__"))) (xct:fV K (.builtin "object.__class__")=some true)
  (xq1:bK K (.ref c_BeatError) "__getattribute__"=some (some (.builtin "type.__getattribute__"))) (xq2:dU K c_BeatError (.type "type")=true) (xq3:dS K (.ref c_BeatError) (.type "type") "__init__"=some (.val (.builtin "ValueError.__init__")))
  (kit_x0_TooMany:dH K (.ref c_TooMany) [aa.ref c_BadNet,aa.ref c_Stuck,aa.ref c_Loose,aa.ref c_NoFit,aa.ref c_Unlike,aa.ref c_NoRow,aa.ref c_BadName]=some false)
  (kit_xn0:dH K (.type "NoneType") [aa.ref c_BadNet,aa.ref c_Stuck,aa.ref c_Loose,aa.ref c_NoFit,aa.ref c_Unlike,aa.ref c_NoRow,aa.ref c_BadName]=some false)
  (kit_x1_TooMany:aO K (.ref c_TooMany) (.ref c_TooMany)=some true)
  (kit_xn1:aO K (.type "NoneType") (.ref c_TooMany)=some false)
  (kit_x2_TooMany:aO K (.ref c_TooMany) (.type "ValueError")=some true)
  (kit_xn2:aO K (.type "NoneType") (.type "ValueError")=some false)
  (hc_BeatError:kO K c_BeatError=true) (ht_BeatError:lz K (.ref c_BeatError)=some (.type "type")) (hb_BeatError:iY K (.ref c_BeatError) (.type "BaseException")=some true)
  (hs_BeatError_TooMany:iY K (.ref c_TooMany) (.ref c_BeatError)=some true)
  (a0:aj K (.ref c_Arrow) "__init__"=some (some (.ref f0))) (i0:bP K (.ref f0)=true)
  (l0:K.lookup f0=some ⟨Yu,P1,.func (cX "__init__" "Arrow.__init__" ya .none KB JV KR JE FK JN),YU⟩) (c0:aL K FK "Arrow.__init__"=true) (k0:ar K (.ref f0)=true)
  (a1:aj K (.ref c_Ride) "__init__"=some (some (.ref f1))) (i1:bP K (.ref f1)=true)
  (l1:K.lookup f1=some ⟨Yv,YE,.func (cX "__init__" "Ride.__init__" yq .none KC JW KS JF FL JO),uO⟩) (c1:aL K FL "Ride.__init__"=true) (k1:ar K (.ref f1)=true)
  (a2:aj K (.ref c_Wait) "__init__"=some (some (.ref f2))) (i2:bP K (.ref f2)=true)
  (l2:K.lookup f2=some ⟨Yw,YF,.func (cX "__init__" "Wait.__init__" zq (.ref EU) HF Gg HR FG D7 Gd),Du⟩) (c2:aL K D7 "Wait.__init__"=true) (k2:ar K (.ref f2)=true)
  (t2:K.lookup EU=some ⟨Y2,Q7,.seq #[.int 0 DH] Y4,Rb⟩)
  (a3:aj K (.ref c_Back) "__init__"=some (some (.ref f3))) (i3:bP K (.ref f3)=true)
  (l3:K.lookup f3=some ⟨Yx,YG,.func (cX "__init__" "Back.__init__" zt (.ref EV) HG Gh HS FH D8 Ge),YV⟩) (c3:aL K D8 "Back.__init__"=true) (k3:ar K (.ref f3)=true)
  (t3:K.lookup EV=some ⟨Y3,Q8,.seq #[.int 1 DI] EY,Rc⟩)
  (a4:ay K ax "is_letter"=some (some (.ref f4)))
  (l4:K.lookup f4=some ⟨Yy,YH,.func (cX "is_letter" "is_letter" yx .none KD JX KU JG FM JP),YW⟩) (c4:aL K FM "is_letter"=true) (k4:ar K (.ref f4)=true)
  (a5:ay K ax "is_figure"=some (some (.ref f5)))
  (l5:K.lookup f5=some ⟨Yz,YI,.func (cX "is_figure" "is_figure" yy .none KF JY KW JH FN JQ),YX⟩) (c5:aL K FN "is_figure"=true) (k5:ar K (.ref f5)=true)
  (a6:ay K ax "is_name"=some (some (.ref f6)))
  (l6:K.lookup f6=some ⟨YA,YJ,.func (cX "is_name" "is_name" xu .none KG JZ KY JI FO JR),YY⟩) (c6:aL K FO "is_name"=true) (k6:ar K (.ref f6)=true)
  (a7:ay K ax "are_names"=some (some (.ref f7)))
  (l7:K.lookup f7=some ⟨YB,YK,.func (cX "are_names" "are_names" yz .none KH J0 KZ JJ FP JS),YZ⟩) (c7:aL K FP "are_names"=true) (k7:ar K (.ref f7)=true)
  (a8:ay K ax "lies_within"=some (some (.ref f8)))
  (l8:K.lookup f8=some ⟨YC,YL,.func (cX "lies_within" "lies_within" yg .none KI J1 K0 JK FQ JT),Y0⟩) (c8:aL K FQ "lies_within"=true) (k8:ar K (.ref f8)=true)
  (a9:ay K ax "is_right"=some (some (.ref f9)))
  (l9:K.lookup f9=some ⟨YD,YM,.func (cX "is_right" "is_right" xb .none KJ J5 K1 JL FR JU),Y1⟩) (c9:aL K FR "is_right"=true) (k9:ar K (.ref f9)=true)
  (a10:ay K ax "placed_goings"=some (some (.ref Gq)))
  (l10:K.lookup Gq=some ⟨Ps,P2,.func (cX "placed_goings" "placed_goings" zu .none B4 Bd CL Ai vF AK),QA⟩) (c10:aL K vF "placed_goings"=true) (k10:ar K (.ref Gq)=true)
  (a11:aj K (.ref c_Net) "__init__"=some (some (.ref Ec))) (i11:bP K (.ref Ec)=true)
  (l11:K.lookup Ec=some ⟨Pt,P3,.func (cX "__init__" "Net.__init__" yr .none B5 Be CM Aj vG AL),QB⟩) (c11:aL K vG "Net.__init__"=true) (k11:ar K (.ref Ec)=true)
  (a12:aj K (.ref c_Net) "most_behind"=some (some (.ref Ed))) (i12:bP K (.ref Ed)=true)
  (l12:K.lookup Ed=some ⟨Pu,P4,.func (cX "most_behind" "Net.most_behind" zo .none B6 Bf CN Ak vH AM),QC⟩) (c12:aL K vH "Net.most_behind"=true) (k12:ar K (.ref Ed)=true)
  (a13:aj K (.ref c_Net) "into"=some (some (.ref Ee))) (i13:bP K (.ref Ee)=true)
  (l13:K.lookup Ee=some ⟨Pv,P5,.func (cX "into" "Net.into" xf .none B7 Bg CO Am vI AN),QD⟩) (c13:aL K vI "Net.into"=true) (k13:ar K (.ref Ee)=true)
  (a14:aj K (.ref c_Net) "order"=some (some (.ref Ef))) (i14:bP K (.ref Ef)=true)
  (l14:K.lookup Ef=some ⟨Pw,P6,.func (cX "order" "Net.order" y0 .none B8 Bh CP An vJ AO),QE⟩) (c14:aL K vJ "Net.order"=true) (k14:ar K (.ref Ef)=true)
  (a15:ay K ax "latest"=some (some (.ref Gr)))
  (l15:K.lookup Gr=some ⟨Px,P7,.func (cX "latest" "latest" wj .none B9 Bi CQ Ao vK AQ),QF⟩) (c15:aL K vK "latest"=true) (k15:ar K (.ref Gr)=true)
  (a16:ay K ax "greatest_told"=some (some (.ref Gs)))
  (l16:K.lookup Gs=some ⟨Py,P8,.func (cX "greatest_told" "greatest_told" zw .none Ca Bj CT Ap vL AR),QG⟩) (c16:aL K vL "greatest_told"=true) (k16:ar K (.ref Gs)=true)
  (a17:aj K (.ref c_Table) "slack"=some (some (.ref Eg))) (i17:bP K (.ref Eg)=true)
  (l17:K.lookup Eg=some ⟨Pz,P9,.func (cX "slack" "Table.slack" yh .none Cb Bl CU Aq vM AT),QH⟩) (c17:aL K vM "Table.slack"=true) (k17:ar K (.ref Eg)=true)
  (a18:aj K (.ref c_Table) "__init__"=some (some (.ref Eh))) (i18:bP K (.ref Eh)=true)
  (l18:K.lookup Eh=some ⟨PB,Qa,.func (cX "__init__" "Table.__init__" yb .none Cc Bm CV As vN AU),QI⟩) (c18:aL K vN "Table.__init__"=true) (k18:ar K (.ref Eh)=true)
  (a19:ay K ax "links_into"=some (some (.ref Gu)))
  (l19:K.lookup Gu=some ⟨PD,Qb,.func (cX "links_into" "links_into" yt .none Cd Bn CW Au vO AV),QJ⟩) (c19:aL K vO "links_into"=true) (k19:ar K (.ref Gu)=true)
  (a20:ay K ax "lateness_in_last_row"=some (some (.ref Gv)))
  (l20:K.lookup Gv=some ⟨PJ,Qc,.func (cX "lateness_in_last_row" "lateness_in_last_row" zj .none Ce Bo CY Av vP AW),QK⟩) (c20:aL K vP "lateness_in_last_row"=true) (k20:ar K (.ref Gv)=true)
  (a21:ay K ax "late"=some (some (.ref Gw)))
  (l21:K.lookup Gw=some ⟨PK,Qd,.func (cX "late" "late" vm (.ref tG) xD wC xM vC sJ wA),QL⟩) (c21:aL K sJ "late"=true) (k21:ar K (.ref Gw)=true)
  (t21:K.lookup tG=some ⟨Q6,Lc,.seq #[.none] Ra,Le⟩)
  (a22:aj K (.ref c_Ride) "may_drop"=some (some (.ref Ej))) (i22:bP K (.ref Ej)=true)
  (l22:K.lookup Ej=some ⟨PL,Qe,.func (cX "may_drop" "Ride.may_drop" zx .none Cf Bp CZ Aw vQ AX),QM⟩) (c22:aL K vQ "Ride.may_drop"=true) (k22:ar K (.ref Ej)=true)
  (a23:aj K (.ref c_Wait) "may_drop"=some (some (.ref Ek))) (i23:bP K (.ref Ek)=true)
  (l23:K.lookup Ek=some ⟨PN,Qf,.func (cX "may_drop" "Wait.may_drop" zy .none Cg Bq C0 Ax vR AY),QN⟩) (c23:aL K vR "Wait.may_drop"=true) (k23:ar K (.ref Ek)=true)
  (a24:aj K (.ref c_Back) "may_drop"=some (some (.ref El))) (i24:bP K (.ref El)=true)
  (l24:K.lookup El=some ⟨PP,Qg,.func (cX "may_drop" "Back.may_drop" zz .none Ci Br C1 Ay vS AZ),QO⟩) (c24:aL K vS "Back.may_drop"=true) (k24:ar K (.ref El)=true)
  (a25:ay K ax "sets_of"=some (some (.ref Gx)))
  (l25:K.lookup Gx=some ⟨PQ,Qh,.func (cX "sets_of" "sets_of" xv .none Cj Bs C3 Az vT A0),QP⟩) (c25:aL K vT "sets_of"=true) (k25:ar K (.ref Gx)=true)
  (a26:ay K ax "is_late"=some (some (.ref Gy)))
  (l26:K.lookup Gy=some ⟨PR,Qi,.func (cX "is_late" "is_late" xw .none Ck Bt C4 AA vU A6),QQ⟩) (c26:aL K vU "is_late"=true) (k26:ar K (.ref Gy)=true)
  (a27:aj K (.ref c_TooMany) "__init__"=some (some (.ref Em))) (i27:bP K (.ref Em)=true)
  (l27:K.lookup Em=some ⟨PU,Qj,.func (cX "__init__" "TooMany.__init__" zp .none Cm Bu C5 AB vV A7),QR⟩) (c27:aL K vV "TooMany.__init__"=true) (k27:ar K (.ref Em)=true)
  (a28:ay K ax "give_up"=some (some (.ref Gz)))
  (l28:K.lookup Gz=some ⟨PV,Qk,.func (cX "give_up" "give_up" xx .none Co Bv C6 AC vW A8),QS⟩) (c28:aL K vW "give_up"=true) (k28:ar K (.ref Gz)=true)
  (a29:ay K ax "_law_cell_at"=some (some (.ref GA)))
  (l29:K.lookup GA=some ⟨PX,Ql,.func (cX "_law_cell_at" "_law_cell_at" yj .none Cp Bw C7 AD vX A9),QT⟩) (c29:aL K vX "_law_cell_at"=true) (k29:ar K (.ref GA)=true)
  (a30:ay K ax "_law_mixed"=some (some (.ref GB)))
  (l30:K.lookup GB=some ⟨PY,Qm,.func (cX "_law_mixed" "_law_mixed" y8 .none Cq Bx C8 AE vY Bb),QU⟩) (c30:aL K vY "_law_mixed"=true) (k30:ar K (.ref GB)=true)
  (a31:ay K ax "_law_refused"=some (some (.ref GC)))
  (l31:K.lookup GC=some ⟨PZ,Qn,.func (cX "_law_refused" "_law_refused" yk .none Cr By C9 AF vZ Bc),QW⟩) (c31:aL K vZ "_law_refused"=true) (k31:ar K (.ref GC)=true)
  (a32:ay K ax "law"=some (some (.ref J9)))
  (l32:K.lookup J9=some ⟨P0,Qo,.func (cX "law" "law" j0 .none xE wD xN vD sK wB),QX⟩) (c32:aL K sK "law"=true) (k32:ar K (.ref J9)=true)
  (qs_Arrow:bK K (.ref c_Arrow) "__getattribute__"=some (some (.builtin "type.__getattribute__"))) (qr_Arrow:dU K c_Arrow (.type "type")=true) (qf_Arrow:dS K (.ref c_Arrow) (.type "type") "__init__"=some (.val (.ref f0)))
  (n_Net_arrows:aj K (.ref c_Net) "arrows"=some none)
  (n_Table_beat:aj K (.ref c_Table) "beat"=some none)
  (n_Arrow_behind:aj K (.ref c_Arrow) "behind"=some none)
  (n_Ride_behind:aj K (.ref c_Ride) "behind"=some none)
  (n_Wait_behind:aj K (.ref c_Wait) "behind"=some none)
  (n_Back_behind:aj K (.ref c_Back) "behind"=some none)
  (n_Arrow_goal:aj K (.ref c_Arrow) "goal"=some none)
  (n_Ride_goal:aj K (.ref c_Ride) "goal"=some none)
  (n_Wait_goal:aj K (.ref c_Wait) "goal"=some none)
  (n_Back_goal:aj K (.ref c_Back) "goal"=some none)
  (n_Net_names:aj K (.ref c_Net) "names"=some none)
  (n_Table_net:aj K (.ref c_Table) "net"=some none)
  (n_Arrow_start:aj K (.ref c_Arrow) "start"=some none)
  (n_Ride_start:aj K (.ref c_Ride) "start"=some none)
  (n_Wait_start:aj K (.ref c_Wait) "start"=some none)
  (n_Back_start:aj K (.ref c_Back) "start"=some none)
  (n_Arrow_time:aj K (.ref c_Arrow) "time"=some none)
  (n_Ride_time:aj K (.ref c_Ride) "time"=some none)
  (n_Wait_time:aj K (.ref c_Wait) "time"=some none)
  (n_Back_time:aj K (.ref c_Back) "time"=some none)
  (n_Table_times:aj K (.ref c_Table) "times"=some none)
  (ign:bK K (.builtin "object.__class__") "__get__"=some (some (.builtin "getset_descriptor.__get__"))) (igt:fV K (.builtin "object.__class__")=some true)
  (iga_Arrow:aj K (.ref c_Arrow) "__class__"=some (some (.builtin "object.__class__"))) (igm_Arrow:bp K c_Arrow (.type "object")=some true)
  (kit_Arrow_Back:aO K (.ref c_Arrow) (.ref c_Back)=some false)
  (kit_Arrow_Ride:aO K (.ref c_Arrow) (.ref c_Ride)=some false)
  (iga_Ride:aj K (.ref c_Ride) "__class__"=some (some (.builtin "object.__class__"))) (igm_Ride:bp K c_Ride (.type "object")=some true)
  (kit_Ride_Back:aO K (.ref c_Ride) (.ref c_Back)=some false)
  (kit_Ride_Ride:aO K (.ref c_Ride) (.ref c_Ride)=some true)
  (iga_Wait:aj K (.ref c_Wait) "__class__"=some (some (.builtin "object.__class__"))) (igm_Wait:bp K c_Wait (.type "object")=some true)
  (kit_Wait_Back:aO K (.ref c_Wait) (.ref c_Back)=some false)
  (kit_Wait_Ride:aO K (.ref c_Wait) (.ref c_Ride)=some false)
  (iga_Back:aj K (.ref c_Back) "__class__"=some (some (.builtin "object.__class__"))) (igm_Back:bp K c_Back (.type "object")=some true)
  (kit_Back_Back:aO K (.ref c_Back) (.ref c_Back)=some true)
  (kit_Back_Ride:aO K (.ref c_Back) (.ref c_Ride)=some false)
  (iga_Net:aj K (.ref c_Net) "__class__"=some (some (.builtin "object.__class__"))) (igm_Net:bp K c_Net (.type "object")=some true)
  (kit_Net_Back:aO K (.ref c_Net) (.ref c_Back)=some false)
  (kit_Net_Ride:aO K (.ref c_Net) (.ref c_Ride)=some false)
  (iga_Table:aj K (.ref c_Table) "__class__"=some (some (.builtin "object.__class__"))) (igm_Table:bp K c_Table (.type "object")=some true)
  (kit_Table_Back:aO K (.ref c_Table) (.ref c_Back)=some false)
  (kit_Table_Ride:aO K (.ref c_Table) (.ref c_Ride)=some false)
  (z0:ay K ax "ValueError"=some none)
  (z1:ay K ax "all"=some none)
  (z2:ay K ax "bool"=some none)
  (z3:ay K ax "enumerate"=some none)
  (z4:ay K ax "int"=some none)
  (z5:ay K ax "isinstance"=some none)
  (z6:ay K ax "len"=some none)
  (z7:ay K ax "list"=some none)
  (z8:ay K ax "max"=some none)
  (z9:ay K ax "range"=some none)
  (z10:ay K ax "sorted"=some none)
  (z11:ay K ax "str"=some none)
  (gc0:ay K ax "MOST_ARROWS"=some (some (.int 120 Ye)))
  (gc1:ay K ax "MOST_BEHIND"=some (some (.int 4 Yf)))
  (gc2:ay K ax "MOST_NAMES"=some (some (.int 40 Yg)))
  (gc3:ay K ax "MOST_SIGNS"=some (some (.int 8 Yh)))
  (gc4:ay K ax "MOST_TIME"=some (some (.int 1000000000 Yi)))
  (gc5:ay K ax "MOST_WAITS"=some (some (.int 8 Yj))) :
  ∃fd:aP,(∀(s:ai) (v:aa),nz s fd ⟨[v],[]⟩ [("_law_script",v)])/\∀base:aE,K.In base->base.Ns ax mg->cB l.prog w K mg base eW 7 fa fd ["_law_script"] (mX K):=by
 have e:=OT.symm.trans (aF X G a32)
 cases e
 have F0:=yf (st:=ya) l0 c0 k0
 have b0:bO K (cX "__init__" "Arrow.__init__" ya .none KB JV KR JE FK JN) ["self","start","goal","time","behind"] []:=.all (Cs λ_ _ _ _ _=>rfl)
 have F1:=yf (st:=yq) l1 c1 k1
 have b1:bO K (cX "__init__" "Ride.__init__" yq .none KC JW KS JF FL JO) ["self","start","goal","time"] []:=.all (xI λ_ _ _ _=>rfl)
 have F2:=yf (st:=zq) l2 c2 k2
 have b2:bO K (cX "__init__" "Wait.__init__" zq (.ref EU) HF Gg HR FG D7 Gd) ["self","start","goal","time","behind"] []:=zH 5 t2 (Cs λ_ _ _ _ _=>⟨_,rfl,rfl⟩)
 have FI:bO K (cX "__init__" "Wait.__init__" zq (.ref EU) HF Gg HR FG D7 Gd) ["self","start","goal","time","behind"] [.int 0 DH]:=zH 4 t2 (xI λ_ _ _ _=>⟨_,rfl,rfl⟩)
 have F3:=yf (st:=zt) l3 c3 k3
 have b3:bO K (cX "__init__" "Back.__init__" zt (.ref EV) HG Gh HS FH D8 Ge) ["self","start","goal","time","behind"] []:=zH 5 t3 (Cs λ_ _ _ _ _=>⟨_,rfl,rfl⟩)
 have FJ:bO K (cX "__init__" "Back.__init__" zt (.ref EV) HG Gh HS FH D8 Ge) ["self","start","goal","time","behind"] [.int 1 DI]:=zH 4 t3 (xI λ_ _ _ _=>⟨_,rfl,rfl⟩)
 have F4:=yf (st:=yx) l4 c4 k4
 have b4:bO K (cX "is_letter" "is_letter" yx .none KD JX KU JG FM JP) ["sign"] []:=.all (pT λ_=>rfl)
 have F5:=yf (st:=yy) l5 c5 k5
 have b5:bO K (cX "is_figure" "is_figure" yy .none KF JY KW JH FN JQ) ["sign"] []:=.all (pT λ_=>rfl)
 have F6:=yf (st:=xu) l6 c6 k6
 have b6:bO K (cX "is_name" "is_name" xu .none KG JZ KY JI FO JR) ["word"] []:=.all (pT λ_=>rfl)
 have F7:=yf (st:=yz) l7 c7 k7
 have b7:bO K (cX "are_names" "are_names" yz .none KH J0 KZ JJ FP JS) ["names"] []:=.all (pT λ_=>rfl)
 have F8:=yf (st:=yg) l8 c8 k8
 have b8:bO K (cX "lies_within" "lies_within" yg .none KI J1 K0 JK FQ JT) ["number","least","most"] []:=.all (yZ λ_ _ _=>rfl)
 have F9:=yf (st:=xb) l9 c9 k9
 have b9:bO K (cX "is_right" "is_right" xb .none KJ J5 K1 JL FR JU) ["arrow","many"] []:=.all (sS λ_ _=>rfl)
 have Ny:=yf (st:=zu) l10 c10 k10
 have N2:bO K (cX "placed_goings" "placed_goings" zu .none B4 Bd CL Ai vF AK) ["many","arrows"] []:=.all (sS λ_ _=>rfl)
 have Nz:=yf (st:=yr) l11 c11 k11
 have N3:bO K (cX "__init__" "Net.__init__" yr .none B5 Be CM Aj vG AL) ["self","names","arrows"] []:=.all (yZ λ_ _ _=>rfl)
 have NA:=yf (st:=zo) l12 c12 k12
 have N4:bO K (cX "most_behind" "Net.most_behind" zo .none B6 Bf CN Ak vH AM) ["self"] []:=.all (pT λ_=>rfl)
 have NB:=yf (st:=xf) l13 c13 k13
 have N5:bO K (cX "into" "Net.into" xf .none B7 Bg CO Am vI AN) ["self","going"] []:=.all (sS λ_ _=>rfl)
 have NC:=yf (st:=y0) l14 c14 k14
 have N6:bO K (cX "order" "Net.order" y0 .none B8 Bh CP An vJ AO) ["self"] []:=.all (pT λ_=>rfl)
 have ND:=yf (st:=wj) l15 c15 k15
 have N7:bO K (cX "latest" "latest" wj .none B9 Bi CQ Ao vK AQ) ["one","other"] []:=.all (sS λ_ _=>rfl)
 have NE:=yf (st:=zw) l16 c16 k16
 have N8:bO K (cX "greatest_told" "greatest_told" zw .none Ca Bj CT Ap vL AR) ["told"] []:=.all (pT λ_=>rfl)
 have NF:=yf (st:=yh) l17 c17 k17
 have N9:bO K (cX "slack" "Table.slack" yh .none Cb Bl CU Aq vM AT) ["self","arrow"] []:=.all (sS λ_ _=>rfl)
 have NG:=yf (st:=yb) l18 c18 k18
 have Oa:bO K (cX "__init__" "Table.__init__" yb .none Cc Bm CV As vN AU) ["self","net","times","beat"] []:=.all (xI λ_ _ _ _=>rfl)
 have NH:=yf (st:=yt) l19 c19 k19
 have Ob:bO K (cX "links_into" "links_into" yt .none Cd Bn CW Au vO AV) ["table","going","left_out"] []:=.all (yZ λ_ _ _=>rfl)
 have NI:=yf (st:=zj) l20 c20 k20
 have Oc:bO K (cX "lateness_in_last_row" "lateness_in_last_row" zj .none Ce Bo CY Av vP AW) ["rows","links","put"] []:=.all (yZ λ_ _ _=>rfl)
 have NJ:=yf (st:=vm) l21 c21 k21
 have Od:bO K (cX "late" "late" vm (.ref tG) xD wC xM vC sJ wA) ["table","rounds","puts","without"] []:=zH 4 t21 (xI λ_ _ _ _=>⟨_,rfl,rfl⟩)
 have AG:bO K (cX "late" "late" vm (.ref tG) xD wC xM vC sJ wA) ["table","rounds","puts","without"] [.none]:=zH 3 t21 (yZ λ_ _ _=>⟨_,rfl,rfl⟩)
 have NK:=yf (st:=zx) l22 c22 k22
 have Oe:bO K (cX "may_drop" "Ride.may_drop" zx .none Cf Bp CZ Aw vQ AX) ["self"] []:=.all (pT λ_=>rfl)
 have NL:=yf (st:=zy) l23 c23 k23
 have Of:bO K (cX "may_drop" "Wait.may_drop" zy .none Cg Bq C0 Ax vR AY) ["self"] []:=.all (pT λ_=>rfl)
 have NN:=yf (st:=zz) l24 c24 k24
 have Og:bO K (cX "may_drop" "Back.may_drop" zz .none Ci Br C1 Ay vS AZ) ["self"] []:=.all (pT λ_=>rfl)
 have NO:=yf (st:=xv) l25 c25 k25
 have Oh:bO K (cX "sets_of" "sets_of" xv .none Cj Bs C3 Az vT A0) ["waits"] []:=.all (pT λ_=>rfl)
 have NP:=yf (st:=xw) l26 c26 k26
 have Oi:bO K (cX "is_late" "is_late" xw .none Ck Bt C4 AA vU A6) ["table","puts","going","beat","without"] []:=.all (Cs λ_ _ _ _ _=>rfl)
 have NQ:=yf (st:=zp) l27 c27 k27
 have Oj:bO K (cX "__init__" "TooMany.__init__" zp .none Cm Bu C5 AB vV A7) ["self","many"] []:=.all (sS λ_ _=>rfl)
 have NR:=yf (st:=xx) l28 c28 k28
 have Ol:bO K (cX "give_up" "give_up" xx .none Co Bv C6 AC vW A8) ["table","puts","going","beat"] []:=.all (xI λ_ _ _ _=>rfl)
 have NS:=yf (st:=yj) l29 c29 k29
 have Om:bO K (cX "_law_cell_at" "_law_cell_at" yj .none Cp Bw C7 AD vX A9) ["_law_script","_law_k"] []:=.all (sS λ_ _=>rfl)
 have NU:=yf (st:=y8) l30 c30 k30
 have On:bO K (cX "_law_mixed" "_law_mixed" y8 .none Cq Bx C8 AE vY Bb) ["_law_cell","_law_k"] []:=.all (sS λ_ _=>rfl)
 have NV:=yf (st:=yk) l31 c31 k31
 have Oo:bO K (cX "_law_refused" "_law_refused" yk .none Cr By C9 AF vZ Bc) ["_law_table","_law_puts","_law_going","_law_beat","_law_many"] []:=.all (Cs λ_ _ _ _ _=>rfl)
 have NW:=yf (st:=j0) l32 c32 k32
 have Oq:bO K (cX "law" "law" j0 .none xE wD xN vD sK wB) ["_law_script"] []:=.all (pT λ_=>rfl)
 have T:Txt K mg ⟨c_Arrow,c_Ride,c_Wait,c_Back,c_Net,c_Table,c_BeatError,c_BadNet,c_Stuck,c_Loose,c_NoFit,c_TooMany,c_Unlike,c_NoRow,c_BadName,f0,cX "__init__" "Arrow.__init__" ya .none KB JV KR JE FK JN,f1,cX "__init__" "Ride.__init__" yq .none KC JW KS JF FL JO,f2,cX "__init__" "Wait.__init__" zq (.ref EU) HF Gg HR FG D7 Gd,f3,cX "__init__" "Back.__init__" zt (.ref EV) HG Gh HS FH D8 Ge,f4,cX "is_letter" "is_letter" yx .none KD JX KU JG FM JP,f5,cX "is_figure" "is_figure" yy .none KF JY KW JH FN JQ,f6,cX "is_name" "is_name" xu .none KG JZ KY JI FO JR,f7,cX "are_names" "are_names" yz .none KH J0 KZ JJ FP JS,f8,cX "lies_within" "lies_within" yg .none KI J1 K0 JK FQ JT,f9,cX "is_right" "is_right" xb .none KJ J5 K1 JL FR JU,Gq,cX "placed_goings" "placed_goings" zu .none B4 Bd CL Ai vF AK,Ec,cX "__init__" "Net.__init__" yr .none B5 Be CM Aj vG AL,Ed,cX "most_behind" "Net.most_behind" zo .none B6 Bf CN Ak vH AM,Ee,cX "into" "Net.into" xf .none B7 Bg CO Am vI AN,Ef,cX "order" "Net.order" y0 .none B8 Bh CP An vJ AO,Gr,cX "latest" "latest" wj .none B9 Bi CQ Ao vK AQ,Gs,cX "greatest_told" "greatest_told" zw .none Ca Bj CT Ap vL AR,Eg,cX "slack" "Table.slack" yh .none Cb Bl CU Aq vM AT,Eh,cX "__init__" "Table.__init__" yb .none Cc Bm CV As vN AU,Gu,cX "links_into" "links_into" yt .none Cd Bn CW Au vO AV,Gv,cX "lateness_in_last_row" "lateness_in_last_row" zj .none Ce Bo CY Av vP AW,Gw,cX "late" "late" vm (.ref tG) xD wC xM vC sJ wA,Ej,cX "may_drop" "Ride.may_drop" zx .none Cf Bp CZ Aw vQ AX,Ek,cX "may_drop" "Wait.may_drop" zy .none Cg Bq C0 Ax vR AY,El,cX "may_drop" "Back.may_drop" zz .none Ci Br C1 Ay vS AZ,Gx,cX "sets_of" "sets_of" xv .none Cj Bs C3 Az vT A0,Gy,cX "is_late" "is_late" xw .none Ck Bt C4 AA vU A6,Em,cX "__init__" "TooMany.__init__" zp .none Cm Bu C5 AB vV A7,Gz,cX "give_up" "give_up" xx .none Co Bv C6 AC vW A8,GA,cX "_law_cell_at" "_law_cell_at" yj .none Cp Bw C7 AD vX A9,GB,cX "_law_mixed" "_law_mixed" y8 .none Cq Bx C8 AE vY Bb,GC,cX "_law_refused" "_law_refused" yk .none Cr By C9 AF vZ Bc,fa,cX "law" "law" j0 .none xE wD xN vD sK wB⟩:=by
  constructor
  ·exact⟨⟨pg_Arrow,hd_Arrow,po_Arrow,sa_Arrow⟩,aF X G aC_Arrow,mk_Arrow,kc_Arrow⟩
  ·exact⟨⟨pg_Ride,hd_Ride,po_Ride,sa_Ride⟩,aF X G aC_Ride,mk_Ride,kc_Ride⟩
  ·exact⟨⟨pg_Wait,hd_Wait,po_Wait,sa_Wait⟩,aF X G aC_Wait,mk_Wait,kc_Wait⟩
  ·exact⟨⟨pg_Back,hd_Back,po_Back,sa_Back⟩,aF X G aC_Back,mk_Back,kc_Back⟩
  ·exact⟨⟨pg_Net,hd_Net,po_Net,sa_Net⟩,aF X G aC_Net,mk_Net,kc_Net⟩
  ·exact⟨⟨pg_Table,hd_Table,po_Table,sa_Table⟩,aF X G aC_Table,mk_Table,kc_Table⟩
  ·exact⟨F0,⟨a0,i0,k0⟩,b0⟩
  ·exact⟨F1,⟨a1,i1,k1⟩,b1⟩
  ·exact⟨F2,⟨a2,i2,k2⟩,b2⟩
  ·exact⟨_,trivial,(.cons ⟨_,rfl⟩ .nil),FI⟩
  ·exact⟨F3,⟨a3,i3,k3⟩,b3⟩
  ·exact⟨_,trivial,(.cons ⟨_,rfl⟩ .nil),FJ⟩
  ·exact⟨F4,aF X G a4,b4⟩
  ·exact⟨F5,aF X G a5,b5⟩
  ·exact⟨F6,aF X G a6,b6⟩
  ·exact⟨F7,aF X G a7,b7⟩
  ·exact⟨F8,aF X G a8,b8⟩
  ·exact⟨F9,aF X G a9,b9⟩
  ·exact⟨Ny,aF X G a10,N2⟩
  ·exact⟨Nz,⟨a11,i11,k11⟩,N3⟩
  ·exact⟨NA,⟨a12,i12,k12⟩,N4⟩
  ·exact⟨NB,⟨a13,i13,k13⟩,N5⟩
  ·exact⟨NC,⟨a14,i14,k14⟩,N6⟩
  ·exact⟨ND,aF X G a15,N7⟩
  ·exact⟨NE,aF X G a16,N8⟩
  ·exact⟨NF,⟨a17,i17,k17⟩,N9⟩
  ·exact⟨NG,⟨a18,i18,k18⟩,Oa⟩
  ·exact⟨NH,aF X G a19,Ob⟩
  ·exact⟨NI,aF X G a20,Oc⟩
  ·exact⟨NJ,aF X G a21,Od⟩
  ·exact⟨_,trivial,(.cons rfl .nil),AG⟩
  ·exact⟨NK,⟨a22,i22,k22⟩,Oe⟩
  ·exact⟨NL,⟨a23,i23,k23⟩,Of⟩
  ·exact⟨NN,⟨a24,i24,k24⟩,Og⟩
  ·exact⟨NO,aF X G a25,Oh⟩
  ·exact⟨NP,aF X G a26,Oi⟩
  ·exact⟨NQ,⟨a27,i27,k27⟩,Oj⟩
  ·exact⟨NR,aF X G a28,Ol⟩
  ·exact⟨NS,aF X G a29,Om⟩
  ·exact⟨NU,aF X G a30,On⟩
  ·exact⟨NV,aF X G a31,Oo⟩
  ·exact⟨NW,aF X G a32,Oq⟩
  ·exact⟨qs_Arrow,qr_Arrow,qf_Arrow⟩
  ·exactλc hc=>by
    simp only[az,cp,or_false]at hc
    rcases hc with rfl
    all_goals first|exact⟨⟨pg_Net,hd_Net,po_Net,sa_Net⟩,n_Net_arrows⟩
  ·exactλc hc=>by
    simp only[az,cp,or_false]at hc
    rcases hc with rfl
    all_goals first|exact⟨⟨pg_Table,hd_Table,po_Table,sa_Table⟩,n_Table_beat⟩
  ·exactλc hc=>by
    simp only[az,cp,or_false]at hc
    rcases hc with rfl|rfl|rfl|rfl
    all_goals first|exact⟨⟨pg_Arrow,hd_Arrow,po_Arrow,sa_Arrow⟩,n_Arrow_behind⟩|exact⟨⟨pg_Ride,hd_Ride,po_Ride,sa_Ride⟩,n_Ride_behind⟩|exact⟨⟨pg_Wait,hd_Wait,po_Wait,sa_Wait⟩,n_Wait_behind⟩|exact⟨⟨pg_Back,hd_Back,po_Back,sa_Back⟩,n_Back_behind⟩
  ·exactλc hc=>by
    simp only[az,cp,or_false]at hc
    rcases hc with rfl|rfl|rfl|rfl
    all_goals first|exact⟨⟨pg_Arrow,hd_Arrow,po_Arrow,sa_Arrow⟩,n_Arrow_goal⟩|exact⟨⟨pg_Ride,hd_Ride,po_Ride,sa_Ride⟩,n_Ride_goal⟩|exact⟨⟨pg_Wait,hd_Wait,po_Wait,sa_Wait⟩,n_Wait_goal⟩|exact⟨⟨pg_Back,hd_Back,po_Back,sa_Back⟩,n_Back_goal⟩
  ·exactλc hc=>by
    simp only[az,cp,or_false]at hc
    rcases hc with rfl
    all_goals first|exact⟨⟨pg_Net,hd_Net,po_Net,sa_Net⟩,n_Net_names⟩
  ·exactλc hc=>by
    simp only[az,cp,or_false]at hc
    rcases hc with rfl
    all_goals first|exact⟨⟨pg_Table,hd_Table,po_Table,sa_Table⟩,n_Table_net⟩
  ·exactλc hc=>by
    simp only[az,cp,or_false]at hc
    rcases hc with rfl|rfl|rfl|rfl
    all_goals first|exact⟨⟨pg_Arrow,hd_Arrow,po_Arrow,sa_Arrow⟩,n_Arrow_start⟩|exact⟨⟨pg_Ride,hd_Ride,po_Ride,sa_Ride⟩,n_Ride_start⟩|exact⟨⟨pg_Wait,hd_Wait,po_Wait,sa_Wait⟩,n_Wait_start⟩|exact⟨⟨pg_Back,hd_Back,po_Back,sa_Back⟩,n_Back_start⟩
  ·exactλc hc=>by
    simp only[az,cp,or_false]at hc
    rcases hc with rfl|rfl|rfl|rfl
    all_goals first|exact⟨⟨pg_Arrow,hd_Arrow,po_Arrow,sa_Arrow⟩,n_Arrow_time⟩|exact⟨⟨pg_Ride,hd_Ride,po_Ride,sa_Ride⟩,n_Ride_time⟩|exact⟨⟨pg_Wait,hd_Wait,po_Wait,sa_Wait⟩,n_Wait_time⟩|exact⟨⟨pg_Back,hd_Back,po_Back,sa_Back⟩,n_Back_time⟩
  ·exactλc hc=>by
    simp only[az,cp,or_false]at hc
    rcases hc with rfl
    all_goals first|exact⟨⟨pg_Table,hd_Table,po_Table,sa_Table⟩,n_Table_times⟩
  ·exactλc hc=>by
    simp only[az,cp,or_false]at hc
    rcases hc with rfl|rfl|rfl|rfl|rfl|rfl
    all_goals first|exact⟨⟨⟨pg_Arrow,hd_Arrow,po_Arrow,sa_Arrow⟩,iga_Arrow,ign,igt,igm_Arrow⟩,kit_Arrow_Back⟩|exact⟨⟨⟨pg_Ride,hd_Ride,po_Ride,sa_Ride⟩,iga_Ride,ign,igt,igm_Ride⟩,kit_Ride_Back⟩|exact⟨⟨⟨pg_Wait,hd_Wait,po_Wait,sa_Wait⟩,iga_Wait,ign,igt,igm_Wait⟩,kit_Wait_Back⟩|exact⟨⟨⟨pg_Back,hd_Back,po_Back,sa_Back⟩,iga_Back,ign,igt,igm_Back⟩,kit_Back_Back⟩|exact⟨⟨⟨pg_Net,hd_Net,po_Net,sa_Net⟩,iga_Net,ign,igt,igm_Net⟩,kit_Net_Back⟩|exact⟨⟨⟨pg_Table,hd_Table,po_Table,sa_Table⟩,iga_Table,ign,igt,igm_Table⟩,kit_Table_Back⟩
  ·exactλc hc=>by
    simp only[az,cp,or_false]at hc
    rcases hc with rfl|rfl|rfl|rfl|rfl|rfl
    all_goals first|exact⟨⟨⟨pg_Arrow,hd_Arrow,po_Arrow,sa_Arrow⟩,iga_Arrow,ign,igt,igm_Arrow⟩,kit_Arrow_Ride⟩|exact⟨⟨⟨pg_Ride,hd_Ride,po_Ride,sa_Ride⟩,iga_Ride,ign,igt,igm_Ride⟩,kit_Ride_Ride⟩|exact⟨⟨⟨pg_Wait,hd_Wait,po_Wait,sa_Wait⟩,iga_Wait,ign,igt,igm_Wait⟩,kit_Wait_Ride⟩|exact⟨⟨⟨pg_Back,hd_Back,po_Back,sa_Back⟩,iga_Back,ign,igt,igm_Back⟩,kit_Back_Ride⟩|exact⟨⟨⟨pg_Net,hd_Net,po_Net,sa_Net⟩,iga_Net,ign,igt,igm_Net⟩,kit_Net_Ride⟩|exact⟨⟨⟨pg_Table,hd_Table,po_Table,sa_Table⟩,iga_Table,ign,igt,igm_Table⟩,kit_Table_Ride⟩
  ·exact aF X G xC_BeatError
  ·exact aF X G xC_BadNet
  ·exact aF X G xC_Stuck
  ·exact aF X G xC_Loose
  ·exact aF X G xC_NoFit
  ·exact aF X G xC_TooMany
  ·exact aF X G xC_Unlike
  ·exact aF X G xC_NoRow
  ·exact aF X G xC_BadName
  ·exact xK_TooMany
  ·exact⟨⟨lU,mW,pM,lJ,jO,kT,lX,kZ,lH,kR,oG,lM,lN,lO,lP,lQ,xo_TooMany,xv_TooMany⟩,xV_TooMany,xB_TooMany,xA_TooMany,xN_TooMany,xS_TooMany,xT_TooMany⟩
  ·exact⟨xhd_TooMany,xs1_TooMany,xs2_TooMany⟩
  ·exact⟨xq1,xq2,xq3⟩
  ·exactλc hc=>by
    rw[aQ]at hc
    subst hc
    exact⟨xga_TooMany,xgn_TooMany,xB_TooMany,xhd_TooMany,xno_TooMany⟩
  ·exact⟨(λc hc=>by
    rw[aQ]at hc
    subst hc
    exact⟨⟨xga_TooMany,xgn_TooMany,xB_TooMany,xhd_TooMany,xca_TooMany,xcg,xct,xmo_TooMany⟩,kit_x0_TooMany⟩),kit_xn0⟩
  ·exact⟨(λc hc=>by
    rw[aQ]at hc
    subst hc
    exact⟨⟨xga_TooMany,xgn_TooMany,xB_TooMany,xhd_TooMany,xca_TooMany,xcg,xct,xmo_TooMany⟩,kit_x1_TooMany⟩),kit_xn1⟩
  ·exact⟨(λc hc=>by
    rw[aQ]at hc
    subst hc
    exact⟨⟨xga_TooMany,xgn_TooMany,xB_TooMany,xhd_TooMany,xca_TooMany,xcg,xct,xmo_TooMany⟩,kit_x2_TooMany⟩),kit_xn2⟩
  ·exactλc hc=>by
    rw[aQ]at hc
    subst hc
    exact WN hc_BeatError ht_BeatError hs_BeatError_TooMany hb_BeatError
  ·exact bU X G z0
  ·exact bU X G z1
  ·exact bU X G z2
  ·exact bU X G z3
  ·exact bU X G z4
  ·exact bU X G z5
  ·exact bU X G z6
  ·exact bU X G z7
  ·exact bU X G z8
  ·exact bU X G z9
  ·exact bU X G z10
  ·exact bU X G z11
  ·exact⟨_,aF X G gc0⟩
  ·exact⟨_,aF X G gc1⟩
  ·exact⟨_,aF X G gc2⟩
  ·exact⟨_,aF X G gc3⟩
  ·exact⟨_,aF X G gc4⟩
  ·exact⟨_,aF X G gc5⟩
 exact⟨cX "law" "law" j0 .none xE wD xN vD sK wB,λs v=>.of_eq rfl,λbase _ _=>XM T⟩
theorem walk {l:kM}{q:aT}{loose:List aK}{XP:(aK->Option aa)->aE->Prop}{YP:bt->aE->Prop}{d:DefRec}{K:Params->ae}(hn:l.most=some 63)(BD:d.params.defaults=[])
  (hY:∀(w:bt) (h:aE),YP w h->(K w.params).In h)
  (F:∀(w:bt) (mg:aK->Option aa) (fa:af) (h:aE),(K w.params).In h->h.Ns ax mg->mg d.name=some (.ref fa) ->
   ∃fd:aP,(∀(s:ai) (u:aa),nz s fd ⟨[u],[]⟩ [("_law_script",u)])/\∀base:aE,(K w.params).In base->base.Ns ax mg->cB l.prog w (K w.params) mg base eW 7 fa fd ["_law_script"] (mX (K w.params))) :
  qT q loose XP YP l.row.toRowW d [] (λf vs=>PySem.call f vs) :=
 L2.walk_of (n:=63) (k:=7) (x:="_law_script") (CX:=λ_=>eW) (sp:=λw=>mX (K w.params)) hn (by decide) BD ⟨rfl,by decide,by decide,rfl⟩ hY F (λ_ _ a ns hl _ hS=>⟨a,ns,rfl,hS,hl,λ_=>rfl⟩) λ_ _ _ _ _ z=>z
end My
-- KEEP
namespace PySem.W.Fast
def tw13568370490267075813:=0
def tw81619625047182784:=0
def tw3855514515788056000:=0
def tw1787143679713438885:=0
def tw8392333733383556588:=0
def tw4188483306997289949:=0
def tw10225825706523659367:=0
def tw9850291423700049757:=0
def tw8022626138261807232:=0
def tw8927801470398835926:=0
def tw11205193499810002200:=0
def tw9237591041478275129:=0
def tw11212196411071619242:=0
def tw9966220147382005955:=0
def tw3355337399168842071:=0
def tw3673718885595523557:=0
def tw10826126539984580722:=0
def tw15489133479774478798:=0
def tw7050694820884908611:=0
def tw2206202873972172570:=0
def tw8788855036079704044:=0
def tw3759221142940483974:=0
def tw8002931166999160141:=0
def tw1552595044412032992:=0
def tw17334450729616067700:=0
def tw11782905509534608096:=0
def tw6199992025474222249:=0
def tw13879576917506784219:=0
def tw14790239032030905843:=0
def tw2586519929105059855:=0
def tw8679795335178051399:=0
def tw3592353277382753046:=0
def tw8277782757435390281:=0
def tw392478344924700442:=0
def tw17303657000543010622:=0
def tw11911823713310450476:=0
def tw16368486527333046320:=0
def tw16989301519273050154:=0
def tw9123994027543049890:=0
def tw16933404266421004169:=0
def tw13453188306565522149:=0
def tw1186658134493410605:=0
def tw5699543374371042577:=0
def tw15398153780939341722:=0
def tw3992233188303427913:=0
def tw919140784023505538:=0
def tw4618717208761376017:=0
def tw12096589741282865046:=0
def tw9208310959360941461:=0
def tw10257818560124653685:=0
def tw16364171731160459052:=0
def tw5285970486230391803:=0
def tw17905047384989840561:=0
def tw4390638153202994020:=0
def tw2663634860242601901:=0
def tw17797086651007811225:=0
def tw786292028314152326:=0
def tw6018694237737416855:=0
def tw16477623192735536088:=0
def tw4125472069178663516:=0
def tw8855644814398448842:=0
end PySem.W.Fast
open PySem PySem.W PyProof.Rows
set_option maxRecDepth 100000 in
set_option maxHeartbeats 0 in
theorem PySem.Challenge.cw_ringbeat_k68_too_many_waits_holds : PySem.Challenge.rw_ringbeat_k68_too_many_waits.Holds := by
  w_on; o_law; k_head; (case hw => w_witness2)
  k_fill
  refine My.walk (l := PySem.Challenge.rw_ringbeat_k68_too_many_waits) rfl rfl (fun w h Y => PySem.W.kIn_of Y) ?F
  case F =>
    intro w mg fa h KX G hmg
    refine' My.all_mk KX G hmg ?aC_Arrow ?pg_Arrow ?hd_Arrow ?po_Arrow ?sa_Arrow ?mk_Arrow ?kc_Arrow ?aC_Ride ?pg_Ride ?hd_Ride ?po_Ride ?sa_Ride ?mk_Ride ?kc_Ride ?aC_Wait ?pg_Wait ?hd_Wait ?po_Wait ?sa_Wait ?mk_Wait ?kc_Wait ?aC_Back ?pg_Back ?hd_Back ?po_Back ?sa_Back ?mk_Back ?kc_Back ?aC_Net ?pg_Net ?hd_Net ?po_Net ?sa_Net ?mk_Net ?kc_Net ?aC_Table ?pg_Table ?hd_Table ?po_Table ?sa_Table ?mk_Table ?kc_Table ?xC_BeatError ?xC_BadNet ?xC_Stuck ?xC_Loose ?xC_NoFit ?xC_TooMany ?xC_Unlike ?xC_NoRow ?xC_BadName ?xo_TooMany ?xv_TooMany ?xV_TooMany ?xB_TooMany ?xA_TooMany ?xN_TooMany ?xS_TooMany ?xT_TooMany ?xK_TooMany ?xs1_TooMany ?xs2_TooMany ?xga_TooMany ?xgn_TooMany ?xhd_TooMany ?xca_TooMany ?xmo_TooMany ?xno_TooMany ?xcg ?xct ?xq1 ?xq2 ?xq3 ?kit_x0_TooMany ?kit_xn0 ?kit_x1_TooMany ?kit_xn1 ?kit_x2_TooMany ?kit_xn2 ?hc_BeatError ?ht_BeatError ?hb_BeatError ?hs_BeatError_TooMany ?a0 ?i0 ?l0 ?c0 ?k0 ?a1 ?i1 ?l1 ?c1 ?k1 ?a2 ?i2 ?l2 ?c2 ?k2 ?t2 ?a3 ?i3 ?l3 ?c3 ?k3 ?t3 ?a4 ?l4 ?c4 ?k4 ?a5 ?l5 ?c5 ?k5 ?a6 ?l6 ?c6 ?k6 ?a7 ?l7 ?c7 ?k7 ?a8 ?l8 ?c8 ?k8 ?a9 ?l9 ?c9 ?k9 ?a10 ?l10 ?c10 ?k10 ?a11 ?i11 ?l11 ?c11 ?k11 ?a12 ?i12 ?l12 ?c12 ?k12 ?a13 ?i13 ?l13 ?c13 ?k13 ?a14 ?i14 ?l14 ?c14 ?k14 ?a15 ?l15 ?c15 ?k15 ?a16 ?l16 ?c16 ?k16 ?a17 ?i17 ?l17 ?c17 ?k17 ?a18 ?i18 ?l18 ?c18 ?k18 ?a19 ?l19 ?c19 ?k19 ?a20 ?l20 ?c20 ?k20 ?a21 ?l21 ?c21 ?k21 ?t21 ?a22 ?i22 ?l22 ?c22 ?k22 ?a23 ?i23 ?l23 ?c23 ?k23 ?a24 ?i24 ?l24 ?c24 ?k24 ?a25 ?l25 ?c25 ?k25 ?a26 ?l26 ?c26 ?k26 ?a27 ?i27 ?l27 ?c27 ?k27 ?a28 ?l28 ?c28 ?k28 ?a29 ?l29 ?c29 ?k29 ?a30 ?l30 ?c30 ?k30 ?a31 ?l31 ?c31 ?k31 ?a32 ?l32 ?c32 ?k32 ?qs_Arrow ?qr_Arrow ?qf_Arrow ?n_Net_arrows ?n_Table_beat ?n_Arrow_behind ?n_Ride_behind ?n_Wait_behind ?n_Back_behind ?n_Arrow_goal ?n_Ride_goal ?n_Wait_goal ?n_Back_goal ?n_Net_names ?n_Table_net ?n_Arrow_start ?n_Ride_start ?n_Wait_start ?n_Back_start ?n_Arrow_time ?n_Ride_time ?n_Wait_time ?n_Back_time ?n_Table_times ?ign ?igt ?iga_Arrow ?igm_Arrow ?kit_Arrow_Back ?kit_Arrow_Ride ?iga_Ride ?igm_Ride ?kit_Ride_Back ?kit_Ride_Ride ?iga_Wait ?igm_Wait ?kit_Wait_Back ?kit_Wait_Ride ?iga_Back ?igm_Back ?kit_Back_Back ?kit_Back_Ride ?iga_Net ?igm_Net ?kit_Net_Back ?kit_Net_Ride ?iga_Table ?igm_Table ?kit_Table_Back ?kit_Table_Ride ?z0 ?z1 ?z2 ?z3 ?z4 ?z5 ?z6 ?z7 ?z8 ?z9 ?z10 ?z11 ?gc0 ?gc1 ?gc2 ?gc3 ?gc4 ?gc5
    (case aC_Arrow => k_is)
    (case pg_Arrow => k_is)
    (case hd_Arrow => k_is)
    (case po_Arrow => k_is)
    (case sa_Arrow => k_is)
    (case mk_Arrow => k_is)
    (case kc_Arrow => k_is)
    (case aC_Ride => k_is)
    (case pg_Ride => k_is)
    (case hd_Ride => k_is)
    (case po_Ride => k_is)
    (case sa_Ride => k_is)
    (case mk_Ride => k_is)
    (case kc_Ride => k_is)
    (case aC_Wait => k_is)
    (case pg_Wait => k_is)
    (case hd_Wait => k_is)
    (case po_Wait => k_is)
    (case sa_Wait => k_is)
    (case mk_Wait => k_is)
    (case kc_Wait => k_is)
    (case aC_Back => k_is)
    (case pg_Back => k_is)
    (case hd_Back => k_is)
    (case po_Back => k_is)
    (case sa_Back => k_is)
    (case mk_Back => k_is)
    (case kc_Back => k_is)
    (case aC_Net => k_is)
    (case pg_Net => k_is)
    (case hd_Net => k_is)
    (case po_Net => k_is)
    (case sa_Net => k_is)
    (case mk_Net => k_is)
    (case kc_Net => k_is)
    (case aC_Table => k_is)
    (case pg_Table => k_is)
    (case hd_Table => k_is)
    (case po_Table => k_is)
    (case sa_Table => k_is)
    (case mk_Table => k_is)
    (case kc_Table => k_is)
    (case xC_BeatError => k_is)
    (case xC_BadNet => k_is)
    (case xC_Stuck => k_is)
    (case xC_Loose => k_is)
    (case xC_NoFit => k_is)
    (case xC_TooMany => k_is)
    (case xC_Unlike => k_is)
    (case xC_NoRow => k_is)
    (case xC_BadName => k_is)
    (case xo_TooMany => k_is)
    (case xv_TooMany => first | exact .base | exact .own .base)
    (case xV_TooMany => k_is)
    (case xB_TooMany => k_is)
    (case xA_TooMany => k_is)
    (case xN_TooMany => k_is)
    (case xS_TooMany => k_is)
    (case xT_TooMany => k_is)
    (case xK_TooMany => k_is)
    (case xs1_TooMany => k_is)
    (case xs2_TooMany => k_is)
    (case xga_TooMany => k_is)
    (case xgn_TooMany => k_is)
    (case xhd_TooMany => k_is)
    (case xca_TooMany => k_is)
    (case xmo_TooMany => k_is)
    (case xno_TooMany => k_is)
    (case xcg => k_is)
    (case xct => k_is)
    (case xq1 => k_is)
    (case xq2 => k_is)
    (case xq3 => k_is)
    (case kit_x0_TooMany => kit_is)
    (case kit_xn0 => kit_is)
    (case kit_x1_TooMany => kit_is)
    (case kit_xn1 => kit_is)
    (case kit_x2_TooMany => kit_is)
    (case kit_xn2 => kit_is)
    (case hc_BeatError => k_is)
    (case ht_BeatError => k_is)
    (case hb_BeatError => k_is)
    (case hs_BeatError_TooMany => k_is)
    (case a0 => k_is)
    (case i0 => k_is)
    (case l0 => k_is)
    (case c0 => k_is)
    (case k0 => k_is)
    (case a1 => k_is)
    (case i1 => k_is)
    (case l1 => k_is)
    (case c1 => k_is)
    (case k1 => k_is)
    (case a2 => k_is)
    (case i2 => k_is)
    (case l2 => k_is)
    (case c2 => k_is)
    (case k2 => k_is)
    (case t2 => k_is)
    (case a3 => k_is)
    (case i3 => k_is)
    (case l3 => k_is)
    (case c3 => k_is)
    (case k3 => k_is)
    (case t3 => k_is)
    (case a4 => k_is)
    (case l4 => k_is)
    (case c4 => k_is)
    (case k4 => k_is)
    (case a5 => k_is)
    (case l5 => k_is)
    (case c5 => k_is)
    (case k5 => k_is)
    (case a6 => k_is)
    (case l6 => k_is)
    (case c6 => k_is)
    (case k6 => k_is)
    (case a7 => k_is)
    (case l7 => k_is)
    (case c7 => k_is)
    (case k7 => k_is)
    (case a8 => k_is)
    (case l8 => k_is)
    (case c8 => k_is)
    (case k8 => k_is)
    (case a9 => k_is)
    (case l9 => k_is)
    (case c9 => k_is)
    (case k9 => k_is)
    (case a10 => k_is)
    (case l10 => k_is)
    (case c10 => k_is)
    (case k10 => k_is)
    (case a11 => k_is)
    (case i11 => k_is)
    (case l11 => k_is)
    (case c11 => k_is)
    (case k11 => k_is)
    (case a12 => k_is)
    (case i12 => k_is)
    (case l12 => k_is)
    (case c12 => k_is)
    (case k12 => k_is)
    (case a13 => k_is)
    (case i13 => k_is)
    (case l13 => k_is)
    (case c13 => k_is)
    (case k13 => k_is)
    (case a14 => k_is)
    (case i14 => k_is)
    (case l14 => k_is)
    (case c14 => k_is)
    (case k14 => k_is)
    (case a15 => k_is)
    (case l15 => k_is)
    (case c15 => k_is)
    (case k15 => k_is)
    (case a16 => k_is)
    (case l16 => k_is)
    (case c16 => k_is)
    (case k16 => k_is)
    (case a17 => k_is)
    (case i17 => k_is)
    (case l17 => k_is)
    (case c17 => k_is)
    (case k17 => k_is)
    (case a18 => k_is)
    (case i18 => k_is)
    (case l18 => k_is)
    (case c18 => k_is)
    (case k18 => k_is)
    (case a19 => k_is)
    (case l19 => k_is)
    (case c19 => k_is)
    (case k19 => k_is)
    (case a20 => k_is)
    (case l20 => k_is)
    (case c20 => k_is)
    (case k20 => k_is)
    (case a21 => k_is)
    (case l21 => k_is)
    (case c21 => k_is)
    (case k21 => k_is)
    (case t21 => k_is)
    (case a22 => k_is)
    (case i22 => k_is)
    (case l22 => k_is)
    (case c22 => k_is)
    (case k22 => k_is)
    (case a23 => k_is)
    (case i23 => k_is)
    (case l23 => k_is)
    (case c23 => k_is)
    (case k23 => k_is)
    (case a24 => k_is)
    (case i24 => k_is)
    (case l24 => k_is)
    (case c24 => k_is)
    (case k24 => k_is)
    (case a25 => k_is)
    (case l25 => k_is)
    (case c25 => k_is)
    (case k25 => k_is)
    (case a26 => k_is)
    (case l26 => k_is)
    (case c26 => k_is)
    (case k26 => k_is)
    (case a27 => k_is)
    (case i27 => k_is)
    (case l27 => k_is)
    (case c27 => k_is)
    (case k27 => k_is)
    (case a28 => k_is)
    (case l28 => k_is)
    (case c28 => k_is)
    (case k28 => k_is)
    (case a29 => k_is)
    (case l29 => k_is)
    (case c29 => k_is)
    (case k29 => k_is)
    (case a30 => k_is)
    (case l30 => k_is)
    (case c30 => k_is)
    (case k30 => k_is)
    (case a31 => k_is)
    (case l31 => k_is)
    (case c31 => k_is)
    (case k31 => k_is)
    (case a32 => k_is)
    (case l32 => k_is)
    (case c32 => k_is)
    (case k32 => k_is)
    (case qs_Arrow => k_is)
    (case qr_Arrow => k_is)
    (case qf_Arrow => k_is)
    (case n_Net_arrows => k_is)
    (case n_Table_beat => k_is)
    (case n_Arrow_behind => k_is)
    (case n_Ride_behind => k_is)
    (case n_Wait_behind => k_is)
    (case n_Back_behind => k_is)
    (case n_Arrow_goal => k_is)
    (case n_Ride_goal => k_is)
    (case n_Wait_goal => k_is)
    (case n_Back_goal => k_is)
    (case n_Net_names => k_is)
    (case n_Table_net => k_is)
    (case n_Arrow_start => k_is)
    (case n_Ride_start => k_is)
    (case n_Wait_start => k_is)
    (case n_Back_start => k_is)
    (case n_Arrow_time => k_is)
    (case n_Ride_time => k_is)
    (case n_Wait_time => k_is)
    (case n_Back_time => k_is)
    (case n_Table_times => k_is)
    (case ign => k_is)
    (case igt => k_is)
    (case iga_Arrow => k_is)
    (case igm_Arrow => k_is)
    (case kit_Arrow_Back => kit_is)
    (case kit_Arrow_Ride => kit_is)
    (case iga_Ride => k_is)
    (case igm_Ride => k_is)
    (case kit_Ride_Back => kit_is)
    (case kit_Ride_Ride => kit_is)
    (case iga_Wait => k_is)
    (case igm_Wait => k_is)
    (case kit_Wait_Back => kit_is)
    (case kit_Wait_Ride => kit_is)
    (case iga_Back => k_is)
    (case igm_Back => k_is)
    (case kit_Back_Back => kit_is)
    (case kit_Back_Ride => kit_is)
    (case iga_Net => k_is)
    (case igm_Net => k_is)
    (case kit_Net_Back => kit_is)
    (case kit_Net_Ride => kit_is)
    (case iga_Table => k_is)
    (case igm_Table => k_is)
    (case kit_Table_Back => kit_is)
    (case kit_Table_Ride => kit_is)
    (case z0 => k_is)
    (case z1 => k_is)
    (case z2 => k_is)
    (case z3 => k_is)
    (case z4 => k_is)
    (case z5 => k_is)
    (case z6 => k_is)
    (case z7 => k_is)
    (case z8 => k_is)
    (case z9 => k_is)
    (case z10 => k_is)
    (case z11 => k_is)
    (case gc0 => k_is)
    (case gc1 => k_is)
    (case gc2 => k_is)
    (case gc3 => k_is)
    (case gc4 => k_is)
    (case gc5 => k_is)
