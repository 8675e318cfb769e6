import PyProof.Rows.All
import Wide.All
import OpenK.AllK
import Wide.FinOn
import Lean
import PyProof.EqAt
import PyProof.EqKinds
import PyProof.TupleCall
import PyProof.ExcClass3
import PyProof.ExcBaseAll.ValueError
import KE.KTryMore
import PyProof.FString2
import PyProof.ReprRoads
import PyProof.ReprBulk
import PyProof.DictItems
import KE.KDictList
import KE.KSortTup
import PyProof.Rows.SortRuns
import KE.KSortAsk
import KE.KSortKey
import KE.KDictList
import PyProof.StrCalls
import PyProof.StrBlock2
import PyProof.StrBlockI
import PyProof.StrCalls2
import KE.KIntText
import PySem.Challenge.RW_ringbeat_k66_waits_into_one
set_option Elab.async false
set_option linter.all false
set_option maxRecDepth 100000
open Array renaming length_toList→bL,getElem?_toList→d7,toList_map→gO,ext'→oJ,append_assoc→oK
open Bool renaming false_ne_true→aJ,and_eq_true→bO,false_eq_true→cJ,or_eq_false_iff→nV,false_or→sU
open Int renaming toNat_of_nonneg→jJ,emod_nonneg→lI,fdiv_eq_ediv_of_nonneg→lX,emod_lt_of_pos→pP
open List renaming mem_cons_self→ah,mem_cons_of_mem→ai,replicate→av,mem_append_right→aw,mem_cons→ay,length_cons→az,size_toArray→aD,length_map→aE,range→aH,getD_eq_getElem?_getD→aN,mem_singleton→aO,length_append→aR,mem_append→aT,getElem?_eq_some_iff→aU,nodup_append→aW,nodup_cons→aY,lookup_cons→ba,getElem?_map→bj,mem_filter→bn,mem_append_left→bp,map_cons→br,getElem?_append_left→bw,nodup_nil→bx,getElem?_eq_getElem→bC,foldl_cons→bD,getElem?_eq_none→bS,getElem?_append_right→bT,append_nil→bY,mem_range→bZ,all_eq_true→ce,not_mem_nil→ck,mem_iff_getElem?→cn,map_append→cu,getElem?_set_self→cw,replicate_succ→cz,flatten_cons→cB,find?_cons→cP,length_replicate→cR,Nodup→cT,map_map→cU,length_range→df,getElem?_range→dm,mem_map→dv,length_take→dw,getElem?_set_ne→dI,mem_iff_getElem→dJ,map_congr_left→dR,any_cons→d8,append_assoc→ee,ext_getElem?→eh,all_cons→eA,getElem?_take_of_lt→eD,length_zip→eE,zip_cons_cons→eI,getElem?_replicate→eL,contains_iff_mem→fC,length_singleton→fD,countP_cons→fF,lookup→fK,take_append_of_le_length→fL,forIn_cons→fR,of_mem_zip→fS,countP_append→gu,filter_append→gw,drop_eq_getElem_cons→gD,foldl_append→gJ,ext_getElem→gU,filter_cons_of_neg→gW,filter_cons_of_pos→gX,length_drop→gY,mem_flatten→gZ,nodup_range→g0,drop_eq_nil_of_le→ip,length_set→iw,forIn_nil→iW,mem_of_mem_take→iX,filterMap_cons→jE,getElem?_drop→jP,getElem_range→jQ,map_nil→kb,getElem_inj→kL,getElem_map→kM,getElem_mem→kN,getElem_set→kO,eq_nil_of_length_eq_zero→kZ,map_const'→li,mem_zipIdx_iff_getElem?→lm,range_succ→lq,perm_ext_iff_of_nodup→lN,append_cancel_left→mT,length_eq_zero_iff→mU,all_map→mZ,drop_of_length_le→m6,set_set→m7,take_of_length_le→m8,countP_singleton→nJ,length_filter_le→nK,length→nX,mem_of_getElem?→nY,contains_cons→o8,filter_filter→o9,find?_eq_none→pd,foldl→pf,length_zipIdx→pj,mem_filterMap→pq,filter_congr→pQ,getElem?_set→pR,getElem_take→pS,take_add_one→pT,take_left'→rF,find?_some→rG,zip_append→rH,contains→sV
open Nat renaming le_refl→aG,lt_of_lt_of_le→bo,ne_of_lt→bt,le_trans→bK,zero_le→cZ,lt_succ_of_lt→dh,lt_irrefl→d9,lt_succ_self→fI,le_succ→fN,pow_le_pow_right→i7,le_of_lt→ko,le_of_succ_le→kr,min_self→ku,mul_assoc→mV,add_sub_cancel_left→m9,le_of_eq→nL,ne_of_gt→nM,pow_succ→nN,zero_add→nO,lt_of_le_of_lt→pU
open Option renaming bind_some→bu,map_eq_some_iff→dq,map_some→ij,isSome_iff_exists→lO,isSome_map→oM,getD_none→pv,getD_some→pz
open PyProof.Rows renaming callWith_type1→fk
open PySem renaming Value→ae,Addr→af,Shared→ak,starEach→aq,mainGlobals→ax,FuncData→aF,Str→aI,wpAny_bind→aL,Heap→aS,Program→aX,model→aZ,wpAny→bg,NameKind→bi,Around→bq,World→bz,wpAny_pure→bF,sizeLine_eq→bG,Stmt→bI,PyData→bM,eval→bN,bootBuiltins→bU,Pos→cA,backTo→cC,compareOp→cD,assignEach→cF,strIterType→cG,PassesOwn→cM,Obj→cN,foldedSetIterable→cQ,holding→dg,behindInMarks→dB,keywordEach→dC,binaryOp→dG,swapsWith→dO,wpAny_truthy_bool→dS,wpAny_mono→dW,sysModules→ej,wpAny_passesOwn→er,attributeBase→eP,backToKw→eQ,standAt→eT,assign→eW,wpAny_Call_Name_kw→eX,Scope→fm,getMethod→fW,sliceBounds→gk,letOwnedTupleGo→gx,cLine→gE,codeAny→gK,tupleKind_room_in1→gP,Sem→ik,Keyword→iq,swappedStores→iy,swapsWithSole→iz,wpAny_holding→iA,Operator→iO,callWith→iP,tupleKind→iQ,wpAny_execs_nil→jF,newFunctionEnv→ka,setItem→kc,CmpOp→kP,wpAny_standAt→kQ,callerA→lJ,codeAny_mono→lK,seqIndex_neg→lL,seqIndex_of→mz,BindsTo→nc,release→ng,valueAt→nh,Code→nP,closureFor→nQ,compEnvC→nR,compPost→nS,Data→oN,atKey→pA,bindC→pB,bindL→pC,concat_meets→pV,isTrue→pW,builtinsNs→sW,call_meets→sX,typeIs_int→sY,wpAny_Name→sZ
open PySem.Heap renaming get?_push_of_some→aC,lt_size→aP,get?_push_size→bB,SameBut→dH,size_push→eS,get?_update_other→mY,get?_none_of_le→nW,get?_push_ne→pO,size_update→qD
open PySem.W renaming Frag→aa,findIn→ao,keepIn→ap,codeIn→aA,nsIn→aB,mg_of→aK,kitOne→bv,mg_none_of→bW,isFn→cm,kia_one→cr,hasDictIn→cx,plainGet→cI,emptyDict→cL,plainOver→cW,specialIn→cX,makesIn→dc,mroIn→dr,instObj→dD,methodCall_KW→eU,fnOf→fO,callWith_K→fX,cellsFrom_some→gQ,findCls→hE,readsIn→hG,takesIn→hJ,lookIn→iB,plainGet_of→iR,kitx_list→jK,methodObj→jL,OpenLaw→kx,takerIn→ky,kas_swaps_map→mC,kitx_dict→nZ,handedIn→oO,WalkO→qE
namespace L2
open PySem PySem.Spec PyProof.Rows
abbrev et:=Sum Int aI
def mj:et->ae->Bool
 |.inl k,v=>ae.isInt k v
 |.inr x,v=>ae.isStrOf x v
def HE (w:bz):et->Int
 |.inl k=>hashInt k
 |.inr x=>hashStr w x
theorem xu:∀{k:et} {v:ae},mj k v=true->(∃i t,k=Sum.inl i/\v=ae.int i t)\/(∃x t,k=Sum.inr x/\v=ae.str x t)
 |.inl i,v,h=>by
  obtain⟨t,e⟩:=ae.isInt_shape (k:=i) (v:=v) h
  exact .inl ⟨i,t,rfl,e⟩
 |.inr x,v,h=>by
  obtain⟨t,e⟩:=ae.isStrOf_shape (x:=x) (v:=v) h
  exact .inr ⟨x,t,rfl,e⟩
theorem TL (i:Int)(t:Tok):mj (.inl i) (.int i t)=true:=by simp[mj,ae.isInt]
theorem Td (x:aI)(t:Tok):mj (.inr x) (.str x t)=true:=by simp[mj,ae.isStrOf]
theorem Ww (a b:Int):decide ((Sum.inl a:et)=Sum.inl b)=(a==b):=by
 by_cases e:a=b
 ·subst e;simp
 ·have h:¬(Sum.inl a:et)=Sum.inl b:=λq=>e (Sum.inl.inj q)
  rw[decide_eq_false h]
  exact(beq_eq_false_iff_ne.mpr e).symm
theorem Wx (a b:aI):decide ((Sum.inr a:et)=Sum.inr b)=decide (a=b):=by
 by_cases e:a=b
 ·subst e;simp
 ·have h:¬(Sum.inr a:et)=Sum.inr b:=λq=>e (Sum.inr.inj q)
  rw[decide_eq_false h,decide_eq_false e]
theorem Wy (a:Int)(b:aI):decide ((Sum.inl a:et)=Sum.inr b)=false:=decide_eq_false (λq=>nomatch q)
theorem Wz (a:aI)(b:Int):decide ((Sum.inr a:et)=Sum.inl b)=false:=decide_eq_false (λq=>nomatch q)
def dF (prog:aX)(w:bz):PySem.KeyKind prog w et where
 is:=mj
 hash:=HE w
 inj:=λv a b ha hb=>by
  rcases xu ha with⟨i,t,rfl,rfl⟩|⟨x,t,rfl,rfl⟩
  ·rcases xu hb with⟨j,u,rfl,e⟩|⟨y,u,rfl,e⟩
   ·injection e with e1 _;rw[e1]
   ·exact nomatch e
  ·rcases xu hb with⟨j,u,rfl,e⟩|⟨y,u,rfl,e⟩
   ·exact nomatch e
   ·injection e with e1 _;rw[e1]
 byValue:=λk v h=>by
  rcases xu h with⟨i,t,rfl,rfl⟩|⟨x,t,rfl,rfl⟩<;>rfl
 pyHash:=λhv h=>by
  rcases xu hv with⟨i,t,rfl,rfl⟩|⟨x,t,rfl,rfl⟩
  ·exact wpAny_pyHash_int h
  ·exact wpAny_pyHash_str h
 eqBool:=λhu hv h=>by
  rcases xu hu with⟨i,t,rfl,rfl⟩|⟨x,t,rfl,rfl⟩
  ·rcases xu hv with⟨j,u,rfl,rfl⟩|⟨y,u,rfl,rfl⟩
   ·rw[Ww]at h;exact wpAny_eqBool_int h
   ·rw[Wy]at h;exact SeqAt.EqAt.int_str i t y u _ _ _ _ h
  ·rcases xu hv with⟨j,u,rfl,rfl⟩|⟨y,u,rfl,rfl⟩
   ·rw[Wz]at h;exact SeqAt.EqAt.str_int x t j u _ _ _ _ h
   ·rw[Wx]at h;exact wpAny_eqBool_str h
 «strs»:=λk x t v h=>by
  rcases xu h with⟨i,u,rfl,e⟩|⟨y,u,rfl,e⟩
  ·exact nomatch e
  ·injection e with e1 _
   subst e1
   cases v<;>rfl
theorem SS (prog:aX)(w:bz)(i:Int)(t:Tok):(dF prog w).is (.inl i) (.int i t)=true:=TL i t
theorem SU (prog:aX)(w:bz)(x:aI)(t:Tok):(dF prog w).is (.inr x) (.str x t)=true:=Td x t
end L2
namespace L2
open PySem PySem.Spec PyProof.Rows
inductive V where
 |non|bl (b:Bool)|int (i:Int)|str (x:aI)|byt (b:Array UInt8)|flt (b:UInt64)|ref (a:af)|ty (n:String)
 deriving DecidableEq
def RelV:V->ae->Prop
 |.non,u=>u=ae.none
 |.bl b,u=>u=ae.bool b
 |.int i,u=>∃t,u=ae.int i t
 |.str x,u=>∃t,u=ae.str x t
 |.byt b,u=>∃t,u=ae.bytes b t
 |.flt b,u=>∃t,u=ae.float b t
 |.ref a,u=>u=ae.ref a
 |.ty n,u=>u=ae.type n
abbrev bQ:List V->List ae->Prop:=Paired RelV
theorem bQ.length {xs:List V}{us:List ae}(r:bQ xs us):xs.length=us.length:=Paired.length r
theorem bQ.get:∀{xs:List V} {us:List ae} {i:Nat} {x:V},bQ xs us->xs[i]?=some x->∃u,us[i]?=some u/\RelV x u
 |_,_,_,_,.nil,e=>by simp at e
 |_,_,0,_,.cons r _,e=>by simp at e;subst e;exact⟨_,rfl,r⟩
 |_,_,i+1,x,.cons _ t,e=>by
  obtain⟨u,h1,h2⟩:=bQ.get (i:=i) (x:=x) t (by simpa using e)
  exact⟨u,by simpa using h1,h2⟩
theorem bQ.set {x:V}{u:ae}(r:RelV x u):∀{xs:List V} {us:List ae} (i:Nat),bQ xs us->bQ (xs.set i x) (us.set i u)
 |_,_,_,.nil=>.nil
 |_,_,0,.cons _ t=>.cons r t
 |_,_,i+1,.cons q t=>.cons q (bQ.set r i t)
theorem bQ.append:∀{xs ys:List V} {us ws:List ae},bQ xs us->bQ ys ws->bQ (xs++ys) (us++ws)
 |_,_,_,_,.nil,s=>s
 |_,_,_,_,.cons r t,s=>.cons r (bQ.append t s)
theorem bQ.take:∀{xs:List V} {us:List ae} (n:Nat),bQ xs us->bQ (xs.take n) (us.take n)
 |_,_,0,_=>.nil
 |_,_,_+1,.nil=>.nil
 |_,_,n+1,.cons r t=>.cons r (bQ.take n t)
theorem bQ.drop:∀{xs:List V} {us:List ae} (n:Nat),bQ xs us->bQ (xs.drop n) (us.drop n)
 |_,_,0,r=>r
 |_,_,_+1,.nil=>.nil
 |_,_,n+1,.cons _ t=>bQ.drop n t
def iY:Option V->Option ae->Prop
 |some v,some u=>RelV v u
 |none,none=>True
 |_,_=>False
def KV {κ:Type}:List (κ×V)->List (κ×ae)->Prop:=Paired λ(p:κ×V) (q:κ×ae)=>p.1=q.1/\RelV p.2 q.2
def kV:et->V
 |.inl i=>.int i
 |.inr x=>.str x
inductive HO where
 |lst (xs:List V)
 |tup (xs:List V)
 |dK (cq:List (et×V))|dT (cq:List (List et×V))
 |set (S:Int->Bool) (n:Nat)
 |ins (C dx:af) (fs:List (aI×V))
 |own (x:af)
 |xd (fs:List (aI×V))
 |met (f x:af)
 |rng (lo hi:Int)
 |frz (o:cN) (u:HO)
 |tbl (ps:Array ae)
 |ext (φ:aS->Prop)
abbrev Hp:=af->Option HO
def upd (H:Hp)(a:af)(o:HO):Hp:=λb=>if b=a then some o else H b
theorem ym {H:Hp}{a:af}{o:HO}:upd H a o a=some o:=by unfold upd;rw[if_pos rfl]
theorem zn {H:Hp}{a b:af}{o:HO}(h:b≠a):upd H a o b=H b:=by unfold upd;rw[if_neg h]
theorem Yv {H:Hp}{a b:af}{o u:HO}(h:H a=some o)(h':H b=some u)(d:o≠u):a≠b:=by
 intro e;subst e;rw[h]at h';exact d (Option.some.inj h')
theorem yw {H:Hp}{a b:af}{o:HO}(h:H a=some o)(h':H b=none):a≠b:=by
 intro e;subst e;rw[h]at h';cases h'
section
variable (P:aX)(w:bz)
def dN (H:Hp)(h:aS)(a:af):HO->Prop
  |.lst xs=>xs.length<=sizeLine/\∃(bV:List ae) (n:Nat),bQ xs bV/\h.get? a=some { cls:=.type "list",data:=.seq bV.toArray n }
  |.tup xs=>xs.length<=sizeLine/\∃bV:List ae,bQ xs bV/\IsTup h a bV.toArray
  |.dK cq=>cq.length<=sizeLine/\(a==ej)=false/\∃vs,KV cq vs/\h.DictOf (dF P w) a vs
  |.dT cq=>cq.length<=sizeLine/\(a==ej)=false/\∃xs:List (List et×af×ae),
      Paired (λ(p:List et×V) (q:List et×af×ae)=>p.1=q.1/\H q.2.1=some (.tup (p.1.map kV))/\RelV p.2 q.2.2) cq xs /\
      ∃o es ep,h.get? a=some o/\o.ExactDict/\o.data=.dict es ep/\es.toList=xs.map (entryOfKey (iQ (dF P w)))/\(xs.map (·.1)).Nodup
  |.set S n=>h.SetOf (intKind P w) a S n
  |.ins C dx fs=>H dx=some (.own a)/\fs.length<=1000/\dx≠a/\h.get? a=some (dD C dx) /\
      ∃mA,h.Ns1 dx mA/\(∀f,iY (fs.lookup f) (mA f))/\PySem.Within mA (fs.map (·.1))
  |.own _=>∃o,h.get? a=some o
  |.xd fs=>∃mA,h.Ns1 a mA/\∀f,iY (fs.lookup f) (mA f)
  |.rng lo hi=>∃t u v,h.get? a=some { cls:=.type "range",data:=.fields #[.int lo t,.int hi u,.int 1 v] }
  |.frz o u=>h.get? a=some o/\dN H h a u
  |.tbl ps=>h.get? a=some { cls:=.none,data:=.fields ps }
  |.met f x=>h.get? a=some (jL (.ref f) (.ref x))
  |.ext φ=>φ h/\(∃o,h.get? a=some o)/\∀h1 h2:aS,φ h1->(∀o,h1.get? a=some o->h2.get? a=some o)->φ h2
def jM (H:Hp)(h:aS):Prop:=∀a o,H a=some o->dN P w H h a o
end
section
variable {P:aX}{w:bz}{H H':Hp}{h h':aS}{a:af}{o:HO}
theorem dN.lt (x:dN P w H h a o):a<h.objs.size:=by
 cases o with
 |lst xs=>obtain⟨_,_,_,_,e⟩:=x;exact aP e
 |tup xs=>obtain⟨_,_,_,p⟩:=x;exact p.lt
 |dK cq=>obtain⟨_,_,_,_,o,_,_,e,_⟩:=x;exact aP e
 |dT cq=>obtain⟨_,_,_,_,o,_,_,e,_⟩:=x;exact aP e
 |set S n=>obtain⟨o,_,_,_,e,_⟩:=x;exact aP e
 |ins C dx fs=>obtain⟨_,_,_,e,_⟩:=x;exact aP e
 |own y=>obtain⟨_,e⟩:=x;exact aP e
 |xd fs=>obtain⟨_,⟨_,_,_,e,_⟩,_⟩:=x;exact aP e
 |rng lo hi=>obtain⟨_,_,_,e⟩:=x;exact aP e
 |frz ob u=>obtain⟨e,_⟩:=x;exact aP e
 |tbl ps=>exact aP (show h.get? a=some _ from x)
 |met f y=>exact aP (show h.get? a=some _ from x)
 |ext φ=>obtain⟨_,⟨_,e⟩,_⟩:=x;exact aP e
theorem Paired.mapP {α β:Type}{F G:α->β->Prop}:∀{l₁:List α} {l₂:List β},Paired F l₁ l₂->(∀a b,F a b->G a b)->Paired G l₁ l₂
 |_,_,.nil,_=>.nil
 |_,_,.cons r t,f=>.cons (f _ _ r) (Paired.mapP t f)
theorem dN.stay (x:dN P w H h a o)(k:∀b u,(b=a\/H b=some (.own a))->h.get? b=some u->h'.get? b=some u)
    (ho:∀b,H b=some (.own a)->H' b=some (.own a)) (ht:∀b xs,H b=some (.tup xs)->H' b=some (.tup xs)):dN P w H' h' a o:=by
  induction o with
  |lst xs=>obtain⟨z,bV,n,r,e⟩:=x;exact⟨z,bV,n,r,k _ _ (.inl rfl) e⟩
  |tup xs=>obtain⟨z,bV,r,ob,e,c⟩:=x;exact⟨z,bV,r,ob,k _ _ (.inl rfl) e,c⟩
  |dK cq=>obtain⟨z,y,vs,r,ob,es,ep,e,c⟩:=x;exact⟨z,y,vs,r,ob,es,ep,k _ _ (.inl rfl) e,c⟩
  |dT cq=>
    obtain⟨z,y,xs,r,ob,es,ep,e,c⟩:=x
    exact⟨z,y,xs,Paired.mapP r λp q z=>⟨z.1,ht _ _ z.2.1,z.2.2⟩,ob,es,ep,k _ _ (.inl rfl) e,c⟩
  |set S n=>obtain⟨ob,es,ep,t,e,c⟩:=x;exact⟨ob,es,ep,t,k _ _ (.inl rfl) e,c⟩
  |ins C dx fs=>
    obtain⟨d,z,ne,e,mA,⟨od,es,ep,e2,c⟩,r⟩:=x
    exact⟨ho _ d,z,ne,k _ _ (.inl rfl) e,mA,⟨od,es,ep,k _ _ (.inr d) e2,c⟩,r⟩
  |own y=>obtain⟨ob,e⟩:=x;exact⟨ob,k _ _ (.inl rfl) e⟩
  |xd fs=>obtain⟨mA,⟨od,es,ep,e,c⟩,r⟩:=x;exact⟨mA,⟨od,es,ep,k _ _ (.inl rfl) e,c⟩,r⟩
  |rng lo hi=>obtain⟨t,u,v,e⟩:=x;exact⟨t,u,v,k _ _ (.inl rfl) e⟩
  |frz ob u ih=>obtain⟨e,q⟩:=x;exact⟨k _ _ (.inl rfl) e,ih q⟩
  |tbl ps=>
    have e:h.get? a=some { cls:=.none,data:=.fields ps }:=x
    show h'.get? a=some { cls:=.none,data:=.fields ps }
    exact k a _ (.inl rfl) e
  |met f y=>
    have e:h.get? a=some (jL (.ref f) (.ref y)):=x
    show h'.get? a=some (jL (.ref f) (.ref y))
    exact k a _ (.inl rfl) e
  |ext φ=>obtain⟨p,⟨o,e⟩,st⟩:=x;exact⟨st _ _ p λo q=>k _ _ (.inl rfl) q,⟨o,k _ _ (.inl rfl) e⟩,st⟩
theorem jM.lt (x:jM P w H h)(e:H a=some o):a<h.objs.size:=(x a o e).lt
theorem jM.fresh (x:jM P w H h)(e:h.objs.size<=a):H a=none:=by
 cases q:H a with
 |none=>rfl
 |some u=>exact absurd (bo (x.lt q) e) (d9 _)
theorem jM.kept (x:jM P w H h)(k:∀b u,h.get? b=some u->h'.get? b=some u):jM P w H h':=λa o e=>
 (x a o e).stay (λb u _ q=>k b u q) (λ_ q=>q) λ_ _ q=>q
theorem jM.laid (x:jM P w H h)(k:∀b u,h.get? b=some u->h'.get? b=some u)(hp:h.objs.size<=a)(new:dN P w (upd H a o) h' a o):jM P w (upd H a o) h':=λb u e=>by
 have hn:=x.fresh hp
 by_cases hb:b=a
 ·subst hb;rw[ym]at e;cases e;exact new
 ·rw[zn hb]at e
  exact(x b u e).stay (λc v _ q=>k c v q) (λc q=>by rw[zn (yw q hn)];exact q) λc xs q=>by rw[zn (yw q hn)];exact q
end
def Rd (H:Hp)(a:af)(u:HO):Prop:=H a=some u\/∃o,H a=some (.frz o u)
theorem Rd.ok {P:aX}{w:bz}{H:Hp}{h:aS}{a:af}{u:HO}(r:Rd H a u)(x:jM P w H h):dN P w H h a u:=by
 rcases r with r|⟨o,r⟩
 ·exact x a u r
 ·obtain⟨_,q⟩:=x a _ r
  exact q
def zH:Option HO->Prop
 |some (.lst _)=>True
 |some (.dK _)=>True
 |some (.dT _)=>True
 |some (.set _ _)=>True
 |some (.ins _ _ _)=>True
 |some (.ext _)=>True
 |_=>False
section
variable {P:aX}{w:bz}{H:Hp}{h h':aS}{x e:af}{o':HO}
theorem jM.write (ok:jM P w H h)(mu:zH (H x))(he:e=x\/H e=some (.own x))(k:∀b u,b≠e->h.get? b=some u->h'.get? b=some u)(yH:∃u,h'.get? e=some u)
  (new:dN P w (upd H x o') h' x o'):jM P w (upd H x o') h':=λb u q=>by
 have CB:∀c y,H c=some (.own y)->c≠x:=λc y r z=>by subst z;rw[r]at mu;exact mu
 have HK:∀c xs,H c=some (.tup xs)->c≠x:=λc xs r z=>by subst z;rw[r]at mu;exact mu
 by_cases hb:b=x
 ·subst hb;rw[ym]at q;cases q;exact new
 ·rw[zn hb]at q
  by_cases qN:b=e
  ·have q':H b=some (.own x):=by
    rcases he with z|z
    ·exact absurd (qN.trans z) hb
    ·rw[qN];exact z
   rw[q]at q';cases q'
   obtain⟨v,hv⟩:=yH
   exact⟨v,by rw[qN];exact hv⟩
  ·refine(ok b u q).stay (λc v hc r=>k c v ?_ r) (λc r=>by rw[zn (CB c b r)];exact r) λc xs r=>by rw[zn (HK c xs r)];exact r
   rcases hc with rfl|hc
   ·exact qN
   ·rintro rfl
    rcases he with z|z
    ·exact CB c b hc z
    ·rw[hc]at z;cases z;exact hb rfl
end
structure Un (fs ex:List af)(H H':Hp)(h h':aS):Prop where
 keep:∀b o,h.get? b=some o->H b=none->b∉fs->b∉ex->h'.get? b=some o
 slot:∀b o,h.get? b=some o->H b=none->b∈fs->b∉ex->∃sl,h'.get? b=some { o with slots:=sl }
 free:∀b o,h.get? b=some o->H b=none->b∉ex->H' b=none
 there:∀b o,h.get? b=some o->b∉ex->∃o',h'.get? b=some o'
 tups:∀b xs,H b=some (.tup xs)->H' b=some (.tup xs)
 frzs:∀b o u,H b=some (.frz o u)->H' b=some (.frz o u)
 tbls:∀b ps,H b=some (.tbl ps)->∃more,H' b=some (.tbl (ps++more))
section
variable {fs Eg ex YO:List af}{H H1 H2:Hp}{h h1 h2 h':aS}{a x e:af}{o:HO}
theorem Un.any (u:Un fs ex H H1 h h1){b:af}{ob:cN}(q:h.get? b=some ob)(n:H b=none)(hx:b∉ex):∃sl,h1.get? b=some { ob with slots:=sl }:=by
 by_cases hb:b∈fs
 ·exact u.slot b ob q n hb hx
 ·exact⟨ob.slots,u.keep b ob q n hb hx⟩
theorem Un.kept (k:∀b u,h.get? b=some u->h'.get? b=some u):Un fs ex H H h h' :=
 ⟨λb ob q _ _ _=>k b ob q,λb ob q _ _ _=>⟨ob.slots,k b ob q⟩,λ_ _ _ n _=>n,λb ob q _=>⟨ob,k b ob q⟩,λ_ _ q=>q,λ_ _ _ q=>q,λ_ ps q=>⟨#[],by rw[q];simp⟩⟩
theorem Un.refl:Un fs ex H H h h:=Un.kept λ_ _ q=>q
theorem Un.laid (k:∀b u,h.get? b=some u->h'.get? b=some u)(hp:h.objs.size<=a)(hn:H a=none):Un fs ex H (upd H a o) h h' where
 keep:=λb u q _ _ _=>k b u q
 slot:=λb u q _ _ _=>⟨u.slots,k b u q⟩
 free:=λb u q n _=>by rw[zn (bt (bo (aP q) hp))];exact n
 there:=λb u q _=>⟨u,k b u q⟩
 tups:=λb xs q=>by rw[zn (yw q hn)];exact q
 frzs:=λb u xs q=>by rw[zn (yw q hn)];exact q
 tbls:=λb ps q=>⟨#[],by rw[zn (yw q hn),q];simp⟩
theorem Un.write (mu:zH (H x))(he:e=x\/H e=some (.own x))(k:∀b u,b≠e->h.get? b=some u->h'.get? b=some u)(yH:∃u,h'.get? e=some u):Un fs ex H (upd H x o) h h':=by
 have hx:∀b,H b=none->b≠x:=λb n z=>by subst z;rw[n]at mu;exact mu
 have hb:∀b,H b=none->b≠e:=λb n z=>by
  subst z
  rcases he with r|r
  ·exact hx b n r
  ·rw[n]at r;cases r
 have hm:∀b u,H b=some u->¬zH (some u)->b≠x:=λb u q nm z=>by subst z;rw[q]at mu;exact nm mu
 refine⟨λb u q n _ _=>k b u (hb b n) q,λb u q n _ _=>⟨u.slots,k b u (hb b n) q⟩,λb u q n _=>by rw[zn (hx b n)];exact n,λb u q _=>?_,
  λb xs q=>by rw[zn (hm b _ q λz=>z)];exact q,λb u xs q=>by rw[zn (hm b _ q λz=>z)];exact q,λb ps q=>⟨#[],by rw[zn (hm b _ q λz=>z),q];simp⟩⟩
 by_cases qN:b=e
 ·subst qN;exact yH
 ·exact⟨u,k b u qN q⟩
end
def EQ (h:aS)(H:Hp):List af:=(aH h.objs.size).filter λa=>(H a).isSome
def mK (h:aS)(H:Hp):aS:=PySem.W.hideAll h (EQ h H)
theorem Te (h:aS)(H:Hp):(mK h H).objs.size=h.objs.size:=PySem.W.hideAll_size _ _
theorem UH {h:aS}{H:Hp}{b:af}{o:cN}(e:h.get? b=some o)(n:H b=none):(mK h H).get? b=some o :=
 PySem.W.hideAll_get _ e λhm=>by
  have q:(H b).isSome=true:=(bn.mp hm).2
  rw[n]at q;simp at q
theorem VA {h:aS}{H:Hp}{b:af}{o:cN}(e:(mK h H).get? b=some o):h.get? b=some o/\H b=none:=by
 have e':h.get? b=some o:=PySem.W.of_hideAll (EQ h H) e
 refine⟨e',?_⟩
 cases q:H b with
 |none=>rfl
 |some x=>
  have hm:b∈EQ h H:=bn.mpr ⟨bZ.mpr (aP e'),by simp[q]⟩
  have z:(mK h H).get? b=none:=PySem.W.hideAll_none (EQ h H) hm
  rw[z]at e;cases e
def rX (g h:aS)(L:af):List (af×cN):=(aH h.objs.size).filterMap λa=>if a=L\/(g.get? a).isSome=true then none else(h.get? a).map λo=>(a,o)
def rest (g h:aS)(L d:af):List (af×cN):=(rX g h L).filter λp=>decide (p.1≠d)
end L2
namespace L2
open PySem PySem.Spec PyProof.Rows
structure Mod (K:aa)(mg:aI->Option ae)(base:aS):Prop where
 kin:K.In base
 glob:base.Ns ax mg
 blt:∃mb,base.Ns sW mb/\∀x:aI,x≠"__name__"->mb x=bU x
 nolimit:base.NoLimit
structure Cx where
 prog:aX
 w:bz
 K:aa
 mg:aI->Option ae
 base:aS
 A:bq
 N:List aI
 s₀:ak
 H₀:Hp
 env:Env
 outer:List Env
 stack:List Env
 ex:List af
 fn:aI->Bool
 calm:Bool
 pn:List (af×cN)
 xe:ae->ak->Prop
def qL (l:List Env):List af:=l.filterMap (·.frame)
abbrev Cx.fs (X:Cx):List af:=qL X.outer
def mW (sc:fm)(x:aI):Prop:=sc.names.lookup x=some .local\/sc.names.lookup x=some .cell\/sc.names.lookup x=some .free
def Loc (sc:fm)(x:aI):Prop:=sc.names.lookup x=some .local\/sc.names.lookup x=some .cell
def Look (env:Env)(h:aS)(m:aI->Option ae)(x:aI)(u:ae):Prop :=
 (env.kindOf x=some .local/\m x=some u)\/((env.kindOf x=some .cell\/env.kindOf x=some .free)/\∃c,env.cells.lookup x=some c/\h.IsCell c (some u))
structure Cx.Ok (X:Cx):Prop where
 mod:Mod X.K X.mg X.base
 kind:X.env.scope.kind=.function
 glob:X.env.globals=ax
 blt:X.env.builtins=sW
 above:X.s₀.heap.objs.size<=X.env.locals
 inj:∀x y c,X.env.cells.lookup x=some c->X.env.cells.lookup y=some c->x=y
 has:∀x,(X.env.kindOf x=some .cell\/X.env.kindOf x=some .free)->∃c,X.env.cells.lookup x=some c
 cab:∀x c,X.fn x=true->X.env.cells.lookup x=some c->X.s₀.heap.objs.size<=c
 hd:X.calm=true->X.A.handled=none
 frames:X.A.frames=some X.stack
 stk:X.stack=X.outer\/(X.stack=X.env::X.outer/\X.env.frame=some X.env.locals)
 exf:∀b∈X.ex,b≠X.env.locals/\∀x c,X.env.cells.lookup x=some c->c≠b
 bs:∀b o,X.base.get? b=some o->X.s₀.heap.get? b=some o/\X.H₀ b=none
 bsz:X.base.objs.size<=X.s₀.heap.objs.size
 noex:∀b o,X.base.get? b=some o->b∉X.ex
 exfs:∀b∈X.ex,b∉X.fs
 funs:X.s₀.heap.FunFrames X.base X.outer
 frf:∀b∈X.fs,X.H₀ b=none
structure Inv (X:Cx)(aj:List (af×cN))(σ:List (Option V))(H:Hp)(s:ak):Prop where
 ok:X.Ok
 os:s.os=X.s₀.os
 bare:AllBare s.gens
 base:Un X.fs X.ex X.H₀ H X.s₀.heap s.heap
 loc:∃m,s.heap.Ns X.env.locals m/\∀(i:Nat) (x:aI) (v:V),X.N[i]?=some x->σ[i]?=some (some v)->mW X.env.scope x->∃u,RelV v u/\Look X.env s.heap m x u
 cell:∀x c,X.env.cells.lookup x=some c->∃v,s.heap.IsCell c v
 free:H X.env.locals=none
 freeC:∀x c,X.env.cells.lookup x=some c->H c=none
 pin:∀p∈X.pn++aj,s.heap.get? p.1=some p.2/\H p.1=none/\p.1≠X.env.locals/\p.1∉X.fs/\∀v,p.2.data≠.cell v
 hok:jM X.prog X.w H s.heap
 len:σ.length=X.N.length
section
variable {X:Cx}{aj:List (af×cN)}{σ:List (Option V)}{H H':Hp}{s:ak}{h':aS}
theorem Cx.Ok.nofr (ok:X.Ok){b:af}{o:cN}(e:X.base.get? b=some o):b∉X.fs:=λhb=>by
 have:=(ok.funs.mem hb).1
 rw[e]at this;cases this
theorem Inv.bs (I:Inv X aj σ H s):∀b o,X.base.get? b=some o->s.heap.get? b=some o/\H b=none:=λb o e=>
 ⟨I.base.keep b o (I.ok.bs b o e).1 (I.ok.bs b o e).2 (I.ok.nofr e) (I.ok.noex b o e),I.base.free b o (I.ok.bs b o e).1 (I.ok.bs b o e).2 (I.ok.noex b o e)⟩
theorem Inv.bk (I:Inv X aj σ H s):∀b o,X.base.get? b=some o->s.heap.get? b=some o:=λb o e=>(I.bs b o e).1
theorem Inv.mod (I:Inv X aj σ H s):Mod X.K X.mg X.base:=I.ok.mod
theorem Inv.kIn (I:Inv X aj σ H s):X.K.In s.heap:=I.ok.mod.kin.keeps I.bk
theorem Inv.fr (I:Inv X aj σ H s):∃m,Fr X.base X.env.locals s.heap m :=
 let⟨m,hn,_⟩:=I.loc
 ⟨m,hn,I.bk,bK I.ok.bsz I.ok.above⟩
theorem Inv.lt (I:Inv X aj σ H s):X.env.locals<s.heap.objs.size:=let⟨_,hn,_⟩:=I.loc;hn.lt
theorem Inv.sz (I:Inv X aj σ H s):X.s₀.heap.objs.size<=s.heap.objs.size:=bK I.ok.above (ko I.lt)
theorem Inv.nofs (I:Inv X aj σ H s){a:af}(h:s.heap.objs.size<=a):a∉X.fs:=λhb=>by
 obtain⟨_,o,ho,_⟩:=I.ok.funs.mem hb
 exact absurd (bo (aP ho) (bK I.sz h)) (d9 _)
theorem Inv.cne (I:Inv X aj σ H s):∀x c,X.env.cells.lookup x=some c->c≠X.env.locals:=λx c e z=>by
 obtain⟨v,o,ho,hd⟩:=I.cell x c e
 obtain⟨m,⟨o',es,ep,wB,GX,_⟩,_⟩:=I.loc
 rw[z,wB]at ho;cases ho;rw[GX]at hd;cases hd
theorem Inv.funs (I:Inv X aj σ H s):s.heap.FunFrames X.base X.outer:=by
 have all:∀(l:List Env),(∀b∈qL l,b∈X.fs)->X.s₀.heap.FunFrames X.base l->s.heap.FunFrames X.base l:=by
  intro l
  induction l with
  |nil=>intro _ _;trivial
  |cons env r ih=>
   intro hs hl
   obtain⟨hk,⟨L,o,hf,hn,ho,hd⟩,hr⟩:=hl
   have hL:L∈X.fs:=hs L (by unfold qL;rw[jE,hf];exact ah)
   obtain⟨sl,e⟩:=I.base.slot L o ho (I.ok.frf L hL) hL λz=>I.ok.exfs L z hL
   exact⟨hk,⟨L,_,hf,hn,e,hd⟩,ih (λb hb=>hs b (by unfold qL;rw[jE,hf];exact ai _ hb)) hr⟩
 exact all X.outer (λ_ hb=>hb) I.ok.funs
theorem Inv.stack (I:Inv X aj σ H s):s.heap.FunFrames X.base X.stack:=by
 rcases I.ok.stk with e|⟨e,hf⟩
 ·rw[e];exact I.funs
 ·rw[e]
  obtain⟨m,hn,_⟩:=I.loc
  refine .cons (by rw[I.ok.kind];decide) hf hn ?_ I.funs
  exact nW (bK I.ok.bsz I.ok.above)
theorem Inv.stkSub (I:Inv X aj σ H s):∀b∈qL X.stack,b∈X.env.locals::X.fs:=λb hb=>by
 rcases I.ok.stk with e|⟨e,hf⟩
 ·rw[e]at hb;exact ai _ hb
 ·rw[e]at hb
  unfold qL at hb
  rw[jE,hf]at hb
  exact hb
theorem Inv.stkFree (I:Inv X aj σ H s):∀b∈qL X.stack,H b=none:=λb hb=>by
 rcases ay.mp (I.stkSub b hb)with e|hb
 ·rw[e];exact I.free
 ·obtain⟨_,o,ho,_⟩:=I.ok.funs.mem hb
  exact I.base.free b o ho (I.ok.frf b hb) λz=>I.ok.exfs b z hb
theorem Inv.step {g':Array GenState}{t':Nat}{d':Drawn}{ch:List af}(I:Inv X aj σ H s)
  (lg:∀b∈ch,(b∈X.ex\/X.s₀.heap.objs.size<=b)/\b≠X.env.locals/\(∀x c,X.env.cells.lookup x=some c->c≠b)/\∀p∈X.pn++aj,p.1≠b)
  (keep:∀b o,b≠X.env.locals->b∉X.fs->b∉ch->s.heap.get? b=some o->H b=none->h'.get? b=some o)
  (slot:∀b o,b≠X.env.locals->b∈X.fs->b∉ch->s.heap.get? b=some o->H b=none->∃sl,h'.get? b=some { o with slots:=sl }) (free:∀b o,b∉ch->s.heap.get? b=some o->H b=none->H' b=none)
  (there:∀b o,b∉ch->s.heap.get? b=some o->∃o',h'.get? b=some o')
  (tups:∀b xs,H b=some (.tup xs)->H' b=some (.tup xs)) (frzs:∀b o u,H b=some (.frz o u)->H' b=some (.frz o u)) (tbls:∀b ps,H b=some (.tbl ps)->∃more,H' b=some (.tbl (ps++more)))
  (ns:∀m,s.heap.Ns X.env.locals m->h'.Ns X.env.locals m) (hok:jM X.prog X.w H' h') (hg:AllBare g') :
  Inv X aj σ H' { s with heap:=h',gens:=g',drawn:=d',toks:=t' }:=by
 have KN:∀b o,X.s₀.heap.get? b=some o->b≠X.env.locals:=λb o e=>bt (bo (aP e) I.ok.above)
 have EA:∀b o,X.s₀.heap.get? b=some o->b∉X.ex->b∉ch:=λb o e hx hb=>by
  rcases(lg b hb).1 with z|z
  ·exact hx z
  ·exact absurd (bo (aP e) z) (d9 _)
 have cellK:∀x c,X.env.cells.lookup x=some c->∀v,s.heap.IsCell c v->h'.IsCell c v:=λx c e v ⟨o,ho,hd⟩=>by
  have Cy:c∉ch:=λz=>(lg c z).2.2.1 x c e rfl
  by_cases hc:c∈X.fs
  ·obtain⟨sl,q⟩:=slot c o (I.cne x c e) hc Cy ho (I.freeC x c e)
   exact⟨_,q,hd⟩
  ·exact⟨o,keep c o (I.cne x c e) hc Cy ho (I.freeC x c e),hd⟩
 refine⟨I.ok,I.os,hg,⟨λb o e n hb hx=>?_,λb o e n hb hx=>?_,λb o e n hx=>?_,λb o e hx=>?_,λb xs e=>tups b xs (I.base.tups b xs e),λb o xs e=>frzs b o xs (I.base.frzs b o xs e),λb ps e=>?_⟩,?_,λx c e=>?_,?_,λx c e=>?_,λp hp=>?_,hok,I.len⟩
 ·exact keep b o (KN b o e) hb (EA b o e hx) (I.base.keep b o e n hb hx) (I.base.free b o e n hx)
 ·obtain⟨sl,e1⟩:=I.base.slot b o e n hb hx
  obtain⟨Re,e2⟩:=slot b _ (KN b o e) hb (EA b o e hx) e1 (I.base.free b o e n hx)
  exact⟨Re,e2⟩
 ·obtain⟨o',e1⟩:=I.base.there b o e hx
  exact free b o' (EA b o e hx) e1 (I.base.free b o e n hx)
 ·obtain⟨o',e1⟩:=I.base.there b o e hx
  exact there b o' (EA b o e hx) e1
 ·obtain⟨m1,e1⟩:=I.base.tbls b ps e
  obtain⟨m2,e2⟩:=tbls b _ e1
  exact⟨m1++m2,by rw[e2,oK]⟩
 ·obtain⟨m,hn,hl⟩:=I.loc
  refine⟨m,ns m hn,λi x v e1 e2 e3=>?_⟩
  obtain⟨u,r,l⟩:=hl i x v e1 e2 e3
  refine⟨u,r,?_⟩
  rcases l with l|⟨k,c,e,z⟩
  ·exact .inl l
  ·exact .inr ⟨k,c,e,cellK x c e _ z⟩
 ·obtain⟨v,z⟩:=I.cell x c e
  exact⟨v,cellK x c e v z⟩
 ·obtain⟨m,⟨o,_,_,ho,_⟩,_⟩:=I.loc
  exact free _ o (λz=>(lg _ z).2.1 rfl) ho I.free
 ·obtain⟨v,o,ho,hd⟩:=I.cell x c e
  exact free c o (λz=>(lg c z).2.2.1 x c e rfl) ho (I.freeC x c e)
 ·obtain⟨e,n,ne,nf,d⟩:=I.pin p hp
  have Cy:p.1∉ch:=λz=>(lg p.1 z).2.2.2 p hp rfl
  exact⟨keep p.1 p.2 ne nf Cy e n,free p.1 p.2 Cy e n,ne,nf,d⟩
theorem Inv.un {t':Nat}(I:Inv X aj σ H s)(u:Un X.fs [] H H' s.heap h')(hok:jM X.prog X.w H' h'):Inv X aj σ H' { s with heap:=h',toks:=t' }:=by
 obtain⟨m,⟨o,es,ep,ho,r⟩,_⟩:=id I.loc
 obtain⟨sl,hL⟩:=u.any ho I.free (by simp)
 exact I.step (g':=s.gens) (d':=s.drawn) (ch:=[]) (λ_ z=>nomatch z) (λb o _ hb _ e n=>u.keep b o e n hb (by simp)) (λb o _ hb _ e n=>u.slot b o e n hb (by simp)) (λb o _ e n=>u.free b o e n (by simp)) (λb o _ e=>u.there b o e (by simp)) u.tups u.frzs u.tbls (λm' hm=>by
  obtain⟨o',vR,Gm,wB,r'⟩:=hm
  rw[ho]at wB;cases wB
  exact⟨_,vR,Gm,hL,r'⟩) hok I.bare
theorem Inv.call {g':Array GenState}{t':Nat}{d':Drawn}{ch:List af}(I:Inv X aj σ H s)(u:Un (qL X.stack) ch H H' s.heap h')(hok:jM X.prog X.w H' h')(hg:AllBare g')
  (lg:∀b∈ch,(b∈X.ex\/X.s₀.heap.objs.size<=b)/\b≠X.env.locals/\(∀x c,X.env.cells.lookup x=some c->c≠b)/\∀p∈X.pn++aj,p.1≠b) :
  Inv X aj σ H' { s with heap:=h',gens:=g',drawn:=d',toks:=t' }:=by
 obtain⟨m,⟨o,es,ep,ho,r⟩,_⟩:=id I.loc
 obtain⟨sl,hL⟩:=u.any ho I.free λz=>(lg _ z).2.1 rfl
 exact I.step (ch:=ch) lg (λb o hL hb hc e n=>u.keep b o e n (λz=>(ay.mp (I.stkSub b z)).elim hL hb) hc) (λb o _ _ hc e n=>u.any e n hc) (λb o hc e n=>u.free b o e n hc) (λb o hc e=>u.there b o e hc) u.tups u.frzs u.tbls (λm' hm=>by
  obtain⟨o',vR,Gm,wB,r'⟩:=hm
  rw[ho]at wB;cases wB
  exact⟨_,vR,Gm,hL,r'⟩) hok hg
theorem Inv.turned {t':Nat}{it:af}(I:Inv X aj σ H s)(k:∀b o,b≠it->s.heap.get? b=some o->h'.get? b=some o)(hn:H it=none)(hL:it≠X.env.locals)
  (h1:it∈X.ex\/X.s₀.heap.objs.size<=it) (h2:∀x c,X.env.cells.lookup x=some c->c≠it) (h3:∀p∈X.pn++aj,p.1≠it):Inv X aj σ H { s with heap:=h',toks:=t' }:=by
 have KO:∀b u,H b=some u->b≠it:=λb u e z=>by rw[z,hn]at e;cases e
 refine I.step (g':=s.gens) (d':=s.drawn) (ch:=[it]) (λb hb=>?_) (λb o _ _ hc e _=>k b o (λz=>hc (by simp[z])) e) (λb o _ _ hc e _=>⟨o.slots,k b o (λz=>hc (by simp[z])) e⟩) (λ_ _ _ _ n=>n)
  (λb o hc e=>⟨o,k b o (λz=>hc (by simp[z])) e⟩) (λ_ _ e=>e) (λ_ _ _ e=>e) (λb ps e=>⟨#[],by rw[e];simp⟩) (λm hm=>?_) (λb u e=>?_) I.bare
 ·have e:b=it:=by simpa using hb
  subst e
  exact⟨h1,hL,h2,h3⟩
 ·obtain⟨o,es,ep,ho,r⟩:=hm
  exact⟨o,es,ep,k _ o (Ne.symm hL) ho,r⟩
 ·refine(I.hok b u e).stay (λc v hc q=>k c v ?_ q) (λ_ q=>q) λ_ _ q=>q
  rcases hc with z|z
  ·rw[z];exact KO b u e
  ·exact KO c _ z
theorem Inv.tok (I:Inv X aj σ H s)(t:Nat):Inv X aj σ H { s with toks:=t }:=I.un (h':=s.heap) (t':=t) Un.refl I.hok
theorem Inv.kept {t':Nat}(I:Inv X aj σ H s)(k:∀b u,s.heap.get? b=some u->h'.get? b=some u):Inv X aj σ H { s with heap:=h',toks:=t' }:=I.un (Un.kept k) (I.hok.kept k)
theorem Inv.laid {a:af}{o:HO}{t':Nat}(I:Inv X aj σ H s)(k:∀b u,s.heap.get? b=some u->h'.get? b=some u)(hp:s.heap.objs.size<=a)(new:dN X.prog X.w (upd H a o) h' a o) :
  Inv X aj σ (upd H a o) { s with heap:=h',toks:=t' }:=I.un (Un.laid k hp (I.hok.fresh hp)) (I.hok.laid k hp new)
theorem Inv.write {x e:af}{o:HO}{t':Nat}(I:Inv X aj σ H s)(mu:zH (H x))(he:e=x\/H e=some (.own x))(k:∀b u,b≠e->s.heap.get? b=some u->h'.get? b=some u)(yH:∃u,h'.get? e=some u)
  (new:dN X.prog X.w (upd H x o) h' x o):Inv X aj σ (upd H x o) { s with heap:=h',toks:=t' }:=I.un (Un.write mu he k yH) (I.hok.write mu he k yH new)
theorem Inv.weak {σ':List (Option V)}(I:Inv X aj σ H s)(hl:σ'.length = σ.length)(w:∀(i:Nat) v,σ'[i]?=some (some v)->σ[i]?=some (some v)):Inv X aj σ' H s :=
 ⟨I.ok,I.os,I.bare,I.base,let⟨m,hn,Hd⟩:=I.loc;⟨m,hn,λi x v e1 e2 e3=>Hd i x v e1 (w i v e2) e3⟩,I.cell,I.free,I.freeC,I.pin,I.hok,hl.trans I.len⟩
theorem Inv.pins_of {tZ:List (af×cN)}(I:Inv X aj σ H s)(h:∀p∈tZ,s.heap.get? p.1=some p.2/\H p.1=none/\p.1≠X.env.locals/\p.1∉X.fs/\∀v,p.2.data≠.cell v):Inv X tZ σ H s :=
 ⟨I.ok,I.os,I.bare,I.base,I.loc,I.cell,I.free,I.freeC,λp hp=>(aT.mp hp).elim (λz=>I.pin p (bp _ z)) (h p),I.hok,I.len⟩
theorem L4 {N:List aI}(hN:N.Nodup){i j:Nat}{x:aI}(a:N[i]?=some x)(b:N[j]?=some x):i=j:=by
 obtain⟨h1,e1⟩:=aU.mp a
 obtain⟨h2,e2⟩:=aU.mp b
 exact(kL hN).mp (e1.trans e2.symm)
theorem LG {M:Model}{A:bq}{E:ae->ak->Prop}{i:Nat}{x:aI}{v:V}{u:ae}{Q:Unit->ak->Prop}(I:Inv X aj σ H s)(hN:X.N.Nodup)(hi:X.N[i]?=some x)(hx:Loc X.env.scope x)(r:RelV v u)
  (h:∀s',Inv X aj (σ.set i (some v)) H s'->(∃a,dH a s.heap s'.heap/\(a=X.env.locals\/X.env.cells.lookup x=some a))->Q () s') (hf:X.fn x=true\/X.env.scope.names.lookup x=some .local:=by first|exact .inl rfl|exact .inr rfl|assumption):bg M A (storeName X.env x u) Q E s:=by
 obtain⟨m,hn,hl⟩:=id I.loc
 have GV:(X.env.scope.kind==.class || (X.env.scope.kind==.module&&X.env.locals != X.env.globals))=false:=by rw[I.ok.kind];rfl
 have Kq:i < σ.length:=by rw[I.len];exact(aU.mp hi).1
 have cne:=I.cne
 have tracked:∀{a:af} {h':aS},(∃o,s.heap.get? a=some o/\H a=none)->dH a s.heap h'->jM X.prog X.w H h':=λ{a h'} ha hs b ob e=>by
  obtain⟨_,_,tJ⟩:=ha
  refine(I.hok b ob e).stay (λc w' hc q=>(hs.2 c ?_).trans q) (λ_ q=>q) λ_ _ q=>q
  rintro rfl
  rcases hc with rfl|hc
  ·rw[tJ]at e;cases e
  ·rw[tJ]at hc;cases hc
 rcases hx with hk|hk
 ·refine wpAny_storeName_local hk hn (λh' Hf hs=>?_) GV
  obtain⟨oL,_,_,sm,_⟩:=id hn
  refine h _ ⟨I.ok,I.os,I.bare,⟨λb o e n hb hx=>?_,λb o e n hb hx=>?_,I.base.free,λb o e hx=>?_,I.base.tups,I.base.frzs,I.base.tbls⟩,⟨_,Hf,λj y v' e1 e2 e3=>?_⟩,λy c e=>?_,I.free,I.freeC,λp hp=>?_,tracked ⟨oL,sm,I.free⟩ hs,by simpa using I.len⟩ ⟨_,hs,.inl rfl⟩
  ·exact(hs.2 b (bt (bo (aP e) I.ok.above))).trans (I.base.keep b o e n hb hx)
  ·obtain⟨sl,e1⟩:=I.base.slot b o e n hb hx
   exact⟨sl,(hs.2 b (bt (bo (aP e) I.ok.above))).trans e1⟩
  ·obtain⟨o',e1⟩:=I.base.there b o e hx
   exact⟨o',(hs.2 b (bt (bo (aP e) I.ok.above))).trans e1⟩
  ·by_cases hj:j=i
   ·subst hj
    rw[hi]at e1;cases e1
    rw[cw Kq]at e2
    cases e2
    exact⟨u,r,.inl ⟨hk,by simp⟩⟩
   ·rw[dI (Ne.symm hj)]at e2
    obtain⟨u',r',q⟩:=hl j y v' e1 e2 e3
    refine⟨u',r',?_⟩
    rcases q with⟨k,e⟩|⟨k,c,e,z⟩
    ·refine .inl ⟨k,?_⟩
     have:y≠x:=λe=>hj (L4 hN e1 (e▸hi))
     simp[this,e]
    ·exact .inr ⟨k,c,e,z.sameBut hs (cne y c e)⟩
  ·obtain⟨w',z⟩:=I.cell y c e
   exact⟨w',z.sameBut hs (cne y c e)⟩
  ·obtain⟨e,n,ne,nf,d⟩:=I.pin p hp
   exact⟨(hs.2 p.1 ne).trans e,n,ne,nf,d⟩
 ·have yI:X.fn x=true:=by
   rcases hf with z|z
   ·exact z
   ·rw[z]at hk;cases hk
  obtain⟨c,hc⟩:=I.ok.has x (.inl hk)
  obtain⟨w',z⟩:=I.cell x c hc
  refine wpAny_storeName_cell I.ok.kind hk hc z (λh' tI hs=>?_)
  obtain⟨oc,Kt,Hi⟩:=id z
  refine h { s with heap:=h' } ⟨I.ok,I.os,I.bare,⟨λb o e n hb hx=>?_,λb o e n hb hx=>?_,I.base.free,λb o e hx=>?_,I.base.tups,I.base.frzs,I.base.tbls⟩,⟨m,hn.sameBut hs (Ne.symm (cne x c hc)),λj y v' e1 e2 e3=>?_⟩,λy c' e=>?_,I.free,I.freeC,λp hp=>?_,tracked ⟨oc,Kt,I.freeC x c hc⟩ hs,by simpa using I.len⟩ ⟨c,hs,.inr hc⟩
  ·exact(hs.2 b (bt (bo (aP e) (I.ok.cab x c yI hc)))).trans (I.base.keep b o e n hb hx)
  ·obtain⟨sl,e1⟩:=I.base.slot b o e n hb hx
   exact⟨sl,(hs.2 b (bt (bo (aP e) (I.ok.cab x c yI hc)))).trans e1⟩
  ·obtain⟨o',e1⟩:=I.base.there b o e hx
   exact⟨o',(hs.2 b (bt (bo (aP e) (I.ok.cab x c yI hc)))).trans e1⟩
  ·by_cases hj:j=i
   ·subst hj
    rw[hi]at e1;cases e1
    rw[cw Kq]at e2
    cases e2
    exact⟨u,r,.inr ⟨.inl hk,c,hc,tI⟩⟩
   ·rw[dI (Ne.symm hj)]at e2
    obtain⟨u',r',q⟩:=hl j y v' e1 e2 e3
    refine⟨u',r',?_⟩
    rcases q with q|⟨k,c',e,z'⟩
    ·exact .inl q
    ·refine .inr ⟨k,c',e,z'.sameBut hs ?_⟩
     rintro rfl
     exact hj (L4 hN e1 (I.ok.inj _ _ _ e hc▸hi))
  ·by_cases Km:c'=c
   ·subst Km;exact⟨_,tI⟩
   ·obtain⟨w2,z2⟩:=I.cell y c' e
    exact⟨w2,z2.sameBut hs Km⟩
  ·obtain⟨e,n,ne,nf,d⟩:=I.pin p hp
   refine⟨(hs.2 p.1 ?_).trans e,n,ne,nf,d⟩
   intro q
   rw[q,Kt]at e
   have q':oc=p.2:=Option.some.inj e
   exact d w' (by rw[←q'];exact Hi)
theorem IH {M:Model}{A:bq}{E:ae->ak->Prop}{i:Nat}{x:aI}{v:V}{u:ae}{Q:Unit->ak->Prop}(I:Inv X aj σ H s)(hN:X.N.Nodup)(hi:X.N[i]?=some x)(hx:Loc X.env.scope x)(r:RelV v u)
  (h:∀s',Inv X aj (σ.set i (some v)) H s'->Q () s') (hf:X.fn x=true\/X.env.scope.names.lookup x=some .local:=by first|exact .inl rfl|exact .inr rfl|assumption):bg M A (storeName X.env x u) Q E s :=
 LG I hN hi hx r (λs' I' _=>h s' I') hf
theorem Inv.call' {s':ak}{ch:List af}(I:Inv X aj σ H s)(ho:s'.os=s.os)(u:Un (qL X.stack) ch H H' s.heap s'.heap)(hok:jM X.prog X.w H' s'.heap)(hg:AllBare s'.gens)
  (lg:∀b∈ch,(b∈X.ex\/X.s₀.heap.objs.size<=b)/\b≠X.env.locals/\(∀x c,X.env.cells.lookup x=some c->c≠b)/\∀p∈X.pn++aj,p.1≠b):Inv X aj σ H' s':=by
 obtain⟨h',g',d',t',o'⟩:=s'
 have e:o'=s.os:=ho
 subst e
 exact I.call (g':=g') (t':=t') (d':=d') u hok hg lg
end
abbrev XK:=ae->Option af->Hp->Prop
abbrev St:=List (Option V)
abbrev VK:=V->Hp->Prop
abbrev TE:=St->Hp->VK->Prop
abbrev TT:=St->Hp->(Bool->Hp->Prop)->Prop
abbrev TA:=St->Hp->(List V->Hp->Prop)->Prop
structure kd where
 nx:St->Hp->Prop
 rt:VK
 bk:St->Hp->Prop:=λ_ _=>False
 ct:St->Hp->Prop:=λ_ _=>False
abbrev TS:=kd->St->Hp->Prop
def EP (X:Cx)(aj:List (af×cN))(σ:St)(Q:VK)(u:ae)(s':ak):Prop:=∃v H',Inv X aj σ H' s'/\RelV v u/\Q v H'
def TP (X:Cx)(aj:List (af×cN))(σ:St)(Q:Bool->Hp->Prop)(b:Bool)(s':ak):Prop:=∃H',Inv X aj σ H' s'/\Q b H'
def AP (X:Cx)(aj:List (af×cN))(σ:St)(Q:List V->Hp->Prop)(us:List ae)(s':ak):Prop:=∃vs H',Inv X aj σ H' s'/\bQ vs us/\Q vs H'
def SP (X:Cx)(aj:List (af×cN))(D:kd)(f:Flow)(s':ak):Prop :=
 match f with
 |.next=>∃σ' H',Inv X aj σ' H' s'/\D.nx σ' H'
 |.brk=>∃σ' H',Inv X aj σ' H' s'/\D.bk σ' H'
 |.cont=>∃σ' H',Inv X aj σ' H' s'/\D.ct σ' H'
 |.ret u=>∃v σ' H',Inv X aj σ' H' s'/\RelV v u/\D.rt v H'
def PE (X:Cx)(e:Expr)(t:TE):Prop :=
 ∀(aj:List (af×cN)) (s:ak) (σ:St) (H:Hp) (Q:VK),Inv X aj σ H s->t σ H Q->bg (aZ X.prog X.w) X.A (bN e X.env) (EP X aj σ Q) X.xe s
def PT (X:Cx)(e:Expr)(t:TT):Prop :=
 ∀(aj:List (af×cN)) (s:ak) (σ:St) (H:Hp) (Q:Bool->Hp->Prop),Inv X aj σ H s->t σ H Q->bg (aZ X.prog X.w) X.A (pW e X.env (bN e X.env)) (TP X aj σ Q) X.xe s
def PW (X:Cx)(e:Expr)(t:TT):Prop :=
 ∀(whole:ik ae) (aj:List (af×cN)) (s:ak) (σ:St) (H:Hp) (Q:Bool->Hp->Prop),Inv X aj σ H s->t σ H Q->bg (aZ X.prog X.w) X.A (pW e X.env whole) (TP X aj σ Q) X.xe s
theorem PW.pt {X:Cx}{e:Expr}{t:TT}(h:PW X e t):PT X e t:=h _
def PA (X:Cx)(es:List Expr)(t:TA):Prop :=
 ∀(pos:cA) (aj:List (af×cN)) (s:ak) (σ:St) (H:Hp) (Q:List V->Hp->Prop),Inv X aj σ H s->t σ H Q->bg (aZ X.prog X.w) X.A (spliced (cC pos (aq es X.env))) (AP X aj σ Q) X.xe s
def PS (X:Cx)(st:bI)(t:TS):Prop :=
 ∀(aj:List (af×cN)) (s:ak) (σ:St) (H:Hp) (D:kd),Inv X aj σ H s->t D σ H->bg (aZ X.prog X.w) X.A (exec st X.env) (SP X aj D) X.xe s
def oh (X:Cx)(st:List bI)(t:TS):Prop :=
 ∀(aj:List (af×cN)) (s:ak) (σ:St) (H:Hp) (D:kd),Inv X aj σ H s->t D σ H->bg (aZ X.prog X.w) X.A (execs st X.env) (SP X aj D) X.xe s
theorem de {α:Type}{t:ik α}{Q Q':α->ak->Prop}{M:Model}{A:bq}{E:ae->ak->Prop}{s:ak}(h:bg M A t Q E s)(hQ:∀a s,Q a s->Q' a s):bg M A t Q' E s:=dW h hQ λ_ _ x=>x
end L2
namespace L2
open PySem PySem.Spec PyProof.Rows
section
variable {X:Cx}
theorem bin {a b:Expr}{ta tb:TE}(ha:PE X a ta)(hb:PE X b tb){aj:List (af×cN)}{s:ak}{σ:St}{H:Hp}{R:V->V->Hp->Prop}(I:Inv X aj σ H s)(h:ta σ H λx H1=>tb σ H1 λy H2=>R x y H2)
  {α:Type} {Q:α->ak->Prop} {f:ae->ae->ik α}
  (hf:∀v u s2 x y H2,Inv X aj σ H2 s2->RelV x v->RelV y u->R x y H2->bg (aZ X.prog X.w) X.A (f v u) Q X.xe s2) :
  bg (aZ X.prog X.w) X.A (bN a X.env) (λv s₁=>bg (aZ X.prog X.w) X.A (bN b X.env) (λu s₂=>bg (aZ X.prog X.w) X.A (f v u) Q X.xe s₂) X.xe s₁) X.xe s:=by
 refine de (ha aj s σ H _ I h) λv s1 di=>?_
 obtain⟨x,H1,I1,r1,q1⟩:=di
 refine de (hb aj s1 σ H1 _ I1 q1) λu s2 di=>?_
 obtain⟨y,H2,I2,r2,q2⟩:=di
 exact hf v u s2 x y H2 I2 r1 r2 q2
def Io (i:Nat):TE:=λσ H Q=>∃v,σ[i]?=some (some v)/\Q v H
def tC (v:V):TE:=λ_ H Q=>Q v H
theorem vk {i:Nat}{x:aI}{pos:cA}(hN:X.N[i]?=some x)(hv:mW X.env.scope x)(hd:(x==("__debug__":aI))=false:=by decide)(gG:(x==("__classdict__":aI))=false:=by decide):PE X (.Name x pos) (Io i):=by
 intro aj s σ H Q I h
 obtain⟨v,e,h⟩:=h
 obtain⟨m,hn,hl⟩:=I.loc
 obtain⟨u,r,l⟩:=hl i x v hN e hv
 have fin:EP X aj σ Q u s:=⟨v,H,I,r,h⟩
 rcases l with⟨hk,hm⟩|⟨hk,c,hc,oU⟩
 ·exact sZ (wpAny_loadName_local I.ok.kind hk hn hm fin) hd
 ·rcases hk with hk|hk
  ·exact sZ (wpAny_loadName_cell I.ok.kind hk hc oU fin) hd
  ·exact sZ (wpAny_loadName_free I.ok.kind hk hc oU fin gG) hd
theorem WA {i j pos}:PE X (.Constant (.int i) j pos) (tC (.int i)):=λ_ _ _ H _ I h=>wpAny_Constant_int ⟨.int i,H,I.tok _,⟨_,rfl⟩,h⟩
theorem Yw {b j pos}:PE X (.Constant (.bool b) j pos) (tC (.bl b)):=λ_ _ _ H _ I h=>Constant_bool ⟨.bl b,H,I,rfl,h⟩
theorem W4 {j pos}:PE X (.Constant .none j pos) (tC .non):=λ_ _ _ H _ I h=>Constant_none ⟨.non,H,I,rfl,h⟩
theorem W5 {x j pos}:PE X (.Constant (.str x) j pos) (tC (.str x)):=λ_ _ _ H _ I h=>Calls.Constant_str ⟨.str x,H,I.tok _,⟨_,rfl⟩,h⟩
def Gl (X:Cx)(x:aI):Prop:=X.env.kindOf x=some .globalImplicit
theorem Fc {E:ae->ak->Prop}{aj:List (af×cN)}{s:ak}{σ:St}{H:Hp}{x:aI}{u:ae}{pos:cA}{Q:ae->ak->Prop}(I:Inv X aj σ H s)(hg:Gl X x)(hm:X.mg x=some u)(h:Q u s)
  (hd:(x==("__debug__":aI))=false:=by decide):bg (aZ X.prog X.w) X.A (bN (.Name x pos) X.env) Q E s :=
 Calls.Name_function_global I.ok.kind hg (Calls.loadGlobal_global (by rw[I.ok.glob];exact I.mod.glob.keeps I.bk) hm h) hd
theorem xS {E:ae->ak->Prop}{aj:List (af×cN)}{s:ak}{σ:St}{H:Hp}{x:aI}{u:ae}{pos:cA}{Q:ae->ak->Prop}(I:Inv X aj σ H s)(hg:Gl X x)(hm:X.mg x=none)(hv:bU x=some u)(h:Q u s)
  (hn:x≠"__name__":=by decide) (hd:(x==("__debug__":aI))=false:=by decide):bg (aZ X.prog X.w) X.A (bN (.Name x pos) X.env) Q E s:=by
 obtain⟨mb,h1,h2⟩:=I.mod.blt
 exact Calls.Name_function_global I.ok.kind hg (Calls.loadGlobal_builtin (by rw[I.ok.glob];exact I.mod.glob.keeps I.bk) hm (by rw[I.ok.blt];exact h1.keeps I.bk) ((h2 x hn).trans hv) h) hd
theorem Mw {x:aI}{v:V}{u:ae}{pos:cA}(hg:Gl X x)(hm:X.mg x=some u)(r:RelV v u)(hd:(x==("__debug__":aI))=false:=by decide):PE X (.Name x pos) (tC v) :=
 λ_ _ _ H _ I h=>Fc I hg hm ⟨v,H,I,r,h⟩ hd
theorem VB {x:aI}{v:V}{u:ae}{pos:cA}(hg:Gl X x)(hm:X.mg x=none)(hv:bU x=some u)(r:RelV v u)(hn:x≠"__name__":=by decide)(hd:(x==("__debug__":aI))=false:=by decide):PE X (.Name x pos) (tC v) :=
 λ_ _ _ H _ I h=>xS I hg hm hv ⟨v,H,I,r,h⟩ hn hd
variable {a b:Expr}{ta tb:TE}{pos:cA}
def PC (X:Cx)(op:kP)(a b:Expr)(t:TE):Prop :=
 ∀(aj:List (af×cN)) (s:ak) (σ:St) (H:Hp) (Q:VK),Inv X aj σ H s->t σ H Q ->
  bg (aZ X.prog X.w) X.A (bN a X.env) (λv s₁=>bg (aZ X.prog X.w) X.A (bN b X.env) (λu s₂=>bg (aZ X.prog X.w) X.A (cD op v u) (EP X aj σ Q) X.xe s₂) X.xe s₁) X.xe s
theorem rh (b:Expr){op:kP}(h:op≠.In)(h2:op≠.NotIn):dB op b=false:=by
 have e1:(op==kP.In)=false:=by cases op<;>first|rfl|exact absurd rfl h
 have e2:(op==kP.NotIn)=false:=by cases op<;>first|rfl|exact absurd rfl h2
 cases b<;>simp[dB,e1,e2]
def tB (t:TE):TT:=λσ H Q=>t σ H λx H1=>∃c,x=.bl c/\Q c H1
theorem W6 {op:kP}{t:TE}(h:PC X op a b t)(h1:dB op b=false:=by first|exact rh _ (by decide) (by decide)|rfl):PT X (.Compare a [op] [b] pos) (tB t):=by
 intro aj s σ H Q I hw
 refine wpAny_isTrue_Compare1 (de (h aj s σ H _ I hw) λv s1 h1=>de h1 λu s2 h2=>de h2 λc s3 ⟨x,H1,I1,r1,q1⟩=>?_) h1
 obtain⟨d,rfl,q⟩:=q1
 cases r1
 exact dS ⟨H1,I1,q⟩
theorem W7 {e:Expr}{t:TE}(h:PE X e t)(he:∀whole,pW e X.env whole=(do let v ← whole;eT e.pos;dg [v] (truthy v)):=by intro _;rfl):PT X e (tB t):=by
 intro aj s σ H Q I hw
 refine isTrue_plain (de (h aj s σ H _ I hw) λv s1 ⟨x,H1,I1,r1,q1⟩=>?_) (he _)
 obtain⟨d,rfl,q⟩:=q1
 cases r1
 exact dS ⟨H1,I1,q⟩
variable {tA EI:TT}{rest:List Expr}
def HY (t u:TT):TT:=λσ H Q=>t σ H λc H1=>if c=true then u σ H1 Q else Q false H1
def RK (t u:TT):TT:=λσ H Q=>t σ H λc H1=>if c=true then Q true H1 else u σ H1 Q
def Ii (t:TT):TT:=λσ H Q=>t σ H λc H1=>Q (!c) H1
theorem VC (ha:PT X a tA):PW X (.BoolOp .And [a] pos) tA:=by
 intro wh aj s σ H Q I h
 refine isTrue_and (de (ha aj s σ H Q I h) λc s1 e=>?_)
 cases c with
 |true=>exact isTrue_and_nil e
 |false=>exact e
theorem W8 (ha:PT X a tA):PW X (.BoolOp .Or [a] pos) tA:=by
 intro wh aj s σ H Q I h
 refine isTrue_or (de (ha aj s σ H Q I h) λc s1 e=>?_)
 cases c with
 |false=>exact isTrue_or_nil e
 |true=>exact e
theorem W9 (ha:PT X a tA)(hb:PW X (.BoolOp .And (b::rest) pos) EI):PW X (.BoolOp .And (a::b::rest) pos) (HY tA EI):=by
 intro wh aj s σ H Q I h
 refine isTrue_and (de (ha aj s σ H _ I h) λc s1 di=>?_)
 obtain⟨H1,I1,q1⟩:=di
 cases c with
 |true=>exact hb wh aj s1 σ H1 Q I1 q1
 |false=>exact⟨H1,I1,q1⟩
theorem Yx (ha:PT X a tA)(hb:PW X (.BoolOp .Or (b::rest) pos) EI):PW X (.BoolOp .Or (a::b::rest) pos) (RK tA EI):=by
 intro wh aj s σ H Q I h
 refine isTrue_or (de (ha aj s σ H _ I h) λc s1 di=>?_)
 obtain⟨H1,I1,q1⟩:=di
 cases c with
 |true=>exact⟨H1,I1,q1⟩
 |false=>exact hb wh aj s1 σ H1 Q I1 q1
theorem Xa (ha:PT X a tA):PT X (.UnaryOp .Not a pos) (Ii tA):=by
 intro aj s σ H Q I h
 exact isTrue_not (ha aj s σ H (λc H1=>Q (!c) H1) I h)
def Dk (ta tb:TE):TE:=λσ H Q=>ta σ H λx H1=>∃c,x=.bl c/\if c=true then tb σ H1 Q else Q (.bl false) H1
def Ij (ta tb:TE):TE:=λσ H Q=>ta σ H λx H1=>∃c,x=.bl c/\if c=true then Q (.bl true) H1 else tb σ H1 Q
def Du (ta:TE):TE:=λσ H Q=>ta σ H λx H1=>∃c,x=.bl c/\Q (.bl (!c)) H1
theorem Xb {op}{t:TE}(h:PE X a t):PE X (.BoolOp op [a] pos) t:=λaj s σ H Q I hw=>BoolOp_one (h aj s σ H Q I hw)
theorem Xc (ha:PE X a ta)(hb:PE X (.BoolOp .And (b::rest) pos) tb):PE X (.BoolOp .And (a::b::rest) pos) (Dk ta tb):=by
 intro aj s σ H Q I h
 refine BoolOp_and (de (ha aj s σ H _ I h) λv s1 di=>?_)
 obtain⟨x,H1,I1,r1,q1⟩:=di
 obtain⟨c,rfl,q1⟩:=q1
 cases r1
 refine dS ?_
 cases c with
 |true=>exact hb aj s1 σ H1 Q I1 q1
 |false=>exact⟨.bl false,H1,I1,rfl,q1⟩
theorem Yy (ha:PE X a ta)(hb:PE X (.BoolOp .Or (b::rest) pos) tb):PE X (.BoolOp .Or (a::b::rest) pos) (Ij ta tb):=by
 intro aj s σ H Q I h
 refine BoolOp_or (de (ha aj s σ H _ I h) λv s1 di=>?_)
 obtain⟨x,H1,I1,r1,q1⟩:=di
 obtain⟨c,rfl,q1⟩:=q1
 cases r1
 refine dS ?_
 cases c with
 |false=>exact hb aj s1 σ H1 Q I1 q1
 |true=>exact⟨.bl true,H1,I1,rfl,q1⟩
theorem Xd (ha:PE X a ta):PE X (.UnaryOp .Not a pos) (Du ta):=by
 intro aj s σ H Q I h
 refine UnaryOp_ (de (ha aj s σ H _ I h) λv s1 di=>?_)
 obtain⟨x,H1,I1,r1,q1⟩:=di
 obtain⟨c,rfl,q1⟩:=q1
 cases r1
 exact not_of (dS ⟨.bl (!c),H1,I1,rfl,q1⟩)
def RJ (t:TT)(ta tb:TE):TE:=λσ H Q=>t σ H λc H1=>if c=true then ta σ H1 Q else tb σ H1 Q
theorem Uk {c:Expr}(hc:PT X c tA)(ha:PE X a ta)(hb:PE X b tb):PE X (.IfExp c a b pos) (RJ tA ta tb):=by
 intro aj s σ H Q I h
 refine wpAny_IfExp (de (hc aj s σ H _ I h) λd s1 di=>?_)
 obtain⟨H1,I1,q1⟩:=di
 cases d with
 |true=>exact ha aj s1 σ H1 Q I1 q1
 |false=>exact hb aj s1 σ H1 Q I1 q1
end
end L2
namespace L2
open PySem PySem.Spec PyProof.Rows
def eJ (K:aa)(H:Hp)(a:af)(xs:List V):Prop :=
 Rd H a (.lst xs) \/
  ∃(o:cN) (bV:Array ae) (n:Nat),K.lookup a=some o/\o.cls=.type "list"/\o.dict=none/\o.data=.seq bV n/\bV.size<=sizeLine/\bQ xs bV.toList
def jU (K:aa)(H:Hp)(a:af)(xs:List V):Prop :=
 Rd H a (.tup xs) \/
  ∃(o:cN) (bV:Array ae) (n:Nat),K.lookup a=some o/\o.cls=.type "tuple"/\o.data=.seq bV n/\bV.size<=sizeLine/\bQ xs bV.toList
def FK:ae->Option V
 |.none=>some .non
 |.bool b=>some (.bl b)
 |.int i _=>some (.int i)
 |.str x _=>some (.str x)
 |.bytes b _=>some (.byt b)
 |.float b _=>some (.flt b)
 |.ref a=>some (.ref a)
 |.type n=>some (.ty n)
 |_=>none
theorem RelV.abs {x:V}{u:ae}(r:RelV x u):FK u=some x:=by
 cases x with
 |non=>cases r;rfl
 |bl _=>cases r;rfl
 |int _=>obtain⟨t,rfl⟩:=r;rfl
 |str _=>obtain⟨t,rfl⟩:=r;rfl
 |byt _=>obtain⟨t,rfl⟩:=r;rfl
 |flt _=>obtain⟨t,rfl⟩:=r;rfl
 |ref _=>cases r;rfl
 |ty _=>cases r;rfl
theorem RelV.inj {x y:V}{u:ae}(r:RelV x u)(q:RelV y u):x=y:=Option.some.inj (r.abs.symm.trans q.abs)
theorem bQ.inj:∀{xs ys:List V} {us:List ae},bQ xs us->bQ ys us->xs=ys
 |_,_,_,.nil,.nil=>rfl
 |_,_,_,.cons r t,.cons r' t'=>by rw[r.inj r',bQ.inj t t']
section
variable {X:Cx}{aj:List (af×cN)}{σ:St}{H:Hp}{s:ak}{a:af}{xs ys:List V}
theorem eJ.of {K:aa}(h:H a=some (.lst xs)):eJ K H a xs:=.inl (.inl h)
theorem jU.of {K:aa}(h:H a=some (.tup xs)):jU K H a xs:=.inl (.inl h)
theorem Inv.list (I:Inv X aj σ H s)(h:eJ X.K H a xs):∃bV:List ae,bQ xs bV/\PlainL s.heap a bV.toArray/\xs.length<=sizeLine:=by
 rcases h with h|⟨o,bV,n,hk,hc,hd,hs,hz,r⟩
 ·obtain⟨z,bV,n,r,e⟩:=h.ok I.hok
  exact⟨bV,r,⟨_,n,e,rfl,rfl,rfl⟩,z⟩
 ·refine⟨bV.toList,r,⟨o,n,I.kIn a o hk,hc,hd,by simpa using hs⟩,?_⟩
  have e:=r.length
  simp only[bL]at e
  omega
theorem Inv.tuple (I:Inv X aj σ H s)(h:jU X.K H a xs):∃bV:List ae,bQ xs bV/\IsTup s.heap a bV.toArray/\xs.length<=sizeLine:=by
 rcases h with h|⟨o,bV,n,hk,hc,hs,hz,r⟩
 ·obtain⟨z,bV,r,p⟩:=h.ok I.hok
  exact⟨bV,r,p,z⟩
 ·refine⟨bV.toList,r,⟨o,I.kIn a o hk,hc,n,by simpa using hs⟩,?_⟩
  have e:=r.length
  simp only[bL]at e
  omega
theorem Inv.list_inj (I:Inv X aj σ H s)(h:eJ X.K H a xs)(h':eJ X.K H a ys):xs=ys:=by
 obtain⟨bV,r,⟨o,n,e,_,_,d⟩,_⟩:=I.list h
 obtain⟨its',r',⟨o',n',e',_,_,d'⟩,_⟩:=I.list h'
 rw[e]at e';cases e'
 rw[d]at d'
 injection d' with d1 _
 have:bV=its':=by simpa using congrArg Array.toList d1
 subst this
 exact r.inj r'
end
abbrev Cx.wish (X:Cx)(E:ae->ak->Prop):Cx:={ X with xe:=E }
abbrev Cx.nox (X:Cx):Cx:=X.wish λ_ _=>False
theorem Cx.Ok.wish {X:Cx}(ok:X.Ok)(E:ae->ak->Prop):(X.wish E).Ok :=
 ⟨ok.mod,ok.kind,ok.glob,ok.blt,ok.above,ok.inj,ok.has,ok.cab,ok.hd,ok.frames,ok.stk,ok.exf,ok.bs,ok.bsz,ok.noex,ok.exfs,ok.funs,ok.frf⟩
theorem Cx.Ok.unwish {X:Cx}{E:ae->ak->Prop}(ok:(X.wish E).Ok):X.Ok :=
 ⟨ok.mod,ok.kind,ok.glob,ok.blt,ok.above,ok.inj,ok.has,ok.cab,ok.hd,ok.frames,ok.stk,ok.exf,ok.bs,ok.bsz,ok.noex,ok.exfs,ok.funs,ok.frf⟩
section
variable {X:Cx}{aj:List (af×cN)}{σ:St}{H:Hp}{s:ak}{E:ae->ak->Prop}
theorem Inv.wish (I:Inv X aj σ H s)(E:ae->ak->Prop):Inv (X.wish E) aj σ H s:=⟨I.ok.wish E,I.os,I.bare,I.base,I.loc,I.cell,I.free,I.freeC,I.pin,I.hok,I.len⟩
theorem Inv.unwish (I:Inv (X.wish E) aj σ H s):Inv X aj σ H s:=⟨I.ok.unwish,I.os,I.bare,I.base,I.loc,I.cell,I.free,I.freeC,I.pin,I.hok,I.len⟩
theorem SP.unwish {D:kd}{f:Flow}{s':ak}(h:SP (X.wish E) aj D f s'):SP X aj D f s':=by
 cases f with
 |next=>obtain⟨σ',H',I,q⟩:=h;exact⟨σ',H',I.unwish,q⟩
 |brk=>obtain⟨σ',H',I,q⟩:=h;exact⟨σ',H',I.unwish,q⟩
 |cont=>obtain⟨σ',H',I,q⟩:=h;exact⟨σ',H',I.unwish,q⟩
 |ret u=>obtain⟨v,σ',H',I,r,q⟩:=h;exact⟨v,σ',H',I.unwish,r,q⟩
theorem oh.nox {st:List bI}{t:TS}(h:oh X.nox st t):oh X st t:=λaj s σ H D I hw=>
 dW (h aj s σ H D (I.wish _) hw) (λ_ _ q=>q.unwish) λ_ _ z=>False.elim z
end
section
variable {X:Cx}{st:bI}{rest:List bI}{t u:TS}{e:Expr}{te:TE}{pos:cA}
def Dr:TS:=λD σ H=>D.nx σ H
def Il (t u:TS):TS:=λD σ H=>t { D with nx:=u D } σ H
theorem Mx:oh X [] Dr:=λ_ _ σ H _ I h=>jF ⟨σ,H,I,h⟩
theorem L5 (h1:PS X st t)(h2:oh X rest u):oh X (st::rest) (Il t u):=by
 intro aj s σ H D I h
 refine wpAny_execs_cons (de (h1 aj s σ H { D with nx:=u D } I h) λf s1 q=>?_)
 cases f with
 |next=>
  obtain⟨σ',H',I',q⟩:=q
  exact h2 aj s1 σ' H' D I' q
 |ret v=>exact q
 |brk=>exact q
 |cont=>exact q
theorem Fd (h1:PS X st t):oh X [st] t:=by
 intro aj s σ H D I h
 refine wpAny_execs_cons (de (h1 aj s σ H D I h) λf s1 q=>?_)
 cases f with
 |next=>exact jF q
 |ret v=>exact q
 |brk=>exact q
 |cont=>exact q
theorem Inv.quiet {aj:List (af×cN)}{σ:St}{H:Hp}{s:ak}(I:Inv X aj σ H s):interactive X.env=false:=by simp[interactive,I.ok.kind]
def Do (te:TE):TS:=λD σ H=>te σ H λ_ H1=>D.nx σ H1
theorem Mz (he:PE X e te)(hs:dO e none pos.line X.env=pure false:=by rfl):PS X (.Expr e pos) (Do te):=by
 intro aj s σ H D I h
 exact wpAny_Expr_any (de (he aj s σ H _ I h) λv s1 ⟨x,H1,I1,r1,q1⟩=>⟨σ,H1,I1,q1⟩) I.quiet hs
def Ik (te:TE):TS:=λD σ H=>te σ H D.rt
theorem DI (he:PE X e te):PS X (.Return (some e) pos) (Ik te):=by
 intro aj s σ H D I h
 exact wpAny_Return_some (de (he aj s σ H _ I h) λv s1 ⟨x,H1,I1,r1,q1⟩=>⟨x,σ,H1,I1,r1,q1⟩)
def Ig (c:TT)(t u:TS):TS:=λD σ H=>c σ H λb H1=>if b=true then t D σ H1 else u D σ H1
theorem NF {c:Expr}{a b:List bI}{tc:TT}(hc:PT X c tc)(ha:oh X a t)(hb:oh X b u):PS X (.If c a b pos) (Ig tc t u):=by
 intro aj s σ H D I h
 refine wpAny_If (de (hc aj s σ H _ I h) λd s1 di=>?_)
 obtain⟨H1,I1,q1⟩:=di
 cases d with
 |true=>exact ha aj s1 σ H1 D I1 q1
 |false=>exact hb aj s1 σ H1 D I1 q1
def xQ:TS:=λ_ _ _=>False
theorem Ul:PS X st xQ:=λ_ _ _ _ _ _ h=>h.elim
end
abbrev TG:=V->St->Hp->(St->Hp->Prop)->Prop
abbrev tu:=List V->St->Hp->(St->Hp->Prop)->Prop
def PG (X:Cx)(target:Expr)(t:TG):Prop :=
 ∀(aj:List (af×cN)) (s:ak) (σ:St) (H:Hp) (v:V) (u:ae) (Q:St->Hp->Prop),Inv X aj σ H s->RelV v u->t v σ H Q ->
  bg (aZ X.prog X.w) X.A (eW target X.env u) (λ_ s'=>∃σ' H',Inv X aj σ' H' s'/\Q σ' H') X.xe s
def yE (X:Cx)(ts:List Expr)(t:tu):Prop :=
 ∀(aj:List (af×cN)) (s:ak) (σ:St) (H:Hp) (vs:List V) (us:List ae) (Q:St->Hp->Prop),Inv X aj σ H s->bQ vs us->t vs σ H Q ->
  bg (aZ X.prog X.w) X.A (assignInOrder ((cF ts X.env).map (·.2)) us) (λ_ s'=>∃σ' H',Inv X aj σ' H' s'/\Q σ' H') X.xe s
abbrev qI:=V->V->V->Hp->(Hp->Prop)->Prop
def uI (X:Cx)(t:qI):Prop :=
 ∀(aj:List (af×cN)) (s:ak) (σ:St) (H:Hp) (o i v:V) (ov iv u:ae) (Q:Hp->Prop),Inv X aj σ H s->RelV o ov->RelV i iv->RelV v u->t o i v H Q ->
  bg (aZ X.prog X.w) X.A (kc ov iv u) (λ_ s'=>∃H',Inv X aj σ H' s'/\Q H') X.xe s
abbrev yG:=V->V->Hp->VK->Prop
def yF (X:Cx)(op:iO)(t:yG):Prop :=
 ∀(aj:List (af×cN)) (s:ak) (σ:St) (H:Hp) (x y:V) (v u:ae) (Q:VK),Inv X aj σ H s->RelV x v->RelV y u->t x y H Q ->
  bg (aZ X.prog X.w) X.A (inplaceOp op v u) (EP X aj σ Q) X.xe s
section
variable {X:Cx}{pos:cA}
def ny (i:Nat):TG:=λv σ H Q=>Q (σ.set i (some v)) H
theorem Fe {i:Nat}{x:aI}(hN:X.N.Nodup)(hi:X.N[i]?=some x)(hx:Loc X.env.scope x)(hf:X.fn x=true\/X.env.scope.names.lookup x=some .local:=by first|exact .inl rfl|exact .inr rfl|assumption):PG X (.Name x pos) (ny i):=by
 intro aj s σ H v u Q I r h
 exact wpAny_assign_Name (IH I hN hi hx r (λs' I'=>⟨_,H,I',h⟩) hf)
def GL:tu:=λvs σ H Q=>vs=[]/\Q σ H
def Br (t:TG)(u:tu):tu:=λvs σ H Q=>∃v r,vs=v::r/\t v σ H λσ' H'=>u r σ' H' Q
theorem MA:yE X [] GL:=by
 intro aj s σ H vs us Q I r h
 obtain⟨e,h⟩:=h
 subst e
 cases r
 exact assignInOrder_nil ⟨σ,H,I,h⟩
theorem L6 {e:Expr}{es:List Expr}{t:TG}{u:tu}(h1:PG X e t)(h2:yE X es u)
  (hs:(cF (e::es) X.env).map (·.2)=eW e X.env::(cF es X.env).map (·.2):=by rfl):yE X (e::es) (Br t u):=by
 intro aj s σ H vs us Q I r h
 obtain⟨v,vr,e1,h⟩:=h
 subst e1
 cases r with
 |cons r rr=>
  rw[hs]
  refine assignInOrder_cons (de (h1 aj s σ H _ _ _ I r h) λ_ s1 di=>?_)
  obtain⟨σ1,H1,I1,q1⟩:=di
  exact h2 aj s1 σ1 H1 _ _ Q I1 rr q1
def GN (K:aa)(n:Nat)(t:tu):TG:=λv σ H Q=>∃a xs,v=.ref a/\jU K H a xs/\xs.length=n/\t xs σ H Q
theorem Nm {es:List Expr}{k:Nat}{t:tu}{n:Nat}(hc:X.calm=true)(h:yE X es t)
  (hn:(cF es X.env).length=n:=by rfl) (nE:(cF es X.env).findIdx? (·.1)=none:=by rfl):PG X (.Tuple es k pos) (GN X.K n t):=by
 intro aj s σ H v u Q I r hw
 obtain⟨a,xs,e1,hq,hl,hw⟩:=hw
 subst e1
 cases r
 obtain⟨bV,rv,ht,hz⟩:=I.tuple hq
 refine assign_Tuple_tuple (I.ok.hd hc) ht (by simp[hn,←hl,rv.length]) nE λh' hx=>?_
 have I1:Inv X aj σ H { s with heap:=h' }:=I.kept (t':=s.toks) λb o e=>hx b o (bt (aP e)) e
 exact h aj _ σ H xs _ Q I1 (by simpa using rv) hw
def GM (to ti:TE)(t:qI):TG:=λv σ H Q=>to σ H λo H1=>ti σ H1 λi H2=>t o i v H2 λH3=>Q σ H3
theorem Jk {o i:Expr}{to ti:TE}{t:qI}(ho:PE X o to)(hi:PE X i ti)(hs:uI X t)
  (ha:∀v,eW (.Subscript o i pos) X.env v=(do
   let ov ← dg [v] (bN o X.env)
   let iv ← dg [v,ov] (bN i X.env)
   eT pos
   dg [v,ov,iv] (kc ov iv v)
   ng [v,ov,iv] []):=by intro _;rfl):PG X (.Subscript o i pos) (GM to ti t):=by
 intro aj s σ H v u Q I r h
 rw[ha]
 refine aL (iA (de (ho aj s σ H _ I h) λov s1 di=>?_))
 obtain⟨x,H1,I1,r1,q1⟩:=di
 refine aL (iA (de (hi aj s1 σ H1 _ I1 q1) λiv s2 di=>?_))
 obtain⟨y,H2,I2,r2,q2⟩:=di
 refine aL (kQ (aL (iA (de (hs aj s2 σ H2 x y v ov iv u _ I2 r1 r2 r q2) λ_ s3 di=>?_))))
 obtain⟨H3,I3,q3⟩:=di
 exact wpAny_release ⟨σ,H3,I3,q3⟩
def xL (te:TE)(g:TG):TS:=λD σ H=>te σ H λx H1=>g x σ H1 D.nx
theorem Ft {tg e:Expr}{te:TE}{g:TG}(he:PE X e te)(hg:PG X tg g)(hs:iz [tg] e pos.line X.env=pure false:=by rfl)(hw:iy [tg] e X.env=pure none:=by rfl)
  (h1:(cF [tg] X.env).map (·.2)=[eW tg X.env]:=by rfl):PS X (.Assign [tg] e pos) (xL te g):=by
 intro aj s σ H D I h
 refine wpAny_Assign_stores (de (he aj s σ H _ I h) λv s1 ⟨x,H1,I1,r1,q1⟩=>?_) hs hw
 rw[h1]
 exact de (hg aj s1 σ H1 x v _ I1 r1 q1) λ_ s2 q=>q
theorem Jl {i:Nat}{x:aI}{e:Expr}{te:TE}{pos':cA}(hN:X.N.Nodup)(hi:X.N[i]?=some x)(hx:Loc X.env.scope x)(he:PE X e te)(hs:dO e (some (.Name x pos')) pos.line X.env=pure false:=by rfl)(hf:X.fn x=true\/X.env.scope.names.lookup x=some .local:=by first|exact .inl rfl|exact .inr rfl|assumption) :
  PS X (.Assign [.Name x pos'] e pos) (xL te (ny i)):=by
 intro aj s σ H D I h
 refine wpAny_Assign_Name (de (he aj s σ H _ I h) λv s1 ⟨y,H1,I1,r1,q1⟩=>?_) hs
 exact IH I1 hN hi hx r1 (λs2 I2=>⟨_,H1,I2,q1⟩) hf
def HZ (i:Nat)(te:TE)(ti:yG):TS:=λD σ H=>∃x,σ[i]?=some (some x)/\te σ H λy H1=>ti x y H1 λz H2=>D.nx (σ.set i (some z)) H2
theorem Xe {i:Nat}{x:aI}{e:Expr}{te:TE}{op:iO}{ti:yG}{pos':cA}(hN:X.N.Nodup)(hi:X.N[i]?=some x)(hx:Loc X.env.scope x)(he:PE X e te)(ho:yF X op ti)(hf:X.fn x=true\/X.env.scope.names.lookup x=some .local:=by first|exact .inl rfl|exact .inr rfl|assumption) :
  PS X (.AugAssign (.Name x pos') op e pos) (HZ i te ti):=by
 intro aj s σ H D I h
 obtain⟨v,e1,h⟩:=h
 obtain⟨m,hn,hl⟩:=I.loc
 have RW:mW X.env.scope x:=by rcases hx with k|k;exact .inl k;exact .inr (.inl k)
 obtain⟨u,r,l⟩:=hl i x v hi e1 RW
 refine wpAny_AugAssign_Name ?_
 have go:bg (aZ X.prog X.w) X.A (bN e X.env) (λw s₂=>bg (aZ X.prog X.w) X.A (inplaceOp op u w) (λr s₃=>bg (aZ X.prog X.w) X.A (storeName X.env x r) (λ_=>SP X aj D .next) X.xe s₃) X.xe s₂) X.xe s:=by
  refine de (he aj s σ H _ I h) λw s1 di=>?_
  obtain⟨y,H1,I1,r1,q1⟩:=di
  refine de (ho aj s1 σ H1 v y u w _ I1 r r1 q1) λz s2 di=>?_
  obtain⟨zv,H2,I2,r2,q2⟩:=di
  exact IH I2 hN hi hx r2 (λs3 I3=>⟨_,H2,I3,q2⟩) hf
 rcases l with⟨hk,hm⟩|⟨hk,c,hc,oU⟩
 ·exact wpAny_loadName_local I.ok.kind hk hn hm go
 ·rcases hk with hk|hk
  ·exact wpAny_loadName_cell I.ok.kind hk hc oU go
  ·rcases hx with k|k
   ·have:X.env.scope.names.lookup x=some .free:=hk
    rw[k]at this;cases this
   ·have:X.env.scope.names.lookup x=some .free:=hk
    rw[k]at this;cases this
def Dl (to ti te:TE)(sQ:V->V->Hp->VK->Prop)(EN:yG)(sS:qI):TS:=λD σ H=>to σ H λo H1=>ti σ H1 λi H2=>sQ o i H2 λx H3=>te σ H3 λy H4=>EN x y H4 λz H5=>sS o i z H5 λH6=>D.nx σ H6
def zK (X:Cx)(t:V->V->Hp->VK->Prop):Prop :=
 ∀(aj:List (af×cN)) (s:ak) (σ:St) (H:Hp) (o i:V) (ov iv:ae) (Q:VK),Inv X aj σ H s->RelV o ov->RelV i iv->t o i H Q ->
  bg (aZ X.prog X.w) X.A (getItem ov iv) (EP X aj σ Q) X.xe s
theorem VD {o i e:Expr}{to ti te:TE}{sQ:V->V->Hp->VK->Prop}{EN:yG}{sS:qI}{op:iO}{ez:cA}(ho:PE X o to)(hi:PE X i ti)(hg:zK X sQ)(he:PE X e te)(hp:yF X op EN)(hs:uI X sS)
  (ha:∀ov iv new,augStore i ov iv new=(do dg [new,ov,iv] (kc ov iv new);ng [new,ov,iv] [];pure .next):=by intros;rfl):PS X (.AugAssign (.Subscript o i ez) op e pos) (Dl to ti te sQ EN sS):=by
 intro aj s σ H D I h
 refine wpAny_AugAssign_SubscriptAny (de (ho aj s σ H _ I h) λov s1 ⟨x1,H1,I1,r1,q1⟩=>?_) ha
 refine de (hi aj s1 σ H1 _ I1 q1) λiv s2 di=>?_
 obtain⟨x2,H2,I2,r2,q2⟩:=di
 refine de (hg aj s2 σ H2 x1 x2 ov iv _ I2 r1 r2 q2) λold s3 di=>?_
 obtain⟨x3,H3,I3,r3,q3⟩:=di
 refine de (he aj s3 σ H3 _ I3 q3) λv s4 di=>?_
 obtain⟨x4,H4,I4,r4,q4⟩:=di
 refine de (hp aj s4 σ H4 x3 x4 old v _ I4 r3 r4 q4) λnew s5 di=>?_
 obtain⟨x5,H5,I5,r5,q5⟩:=di
 exact de (hs aj s5 σ H5 x1 x2 x5 ov iv new _ I5 r1 r2 r5 q5) λ_ s6 ⟨H6,I6,q6⟩=>⟨σ,H6,I6,q6⟩
def Ex (f:Int->Int->Int):yG:=λx y H Q=>∃i j,x=.int i/\y=.int j/\Q (.int (f i j)) H
theorem Nn:yF X .Add (Ex λi j=>i+j):=by
 intro aj s σ H x y v u Q I r1 r2 h
 obtain⟨i,j,e1,e2,q⟩:=h
 subst e1;subst e2
 obtain⟨t,rfl⟩:=r1
 obtain⟨t',rfl⟩:=r2
 exact iadd_int ⟨.int _,H,I.tok _,⟨_,rfl⟩,q⟩
theorem Xf:yF X .Sub (Ex λi j=>i-j):=by
 intro aj s σ H x y v u Q I r1 r2 h
 obtain⟨i,j,e1,e2,q⟩:=h
 subst e1;subst e2
 obtain⟨t,rfl⟩:=r1
 obtain⟨t',rfl⟩:=r2
 exact isub_int ⟨.int _,H,I.tok _,⟨_,rfl⟩,q⟩
end
section
variable {X:Cx}{pos:cA}
def xR (c:TT)(tb:TS):TS:=λD σ H=>∃W:Nat->St->Hp->Prop,(∃m,W m σ H)/\∀m σ H,W m σ H ->
 c σ H λb H1=>if b=true then∃N:St->Hp->Prop,(∀σ' H',N σ' H'->∃m',m'<m/\W m' σ' H')/\tb { D with nx:=N,ct:=N,bk:=D.nx } σ H1 else D.nx σ H1
theorem Um {c:Expr}{body:List bI}{tc:TT}{tb:TS}(hp:cM (aZ X.prog X.w) X.A X.env X.xe)(hc:PT X c tc)(hb:oh X body tb):PS X (.While c body [] pos) (xR tc tb):=by
 intro aj s σ H D I h
 obtain⟨W,⟨m0,w0⟩,mR⟩:=h
 refine wpAny_While (codeAny_whileLoop (λn s'=>∃σ' H',Inv X aj σ' H' s'/\W n σ' H') ?_ m0 ⟨σ,H,I,w0⟩)
 rintro n s1 ⟨σ1,H1,I1,w1⟩
 refine er hp (de (hc aj s1 σ1 H1 _ I1 (mR n σ1 H1 w1)) λb s2 di=>?_)
 obtain⟨H2,I2,q2⟩:=di
 cases b with
 |true=>
  obtain⟨N,hN,q2⟩:=q2
  rw[if_pos rfl]
  refine er hp (de (hb aj s2 σ1 H2 _ I2 q2) λf s3 q3=>?_)
  cases f with
  |next=>
   obtain⟨σ3,H3,I3,n3⟩:=q3
   obtain⟨m',hm,w3⟩:=hN σ3 H3 n3
   exact⟨m',hm,σ3,H3,I3,w3⟩
  |cont=>
   obtain⟨σ3,H3,I3,n3⟩:=q3
   obtain⟨m',hm,w3⟩:=hN σ3 H3 n3
   exact⟨m',hm,σ3,H3,I3,w3⟩
  |brk=>exact q3
  |ret v=>exact q3
 |false=>
  rw[if_neg aJ]
  exact jF ⟨σ1,H2,I2,q2⟩
end
structure It where
 go:Nat->Hp->Prop
 yld:Nat->Hp->V->Hp->Prop
 stop:Nat->Hp->Prop
def jS (X:Cx)(aj:List (af×cN))(H:Hp)(b:af):Prop :=
 H b=none/\b≠X.env.locals/\b∉X.fs/\(b∈X.ex\/X.s₀.heap.objs.size<=b)/\(∀x c,X.env.cells.lookup x=some c->c≠b)/\∀p∈X.pn++aj,p.1≠b
theorem Inv.fpOk {X:Cx}{aj:List (af×cN)}{σ:St}{H H':Hp}{s:ak}{b:af}(I:Inv X aj σ H s)(hb:s.heap.objs.size<=b)(hn:H' b=none):jS X aj H' b:=by
 refine⟨hn,nM (bo I.lt hb),I.nofs hb,.inr (bK I.sz hb),λx c e z=>?_,λp hp z=>?_⟩
 ·obtain⟨v,q⟩:=I.cell x c e
  exact absurd (bo q.lt (by rw[z];exact hb)) (d9 _)
 ·exact absurd (bo (aP (I.pin p hp).1) (by rw[z];exact hb)) (d9 _)
structure Turn (P:aX)(w:bz)(K:aa)(tg:Expr)(J:It)(fp:List af)(it:af)(tn:Nat->aS->Prop):Prop where
 mem:it∈fp
 obj:∀i h,tn i h->∀b∈fp,∃o,h.get? b=some o/\∀v,o.data≠.cell v
 keep:∀i h h',tn i h->(∀b∈fp,∀o,h.get? b=some o->h'.get? b=some o)->tn i h'
 item:∀(X:Cx),X.prog=P->X.w=w->X.K=K->X.calm=true->∀(i:Nat) (aj:List (af×cN)) (s:ak) (σ:St) (H:Hp) (E:ae->ak->Prop),Inv X aj σ H s->(∀b∈fp,jS X aj H b)->tn i s.heap->J.go i H ->
  bg (aZ P w) X.A (pyNext (.ref it)) (λr s1=>∃u,r=some u /\
   bg (aZ P w) X.A (gx tg (.ref it) u) (λ_ s2=>∃x H',Inv X aj σ H' s2/\RelV x u/\J.yld i H x H'/\tn (i+1) s2.heap/\∀b∈fp,H' b=none) E s1) E s
 done:∀(X:Cx),X.prog=P->X.w=w->X.K=K->X.calm=true->∀(i:Nat) (aj:List (af×cN)) (s:ak) (σ:St) (H:Hp) (E:ae->ak->Prop),Inv X aj σ H s->(∀b∈fp,jS X aj H b)->tn i s.heap->J.stop i H ->
  bg (aZ P w) X.A (pyNext (.ref it)) (λr s1=>r=none/\Inv X aj σ H s1) E s
 self:∀(A:bq) (i:Nat) (s:ak) (Q:ae->ak->Prop) (E:ae->ak->Prop),tn i s.heap->Q (.ref it) s->bg (aZ P w) A (pyIter (.ref it)) Q E s
abbrev TI:=St->Hp->(It->Hp->Prop)->Prop
def JD (X:Cx)(aj:List (af×cN))(σ:St)(tg:Expr)(R:It->Hp->Prop)(Ey:ae)(s2:ak):Prop :=
 ∃(it:af) (fp:List af) (tn:Nat->aS->Prop) (J:It) (H':Hp),Ey=.ref it/\Inv X aj σ H' s2/\Turn X.prog X.w X.K tg J fp it tn/\tn 0 s2.heap/\(∀b∈fp,jS X aj H' b)/\R J H'
def PI (X:Cx)(tg iter:Expr)(wi:TI):Prop :=
 ∀(aj:List (af×cN)) (s:ak) (σ:St) (H:Hp) (R:It->Hp->Prop),Inv X aj σ H s->wi σ H R ->
  bg (aZ X.prog X.w) X.A (bN iter X.env) (λv s1=>bg (aZ X.prog X.w) X.A (pyIter v) (JD X aj σ tg R) X.xe s1) X.xe s
theorem Jw {M:Model}{A:bq}{E:ae->ak->Prop}{s:ak}{tg:Expr}{it:af}{u:ae}{o:cN}{n:String}{vs:Array ae}{Q:Unit->ak->Prop}(ho:s.heap.get? it=some o)(hc:o.cls=.type n)(hd:o.data=.fields vs)
    (hn:["enumerate","zip","dict_itemiterator","dict_reverseitemiterator","odict_iterator","itertools.zip_longest","itertools.pairwise"].contains n=false) (hQ:Q () s):bg M A (gx tg (.ref it) u) Q E s:=by
  unfold gx
  cases tg<;>first
    |exact bF hQ
    |(cases u<;>first
        |exact bF hQ
        |(refine aL (wpAny_load ho ?_)
          rw[hc,hd]
          show bg M A (if(["enumerate","zip","dict_itemiterator","dict_reverseitemiterator","odict_iterator","itertools.zip_longest","itertools.pairwise"].contains n&&vs[0]?==some (rawInt _))=true then _ else _) Q E s
          rw[if_neg (by intro h;rw[hn,Bool.false_and]at h;cases h)]
          exact bF hQ))
def FF (K:aa)(a:af):It :=
 ⟨λi H=>∃xs x,eJ K H a xs/\xs[i]?=some x,λi H x H'=>H'=H/\∀xs,eJ K H a xs->xs[i]?=some x,λi H=>∃xs,eJ K H a xs/\xs.length<=i⟩
def DT (lo:Int)(n:Nat):It:=⟨λi _=>i<n,λi H x H'=>H'=H/\x=.int (lo+i),λi _=>n<=i⟩
theorem Tf {P:aX}{w:bz}{K:aa}{tg:Expr}(a it:af):Turn P w K tg (FF K a) [it] it (λi h=>h.IsListIter it a i) where
 mem:=by simp
 obj:=λi h st b hb=>by
  have e:b=it:=by simpa using hb
  subst e
  obtain⟨o,e,c,d⟩:=st
  exact⟨o,e,λv z=>by rw[d]at z;cases z⟩
 keep:=λi h h' st k=>st.at λo e=>k it (by simp) o e
 item:=by
  intro X hP hw hK hc i aj s σ H E I hf st hg
  subst hP hw hK
  obtain⟨xs,x,hq,hx⟩:=hg
  obtain⟨bV,rv,p,hz⟩:=I.list hq
  obtain⟨u,hu,ru⟩:=rv.get hx
  obtain⟨f0,f1,f2,f3,f4,f5⟩:=hf it (by simp)
  refine wpAny_pyNext_list_item st p.isList (x:=u) (by simpa using hu) λh' lM sb=>?_
  have I1:Inv X aj σ H { s with heap:=h' }:=I.turned (t':=s.toks) (λb o hb e=>(sb.2 b hb).trans e) f0 f1 f3 f4 f5
  obtain⟨o,e,c,d⟩:=id lM
  exact⟨u,rfl,Jw (s:={ s with heap:=h' }) e c d (by decide) ⟨x,H,I1,ru,⟨rfl,λys hy=>by rw[I.list_inj hy hq];exact hx⟩,lM,λb hb=>(hf b hb).1⟩⟩
 done:=by
  intro X hP hw hK hc i aj s σ H E I hf st hg
  subst hP hw hK
  obtain⟨xs,hq,hx⟩:=hg
  obtain⟨bV,rv,p,hz⟩:=I.list hq
  obtain⟨f0,f1,f2,f3,f4,f5⟩:=hf it (by simp)
  have hl:=rv.length
  exact wpAny_pyNext_list_end (I.ok.hd hc) st p.isList (by simp;omega) λh' eb=>⟨rfl,I.turned (t':=s.toks) (λb o hb e=>eb b o hb e) f0 f1 f3 f4 f5⟩
 self:=λ_ _ _ _ _ st h=>wpAny_pyIter_listiter st h
theorem Tb {P:aX}{w:bz}{K:aa}{tg:Expr}(it:af)(lo:Int)(n:Nat):Turn P w K tg (DT lo n) [it] it (λi h=>IsRangeIter h it (lo+(i:Nat)*1) ((n:Int)-(i:Nat)) 1) where
 mem:=by simp
 obj:=λi h st b hb=>by
  have e:b=it:=by simpa using hb
  subst e
  exact⟨_,st,λv z=>by
   have z':oN.fields _=oN.cell v:=z
   cases z'⟩
 keep:=λi h h' st k=>k it (by simp) _ st
 item:=by
  intro X hP hw hK hc i aj s σ H E I hf st hg
  subst hP hw hK
  obtain⟨f0,f1,f2,f3,f4,f5⟩:=hf it (by simp)
  have W:=Walks.range (prog:=X.prog) (w:=X.w) (I.ok.hd hc) it lo 1 n
  refine W.item i s _ _ hg st λv h' tk hv lM kk=>?_
  obtain⟨t,rfl⟩:=hv
  have I1:Inv X aj σ H { s with heap:=h',toks:=tk }:=I.turned (λb o hb e=>kk b o (by simpa using hb) e) f0 f1 f3 f4 f5
  refine⟨_,rfl,Jw (s:={ s with heap:=h',toks:=tk }) (n:="range_iterator") lM rfl rfl (by decide) ⟨.int (lo+i),H,I1,⟨t,?_⟩,⟨rfl,rfl⟩,lM,λb hb=>(hf b hb).1⟩⟩
  rw[Int.mul_one]
 done:=by
  intro X hP hw hK hc i aj s σ H E I hf st hg
  subst hP hw hK
  obtain⟨f0,f1,f2,f3,f4,f5⟩:=hf it (by simp)
  exact wpAny_pyNext_range_end (I.ok.hd hc) st (by have:n<=i:=hg;omega) λh' eb=>⟨rfl,I.turned (t':=s.toks) (λb o hb e=>eb b o hb e) f0 f1 f3 f4 f5⟩
 self:=λ_ _ _ _ _ st h=>wpAny_pyIter_rangeiter st h
end L2
namespace L2
open PySem PySem.Spec PyProof.Rows
section
variable {X:Cx}{tg:Expr}
def BP (K:aa)(tl:TE):TI:=λσ H R=>tl σ H λx H1=>∃a,x=.ref a/\(∃xs,eJ K H1 a xs)/\R (FF K a) H1
theorem Je {l:Expr}{tl:TE}(hl:PE X l tl):PI X tg l (BP X.K tl):=by
 intro aj s σ H R I h
 refine de (hl aj s σ H _ I h) λv s1 di=>?_
 obtain⟨x,H1,I1,r1,q1⟩:=di
 obtain⟨a,e,⟨xs,hq⟩,q⟩:=q1
 subst e
 cases r1
 obtain⟨bV,rv,p,hz⟩:=I1.list hq
 refine wpAny_pyIter_list p.isList ?_
 refine⟨s1.heap.objs.size,[s1.heap.objs.size],_,_,H1,rfl,I1.kept (t':=s1.toks) λb o e=>aC _ e,Tf a _,⟨_,bB _ rfl,rfl,rfl⟩,λb hb=>?_,q⟩
 have e:b=s1.heap.objs.size:=by simpa using hb
 subst e
 exact I1.fpOk (aG _) (I1.hok.fresh (aG _))
theorem Uo {aj:List (af×cN)}{σ:St}{H:Hp}{s:ak}{R:It->Hp->Prop}{E:ae->ak->Prop}{lo hi:Int}{t u v:Tok}{tk:Nat}(I:Inv X aj σ H s)(h1:-(2 ^ 62)<=lo)(h2:lo<2 ^ 62)(h3:-(2 ^ 62)<=hi)(h4:hi<2 ^ 62)
    (q:R (DT lo (hi-lo).toNat) H):bg (aZ X.prog X.w) X.A (pyIter (.ref s.heap.objs.size)) (JD X aj σ tg R) E { s with heap:=s.heap.push { cls:=.type "range",data:=.fields #[.int lo t,.int hi u,.int 1 v] },toks:=tk }:=by
  refine wpAny_pyIter_range (IsRange.new ..) (small_one h1 h2 h3 h4) ?_
  have I1:Inv X aj σ H { s with heap:=s.heap.push { cls:=.type "range",data:=.fields #[.int lo t,.int hi u,.int 1 v] },toks:=tk }:=I.kept λb o e=>aC _ e
  refine⟨(s.heap.push { cls:=.type "range",data:=.fields #[.int lo t,.int hi u,.int 1 v] }).objs.size,[(s.heap.push { cls:=.type "range",data:=.fields #[.int lo t,.int hi u,.int 1 v] }).objs.size],_,_,H,rfl,
    I1.kept (t':=tk) λb o e=>aC _ e,Tb _ lo (hi-lo).toNat,?_,λb hb=>?_,q⟩
  · have e1:lo+((0:Nat):Int)*1=lo:=by simp
    have e2:(((hi-lo).toNat:Nat):Int)-((0:Nat):Int)=Builtin.Range.rangeSize lo hi 1:=by rw[rangeSize_one];split<;>omega
    show IsRangeIter _ _ (lo+((0:Nat):Int)*1) ((((hi-lo).toNat:Nat):Int)-((0:Nat):Int)) 1
    rw[e1,e2]
    exact bB _ rfl
  · have e:b=(s.heap.push { cls:=.type "range",data:=.fields #[.int lo t,.int hi u,.int 1 v] }).objs.size:=by simpa using hb
    subst e
    exact I1.fpOk (aG _) (I1.hok.fresh (aG _))
def BQ (ta:TA):TI:=λσ H R=>ta σ H λvs H1=>∃j:Int,vs=[.int j]/\-(2 ^ 62)<=j/\j<2 ^ 62/\R (DT 0 j.toNat) H1
theorem Tg {a:Expr}{ta:TA}{p pos:cA}(hg:Gl X "range")(hm:X.mg "range"=none)(ha:PA X [a] ta)(hs:aq [a] X.env=[(false,bN a X.env)]:=by rfl):PI X tg (.Call (.Name "range" p) [a] [] pos) (BQ ta):=by
 intro aj s σ H R I h
 refine Call_ (xS I hg hm boot_range (fk (de (ha pos aj s σ H _ I h) λus s1 ⟨vs,H1,I1,r1,q1⟩=>?_) hs rfl))
 obtain⟨j,e,q1,q2,q⟩:=q1
 subst e
 cases r1 with
 |cons r rr=>
  cases rr
  obtain⟨t,rfl⟩:=r
  exact call_range_1 (Uo I1 (by omega) (by omega) q1 q2 (by simpa using q))
def Ie (wi:TI)(g:TG)(tb:TS):TS:=λD σ H=>wi σ H λJ H1=>∃W:Nat->Nat->St->Hp->Prop,(∃m,W 0 m σ H1)/\∀i m σ H,W i m σ H ->
 (J.stop i H/\D.nx σ H)\/(J.go i H/\∃N:St->Hp->Prop,(∀σ' H',N σ' H'->∃m',m'<m/\W (i+1) m' σ' H')/\∀x H',J.yld i H x H'->g x σ H' λσ2 H2=>tb { D with nx:=N,ct:=N,bk:=D.nx } σ2 H2)
def kj (fp:List af)(h:aS):List (af×cN):=fp.filterMap λb=>(h.get? b).map λo=>(b,o)
theorem vi {fp:List af}{h:aS}{b:af}{o:cN}(hb:b∈fp)(e:h.get? b=some o):(b,o)∈kj fp h:=pq.mpr ⟨b,hb,by rw[e];rfl⟩
theorem TR {fp:List af}{h:aS}{p:af×cN}(hp:p∈kj fp h):p.1∈fp/\h.get? p.1=some p.2:=by
 obtain⟨b,hb,e⟩:=pq.mp hp
 cases q:h.get? b with
 |none=>rw[q]at e;cases e
 |some o=>
  rw[q]at e
  have e':(b,o)=p:=Option.some.inj e
  subst e'
  exact⟨hb,q⟩
theorem Inv.pinned {aj:List (af×cN)}{σ:St}{H:Hp}{s:ak}{fp:List af}(I:Inv X aj σ H s)(hf:∀b∈fp,jS X aj H b)(ho:∀b∈fp,∃o,s.heap.get? b=some o/\∀v,o.data≠.cell v):Inv X (aj++kj fp s.heap) σ H s :=
 I.pins_of λp hp=>(aT.mp hp).elim (λz=>I.pin p (aw _ z)) λz=>by
  obtain⟨hb,e⟩:=TR z
  obtain⟨f0,f1,f2,_⟩:=hf p.1 hb
  obtain⟨o,e',d⟩:=ho p.1 hb
  rw[e]at e';cases e'
  exact⟨e,f0,f1,f2,d⟩
theorem Inv.unpinned {aj pl:List (af×cN)}{σ:St}{H:Hp}{s:ak}(I:Inv X (aj++pl) σ H s):Inv X aj σ H s:=I.pins_of λp hp=>I.pin p (aw _ (bp _ hp))
theorem Np {iter:Expr}{body:List bI}{wi:TI}{g:TG}{tb:TS}{pos:cA}(hp:cM (aZ X.prog X.w) X.A X.env X.xe)(hc:X.calm=true)(hi:PI X tg iter wi)(hg:PG X tg g)(hb:oh X body tb)
  (hs:∀x,cQ iter X.env x=pure x:=by intro _;rfl):PS X (.For tg iter body [] pos) (Ie wi g tb):=by
 intro aj s σ H D I h
 refine wpAny_For (de (hi aj s σ H _ I h) λv s1 h1=>de h1 λEy s2 h2=>?_) hs
 obtain⟨it,fp,tn,J,H2,e,I2,T,rQ,f2,W,⟨m0,w0⟩,mR⟩:=h2
 subst e
 have lG:∀{H':Hp},(∀b∈fp,H' b=none)->∀b∈fp,jS X aj H' b:=λhn b hb=>⟨hn b hb,(f2 b hb).2⟩
 refine codeAny_forLoop_any (λn s'=>∃i σ' H',Inv X aj σ' H' s'/\tn i s'.heap/\(∀b∈fp,H' b=none)/\W i n σ' H') ?_ m0 ⟨0,σ,H2,I2,rQ,λb hb=>(f2 b hb).1,w0⟩
 rintro n s3 ⟨i,σ3,H3,I3,K8,Kb,w3⟩
 rcases mR i n σ3 H3 w3 with⟨stop,qn⟩|⟨go,N,hN,step⟩
 ·refine er hp (de (T.done X rfl rfl rfl hc i aj s3 σ3 H3 X.xe I3 (lG Kb) K8 stop) λr s4 di=>?_)
  obtain⟨hr,I4⟩:=di
  subst hr
  exact jF ⟨σ3,H3,I4,qn⟩
 ·refine er hp (de (T.item X rfl rfl rfl hc i aj s3 σ3 H3 X.xe I3 (lG Kb) K8 go) λr s4 di=>?_)
  obtain⟨u,hr,h4⟩:=di
  subst hr
  refine er hp (de h4 λ_ s5 di=>?_)
  obtain⟨x,H5,I5,r5,y5,sM,vS⟩:=di
  have Oe:=I5.pinned (lG vS) (T.obj _ _ sM)
  refine er hp (de (hg _ s5 σ3 H5 x u _ Oe r5 (step x H5 y5)) λ_ s6 di=>?_)
  obtain⟨σ6,H6,I6,q6⟩:=di
  refine er hp (de (hb _ s6 σ6 H6 _ I6 q6) λf s7 q7=>?_)
  have again:∀{σ7:St} {H7:Hp},Inv X (aj++kj fp s5.heap) σ7 H7 s7->N σ7 H7->∃m,m<n/\∃i σ' H',Inv X aj σ' H' s7/\tn i s7.heap/\(∀b∈fp,H' b=none)/\W i m σ' H':=λ{σ7 H7} I7 n7=>by
   obtain⟨m',hm,w7⟩:=hN σ7 H7 n7
   refine⟨m',hm,i+1,σ7,H7,I7.unpinned,T.keep _ _ _ sM λb hb o e=>(I7.pin (b,o) (aw _ (aw _ (vi hb e)))).1,λb hb=>?_,w7⟩
   obtain⟨o,e,d⟩:=T.obj _ _ sM b hb
   exact(I7.pin (b,o) (aw _ (aw _ (vi hb e)))).2.1
  cases f with
  |next=>obtain⟨σ7,H7,I7,n7⟩:=q7;exact again I7 n7
  |cont=>obtain⟨σ7,H7,I7,n7⟩:=q7;exact again I7 n7
  |brk=>obtain⟨σ7,H7,I7,q7⟩:=q7;exact⟨σ7,H7,I7.unpinned,q7⟩
  |ret v=>obtain⟨x7,σ7,H7,I7,r7,q7⟩:=q7;exact⟨x7,σ7,H7,I7.unpinned,r7,q7⟩
end
end L2
namespace L2
open PySem PySem.Spec PyProof.Rows
abbrev R2:=V->V->Hp->VK->Prop
def fJ (X:Cx)(f:ae->ae->ik ae)(r:R2):Prop :=
 ∀(aj:List (af×cN)) (s:ak) (σ:St) (H:Hp) (x y:V) (v u:ae) (Q:VK),Inv X aj σ H s->RelV x v->RelV y u->r x y H Q ->
  bg (aZ X.prog X.w) X.A (f v u) (EP X aj σ Q) X.xe s
def DW (X:Cx)(f:ae->ik ae)(r:V->Hp->VK->Prop):Prop :=
 ∀(aj:List (af×cN)) (s:ak) (σ:St) (H:Hp) (x:V) (v:ae) (Q:VK),Inv X aj σ H s->RelV x v->r x H Q ->
  bg (aZ X.prog X.w) X.A (f v) (EP X aj σ Q) X.xe s
def eM (X:Cx)(f:ae)(r:List V->Hp->VK->Prop):Prop :=
 ∀(aj:List (af×cN)) (s:ak) (σ:St) (H:Hp) (xs:List V) (us:List ae) (Q:VK),Inv X aj σ H s->bQ xs us->r xs H Q ->
  bg (aZ X.prog X.w) X.A (call f us) (EP X aj σ Q) X.xe s
def EJ (r:R2)(ta tb:TE):TE:=λσ H Q=>ta σ H λx H1=>tb σ H1 λy H2=>r x y H2 Q
def RM (r:V->Hp->VK->Prop)(ta:TE):TE:=λσ H Q=>ta σ H λx H1=>r x H1 Q
def rI (C:Int->Int->Prop)(g:Int->Int->V):R2:=λx y H Q=>∃i j,x=.int i/\y=.int j/\C i j/\Q (g i j) H
def nU (g:Int->Int->V):R2:=λx y H Q=>∃i j,x=.int i/\y=.int j/\Q (g i j) H
def rU (g:Int->V):V->Hp->VK->Prop:=λx H Q=>∃i,x=.int i/\Q (g i) H
section
variable {X:Cx}{a b c:Expr}{ta tb tc:TE}{pos:cA}
theorem uN (ha:PE X a ta)(hb:PE X b tb){aj:List (af×cN)}{s:ak}{σ:St}{H:Hp}{R:V->V->Hp->Prop}(I:Inv X aj σ H s)
  (h:ta σ H λx H1=>tb σ H1 λy H2=>R x y H2) {Q:ae->ak->Prop} {f:ae->ae->ik ae}
  (hf:∀v u s2 x y H2,Inv X aj σ H2 s2->RelV x v->RelV y u->R x y H2->bg (aZ X.prog X.w) X.A (f v u) Q X.xe s2) :
  bg (aZ X.prog X.w) X.A (bN a X.env) (λv s₁=>bg (aZ X.prog X.w) X.A (bN b X.env) (λu s₂=>bg (aZ X.prog X.w) X.A (f v u) Q X.xe s₂) X.xe s₁) X.xe s:=by
 refine de (ha aj s σ H _ I h) λv s1 di=>?_
 obtain⟨x,H1,I1,r1,q1⟩:=di
 refine de (hb aj s1 σ H1 _ I1 q1) λu s2 di=>?_
 obtain⟨y,H2,I2,r2,q2⟩:=di
 exact hf v u s2 x y H2 I2 r1 r2 q2
theorem DO {op:iO}{r:R2}(ho:fJ X (dG op) r)(ha:PE X a ta)(hb:PE X b tb):PE X (.BinOp a op b pos) (EJ r ta tb):=by
 intro aj s σ H Q I h
 exact wpAny_BinOp (uN ha hb I h λv u s2 x y H2 I2 rx ry q=>ho aj s2 σ H2 x y v u Q I2 rx ry q)
theorem Yz {op:UnaryOp}{r:V->Hp->VK->Prop}(ho:DW X (unaryOp op) r)(ha:PE X a ta):PE X (.UnaryOp op a pos) (RM r ta):=by
 intro aj s σ H Q I h
 exact UnaryOp_ (de (ha aj s σ H _ I h) λv s1 ⟨x,H1,I1,r1,q1⟩=>ho aj s1 σ H1 x v Q I1 r1 q1)
theorem yQ {f:ae->ae->ik ae}{C:Int->Int->Prop}{g:Int->Int->Int}
  (rule:∀(i j:Int) (t u:Tok) (s:ak) (Q:ae->ak->Prop) (E:ae->ak->Prop),C i j->Q (.int (g i j) s.toks) { s with toks:=s.toks+1 }->bg (aZ X.prog X.w) X.A (f (.int i t) (.int j u)) Q E s) :
  fJ X f (rI C λi j=>.int (g i j)):=by
 intro aj s σ H x y v u Q I rx ry h
 obtain⟨i,j,rfl,rfl,hc,q⟩:=h
 obtain⟨t,rfl⟩:=rx
 obtain⟨t',rfl⟩:=ry
 exact rule i j t t' s _ _ hc ⟨.int (g i j),H,I.tok _,⟨_,rfl⟩,q⟩
theorem CC {f:ae->ae->ik ae}{g:Int->Int->Int}
  (rule:∀(i j:Int) (t u:Tok) (s:ak) (Q:ae->ak->Prop) (E:ae->ak->Prop),Q (.int (g i j) s.toks) { s with toks:=s.toks+1 }->bg (aZ X.prog X.w) X.A (f (.int i t) (.int j u)) Q E s) :
  fJ X f (nU λi j=>.int (g i j)):=by
 intro aj s σ H x y v u Q I rx ry h
 obtain⟨i,j,rfl,rfl,q⟩:=h
 obtain⟨t,rfl⟩:=rx
 obtain⟨t',rfl⟩:=ry
 exact rule i j t t' s _ _ ⟨.int (g i j),H,I.tok _,⟨_,rfl⟩,q⟩
theorem sC {f:ae->ae->ik ae}{g:Int->Int->Bool}
  (rule:∀(i j:Int) (t u:Tok) (s:ak) (Q:ae->ak->Prop) (E:ae->ak->Prop),Q (.bool (g i j)) s->bg (aZ X.prog X.w) X.A (f (.int i t) (.int j u)) Q E s) :
  fJ X f (nU λi j=>.bl (g i j)):=by
 intro aj s σ H x y v u Q I rx ry h
 obtain⟨i,j,rfl,rfl,q⟩:=h
 obtain⟨t,rfl⟩:=rx
 obtain⟨t',rfl⟩:=ry
 exact rule i j t t' s _ _ ⟨.bl (g i j),H,I,rfl,q⟩
def rS (i j:Int):Prop:=0<=j/\j<=1000000/\i.natAbs<2 ^ 64
def uF (i j:Int):Prop:=(-(2 ^ 64)<i/\i<2 ^ 64)\/(-(2 ^ 64)<j/\j<2 ^ 64)
theorem uF.ok {i j:Int}(h:uF i j):IntMulOk i j:=by
 rcases h with⟨h1,h2⟩|⟨h1,h2⟩
 ·exact .of_left (intBits_le_64 h1 h2)
 ·exact .of_right (intBits_le_64 h1 h2)
theorem Tc (k:Nat):(0:Int)<=2 ^ k:=by
 rw[two_pow_cast]
 exact Int.natCast_nonneg _
theorem Xg:fJ X (dG .Add) (nU λi j=>.int (i+j)):=CC λ_ _ _ _ _ _ _ q=>add_int q
theorem vm:fJ X (dG .Sub) (nU λi j=>.int (i-j)):=CC λ_ _ _ _ _ _ _ q=>sub_int q
theorem xi:fJ X (dG .Mod) (rI (λ_ j=>j≠0) λi j=>.int (i.fmod j)):=yQ λ_ _ _ _ _ _ _ hc q=>mod_int' hc q
theorem jl:fJ X (dG .Pow) (rI rS λi j=>.int (i ^ j.toNat)):=yQ λ_ _ _ _ _ _ _ hc q=>pow_int_small hc.1 hc.2.1 hc.2.2 q
theorem Xh:fJ X (dG .LShift) (rI rS λi j=>.int (i*2 ^ j.toNat)):=yQ λ_ _ _ _ _ _ _ hc q=>lshift_int_small hc.1 hc.2.1 hc.2.2 q
theorem Nq:fJ X (dG .RShift) (rI (λ_ j=>0<=j) λi j=>.int (i/2 ^ j.toNat)):=yQ λi j _ _ _ _ _ hc q=>
 rshift_int hc (by rw[lX i (Tc _)];exact q)
theorem RV {f:ae->ik ae}{g:Int->Int}
  (rule:∀(i:Int) (t:Tok) (s:ak) (Q:ae->ak->Prop) (E:ae->ak->Prop),Q (.int (g i) s.toks) { s with toks:=s.toks+1 }->bg (aZ X.prog X.w) X.A (f (.int i t)) Q E s) :
  DW X f (rU λi=>.int (g i)):=by
 intro aj s σ H x v Q I rx h
 obtain⟨i,rfl,q⟩:=h
 obtain⟨t,rfl⟩:=rx
 exact rule i t s _ _ ⟨.int (g i),H,I.tok _,⟨_,rfl⟩,q⟩
theorem Xi:DW X (unaryOp .USub) (rU λi=>.int (-i)):=RV λ_ _ _ _ _ q=>neg_int q
end
section
variable {X:Cx}{a b c:Expr}{ta tb tc:TE}{pos:cA}
theorem Fu {aj:List (af×cN)}{σ:St}{H:Hp}{s:ak}{Q:VK}{k k':Bool}(I:Inv X aj σ H s)(q:Q (.bl k) H)(e:k=k'):EP X aj σ Q (.bool k') s:=by
 subst e
 exact⟨.bl k,H,I,rfl,q⟩
theorem xZ:fJ X (cD .Lt) (nU λi j=>.bl (decide (i<j))):=sC λ_ _ _ _ _ _ _ q=>lt_int q
theorem YA:fJ X (cD .LtE) (nU λi j=>.bl (decide (i<=j))):=sC λ_ _ _ _ _ _ _ q=>le_int q
theorem uE:fJ X (cD .Gt) (nU λi j=>.bl (decide (j<i))):=sC λ_ _ _ _ _ _ _ q=>gt_int q
theorem YB:fJ X (cD .GtE) (nU λi j=>.bl (decide (j<=i))):=sC λ_ _ _ _ _ _ _ q=>ge_int q
theorem Xj:fJ X (cD .Is) (λx y H Q=>y=.non/\Q (.bl (decide (x=.non))) H):=by
 intro aj s σ H x y v u Q I rx ry h
 obtain⟨rfl,q⟩:=h
 cases ry
 refine is_none_gen (Fu I q ?_)
 cases x<;>first
  |(cases rx;rfl)
  |(obtain⟨t,rfl⟩:=rx;rfl)
theorem VE:fJ X (cD .IsNot) (λx y H Q=>y=.non/\Q (.bl (!decide (x=.non))) H):=by
 intro aj s σ H x y v u Q I rx ry h
 obtain⟨rfl,q⟩:=h
 cases ry
 refine isnot_none_gen (Fu I q ?_)
 cases x<;>first
  |(cases rx;rfl)
  |(obtain⟨t,rfl⟩:=rx;rfl)
theorem fJ.or {f:ae->ae->ik ae}{r r':R2}(h:fJ X f r)(h':fJ X f r'):fJ X f (λx y H Q=>r x y H Q\/r' x y H Q):=by
 intro aj s σ H x y v u Q I rx ry q
 rcases q with q|q
 ·exact h aj s σ H x y v u Q I rx ry q
 ·exact h' aj s σ H x y v u Q I rx ry q
theorem bX (b:Expr){op:kP}(h:op≠.In:=by decide)(h2:op≠.NotIn:=by decide):dB op b=false:=by
 have e1:(op==kP.In)=false:=by cases op<;>first|rfl|exact absurd rfl h
 have e2:(op==kP.NotIn)=false:=by cases op<;>first|rfl|exact absurd rfl h2
 cases b<;>simp[dB,e1,e2]
theorem VF {op:kP}{r:R2}(ho:fJ X (cD op) r)(ha:PE X a ta)(hb:PE X b tb)(hm:dB op b=false):PE X (.Compare a [op] [b] pos) (EJ r ta tb):=by
 intro aj s σ H Q I h
 exact wpAny_Compare1 (uN ha hb I h λv u s2 x y H2 I2 rx ry q=>ho aj s2 σ H2 x y v u Q I2 rx ry q) hm
def Dw (t:TE):TT:=λσ H Q=>t σ H λx H'=>∃k,x=.bl k/\Q k H'
theorem VG {op:kP}{r:R2}(ho:fJ X (cD op) r)(ha:PE X a ta)(hb:PE X b tb)(hm:dB op b=false):PT X (.Compare a [op] [b] pos) (Dw (EJ r ta tb)):=by
 intro aj s σ H Q I h
 refine wpAny_isTrue_Compare1 (de (ha aj s σ H _ I h) λv s1 ⟨x,H1,I1,r1,q1⟩=>de (hb aj s1 σ H1 _ I1 q1) λu s2 ⟨y,H2,I2,r2,q2⟩=>
  de (ho aj s2 σ H2 x y v u _ I2 r1 r2 q2) λc s3 ⟨z,H3,I3,r3,k,e,q3⟩=>?_) hm
 subst e
 cases r3
 exact dS ⟨H3,I3,q3⟩
theorem iJ:(sizeLine:Nat)<2 ^ 63:=by rw[bG];decide
theorem Th:fJ X (dG .Add) (λx y H Q=>∃i j,x=.str i/\y=.str j/\i.length+j.length<=sizeLine/\Q (.str (i++j)) H):=by
 intro aj s σ H x y v u Q I rx ry h
 obtain⟨i,j,rfl,rfl,hz,q⟩:=h
 obtain⟨t,rfl⟩:=rx
 obtain⟨t',rfl⟩:=ry
 exact add_str (λt' tk=>⟨.str (i++j),H,I.tok _,⟨_,rfl⟩,q⟩) hz
theorem o4 {x:V}{us:List ae}(r:bQ [x] us):∃u,us=[u]/\RelV x u:=by
 cases r with
 |cons r1 r2=>cases r2;exact⟨_,rfl,r1⟩
theorem vals2 {x y:V}{us:List ae}(r:bQ [x,y] us):∃u w',us=[u,w']/\RelV x u/\RelV y w':=by
 cases r with
 |cons r1 r2=>
  cases r2 with
  |cons r3 r4=>cases r4;exact⟨_,_,rfl,r1,r3⟩
theorem jz (hc:X.calm=true):eM X (.builtin "max") (λxs H Q=>∃i j,xs=[.int i,.int j]/\Q (.int (if j > i then j else i)) H):=by
 intro aj s σ H xs us Q I r h
 obtain⟨i,j,rfl,q⟩:=h
 obtain⟨u,w',rfl,⟨t,rfl⟩,⟨t',rfl⟩⟩:=vals2 r
 refine max_two_ints (I.ok.hd hc) λh' tk k=>⟨_,H,I.kept k,?_,q⟩
 by_cases hj:j > i
 ·rw[if_pos hj,if_pos hj];exact⟨_,rfl⟩
 ·rw[if_neg hj,if_neg hj];exact⟨_,rfl⟩
end
end L2
namespace L2
open PySem PySem.Spec PyProof.Rows
structure og (h:aS)(x dx C:af)(mA:aI->Option ae):Prop where
 obj:h.get? x=some (dD C dx)
 ns:h.Ns1 dx mA
 ne:dx≠x
theorem TU {h:aS}{dx:af}{mA:aI->Option ae}(n:h.Ns1 dx mA):∃od,h.get? dx=some od/\∀name,iB name od=some (mA name):=by
 obtain⟨o,es,ep,ho,hd,hk,_,hm⟩:=n
 refine⟨o,ho,λname=>?_⟩
 have e:=hm name
 unfold nsFind findBy at e
 rw[←Array.find?_toList]at e
 unfold iB
 rw[hd]
 dsimp only
 split
 ·rename_i y q
  rw[q]at e
  exact congrArg some e
 ·rename_i q
  rw[q]at e
  have a:es.toList.any (·.refKey)=false:=by
   rw[List.any_eq_false]
   intro y hy
   obtain⟨z,t,Hc⟩:=hk y (Array.mem_toList_iff.mp hy)
   simp[DictEntry.refKey,Hc]
  have a':¬es.toList.any (·.refKey)=true:=by rw[a];exact aJ
  rw[if_neg a']
  exact congrArg some e
theorem og.look {h:aS}{x dx C:af}{mA:aI->Option ae}(I:og h x dx C mA):∃od,PySem.W.InstAt h x (dD C dx) C (some od)/\∀name,iB name od=some (mA name) :=
 let⟨od,ho,hl⟩:=TU I.ns
 ⟨od,⟨I.obj,rfl,rfl,ho⟩,hl⟩
section
variable {prog:aX}{w:bz}{A:bq}{E:ae->ak->Prop}{s:ak}{K:aa}{x dx C f:af}{mA:aI->Option ae}{name:aI}{v:ae}
theorem VH {expr:Bool}{Q:ae->ak->Prop}(X:K.In s.heap)(I:og s.heap x dx C mA)(hg:cI K C name=true)(hh:cx K C=true)
  (ha:ao K (.ref C) name=some none) (hv:mA name=some v) (BN:oO v=true) (h:Q v { s with toks:=s.toks+1 }) :
  bg (aZ prog w) A (getAttr (.ref x) name expr) Q E s:=by
 obtain⟨od,J,hl⟩:=I.look
 exact PySem.W.get_value X J (iR hg).1 (PySem.W.findObj_own hh ha rfl (by rw[hl,hv])) BN h
theorem Up {pl:ik Bool}{Q:ae×List ae->ak->Prop}(X:K.In s.heap)(I:og s.heap x dx C mA)(hg:cI K C name=true)
  (hf:ao K (.ref C) name=some (some (.ref f))) (ht:cm K (.ref f)=true) (hv:mA name=none) (h:Q (.ref f,[.ref x]) s) :
  bg (aZ prog w) A (fW (.ref x) name pl) Q E s:=by
 obtain⟨od,J,hl⟩:=I.look
 exact PySem.W.method_fn X J (iR hg).1 (iR hg).2 hf (beq_iff_eq.mp ht) (by show(iB name od).map (·.isSome)=some false;rw[hl,hv];rfl) h
theorem VI {ns:List aI}{Q:Unit->ak->Prop}(X:K.In s.heap)(I:og s.heap x dx C mA)
  (hs:ao K (.ref C) "__setattr__"=some (some (.builtin "object.__setattr__"))) (hp:cW K C=true) (ht:ky K C name=some none) (hh:cx K C=true)
  (hw:PySem.Within mA ns) (hsz:ns.length<=sizeLine)
  (h:∀h',og h' x dx C (λy=>if y=name then some v else mA y)->dH dx s.heap h'->Q () { s with heap:=h',toks:=s.toks+2 }) :
  bg (aZ prog w) A (setAttr (.ref x) name v) Q E s:=by
 obtain⟨od,J,hl⟩:=I.look
 refine PySem.W.set_plain X J hs (PySem.W.osa_open (s:={ s with toks:=s.toks+1 }) (r:=none) X J hp ht λb=>?_)
 obtain⟨cd,hc,GX⟩:=PySem.W.any_some hh
 have hx:s.heap.get? x=some ⟨.ref C,some dx,.plain,#[]⟩:=I.obj
 refine aL (bF (aL (aL (wpAny_loadPart hx (aL (PySem.W.Looks.here (s:={ s with toks:=s.toks+1 }) (PySem.W.looks_clsIn X hc) ?_))))))
 rw[GX]
 refine bF (a:=some dx) (aL (bF (aL ?_)))
 refine wpAny_nsSet1 (s:={ s with toks:=s.toks+1 }) I.ns λh' rN tN=>?_
 obtain⟨oD,YN,YM,Pt,Pe,Pd⟩:=rN.count (PySem.Within.cons name v hw)
 refine aL (wpAny_lookBehind Pt (by rw[Pe];exact pastItsLine_dict (bK Pd (by rw[az];omega))) ?_)
 exact bF (h _ ⟨(tN.2 _ (Ne.symm I.ne)).trans I.obj,rN,I.ne⟩ tN)
theorem Uq {R:Result->ak->Prop}{vs:List ae}{kw:List (aI×ae)}(X:K.In s.heap)(hm:dc K C=true)
  (hi:ao K (.ref C) "__init__"=some (some (.ref f))) (hf:PySem.W.typeIn K (.ref f)=some (.type "function"))
  (h:gK (aZ prog w) (A.under (.builtin "type.__call__" ⟨.ref C::vs,kw⟩)) (.call (.ref f) ⟨.ref (s.heap.objs.size+1)::vs,kw⟩) (PySem.W.InitBack (s.heap.objs.size+1) R)
   { s with heap:=(s.heap.push cL).push (dD C s.heap.objs.size) }) :
  gK (aZ prog w) A (.call (.ref C) ⟨vs,kw⟩) R s:=by
 obtain⟨hh,g,d,t,os⟩:=s
 exact PySem.W.make_core (PySem.W.makes_of X hm) (PySem.W.looks_findIn X hi) (λself=>PySem.W.bind_fn X self hf) (.inl rfl) h
end
def iu (f:aI)(v:V):List (aI×V)->List (aI×V)
 |[]=>[(f,v)]
 |(g,x)::r=>if g=f then(g,v)::r else(g,x)::iu f v r
theorem Ll (f g:aI)(v:V):∀fs:List (aI×V),(iu f v fs).lookup g=if g=f then some v else fs.lookup g
 |[]=>by
  show fK g [(f,v)]=_
  by_cases h:g=f
  ·have hb:(g==f)=true:=beq_iff_eq.mpr h
   simp only[fK,hb,if_pos h]
  ·have hb:(g==f)=false:=beq_eq_false_iff_ne.mpr h
   simp only[fK,hb,if_neg h]
 |(k,x)::r=>by
  have ih:=Ll f g v r
  rw[show iu f v ((k,x)::r)=(if k=f then(k,v)::r else(k,x)::iu f v r)from rfl]
  by_cases hk:k=f
  ·rw[if_pos hk]
   by_cases h:g=k
   ·have hb:(g==k)=true:=beq_iff_eq.mpr h
    simp only[fK,hb,if_pos (h.trans hk)]
   ·have hb:(g==k)=false:=beq_eq_false_iff_ne.mpr h
    simp only[fK,hb,if_neg (λe:g=f=>h (e.trans hk.symm))]
  ·rw[if_neg hk]
   by_cases h:g=k
   ·have hb:(g==k)=true:=beq_iff_eq.mpr h
    simp only[fK,hb,if_neg (λe:g=f=>hk (h.symm.trans e))]
   ·have hb:(g==k)=false:=beq_eq_false_iff_ne.mpr h
    simp only[fK,hb]
    exact ih
theorem Ir (f:aI)(v:V):∀fs:List (aI×V),f∈(iu f v fs).map (·.1)/\∀g,g∈fs.map (·.1)->g∈(iu f v fs).map (·.1)
 |[]=>⟨by simp[iu],λg h=>by simp at h⟩
 |(k,x)::r=>by
  obtain⟨i1,i2⟩:=Ir f v r
  rw[show iu f v ((k,x)::r)=(if k=f then(k,v)::r else(k,x)::iu f v r)from rfl]
  by_cases hk:k=f
  ·rw[if_pos hk]
   subst hk
   exact⟨by simp,λg h=>by simpa using h⟩
  ·rw[if_neg hk]
   refine⟨?_,λg h=>?_⟩
   ·rw[br]
    exact ai _ i1
   ·rw[br]at h ⊢
    rcases ay.mp h with e|e
    ·exact ay.mpr (.inl e)
    ·exact ai _ (i2 g e)
theorem Lq (f:aI)(v:V):∀fs:List (aI×V),(iu f v fs).length<=fs.length+1
 |[]=>by simp[iu]
 |(k,x)::r=>by
  have ih:=Lq f v r
  rw[show iu f v ((k,x)::r)=(if k=f then(k,v)::r else(k,x)::iu f v r)from rfl]
  by_cases hk:k=f
  ·rw[if_pos hk,az,az];omega
  ·rw[if_neg hk,az,az];omega
theorem iY.some_of {v:V}{o:Option ae}(r:iY (some v) o):∃u,o=some u/\RelV v u:=by
 cases o with
 |none=>exact(show False from r).elim
 |some u=>exact⟨u,rfl,r⟩
theorem iY.none_of {o:Option ae}(r:iY none o):o=none:=by
 cases o with
 |none=>rfl
 |some u=>exact(show False from r).elim
theorem TV {v:V}{u:ae}(r:RelV v u):oO u=true:=by
 cases v with
 |non=>cases(show u=ae.none from r);rfl
 |bl b=>cases(show u=ae.bool b from r);rfl
 |int i=>obtain⟨t,e⟩:=(show∃t,u=ae.int i t from r);cases e;rfl
 |str x=>obtain⟨t,e⟩:=(show∃t,u=ae.str x t from r);cases e;rfl
 |byt b=>obtain⟨t,e⟩:=(show∃t,u=ae.bytes b t from r);cases e;rfl
 |flt b=>obtain⟨t,e⟩:=(show∃t,u=ae.float b t from r);cases e;rfl
 |ref a=>cases(show u=ae.ref a from r);rfl
 |ty n=>cases(show u=ae.type n from r);rfl
section
variable {P:aX}{w:bz}{H H':Hp}{h h':aS}{a C dx:af}{fs Eg:List (aI×V)}
theorem Ff (hok:jM P w H h)(e:H a=some (.ins C dx fs)):∃mA,og h a dx C mA/\(∀f,iY (fs.lookup f) (mA f))/\PySem.Within mA (fs.map (·.1))/\fs.length<=1000/\H dx=some (.own a):=by
 obtain⟨d,z,ne,ob,mA,n,r,q⟩:=(show dN P w H h a (.ins C dx fs)from hok a _ e)
 exact⟨mA,⟨ob,n,ne⟩,r,q,z,d⟩
end
structure kB (K:aa)(C:af):Prop where
 pg:cI K C aI.empty=true
 hd:cx K C=true
 po:cW K C=true
 sa:ao K (.ref C) "__setattr__"=some (some (.builtin "object.__setattr__"))
theorem kB.get {K:aa}{C:af}(c:kB K C)(f:aI):cI K C f=true:=c.pg
def el (K:aa)(C:af)(f:aI):Prop:=ao K (.ref C) f=some none
theorem el.taker {K:aa}{C:af}{f:aI}(n:el K C f):ky K C f=some none:=by
 unfold ky
 rw[show ao K (.ref C) f=some none from n]
 rfl
structure oe (K:aa)(C:af)(m:aI)(f:af):Prop where
 at_:ao K (.ref C) m=some (some (.ref f))
 fn:cm K (.ref f)=true
 kp:ap K (.ref f)=true
section
variable {X:Cx}{aj:List (af×cN)}{σ:St}{H:Hp}{s:ak}{a C dx:af}{fs:List (aI×V)}{f:aI}{v:V}{A:bq}{E:ae->ak->Prop}
theorem Ti {b:Bool}{Q:ae->ak->Prop}(I:Inv X aj σ H s)(e:H a=some (.ins C dx fs))(c:kB X.K C)(n:el X.K C f)(l:fs.lookup f=some v)
  (h:∀u s',Inv X aj σ H s'->RelV v u->Q u s'):bg (aZ X.prog X.w) A (getAttr (.ref a) f b) Q E s:=by
 obtain⟨mA,O,r,_,_,_⟩:=Ff I.hok e
 obtain⟨u,hu,ru⟩:=iY.some_of (v:=v) (o:=mA f) (by rw[←l];exact r f)
 exact VH I.kIn O (c.get f) c.hd n hu (TV ru) (h u _ (I.tok _) ru)
theorem qk {m:aI}{g:af}{pl:ik Bool}{Q:ae×List ae->ak->Prop}(I:Inv X aj σ H s)(e:H a=some (.ins C dx fs))(c:kB X.K C)(k:oe X.K C m g)(l:fs.lookup m=none)
  (h:Q (.ref g,[.ref a]) s):bg (aZ X.prog X.w) A (fW (.ref a) m pl) Q E s:=by
 obtain⟨mA,O,r,_,_,_⟩:=Ff I.hok e
 have hn:mA m=none:=iY.none_of (by rw[←l];exact r m)
 exact Up I.kIn O (c.get m) k.at_ k.fn hn h
theorem Tj {y:V}{u:ae}{Q:Unit->ak->Prop}(I:Inv X aj σ H s)(e:H a=some (.ins C dx fs))(c:kB X.K C)(n:el X.K C f)(hl:fs.length<1000)(ry:RelV y u)
  (h:∀s',Inv X aj σ (upd H a (.ins C dx (iu f y fs))) s'->Q () s'):bg (aZ X.prog X.w) A (setAttr (.ref a) f u) Q E s:=by
 obtain⟨mA,O,r,wi,_,ho⟩:=Ff I.hok e
 have hz:(fs.map (·.1)).length<=sizeLine:=by rw[aE,bG];omega
 refine VI I.kIn O c.sa c.po n.taker c.hd wi hz λh' O' sb=>h _ ?_
 have hd:∃o,h'.get? dx=some o:=let⟨o,_,_,e',_⟩:=O'.ns;⟨o,e'⟩
 refine I.write (x:=a) (e:=dx) (by rw[e];exact True.intro) (.inr ho) (λb q hb z=>(sb.2 b hb).trans z) hd ?_
 refine⟨by rw[zn O.ne];exact ho,?_,O.ne,O'.obj,_,O'.ns,λg=>?_,λg hg=>?_⟩
 ·have:=Lq f y fs;omega
 ·show iY ((iu f y fs).lookup g) (if g=f then some u else mA g)
  rw[Ll]
  by_cases q:g=f
  ·rw[if_pos q,if_pos q];exact ry
  ·rw[if_neg q,if_neg q];exact r g
 ·by_cases q:g=f
  ·rw[q];exact(Ir f y fs).1
  ·refine(Ir f y fs).2 g (wi g λz=>hg ?_)
   show(if g=f then some u else mA g)=none
   rw[if_neg q];exact z
theorem Inv.made (I:Inv X aj σ H s):Inv X aj σ (upd (upd H s.heap.objs.size (.own (s.heap.objs.size+1))) (s.heap.objs.size+1) (.ins C s.heap.objs.size []))
  { s with heap:=(s.heap.push cL).push (dD C s.heap.objs.size) }:=by
 have e1:(s.heap.push cL).get? s.heap.objs.size=some cL:=bB s.heap rfl
 have e2:((s.heap.push cL).push (dD C s.heap.objs.size)).get? (s.heap.objs.size+1)=some (dD C s.heap.objs.size):=by
  have:=bB (s.heap.push cL) (o:=dD C s.heap.objs.size) rfl
  rwa[eS]at this
 have e3:(s.heap.push cL).Ns s.heap.objs.size (λ_=>none):=⟨cL,#[],_,e1,rfl,(λe he=>absurd he (by simp)),λ_=>rfl⟩
 have I1:=I.laid (a:=s.heap.objs.size) (o:=.own (s.heap.objs.size+1)) (h':=s.heap.push cL) (t':=s.toks) (λb u q=>aC _ q) (aG _) ⟨_,e1⟩
 refine I1.laid (a:=s.heap.objs.size+1) (o:=.ins C s.heap.objs.size []) (t':=s.toks) (λb u q=>aC _ q) (nL (eS _ _)) ?_
 have ne:s.heap.objs.size≠s.heap.objs.size+1:=bt (fI _)
 refine⟨by rw[zn ne,ym],cZ _,ne,e2,λ_=>none,(aS.Ns1.of_empty e3).at λo q=>aC _ q,λ_=>True.intro,λy hy=>absurd rfl hy⟩
theorem VJ {prog:aX}{w:bz}{env:Env}{e:Expr}{f:aI}{pos:cA}{s:ak}{Q:ae->ak->Prop}(hb:eP e f env (bN e env)=bN e env)
  (h:bg (aZ prog w) A (bN e env) (λo s₁=>bg (aZ prog w) A (getAttr o f true) Q E s₁) E s):bg (aZ prog w) A (bN (.Attribute e f pos) env) Q E s :=
 Attribute_any_ h (by rw[arm_eval_Attribute,hb])
end
def Ib (K:aa)(ta:TE)(f:aI):TE:=λσ H Q=>ta σ H λx H1=>∃a C dx fs v,x=.ref a/\H1 a=some (.ins C dx fs)/\kB K C/\el K C f/\fs.lookup f=some v/\Q v H1
def HW (K:aa)(ta tv:TE)(f:aI):TS:=λD σ H=>tv σ H λy H1=>ta σ H1 λx H2=>∃a C dx fs,x=.ref a/\H2 a=some (.ins C dx fs)/\kB K C/\el K C f/\fs.length<1000 /\
 D.nx σ (upd H2 a (.ins C dx (iu f y fs)))
section
variable {X:Cx}{o e value:Expr}{f:aI}{pos pos' ez:cA}{ta tv:TE}
theorem Xk (he:PE X e ta)(hb:eP e f X.env (bN e X.env)=bN e X.env):PE X (.Attribute e f pos) (Ib X.K ta f):=by
 intro aj s σ H Q I h
 refine VJ hb (de (he aj s σ H _ I h) λu s1 di=>?_)
 obtain⟨x,H1,I1,rx,a,C,dx,fs,v,ex,ea,c,n,l,q⟩:=di
 subst ex
 obtain rfl:u=ae.ref a:=rx
 exact Ti I1 ea c n l λu' s2 I2 ru=>⟨v,H1,I2,ru,q⟩
theorem Xl (ha:PE X o ta)(hv:PE X value tv)(hs:dO value (some (.Attribute o f pos')) pos.line X.env=pure false):PS X (.Assign [.Attribute o f pos'] value pos) (HW X.K ta tv f):=by
 intro aj s σ H D I h
 refine plainObj_wpAny_Assign_Attribute (de (hv aj s σ H _ I h) λu s1 ⟨y,H1,I1,ry,q⟩=>de (ha aj s1 σ H1 _ I1 q) λov s2 ⟨x,H2,I2,rx,a,C,dx,fs,ex,ea,c,n,l,q2⟩=>?_) hs
 subst ex
 obtain rfl:ov=ae.ref a:=rx
 exact Tj I2 ea c n l ry λs3 I3=>⟨σ,_,I3,q2⟩
def xG:V->V->Hp->VK->Prop:=λx y H Q=>∃i j,x=.int i/\y=.int j/\Q (.int (i+j)) H
theorem ZM {pl:ik Bool}{m:aI}{cY:cA}{args:List Expr}{aj:List (af×cN)}{s:ak}{σ:St}{H:Hp}{Q:ae->ak->Prop}{te:TE}(he:PE X e te)(I:Inv X aj σ H s)
  (h:te σ H λx H1=>∃a C dx fs g,x=.ref a/\H1 a=some (.ins C dx fs)/\kB X.K C/\oe X.K C m g/\fs.lookup m=none /\
   ∀s1,Inv X aj σ H1 s1->bg (aZ X.prog X.w) X.A (iP pos (.ref g) [.ref a] (cC pos (aq args X.env)) (eQ pos (dC [] X.env))) Q X.xe s1)
  (ht:bN (.Call (.Attribute e m cY) args [] pos) X.env=(do
   let ov ← bN e X.env
   eT cY.atName
   let(f,first) ← dg [ov] (fW ov m pl)
   iP pos f first (cC pos (aq args X.env)) (eQ pos (dC [] X.env)))) :
  bg (aZ X.prog X.w) X.A (bN (.Call (.Attribute e m cY) args [] pos) X.env) Q X.xe s:=by
 refine eU (pl:=pl) (de (he aj s σ H _ I h) λu s1 ⟨x,H1,I1,rx,a,C,dx,fs,g,ex,ea,c,k,l,q⟩=>?_) ht
 subst ex
 obtain rfl:u=ae.ref a:=rx
 exact qk I1 ea c k l (q s1 I1)
end
section
variable {X:Cx}{aj:List (af×cN)}{σ:St}{H:Hp}{s:ak}{A:bq}{E:ae->ak->Prop}{Q:ae->ak->Prop}{c:ae}{b:Bool}
inductive jI (K:aa)(H:Hp):V->ae->Prop where
 |non:jI K H .non (.type "NoneType")
 |bl (x:Bool):jI K H (.bl x) (.type "bool")
 |int (i:Int):jI K H (.int i) (.type "int")
 |str (x:aI):jI K H (.str x) (.type "str")
 |flt (x:UInt64):jI K H (.flt x) (.type "float")
 |lst {a:af} {xs:List V} (e:H a=some (.lst xs)):jI K H (.ref a) (.type "list")
 |frz {a:af} {o:cN} {xs:List V} (e:H a=some (.frz o (.lst xs))):jI K H (.ref a) (.type "list")
 |tup {a:af} {xs:List V} (e:H a=some (.tup xs)):jI K H (.ref a) (.type "tuple")
 |dK {a:af} {cq:List (et×V)} (e:H a=some (.dK cq)):jI K H (.ref a) (.type "dict")
 |dT {a:af} {cq:List (List et×V)} (e:H a=some (.dT cq)):jI K H (.ref a) (.type "dict")
 |ins {a C dx:af} {fs:List (aI×V)} (e:H a=some (.ins C dx fs)) (cl:kB K C) (ha:ao K (.ref C) "__class__"=some (some (.builtin "object.__class__")))
   (hn:cX K (.builtin "object.__class__") "__get__"=some (some (.builtin "getset_descriptor.__get__"))) (Kw:hJ K (.builtin "object.__class__")=some true)
   (hm:dr K C (.type "object")=some true):jI K H (.ref a) (.ref C)
theorem LH {x:V}{u t:ae}(I:Inv X aj σ H s)(rx:RelV x u)(ty:jI X.K H x t)(e:bv X.K t c=some b)(h:∀tk,Q (.bool b) { s with toks:=tk }) :
  bg (aZ X.prog X.w) A (call (.builtin "isinstance") [u,c]) Q E s:=by
 cases ty with
 |non=>cases(show u=ae.none from rx);exact cr PySem.W.kitx_none I.kIn True.intro e (λz=>nomatch z) h
 |bl y=>cases(show u=ae.bool y from rx);exact cr PySem.W.kitx_bool I.kIn True.intro e (λz=>nomatch z) h
 |int i=>obtain⟨t,q⟩:=(show∃t,u=ae.int i t from rx);cases q;exact cr PySem.W.kitx_int I.kIn True.intro e (λz=>nomatch z) h
 |str y=>obtain⟨t,q⟩:=(show∃t,u=ae.str y t from rx);cases q;exact cr PySem.W.kitx_str I.kIn True.intro e (λz=>nomatch z) h
 |flt y=>obtain⟨t,q⟩:=(show∃t,u=ae.float y t from rx);cases q;exact cr PySem.W.kitx_float I.kIn True.intro e (λz=>nomatch z) h
 |@lst a xs ea=>
  cases(show u=ae.ref a from rx)
  obtain⟨_,_,n,_,h1⟩:=(show dN X.prog X.w H s.heap a (.lst xs)from I.hok a _ ea)
  exact cr jK I.kIn ⟨_,h1,rfl⟩ e (λz=>nomatch z) h
 |@frz a ob xs ea=>
  cases(show u=ae.ref a from rx)
  obtain⟨_,_,_,n,_,h1⟩:=(show dN X.prog X.w H s.heap a (.frz ob (.lst xs))from I.hok a _ ea)
  exact cr jK I.kIn ⟨_,h1,rfl⟩ e (λz=>nomatch z) h
 |@tup a xs ea=>
  cases(show u=ae.ref a from rx)
  obtain⟨_,_,_,p⟩:=(show dN X.prog X.w H s.heap a (.tup xs)from I.hok a _ ea)
  obtain⟨o,h1,h2,_⟩:=p
  exact cr PySem.W.kitx_tuple I.kIn ⟨o,h1,h2⟩ e (λz=>nomatch z) h
 |@dK a cq ea=>
  cases(show u=ae.ref a from rx)
  obtain⟨_,_,vs,_,p⟩:=(show dN X.prog X.w H s.heap a (.dK cq)from I.hok a _ ea)
  obtain⟨o,es,ep,h1,h2,_⟩:=p
  exact cr nZ I.kIn ⟨o,h1,h2.1⟩ e (λz=>nomatch z) h
 |@dT a cq ea=>
  cases(show u=ae.ref a from rx)
  obtain⟨_,_,xs,_,o,es,ep,h1,h2,_⟩:=(show dN X.prog X.w H s.heap a (.dT cq)from I.hok a _ ea)
  exact cr nZ I.kIn ⟨o,h1,h2.1⟩ e (λz=>nomatch z) h
 |@ins a C dx fs ea cl ha hn Kw hm=>
  cases(show u=ae.ref a from rx)
  obtain⟨mA,O,_⟩:=Ff I.hok ea
  obtain⟨od,J,_⟩:=O.look
  exact cr (PySem.W.kitx_own (cl.get _) cl.hd ha hn Kw hm) I.kIn J e (λz=>nomatch z) h
end
end L2
namespace L2
open PySem PySem.Spec PyProof.Rows
structure dY (k:Nat)(A:bq):Prop where
 hd:A.handled=none
 dp:A.depth+3*k+5<recursionLimit
 un:A.units+16*k+200<gE
 gd:A.guards=some []
theorem dY.mono {j k:Nat}{A:bq}(r:dY k A)(h:j<=k):dY j A:=⟨r.hd,by have:=r.dp;omega,by have:=r.un;omega,r.gd⟩
theorem dY.deeper {k:Nat}{A:bq}(r:dY (k+1) A)(env:Env):dY k (A.deeper env) :=
 ⟨r.hd,by have:=r.dp;show A.depth+1+3*k+5<_;omega,by have:=r.un;show A.units+3+16*k+200<_;omega,r.gd⟩
theorem Tl {A:bq}{C:af}{us:List ae}{kw:List (aI×ae)}:(A.under (.builtin "type.__call__" ⟨.ref C::us,kw⟩)).depth=A.depth+1:=by
 first|rfl|simp[bq.under,nP.weight,nP.isCreation,nP.isGuard,nP.isCaller,nP.frames,nP.isFrame,guardIds]
theorem Tn {A:bq}{C:af}{us:List ae}{kw:List (aI×ae)}:(A.under (.builtin "type.__call__" ⟨.ref C::us,kw⟩)).units=A.units+1:=by
 first|rfl|simp[bq.under,nP.cUnits,nP.frames,nP.isFrame]
theorem SV {A:bq}{C:af}{us:List ae}{kw:List (aI×ae)}:(A.under (.builtin "type.__call__" ⟨.ref C::us,kw⟩)).guards=A.guards:=by
 first|rfl|simp[bq.under,nP.guards,nP.isGuard,guardIds,pushGuards]
theorem dY.make {k:Nat}{A:bq}(r:dY (k+1) A)(C:af)(us:List ae)(kw:List (aI×ae)):dY k (A.under (.builtin "type.__call__" ⟨.ref C::us,kw⟩)) :=
 ⟨r.hd,by have:=r.dp;rw[Tl];omega,by have:=r.un;rw[Tn];omega,by rw[SV];exact r.gd⟩
theorem dY.depth {k:Nat}{A:bq}(r:dY k A):A.depth<recursionLimit:=by have:=r.dp;omega
theorem dY.units {k:Nat}{A:bq}(r:dY k A):A.units+64<gE:=by have:=r.un;omega
def Ds:TA:=λ_ H Q=>Q [] H
def Dn (ta:TE)(tr:TA):TA:=λσ H Q=>ta σ H λx H1=>tr σ H1 λxs H2=>Q (x::xs) H2
section
variable {X:Cx}{e:Expr}{es:List Expr}{te:TE}{t:TA}{pos:cA}
theorem xT:PA X [] Ds:=λ_ _ _ _ H Q I h=>Calls.spliced_nil ⟨[],H,I,.nil,h⟩
theorem vc (ha:PE X e te)(hr:PA X es t)(hs:aq (e::es) X.env=(false,bN e X.env)::aq es X.env:=by rfl):PA X (e::es) (Dn te t):=by
 intro pos aj s σ H Q I h
 rw[hs]
 show bg _ _ (spliced ((false,bN e X.env)::cC pos (aq es X.env))) _ _ s
 refine Calls.spliced_cons (de (ha aj s σ H _ I h) λu s1 di=>?_)
 obtain⟨x,H1,I1,r1,q1⟩:=di
 exact de (hr pos aj s1 σ H1 _ I1 q1) λus s2 ⟨xs,H2,I2,r2,q2⟩=>⟨x::xs,H2,I2,.cons r1 r2,q2⟩
def Im (t:TA):TE:=λσ H Q=>t σ H λxs H1=>xs.length<=sizeLine/\∀p,H1 p=none->Q (.ref p) (upd H1 p (.tup xs))
def Ih (t:TA):TE:=λσ H Q=>t σ H λxs H1=>xs.length<=sizeLine/\∀p,H1 p=none->Q (.ref p) (upd H1 p (.lst xs))
theorem Xm {x1}(h:PA X es t):PE X (.Tuple es x1 pos) (Im t):=by
 intro aj s σ H Q I hq
 refine wpAny_Tuple_spliced (de (h pos aj s σ H _ I hq) λus s1 ⟨xs,H1,I1,r,z,q⟩=>⟨by rw[←r.length];exact z,?_⟩)
 have hf:H1 s1.heap.objs.size=none:=I1.hok.fresh (aG _)
 refine⟨.ref s1.heap.objs.size,upd H1 s1.heap.objs.size (.tup xs),I1.laid (t':=s1.toks) (λb u e=>aC _ e) (aG _) ?_,rfl,q _ hf⟩
 exact⟨z,us,r,⟨_,bB _ rfl,rfl,_,rfl⟩⟩
theorem Xn (h:PA X es t):PE X (.List es pos) (Ih t):=by
 intro aj s σ H Q I hq
 refine wpAny_List_spliced (de (h pos aj s σ H _ I hq) λus s1 ⟨xs,H1,I1,r,z,q⟩=>⟨by rw[←r.length];exact z,?_⟩)
 have hf:H1 s1.heap.objs.size=none:=I1.hok.fresh (aG _)
 refine⟨.ref s1.heap.objs.size,upd H1 s1.heap.objs.size (.lst xs),I1.laid (t':=s1.toks) (λb u e=>aC _ e) (aG _) ?_,rfl,q _ hf⟩
 exact⟨z,us,0,r,bB _ rfl⟩
end
abbrev Sp:=List V->Hp->VK->XK->Prop
abbrev pY:=List Env->Hp->ak->XK->ae->ak->Prop
structure n4 (P:aX)(w:bz)(K:aa)(mg:aI->Option ae)(base:aS)(A:bq)(outer:List Env)(s:ak)(H:Hp):Prop where
 frames:A.frames=some outer
 mod:Mod K mg base
 bs:∀b o,base.get? b=some o->s.heap.get? b=some o/\H b=none
 bsz:base.objs.size<=s.heap.objs.size
 funs:s.heap.FunFrames base outer
 frf:∀b∈qL outer,H b=none
 hok:jM P w H s.heap
 bare:AllBare s.gens
def CE (outer:List Env)(P:aX)(w:bz)(H:Hp)(s:ak)(Q:VK)(u:ae)(s':ak):Prop :=
 ∃v H',s'.os=s.os/\AllBare s'.gens/\Un (qL outer) [] H H' s.heap s'.heap/\jM P w H' s'.heap/\RelV v u/\Q v H'
def CR (CX:pY)(outer:List Env)(P:aX)(w:bz)(H:Hp)(s:ak)(Q:VK)(E:XK)(r:Result)(s':ak):Prop :=
 match r with
 |.ok (.ret u)=>CE outer P w H s Q u s'
 |.ok _=>False
 |.error e=>CX outer H s E e s'
structure cH (P:aX)(w:bz)(K:aa)(mg:aI->Option ae)(base:aS)(CX:pY)(k:Nat)(f:af)(fd:aF)(ps:List aI)(sp:Sp):Prop where
 len:∀vs H Q E,sp vs H Q E->vs.length=ps.length
 run:∀(A:bq) (outer:List Env) (s:ak) (H:Hp) (args:Args) (us:List ae) (vs:List V) (Q:VK) (E:XK),dY k A->n4 P w K mg base A outer s H->nc s fd args (ps.zip us)->bQ vs us->sp vs H Q E ->
  gK (aZ P w) A (.call (.ref f) args) (CR CX outer P w H s Q E) s
theorem n4.make {P:aX}{w:bz}{K:aa}{mg:aI->Option ae}{base:aS}{A:bq}{outer:List Env}{s:ak}{H:Hp}(e:n4 P w K mg base A outer s H)(C:af)(us:List ae)(kw:List (aI×ae)) :
  n4 P w K mg base (A.under (.builtin "type.__call__" ⟨.ref C::us,kw⟩)) outer s H:=⟨by first|exact e.frames|(simpa[bq.under,nP.envs,nP.isFrame,pushEnvs]using e.frames),e.mod,e.bs,e.bsz,e.funs,e.frf,e.hok,e.bare⟩
section
variable {X:Cx}{aj:List (af×cN)}{σ:St}{H:Hp}{s s':ak}
theorem Inv.env0 (I:Inv X aj σ H s):n4 X.prog X.w X.K X.mg X.base X.A X.stack s H :=
 ⟨I.ok.frames,I.ok.mod,I.bs,bK I.ok.bsz I.sz,I.stack,I.stkFree,I.hok,I.bare⟩
theorem Inv.after {Q:VK}{u:ae}(I:Inv X aj σ H s)(h:CE X.stack X.prog X.w H s Q u s'):EP X aj σ Q u s':=by
 obtain⟨v,H',os,bare,un,hok,r,q⟩:=h
 obtain⟨hh,g,d,t,QX⟩:=s'
 obtain rfl:QX=s.os:=os
 exact⟨v,H',I.call (h':=hh) (g':=g) (d':=d) (t':=t) (ch:=[]) un hok bare (λb z=>absurd z (by simp)),r,q⟩
end
def t6 (sp:Sp)(hV:List V)(E:XK)(t:TA):TE:=λσ H Q=>t σ H λvs H1=>sp (vs++hV) H1 Q E
def t7 (C:af)(m:aI)(sp:Sp)(hV:List V)(E:XK)(ta:TE)(t:TA):TE:=λσ H Q=>ta σ H λx H1=>∃a dx fs,x=.ref a/\H1 a=some (.ins C dx fs)/\fs.lookup m=none /\
 t σ H1 λvs H2=>sp (x::(vs++hV)) H2 Q E
def Dp (C:af)(sp:Sp)(hV:List V)(E:XK)(t:TA):TE:=λσ H Q=>t σ H λvs H1=>∀x dx,H1 x=none->H1 dx=none->dx≠x ->
 sp (.ref x::(vs++hV)) (upd (upd H1 dx (.own x)) x (.ins C dx [])) (λv H2=>v=.non/\Q (.ref x) H2) E
def bJ (K:aa)(fd:aF)(ps:List aI)(ds:List ae):Prop :=
 ∀(s:ak) (us:List ae),K.In s.heap->(us++ds).length=ps.length->nc s fd ⟨us,[]⟩ (ps.zip (us++ds))
theorem bJ.all {K:aa}{fd:aF}{ps:List aI}(h:∀us:List ae,us.length=ps.length->bindArgs fd ⟨us,[]⟩=pure (ps.zip us)):bJ K fd ps []:=λs us _ hl=>by
 rw[bY]at hl ⊢
 exact .of_eq (h us hl)
def iE (CX:pY)(X:Cx)(E:XK):Prop:=∀(aj:List (af×cN)) (σ:St) (H:Hp) (s:ak) (e:ae) (s':ak),Inv X aj σ H s->CX X.stack H s E e s'->X.xe e s'
section
variable {X:Cx}{CX:pY}{k:Nat}{f C:af}{fd:aF}{ps:List aI}{sp:Sp}{hV:List V}{ds:List ae}{E:XK}{x m:aI}{p pos cY:cA}{e o:Expr}{es:List Expr}{ta:TE}{t:TA}
theorem Fv {aj:List (af×cN)}{σ:St}{H:Hp}{s:ak}{Q:VK}{us:List ae}{vs:List V}(F:cH X.prog X.w X.K X.mg X.base CX k f fd ps sp)(hr:dY k X.A)(hb:bJ X.K fd ps ds)(hd:bQ hV ds)(hx:iE CX X E)
  (I:Inv X aj σ H s) (r:bQ vs us) (h:sp (vs++hV) H Q E):bg (aZ X.prog X.w) X.A (call (.ref f) us) (EP X aj σ Q) X.xe s:=by
 have r2:bQ (vs++hV) (us++ds):=r.append hd
 have hl:(us++ds).length=ps.length:=by rw[←r2.length];exact F.len _ _ _ _ h
 refine wpAny_call (lK (F.run X.A X.stack s H ⟨us,[]⟩ (us++ds) (vs++hV) Q E hr I.env0 (hb s us I.kIn hl) r2 h) λr s' hq=>?_)
 cases r with
 |error e=>exact hx aj σ H s e s' I hq
 |ok fl=>
  cases fl with
  |ret u=>exact I.after hq
  |next=>exact False.elim hq
  |brk=>exact False.elim hq
  |cont=>exact False.elim hq
theorem MF (F:cH X.prog X.w X.K X.mg X.base CX k f fd ps sp)(hr:dY k X.A)(hg:Gl X x)(hm:X.mg x=some (.ref f))(hk:ap X.K (.ref f)=true)(hb:bJ X.K fd ps ds)(hd:bQ hV ds)(hx:iE CX X E)
  (ha:PA X (e::es) t) (lx:(x==("__debug__":aI))=false:=by decide) (he:aq (e::es) X.env=(false,bN e X.env)::aq es X.env:=by rfl) (gb:(cC pos (aq es X.env)).any (·.1)=false:=by rfl) :
  PE X (.Call (.Name x p) (e::es) [] pos) (t6 sp hV E t):=by
 intro aj s σ H Q I h
 refine eX (Fc I hg hm ?_ lx)
 refine fX (h₀:=X.base) I.ok.mod.kin hk (de (ha pos aj s σ H _ I h) λus s1 ⟨vs,H1,I1,r,q⟩=>⟨I1.kIn,?_⟩) he gb
 exact Fv F hr hb hd hx I1 r q
theorem VL {pl:ik Bool}(he:PE X o ta)(c:kB X.K C)(hm:oe X.K C m f)(F:cH X.prog X.w X.K X.mg X.base CX k f fd ps sp)(hr:dY k X.A)(hb:bJ X.K fd ps ds)(hd:bQ hV ds)(hx:iE CX X E)(ha:PA X (e::es) t)
  (nE:aq (e::es) X.env=(false,bN e X.env)::aq es X.env:=by rfl) (gb:(cC pos (aq es X.env)).any (·.1)=false:=by rfl)
  (ht:bN (.Call (.Attribute o m cY) (e::es) [] pos) X.env=(do
   let ov ← bN o X.env
   eT cY.atName
   let(f,first) ← dg [ov] (fW ov m pl)
   iP pos f first (cC pos (aq (e::es) X.env)) (eQ pos (dC [] X.env))):=by rfl) :
  PE X (.Call (.Attribute o m cY) (e::es) [] pos) (t7 C m sp hV E ta t):=by
 intro aj s σ H Q I h
 refine eU (pl:=pl) (de (he aj s σ H _ I h) λu s1 ⟨x,H1,I1,rx,a,dx,fs,ex,ea,l,q⟩=>?_) ht
 subst ex
 obtain rfl:u=ae.ref a:=rx
 refine qk I1 ea c hm l ?_
 refine fX (first:=[.ref a]) (h₀:=X.base) I.ok.mod.kin hm.kp (de (ha pos aj s1 σ H1 _ I1 q) λus s2 ⟨vs,H2,I2,r,q2⟩=>⟨I2.kIn,?_⟩) nE gb
 exact Fv (us:=.ref a::us) (vs:=.ref a::vs) F hr hb hd hx I2 (.cons rfl r) q2
theorem Ur {pl:ik Bool}(he:PE X o ta)(c:kB X.K C)(hm:oe X.K C m f)(F:cH X.prog X.w X.K X.mg X.base CX k f fd ps sp)(hr:dY k X.A)(hb:bJ X.K fd ps ds)(hd:bQ hV ds)(hx:iE CX X E)
  (ht:bN (.Call (.Attribute o m cY) [] [] pos) X.env=(do
   let ov ← bN o X.env
   eT cY.atName
   let(f,first) ← dg [ov] (fW ov m pl)
   iP pos f first (cC pos (aq [] X.env)) (eQ pos (dC [] X.env))):=by rfl) :
  PE X (.Call (.Attribute o m cY) [] [] pos) (t7 C m sp hV E ta Ds):=by
 intro aj s σ H Q I h
 refine eU (pl:=pl) (de (he aj s σ H _ I h) λu s1 ⟨x,H1,I1,rx,a,dx,fs,ex,ea,l,q⟩=>?_) ht
 subst ex
 obtain rfl:u=ae.ref a:=rx
 refine qk I1 ea c hm l ?_
 exact PySem.W.callWith_K0 (first:=[.ref a]) I1.kIn hm.kp (Fv (us:=[.ref a]) (vs:=[.ref a]) F hr hb hd hx I1 (.cons rfl .nil) q)
structure Mk (K:aa)(C f:af):Prop where
 makes:dc K C=true
 init:ao K (.ref C) "__init__"=some (some (.ref f))
 fn:cm K (.ref f)=true
 kp:ap K (.ref C)=true
theorem Us {aj:List (af×cN)}{σ:St}{H:Hp}{s:ak}{Q:VK}{us:List ae}{vs:List V}(M:Mk X.K C f)(F:cH X.prog X.w X.K X.mg X.base CX k f fd ps sp)(hr:dY (k+1) X.A)(hb:bJ X.K fd ps ds)(hd:bQ hV ds)
  (hx:iE CX X E) (I:Inv X aj σ H s) (r:bQ vs us)
  (h:∀x dx,H x=none->H dx=none->dx≠x->sp (.ref x::(vs++hV)) (upd (upd H dx (.own x)) x (.ins C dx [])) (λv H2=>v=.non/\Q (.ref x) H2) E) :
  bg (aZ X.prog X.w) X.A (call (.ref C) us) (EP X aj σ Q) X.xe s:=by
 have hq:=h (s.heap.objs.size+1) s.heap.objs.size (I.hok.fresh (fN _)) (I.hok.fresh (aG _)) (bt (fI _))
 have I2:=Inv.made (C:=C) I
 have r2:bQ (V.ref (s.heap.objs.size+1)::(vs++hV)) (ae.ref (s.heap.objs.size+1)::(us++ds)):=.cons rfl (r.append hd)
 have hl:(ae.ref (s.heap.objs.size+1)::us++ds).length=ps.length:=by
  have e:=r2.length
  rw[F.len _ _ _ _ hq]at e
  exact e.symm
 refine wpAny_call (Uq (f:=f) I.kIn M.makes M.init (beq_iff_eq.mp M.fn) (lK (F.run _ X.stack _ _ ⟨ae.ref (s.heap.objs.size+1)::us,[]⟩ (ae.ref (s.heap.objs.size+1)::(us++ds)) _ _ E (hr.make C us [])
  (I2.env0.make C us []) (hb _ (ae.ref (s.heap.objs.size+1)::us) I2.kIn hl) r2 hq) λr s' sr=>?_))
 cases r with
 |error e=>exact hx aj σ _ _ e s' I2 sr
 |ok fl=>
  cases fl with
  |ret u=>
   obtain⟨v,H',I3,rv,ev,q3⟩:=I2.after sr
   subst ev
   exact⟨rv,⟨V.ref (s.heap.objs.size+1),H',I3,rfl,q3⟩⟩
  |next=>exact False.elim sr
  |brk=>exact False.elim sr
  |cont=>exact False.elim sr
theorem VM (M:Mk X.K C f)(F:cH X.prog X.w X.K X.mg X.base CX k f fd ps sp)(hr:dY (k+1) X.A)(hg:Gl X x)(hm:X.mg x=some (.ref C))(hb:bJ X.K fd ps ds)(hd:bQ hV ds)(hx:iE CX X E)
  (ha:PA X (e::es) t) (lx:(x==("__debug__":aI))=false:=by decide) (he:aq (e::es) X.env=(false,bN e X.env)::aq es X.env:=by rfl) (gb:(cC pos (aq es X.env)).any (·.1)=false:=by rfl) :
  PE X (.Call (.Name x p) (e::es) [] pos) (Dp C sp hV E t):=by
 intro aj s σ H Q I h
 refine eX (Fc I hg hm ?_ lx)
 refine fX (h₀:=X.base) I.ok.mod.kin M.kp (de (ha pos aj s σ H _ I h) λus s1 ⟨vs,H1,I1,r,q⟩=>⟨I1.kIn,?_⟩) he gb
 exact Us M F hr hb hd hx I1 r q
end
section
variable {X:Cx}{CX:pY}{k:Nat}{f C:af}{fd:aF}{ps ks:List aI}{sp:Sp}{E:XK}{x m:aI}{p pos cY wO:cA}{e o:Expr}{es:List Expr}{kws:List iq}{te ta:TE}{t tk:TA}{nm:Option aI}
variable {g:List ae->List ae->List ae}{gV:List V->List V->List V}
end
structure bA (N P:List aI)(sc:fm):Prop where
 kind:sc.kind=.function
 co:sc.isCoroutine=false
 gen:sc.isGenerator=false
 nd:N.Nodup
 pre:N.take P.length=P
 par:∀x∈P,sc.names.lookup x=some .local\/sc.names.lookup x=some .cell
 nofree:∀y∈sc.names,y.2≠.free
theorem LI {kindOf:aI->Option bi}{x:aI}:∀{binds:List (aI×ae)} {m:aI->Option ae},(∀v,(x,v)∉binds)->pC kindOf binds m x=m x
 |[],_,_=>rfl
 |(n,v)::r,m,h=>by
  unfold pC
  rw[LI λw hw=>h w (ai _ hw)]
  split
  ·have:x≠n:=by rintro rfl;exact h v ah
   simp[this]
  ·rfl
theorem LJ {kindOf:aI->Option bi}{x:aI}:∀{binds:List (aI×ae)} {m:aI->Option ae},(∀v,(x,v)∉binds)->pB kindOf binds m x=m x
 |[],_,_=>rfl
 |(n,v)::r,m,h=>by
  unfold pB
  rw[LJ λw hw=>h w (ai _ hw)]
  split
  ·rfl
  ·have:x≠n:=by rintro rfl;exact h v ah
   simp[this]
theorem LL {kindOf:aI->Option bi}{x:aI}{v:ae}:∀{P:List aI} {vs:List ae} {i:Nat} {m:aI->Option ae},P.Nodup->P[i]?=some x->vs[i]?=some v->kindOf x=some .local ->
  pC kindOf (P.zip vs) m x=some v
 |[],_,_,_,_,h,_,_=>by simp at h
 |_::_,[],_,_,_,_,h,_=>by simp at h
 |p::P,w::vs,0,m,nd,h1,h2,hk=>by
  simp at h1 h2;subst h1;subst h2
  show pC kindOf ((p,w)::P.zip vs) m p=_
  unfold pC
  rw[LI λv hv=>(aY.mp nd).1 (fS hv).1,if_pos hk]
  simp
 |p::P,w::vs,i+1,m,nd,h1,h2,hk=>by
  show pC kindOf ((p,w)::P.zip vs) m x=_
  unfold pC
  exact LL (i:=i) (aY.mp nd).2 (by simpa using h1) (by simpa using h2) hk
theorem LM {kindOf:aI->Option bi}{x:aI}{v:ae}:∀{P:List aI} {vs:List ae} {i:Nat} {m:aI->Option ae},P.Nodup->P[i]?=some x->vs[i]?=some v->kindOf x≠some .local ->
  pB kindOf (P.zip vs) m x=some v
 |[],_,_,_,_,h,_,_=>by simp at h
 |_::_,[],_,_,_,_,h,_=>by simp at h
 |p::P,w::vs,0,m,nd,h1,h2,hk=>by
  simp at h1 h2;subst h1;subst h2
  show pB kindOf ((p,w)::P.zip vs) m p=_
  unfold pB
  rw[LJ λv hv=>(aY.mp nd).1 (fS hv).1,if_neg hk]
  simp
 |p::P,w::vs,i+1,m,nd,h1,h2,hk=>by
  show pB kindOf ((p,w)::P.zip vs) m x=_
  unfold pB
  exact LM (i:=i) (aY.mp nd).2 (by simpa using h1) (by simpa using h2) hk
def start (N:List aI)(vs:List V):St:=vs.map some++av (N.length-vs.length) none
def lS (CX:pY)(P:aX)(w:bz)(K:aa)(mg:aI->Option ae)(base:aS)(N:List aI)(qual:aI)(scope:fm)(f:af)(cd:ae)(A:bq)(outer:List Env)(s:ak)(H:Hp)(E:XK):Cx where
 prog:=P
 w:=w
 K:=K
 mg:=mg
 base:=base
 A:=A.deeper (envOfC qual scope s.heap.objs.size f cd)
 N:=N
 s₀:=s
 H₀:=H
 env:=envOfC qual scope s.heap.objs.size f cd
 outer:=outer
 stack:=envOfC qual scope s.heap.objs.size f cd::outer
 ex:=[]
 calm:=true
 fn:=λ_=>true
 pn:=[]
 xe:=λe s'=>bg (aZ P w) (A.deeper (envOfC qual scope s.heap.objs.size f cd)) (leaving (envOfC qual scope s.heap.objs.size f cd) e) (λ_ s''=>CX outer H s E e s'') (λe' s''=>CX outer H s E e' s'') s'
theorem Mg {sc:fm}{n:Nat}{x:aI}(h:sc.names.lookup x=some .cell):∃c,(cellsFrom n sc.names []).lookup x=some c:=by
 have q:=gQ sc.names n [] (.inl h)
 exact lO.mp q
theorem TX {CX:pY}{P:aX}{w:bz}{K:aa}{mg:aI->Option ae}{base:aS}{N ps:List aI}{qual:aI}{scope:fm}{f:af}{cd:ae}{A:bq}{outer:List Env}{s s1:ak}{H:Hp}{E:XK}{us:List ae}{vs:List V}
  (S:bA N ps scope) (hd:A.handled=none) (e0:n4 P w K mg base A outer s H) (hl:vs.length=ps.length) (r:bQ vs us)
  (x:InCallC s s.heap.objs.size (pC (envOfC qual scope s.heap.objs.size f cd).kindOf (ps.zip us) λ_=>none) (cellsFrom (s.heap.objs.size+1) scope.names []) (pB (envOfC qual scope s.heap.objs.size f cd).kindOf (ps.zip us) λ_=>none) s1) :
  Inv (lS CX P w K mg base N qual scope f cd A outer s H E) [] (start N vs) H s1:=by
 have gb:ps.length<=N.length:=by have:=congrArg nX S.pre;rw[dw]at this;omega
 obtain⟨h1,tk,rfl,hk⟩:=x.done
 have CA:∀b:af,b∉(lS CX P w K mg base N qual scope f cd A outer s H E).ex:=λb z=>absurd (show b∈([]:List af)from z) (by simp)
 refine⟨⟨e0.mod,S.kind,rfl,rfl,aG _,λy z c h1 h2=>?_,λy hy=>?_,λy c _ h=>?_,λ_=>hd,bq.frames_deeper e0.frames,.inr ⟨rfl,rfl⟩,λb z=>absurd z (CA b),e0.bs,e0.bsz,λb _ _=>CA b,λb z=>absurd z (CA b),e0.funs,e0.frf⟩,
  rfl,e0.bare,Un.kept hk,⟨_,x.toInCall.ns,λi y v h1 h2 h3=>?_⟩,λy c h=>⟨_,x.cell y c h⟩,e0.hok.fresh (aG _),λy c h=>?_,λp hp=>absurd (show p∈([]:List (af×cN))from hp) (by simp),e0.hok.kept hk,?_⟩
 ·exact name_of_addr x.apart (PySem.mem_of_lookup h1) (PySem.mem_of_lookup h2)
 ·have hy:scope.names.lookup y=some .cell\/scope.names.lookup y=some .free:=hy
  rcases hy with hy|hy
  ·exact Mg hy
  ·exact absurd rfl (S.nofree _ (PySem.mem_of_lookup hy))
 ·exact ko (x.above y c (PySem.mem_of_lookup h))
 ·have hi:i<vs.length:=by
   unfold start at h2
   by_cases hi:i<vs.length
   ·exact hi
   ·rw[bT (by simpa using hi)]at h2
    rw[eL]at h2
    split at h2<;>cases h2
  have ha:vs[i]?=some v:=by
   unfold start at h2
   rw[bw (by simpa using hi),bj]at h2
   cases e:vs[i]? with
   |none=>rw[e]at h2;cases h2
   |some a=>rw[e]at h2;cases h2;rfl
  obtain⟨u,hu,rv⟩:=r.get ha
  have hp:ps[i]?=some y:=by
   rw[←S.pre,eD (by omega)];exact h1
  have KM:ps.Nodup:=by rw[←S.pre];exact S.nd.sublist (List.take_sublist _ _)
  refine⟨u,rv,?_⟩
  rcases S.par y (nY hp)with k|k
  ·exact .inl ⟨k,LL KM hp hu k⟩
  ·obtain⟨c,e⟩:=Mg (n:=s.heap.objs.size+1) k
   refine .inr ⟨.inl k,c,e,?_⟩
   have q:=x.cell y c e
   rw[LM KM hp hu (by show scope.names.lookup y≠_;rw[k];decide)]at q
   exact q
 ·exact e0.hok.fresh (ko (x.above y c (PySem.mem_of_lookup h)))
 ·unfold start
  show _=N.length
  rw[aR,aE,cR]
  omega
theorem YC {CX:pY}{P:aX}{w:bz}{K:aa}{mg:aI->Option ae}{base:aS}{k:Nat}{f:af}{name qual:aI}{params:Arguments}{body:List bI}{scope:fm}{dV kV doc pm gz ct oc:ae}{an od:Option af}
    {wX:Array (Option ae)} {N ps:List aI} {sp:Sp} (lk:K.lookup f=some ⟨oc,od,.func (fO name qual params body scope dV kV doc pm an gz ct),wX⟩) (gG:aA K gz qual=true) (S:bA N ps scope)
    (len:∀vs H Q E,sp vs H Q E->vs.length=ps.length)
    (qO:∀(A:bq) (outer:List Env) (s:ak) (H:Hp) (vs:List V) (Q:VK) (E:XK),dY k (A.deeper (envOfC qual scope s.heap.objs.size f gz))->sp vs H Q E ->
      ∃t,oh (lS CX P w K mg base N qual scope f gz A outer s H E) body t/\t { nx:=λ_ H'=>Q .non H',rt:=Q } (start N vs) H) :
    cH P w K mg base CX (k+1) f (fO name qual params body scope dV kV doc pm an gz ct) ps sp:=by
  refine⟨len,λA outer s H args us vs Q E hr e0 hb r tO=>?_⟩
  have hl:=len _ _ _ _ tO
  have KX:K.In s.heap:=e0.mod.kin.keeps λb o e=>(e0.bs b o e).1
  have lim:s.heap.NoLimit:=e0.mod.nolimit.keeps λb o e=>(e0.bs b o e).1
  have BB:∀y∈ps.zip us,scope.names.lookup y.1=some .local\/(scope.names.lookup y.1=some .cell/\((cellsFrom (s.heap.objs.size+1) scope.names []).lookup y.1).isSome=true):=λ⟨n,v⟩ hy=>by
    rcases S.par n (fS hy).1 with q|q
    · exact .inl q
    · exact .inr ⟨q,gQ _ _ _ (.inl q)⟩
  refine codeAny_call_function hr.depth (KX _ _ lk) rfl S.co S.gen rfl (PySem.W.codeRec_of KX gG) (hb _ _ _ _ ?_)
  refine wpAny_newFunctionEnv_cells S.kind BB λenv he s1 x=>?_
  subst he
  refine⟨lim.keeps x.toInCall.keep,codeAny_func ?_⟩
  obtain⟨t,ht,hq⟩:=qO A outer s H vs Q E (hr.deeper _) tO
  have I:Inv (lS CX P w K mg base N qual scope f gz A outer s H E) [] (start N vs) H s1:=TX S hr.hd e0 hl r x
  refine dW (ht [] s1 (start N vs) H _ I hq) (λfl s' hs=>?_) λe s' hs=>hs
  have fin:∀{σ':St} {H':Hp} {v:V} {u:ae},Inv (lS CX P w K mg base N qual scope f gz A outer s H E) [] σ' H' s'->RelV v u->Q v H'->CE outer P w H s Q u s' :=
    λ{σ' H' v u} J rv q=>⟨v,H',J.os,J.bare,J.base,J.hok,rv,q⟩
  cases fl with
  |ret u=>
    obtain⟨v,σ',H',J,rv,q⟩:=hs
    exact fin J rv q
  |next=>
    obtain⟨σ',H',J,q⟩:=hs
    exact fin (v:=V.non) (u:=ae.none) J rfl q
  |brk=>
    obtain⟨_,_,_,q⟩:=hs
    exact False.elim q
  |cont=>
    obtain⟨_,_,_,q⟩:=hs
    exact False.elim q
end L2
namespace L2
open PySem PySem.Spec PyProof.Rows
section
variable {X:Cx}{x:aI}{p pos:cA}{e:Expr}{es:List Expr}{t:TA}{id T:String}{r:List V->Hp->VK->Prop}
def Lb (r:List V->Hp->VK->Prop)(t:TA):TE:=λσ H Q=>t σ H λvs H1=>r vs H1 Q
theorem II (hc:eM X (.builtin id) r)(hg:Gl X x)(hm:X.mg x=none)(hv:bU x=some (.builtin id))(ha:PA X (e::es) t)(hn:x≠"__name__":=by decide)(lx:(x==("__debug__":aI))=false:=by decide)
  (he:aq (e::es) X.env=(false,bN e X.env)::aq es X.env:=by rfl) (gb:(cC pos (aq es X.env)).any (·.1)=false:=by rfl):PE X (.Call (.Name x p) (e::es) [] pos) (Lb r t):=by
 intro aj s σ H Q I h
 refine eX (xS I hg hm hv ?_ hn lx)
 exact PyProof.Rows.callWith_builtin1 (de (ha pos aj s σ H _ I h) λus s1 ⟨vs,H1,I1,r1,q1⟩=>hc aj s1 σ H1 vs us Q I1 r1 q1) he gb
theorem TY (hc:eM X (.type T) r)(hg:Gl X x)(hm:X.mg x=none)(hv:bU x=some (.type T))(ha:PA X (e::es) t)(hn:x≠"__name__":=by decide)(lx:(x==("__debug__":aI))=false:=by decide)
  (he:aq (e::es) X.env=(false,bN e X.env)::aq es X.env:=by rfl) (gb:(cC pos (aq es X.env)).any (·.1)=false:=by rfl):PE X (.Call (.Name x p) (e::es) [] pos) (Lb r t):=by
 intro aj s σ H Q I h
 refine eX (xS I hg hm hv ?_ hn lx)
 exact fk (de (ha pos aj s σ H _ I h) λus s1 ⟨vs,H1,I1,r1,q1⟩=>hc aj s1 σ H1 vs us Q I1 r1 q1) he gb
end
end L2
namespace HT
open PySem PyProof.Rows
section
open PySem.SeqAt
open PySem.AutoSeq1 (wpAny_loadPart')
open PySem.MeetsSeq PySem.MeetsSeq2 PySem.MeetsSeq3
end
section
variable {prog:aX}{w:bz}{A:bq}{E:ae->ak->Prop}{s:ak}
theorem cat_tup {t b:af}{vs ws:List ae}{Q:ae->ak->Prop}(ht:IsTup s.heap t vs.toArray)(hb:IsTup s.heap b ws.toArray)(hv:vs≠[])
    (h1:ws=[]->Q (.ref t) s) (h2:ws≠[]->Q (.ref s.heap.objs.size) { s with heap:=s.heap.push { cls:=.type "tuple",data:=.seq (vs++ws).toArray } })
    (hsz:vs.length+ws.length<=sizeLine):bg (aZ prog w) A (dG .Add (.ref t) (.ref b)) Q E s:=by
  obtain⟨⟨cls,dd,data,sl⟩,ho,hc,n,hd⟩:=id ht
  obtain⟨⟨Ge,D5,data2,Di⟩,Eo,p6,n2,hd2⟩:=id hb
  simp only at hc hd p6 hd2
  subst hc hd p6 hd2
  have e:vs.toArray++ws.toArray=(vs++ws).toArray:=by simp
  by_cases hw:ws=[]
  · exact pV ⟨_,ho,rfl⟩ ⟨_,Eo,rfl⟩ noFill_tuple_add seq_tuple_add PySem.F.slot_tuple_add PySem.F.entry_tuple_add (PySem.F.args_tuple_add_2 _ _)
      (tuple_addW1 t b vs.toArray ws.toArray n n2 dd D5 sl Di (by simpa using hv) (by simp[hw])) ⟨ho,Eo,h1 hw⟩
  · refine pV ⟨_,ho,rfl⟩ ⟨_,Eo,rfl⟩ noFill_tuple_add seq_tuple_add PySem.F.slot_tuple_add PySem.F.entry_tuple_add (PySem.F.args_tuple_add_2 _ _)
      (tuple_addW2 t b vs.toArray ws.toArray n n2 dd D5 sl Di (by simpa using hv) (by simpa using hw) (by rw[aD,aD];exact hsz)) ⟨ho,Eo,?_⟩
    rw[e]
    exact h2 hw
def sIx (n d:Nat):Option Int->Nat
 |none=>d
 |some v=>if v<0 then(v+(n:Int)).toNat else min v.toNat n
theorem sIx_none (n d:Nat):sIx n d none=d:=rfl
theorem sIx_nat (n d k:Nat):sIx n d (some (k:Int))=min k n:=by
 show(if(k:Int)<0 then((k:Int)+(n:Int)).toNat else min (k:Int).toNat n)=min k n
 rw[if_neg (by omega),Int.toNat_natCast]
end
end HT
namespace L2
open PySem PySem.Spec PyProof.Rows
abbrev TO:=St->Hp->(Option Int->Hp->Prop)->Prop
def PO (X:Cx)(e:Option Expr)(t:TO):Prop :=
 ∀(aj:List (af×cN)) (s:ak) (σ:St) (H:Hp) (Q:Option Int->Hp->Prop),Inv X aj σ H s->t σ H Q ->
  bg (aZ X.prog X.w) X.A (evalPart e X.env) (λu s'=>∃o H',Inv X aj σ H' s'/\IsPart u o/\Q o H') X.xe s
def sN:TO:=λ_ H Q=>Q none H
def Dv (t:TE):TO:=λσ H Q=>t σ H λx H1=>∃i,x=.int i/\Q (some i) H1
theorem To {ns:List Int}:∀{us:List ae},bQ (ns.map V.int) us->IntsAre us ns:=by
 induction ns with
 |nil=>intro us r;rw[kb]at r;cases r;exact .nil
 |cons n ns ih=>
  intro us r
  rw[br]at r
  cases r with
  |cons r1 r2=>
   obtain⟨t,e⟩:=r1
   subst e
   exact .cons n t (ih r2)
section
variable {X:Cx}{e:Expr}{te:TE}{lo hi:Option Expr}{tl th:TO}{pos p2:cA}
theorem VN:PO X none sN:=by
 intro aj s σ H Q I h
 rw[evalPart_none]
 exact bF ⟨none,H,I,.none,h⟩
theorem VO (h:PE X e te):PO X (some e) (Dv te):=by
 intro aj s σ H Q I hw
 rw[evalPart_some]
 refine de (h aj s σ H _ I hw) λu s1 di=>?_
 obtain⟨x,H1,I1,r1,q1⟩:=di
 obtain⟨i,rfl,q⟩:=q1
 obtain⟨t,rfl⟩:=r1
 exact⟨some i,H1,I1,.int i t,q⟩
def JF (X:Cx)(r:V->Option Int->Option Int->Hp->VK->Prop):Prop :=
 ∀(aj:List (af×cN)) (s:ak) (σ:St) (H:Hp) (x:V) (v vl vu:ae) (lo hi:Option Int) (sl:af) (Q:VK),Inv X aj σ H s->RelV x v->s.heap.IsSliceOf sl vl vu .none->IsPart vl lo->IsPart vu hi->r x lo hi H Q ->
  ∃T id,typeLookup (.type T) "__getitem__"=pure (some (.builtin id))/\s.TypeIs v T/\bg (aZ X.prog X.w) X.A (getItem v (.ref sl)) (EP X aj σ Q) X.xe s
def RL (r:V->Option Int->Option Int->Hp->VK->Prop)(te:TE)(tl th:TO):TE:=λσ H Q=>te σ H λx H1=>tl σ H1 λl H2=>th σ H2 λu H3=>r x l u H3 Q
theorem Ut {r:V->Option Int->Option Int->Hp->VK->Prop}(hr:JF X r)(he:PE X e te)(hl:PO X lo tl)(hu:PO X hi th):PE X (.Subscript e (.Slice lo hi none p2) pos) (RL r te tl th):=by
  intro aj s σ H Q I h
  refine Subscript_ (de (he aj s σ H _ I h) λv s1 di=>?_)
  obtain⟨x,H1,I1,r1,q1⟩:=di
  refine wpAny_Slice (de (hl aj s1 σ H1 _ I1 q1) λvl s2 ⟨l,H2,I2,pl,q2⟩=>de (hu aj s2 σ H2 _ I2 q2) λvu s3 di=>?_)
  obtain⟨u,H3,I3,pu,q3⟩:=di
  rw[evalPart_none]
  refine bF ?_
  have I4:Inv X aj σ H3 { s3 with heap:=s3.heap.push { cls:=.type "slice",data:=.fields #[vl,vu,.none] } }:=I3.kept (t':=s3.toks) λb ob q=>aC _ q
  obtain⟨T,id,hT,ht,hg⟩:=hr aj { s3 with heap:=s3.heap.push { cls:=.type "slice",data:=.fields #[vl,vu,.none] } } σ H3 x v vl vu l u s3.heap.objs.size Q I4 r1 (aS.IsSliceOf.new ..) pl pu q3
  show bg (aZ X.prog X.w) X.A (subscriptTail e (.Slice lo hi none p2) v (.ref s3.heap.objs.size)) (EP X aj σ Q) X.xe { s3 with heap:=s3.heap.push { cls:=.type "slice",data:=.fields #[vl,vu,.none] } }
  exact tail_any (ops:=[.ref s3.heap.objs.size,v]) ht hT hg (by with_unfolding_all rfl)
def pH (xs:List V)(lo hi:Option Int):List V:=(xs.drop (HT.sIx xs.length 0 lo)).take (HT.sIx xs.length xs.length hi-HT.sIx xs.length 0 lo)
theorem SW (xs:List V)(lo hi:Option Int):(pH xs lo hi).length<=xs.length:=by
 unfold pH
 rw[dw,gY]
 omega
def t5 (K:aa):R2:=λx y H Q=>∃a b xs ys,x=.ref a/\y=.ref b/\jU K H a xs/\jU K H b ys/\xs≠[]/\xs.length+ys.length<=sizeLine /\
 (ys=[]->Q (.ref a) H)/\(ys≠[]->∀p,H p=none->Q (.ref p) (upd H p (.tup (xs++ys))))
theorem bQ.nil_iff {xs:List V}{us:List ae}(r:bQ xs us):us=[]↔xs=[]:=by
 cases r with
 |nil=>simp
 |cons _ _=>simp
theorem VP:fJ X (dG .Add) (t5 X.K):=by
 intro aj s σ H x y v u Q I rx ry h
 obtain⟨a,b,xs,ys,rfl,rfl,ha,hb,hx,hz,q1,q2⟩:=h
 cases rx
 cases ry
 obtain⟨bV,r1,p1,_⟩:=I.tuple ha
 obtain⟨su,r2,p2,_⟩:=I.tuple hb
 refine HT.cat_tup p1 p2 (λz=>hx (r1.nil_iff.mp z)) (λz=>⟨.ref a,H,I,rfl,q1 (r2.nil_iff.mp z)⟩) (λz=>?_) (by rw[←r1.length,←r2.length];exact hz)
 refine⟨.ref s.heap.objs.size,_,I.laid (t':=s.toks) (o:=.tup (xs++ys)) (λb ob q=>aC _ q) (aG _) ?_,rfl,q2 (λw=>z (r2.nil_iff.mpr w)) _ (I.hok.fresh (aG _))⟩
 exact⟨by rw[aR];exact hz,_,r1.append r2,IsTup.new _ _⟩
end
end L2
namespace L2
open PySem PySem.Spec PyProof.Rows
def ixN (n:Nat)(i:Int):Option Nat:=if 0<=i then(if i<n then some i.toNat else none)else if -(n:Int)<=i then some (i+n).toNat else none
def atI {α:Type}(xs:List α)(i:Int):Option α:=(ixN xs.length i).bind λj=>xs[j]?
theorem MG {n:Nat}{i:Int}{j:Nat}(h:ixN n i=some j):seqIndex? i n=some j/\j<n/\-(n:Int)<=i/\i<n:=by
 unfold ixN at h
 by_cases h0:0<=i
 ·rw[if_pos h0]at h
  by_cases h1:i<n
  ·rw[if_pos h1]at h
   have e:i.toNat=j:=Option.some.inj h
   exact⟨by rw[mz h0 h1,e],by omega,by omega,h1⟩
  ·rw[if_neg h1]at h;cases h
 ·rw[if_neg h0]at h
  by_cases h1:-(n:Int)<=i
  ·rw[if_pos h1]at h
   have e:(i+n).toNat=j:=Option.some.inj h
   exact⟨by rw[lL (by omega) h1,e],by omega,h1,by omega⟩
  ·rw[if_neg h1]at h;cases h
theorem Fg {α:Type}{xs:List α}{i:Int}{v:α}(h:atI xs i=some v):∃j,seqIndex? i xs.length=some j/\xs[j]?=some v/\j<xs.length/\-(xs.length:Int)<=i/\i<xs.length:=by
 unfold atI at h
 cases e:ixN xs.length i with
 |none=>rw[e]at h;cases h
 |some j=>
  rw[e]at h
  obtain⟨h1,h2,h3,h4⟩:=MG e
  exact⟨j,h1,h,h2,h3,h4⟩
theorem jt {α:Type}{xs:List α}{j:Nat}{v:α}(h:xs[j]?=some v):atI xs (j:Int)=some v:=by
 have hj:j<xs.length:=(aU.mp h).1
 have e:ixN xs.length (j:Int)=some j:=by
  unfold ixN
  rw[if_pos (by omega),if_pos (by omega)];simp
 unfold atI;rw[e];exact h
def la (b:Expr):Prop:=∀o i,subscripted b false o i=operate [o,i] (getItem o i)
def rJ (X:Cx)(r:R2):Prop :=
 ∀(value slice:Expr) (aj:List (af×cN)) (s:ak) (σ:St) (H:Hp) (x y:V) (v u:ae) (Q:VK),Inv X aj σ H s->RelV x v->RelV y u->r x y H Q ->
  subscripted slice false v u=operate [v,u] (getItem v u)->bg (aZ X.prog X.w) X.A (subscriptTail value slice v u) (EP X aj σ Q) X.xe s
def Og (X:Cx)(id:String)(r:V->List V->Hp->VK->Prop):Prop :=
 ∀(aj:List (af×cN)) (s:ak) (σ:St) (H:Hp) (x:V) (xs:List V) (v:ae) (us:List ae) (Q:VK),Inv X aj σ H s->RelV x v->bQ xs us->r x xs H Q ->
  bg (aZ X.prog X.w) X.A (call (.builtin id) (v::us)) (EP X aj σ Q) X.xe s
section
variable {X:Cx}{a b:Expr}{ta tb:TE}{pos:cA}
theorem rJ.or {r r':R2}(h:rJ X r)(h':rJ X r'):rJ X (λx y H Q=>r x y H Q\/r' x y H Q):=by
 intro value slice aj s σ H x y v u Q I rx ry q hs
 rcases q with q|q
 ·exact h value slice aj s σ H x y v u Q I rx ry q hs
 ·exact h' value slice aj s σ H x y v u Q I rx ry q hs
theorem NG {r:R2}(hr:rJ X r)(ha:PE X a ta)(hb:PE X b tb)(hs:la b):PE X (.Subscript a b pos) (EJ r ta tb):=by
 intro aj s σ H Q I h
 exact Subscript_ (uN ha hb I h λv u s2 x y H2 I2 rx ry q=>hr a b aj s2 σ H2 x y v u Q I2 rx ry q (hs _ _))
def C8 (K:aa):R2:=λx y H Q=>∃p xs i v,x=.ref p/\y=.int i/\eJ K H p xs/\atI xs i=some v/\Q v H
def Dd (K:aa):R2:=λx y H Q=>∃p xs i v,x=.ref p/\y=.int i/\jU K H p xs/\atI xs i=some v/\Q v H
def C9:R2:=λx y H Q=>∃z i c,x=.str z/\y=.int i/\z.length<=sizeLine/\atI z.cps.toList i=some c/\Q (.str ⟨#[c]⟩) H
theorem MH:rJ X (C8 X.K):=by
 intro value slice aj s σ H x y v u Q I rx ry h hs
 obtain⟨p,xs,i,z,rfl,rfl,hq,he,q⟩:=h
 cases rx
 obtain⟨t,rfl⟩:=ry
 obtain⟨bV,r,pl,hz⟩:=I.list hq
 obtain⟨j,h1,h2,h3,h4,h5⟩:=Fg he
 obtain⟨w,ew,oA⟩:=r.get h2
 have hl:=r.length
 have hn:=iJ
 have fin:EP X aj σ Q w s:=⟨z,H,I,oA,q⟩
 by_cases h0:0<=i
 ·have hj:i.toNat=j:=by
   rw[mz h0 h5]at h1
   exact Option.some.inj h1
  exact item_listR pl.isList h0 (by omega) (by rw[hj];simpa using ew) fin hs
 ·have hj:(i+(bV.toArray.size:Int)).toNat=j:=by
   rw[lL (by omega) h4]at h1
   rw[aD,←hl]
   exact Option.some.inj h1
  exact subscriptTail_builtinR (x:=w) pl.isList.typeIs slot_list_getitem.lookup
   (wpAny_getItem_list_neg (Q:=λr s'=>r=w/\EP X aj σ Q r s') pl.isList (by omega) (by rw[aD]<;>omega) (by omega) (by rw[hj];simpa using ew) ⟨rfl,fin⟩) hs
theorem Xo:rJ X (Dd X.K):=by
 intro value slice aj s σ H x y v u Q I rx ry h hs
 obtain⟨p,xs,i,z,rfl,rfl,hq,he,q⟩:=h
 cases rx
 obtain⟨t,rfl⟩:=ry
 obtain⟨bV,r,pl,hz⟩:=I.tuple hq
 obtain⟨j,h1,h2,h3,h4,h5⟩:=Fg he
 obtain⟨w,ew,oA⟩:=r.get h2
 have hl:=r.length
 have hn:=iJ
 have fin:EP X aj σ Q w s:=⟨z,H,I,oA,q⟩
 exact subscriptTail_builtinR (x:=w) pl.typeIs slot_tuple_getitem.lookup
  (getItem_tuple (j:=j) (Q:=λr s'=>r=w/\EP X aj σ Q r s') pl (by omega) (by omega) (by rw[aD,←hl];exact h1) (by simpa using ew) ⟨rfl,fin⟩) hs
theorem Xp:rJ X C9:=by
 intro value slice aj s σ H x y v u Q I rx ry h hs
 obtain⟨z,i,c,rfl,rfl,hz,he,q⟩:=h
 obtain⟨t,rfl⟩:=rx
 obtain⟨t',rfl⟩:=ry
 obtain⟨j,h1,h2,h3,h4,h5⟩:=Fg he
 have hl:z.cps.toList.length=z.length:=by simp[aI.length]
 rw[hl]at h1 h4 h5
 have hn:=iJ
 exact tail_any (typeIs_str s z t) slot_str_getitem.lookup (getItem_str (c:=c) (by
  have e1:decide (i < -(2 ^ 63:Int))=false:=decide_eq_false (by omega)
  have e2:decide (i >= 2 ^ 63)=false:=decide_eq_false (by omega)
  rw[e1,e2,Bool.or_false]) (by rw[h1];simpa using h2) ⟨.str ⟨#[c]⟩,H,I.tok _,⟨_,rfl⟩,q⟩) hs
def K6 (K:aa):R2:=λx y H Q=>C8 K x y H Q\/Dd K x y H Q\/C9 x y H Q
theorem j0:rJ X (K6 X.K):=MH.or (Xo.or Xp)
theorem Tp (bV:List ae)(n j:Nat)(u:ae):cN.mapSeq (·.setIfInBounds j u) { cls:=.type "list",data:=.seq bV.toArray n } = { cls:=.type "list",data:=.seq (bV.set j u).toArray n }:=by
  simp[cN.mapSeq]
theorem Inv.lst {aj:List (af×cN)}{σ:St}{H:Hp}{s:ak}{p:af}{xs:List V}(I:Inv X aj σ H s)(h:H p=some (.lst xs)) :
    ∃(bV:List ae) (n:Nat),bQ xs bV/\s.heap.get? p=some { cls:=.type "list",data:=.seq bV.toArray n }/\xs.length<=sizeLine:=by
  obtain⟨z,bV,n,r,e⟩:=I.hok p _ h
  exact⟨bV,n,r,e,z⟩
theorem Inv.lstUpd {aj:List (af×cN)}{σ:St}{H:Hp}{s:ak}{p:af}{xs ys:List V}{bV its':List ae}{n n':Nat}{f:cN->cN}(I:Inv X aj σ H s)(h:H p=some (.lst xs))
    (ho:s.heap.get? p=some { cls:=.type "list",data:=.seq bV.toArray n }) (hf:f { cls:=.type "list",data:=.seq bV.toArray n } = { cls:=.type "list",data:=.seq its'.toArray n' }) (r:bQ ys its') (hz:ys.length<=sizeLine) (t:Nat) :
    Inv X aj σ (upd H p (.lst ys)) { s with heap:=s.heap.update p f,toks:=t }:=by
  have e:(s.heap.update p f).get? p=some { cls:=.type "list",data:=.seq its'.toArray n' }:=by
    rw[aS.get?_update_self f ho (by rw[hf]<;>rfl),hf]
  refine I.write (x:=p) (e:=p) (by rw[h];trivial) (.inl rfl) (λb u hb q=>(mY _ _ (Ne.symm hb)).trans q) ⟨_,e⟩ ?_
  exact⟨hz,its',n',r,e⟩
def Dg:V->V->V->Hp->(Hp->Prop)->Prop:=λo i v H Q=>∃p xs k j,o=.ref p/\i=.int k/\H p=some (.lst xs)/\ixN xs.length k=some j/\Q (upd H p (.lst (xs.set j v)))
theorem E5:uI X Dg:=by
 intro aj s σ H o i v ov iv u Q I ro ri rv h
 obtain⟨p,xs,k,j,rfl,rfl,hp,hj,q⟩:=h
 cases ro
 obtain⟨t,rfl⟩:=ri
 obtain⟨bV,n,r,ho,hz⟩:=I.lst hp
 obtain⟨h1,h2,h3,h4⟩:=MG hj
 have hl:=r.length
 have hn:=iJ
 have I':Inv X aj σ (upd H p (.lst (xs.set j v))) { s with heap:=s.heap.update p (cN.mapSeq (·.setIfInBounds j u)) } :=
  I.lstUpd hp ho (Tp bV n j u) (r.set rv j) (by rw[iw];exact hz) s.toks
 by_cases h0:0<=k
 ·have hk:k.toNat=j:=by
   rw[mz h0 h4]at h1
   exact Option.some.inj h1
  exact PySem.W.ki_setAt ho h0 (by omega) (by rw[aD,←hl];exact h4) (by rw[hk];exact⟨_,I',q⟩)
 ·have hk:(k+(bV.toArray.size:Int)).toNat=j:=by
   rw[lL (by omega) h3]at h1
   rw[aD,←hl]
   exact Option.some.inj h1
  exact PySem.W.ki_setBack ho (by omega) (by rw[aD,←hl];exact h3) (by omega) (by rw[hk];exact⟨_,I',q⟩)
theorem Sm (lo hi:Option Int)(n:Nat):(gk lo hi none n).1=((HT.sIx n 0 lo:Nat):Int)/\(gk lo hi none n).2.1=((HT.sIx n n hi:Nat):Int)/\(gk lo hi none n).2.2=1:=by
 refine⟨?_,?_,rfl⟩
 ·cases lo with
  |none=>simp[gk,HT.sIx]
  |some i=>
   simp only[gk,HT.sIx,pv,show(1:Int) > 0 by decide,if_true]
   by_cases h:i<0
   ·simp only[h,if_true]<;>omega
   ·simp only[h,if_false]<;>omega
 ·cases hi with
  |none=>simp[gk,HT.sIx]
  |some i=>
   simp only[gk,HT.sIx,pv,show(1:Int) > 0 by decide,if_true]
   by_cases h:i<0
   ·simp only[h,if_true]<;>omega
   ·simp only[h,if_false]<;>omega
theorem Sl (bV:List ae)(lo hi:Option Int):slicePick bV.toArray lo hi none=((bV.drop (HT.sIx bV.length 0 lo)).take (HT.sIx bV.length bV.length hi-HT.sIx bV.length 0 lo)).toArray:=by
 obtain⟨h1,h2,h3⟩:=Sm lo hi bV.toArray.size
 unfold slicePick
 rw[h1,h2,h3]
 simp only[sliceRange_one,pick_run,aD]<;>rfl
def HR (K:aa):V->Option Int->Option Int->Hp->VK->Prop:=λx lo hi H Q=>∃a xs,x=.ref a/\eJ K H a xs/\∀p,H p=none->Q (.ref p) (upd H p (.lst (pH xs lo hi)))
theorem Vr:JF X (HR X.K):=by
 intro aj s σ H x v vl vu lo hi sl Q I rx hs pl pu h
 obtain⟨a,xs,rfl,hx,q⟩:=h
 cases rx
 obtain⟨bV,r,ht,hz⟩:=I.list hx
 have d6:=r.length
 refine⟨"list",_,slot_list_getitem.lookup,ht.isList.typeIs,?_⟩
 refine wpAny_getItem_list_slice ht.isList hs pl pu .none (by simp) ?_ (by rw[aD]<;>omega)
 rw[Sl,←d6]
 refine⟨.ref s.heap.objs.size,_,I.laid (t':=s.toks) (o:=.lst (pH xs lo hi)) (λb ob q=>aC _ q) (aG _) ?_,rfl,q _ (I.hok.fresh (aG _))⟩
 exact⟨bK (SW xs lo hi) hz,_,0,(r.drop (HT.sIx xs.length 0 lo)).take (HT.sIx xs.length xs.length hi-HT.sIx xs.length 0 lo),bB _ rfl⟩
def jB:V->Bool
 |.non=>true
 |.bl _=>true
 |.int _=>true
 |.str _=>true
 |_=>false
def sg:V->V->Bool
 |.non,.non=>true
 |.bl a,.bl b=>a==b
 |.bl a,.int b=>(if a then 1 else 0)==b
 |.int a,.bl b=>a==(if b then 1 else 0)
 |.int a,.int b=>a==b
 |.str a,.str b=>a==b
 |_,_=>false
theorem Xq {A:bq}{s:ak}{y x:V}{u v:ae}(ry:RelV y u)(rx:RelV x v)(fy:jB y=true)(fx:jB x=true):SeqAt.EqAt A s u v (sg y x):=by
 cases y with
 |non=>
  cases ry
  cases x with
  |non=>cases rx;exact SeqAt.EqAt.same _
  |bl b=>cases rx;exact SeqAt.EqAt.none_bool b
  |int b=>obtain⟨t,rfl⟩:=rx;exact SeqAt.EqAt.none_int b t
  |str b=>obtain⟨t,rfl⟩:=rx;exact SeqAt.EqAt.none_str b t
  |_=>exact absurd (show false=true from fx) aJ
 |bl a=>
  cases ry
  cases x with
  |non=>cases rx;exact SeqAt.EqAt.bool_none a
  |bl b=>cases rx;exact SeqAt.EqAt.bool_bool a b
  |int b=>obtain⟨t,rfl⟩:=rx;exact SeqAt.EqAt.bool_int a b t
  |str b=>obtain⟨t,rfl⟩:=rx;exact SeqAt.EqAt.bool_str a b t
  |_=>exact absurd (show false=true from fx) aJ
 |int a=>
  obtain⟨t',rfl⟩:=ry
  cases x with
  |non=>cases rx;exact SeqAt.EqAt.int_none a t'
  |bl b=>cases rx;exact SeqAt.EqAt.int_bool a t' b
  |int b=>obtain⟨t,rfl⟩:=rx;exact SeqAt.EqAt.int_int a t' b t
  |str b=>obtain⟨t,rfl⟩:=rx;exact SeqAt.EqAt.int_str a t' b t
  |_=>exact absurd (show false=true from fx) aJ
 |str a=>
  obtain⟨t',rfl⟩:=ry
  cases x with
  |non=>cases rx;exact SeqAt.EqAt.str_none a t'
  |bl b=>cases rx;exact SeqAt.EqAt.str_bool a t' b
  |int b=>obtain⟨t,rfl⟩:=rx;exact SeqAt.EqAt.str_int a t' b t
  |str b=>obtain⟨t,rfl⟩:=rx;exact SeqAt.EqAt.str_str a t' b t
  |_=>exact absurd (show false=true from fx) aJ
 |_=>exact absurd (show false=true from fy) aJ
def sd (x:V)(u:ae):Bool:=match u with
 |.none=>sg .non x
 |.bool b=>sg (.bl b) x
 |.int i _=>sg (.int i) x
 |.str z _=>sg (.str z) x
 |_=>false
theorem Nr {x y:V}{u:ae}(r:RelV y u)(f:jB y=true):sd x u=sg y x:=by
 cases y with
 |non=>cases r;rfl
 |bl b=>cases r;rfl
 |int i=>obtain⟨t,rfl⟩:=r;rfl
 |str z=>obtain⟨t,rfl⟩:=r;rfl
 |_=>exact absurd (show false=true from f) aJ
theorem Jf {x:V}:∀{xs:List V} {us:List ae},bQ xs us->xs.all jB=true->us.any (sd x)=xs.any λy=>sg y x
 |_,_,.nil,_=>rfl
 |y::xs,u::us,.cons r t,f=>by
  rw[eA,bO]at f
  rw[d8,d8,Nr r f.1,Jf t f.2]
theorem IJ {A:bq}{s:ak}{x:V}{v:ae}(rx:RelV x v)(fx:jB x=true):∀{xs:List V} {us:List ae},bQ xs us->xs.all jB=true->∀u∈us,SeqAt.EqAt A s u v (sd x u)
 |_,_,.nil,_=>λu hu=>by cases hu
 |y::xs,u::us,.cons r t,f=>λu' hu=>by
  rw[eA,bO]at f
  rcases ay.mp hu with rfl|hu
  ·rw[Nr r f.1];exact Xq r rx f.1 fx
  ·exact IJ rx fx t f.2 u' hu
def Ew (x:V)(xs:List V):Bool:=xs.any λy=>sg y x
def K4 (K:aa)(neg:Bool):R2:=λx y H Q=>∃p xs,y=.ref p/\(eJ K H p xs\/jU K H p xs)/\jB x=true/\xs.all jB=true/\Q (.bl (if neg then !Ew x xs else Ew x xs)) H
theorem SG:fJ X (cD .NotIn) (K4 X.K true):=by
 intro aj s σ H x y v u Q I rx ry h
 obtain⟨p,xs,rfl,hq,fx,fs,q⟩:=h
 cases ry
 rcases hq with hq|hq
 ·obtain⟨bV,r,pl,hz⟩:=I.list hq
  refine SeqAt.notIn_listAt (sd x) pl.isList (λw hw=>IJ rx fx r fs w (by simpa using hw)) ⟨.bl _,H,I,rfl,?_⟩
  rw[show bV.toArray.any (sd x)=bV.any (sd x)by simp,Jf r fs]
  exact q
 ·obtain⟨bV,r,pl,hz⟩:=I.tuple hq
  refine SeqAt.notIn_tupleAt (sd x) pl (λw hw=>IJ rx fx r fs w (by simpa using hw)) ⟨.bl _,H,I,rfl,?_⟩
  rw[show bV.toArray.any (sd x)=bV.any (sd x)by simp,Jf r fs]
  exact q
theorem SH:eM X (.builtin "len") (λxs H Q=>∃p ys,xs=[.ref p]/\(eJ X.K H p ys\/jU X.K H p ys)/\Q (.int ys.length) H):=by
 intro aj s σ H xs us Q I r h
 obtain⟨p,ys,rfl,hq,q⟩:=h
 obtain⟨u,rfl,rx⟩:=o4 r
 cases rx
 have hn:=iJ
 rcases hq with hq|hq
 ·obtain⟨bV,r',pl,hz⟩:=I.list hq
  have d6:=r'.length
  exact Calls.call_len_list pl.isList (by simp only[aD]<;>omega) ⟨.int ys.length,H,I.tok _,⟨s.toks+1,by rw[aD,d6]⟩,q⟩
 ·obtain⟨bV,r',pl,hz⟩:=I.tuple hq
  have d6:=r'.length
  exact len_tuple pl (by simp only[aD]<;>omega) ⟨.int ys.length,H,I.tok _,⟨s.toks+1,by rw[aD,d6]⟩,q⟩
theorem SJ:eM X (.builtin "len") (λxs H Q=>∃z,xs=[.str z]/\z.length<=sizeLine/\Q (.int z.length) H):=by
 intro aj s σ H xs us Q I r h
 obtain⟨z,rfl,hz,q⟩:=h
 obtain⟨u,rfl,t,rfl⟩:=o4 r
 have hn:=iJ
 exact len_str (by omega) ⟨.int z.length,H,I.tok _,⟨_,rfl⟩,q⟩
theorem eM.or {f:ae}{r r':List V->Hp->VK->Prop}(h:eM X f r)(h':eM X f r'):eM X f (λxs H Q=>r xs H Q\/r' xs H Q):=by
 intro aj s σ H xs us Q I rs q
 rcases q with q|q
 ·exact h aj s σ H xs us Q I rs q
 ·exact h' aj s σ H xs us Q I rs q
theorem vx:eM X (.type "list") (λxs H Q=>∃p ys,xs=[.ref p]/\(eJ X.K H p ys\/jU X.K H p ys)/\∀l,H l=none->Q (.ref l) (upd H l (.lst ys))):=by
  intro aj s σ H xs us Q I r h
  obtain⟨p,ys,rfl,hq,q⟩:=h
  obtain⟨u,rfl,rx⟩:=o4 r
  cases rx
  have fin:∀(bV:List ae),bQ ys bV->ys.length<=sizeLine->∀(h':aS) (c':Nat),(∀b o',s.heap.get? b=some o'->h'.get? b=some o') ->
      h'.get? s.heap.objs.size=some { cls:=.type "list",dict:=none,data:=.seq bV.toArray c',slots:=#[] }->EP X aj σ Q (.ref s.heap.objs.size) { s with heap:=h' }:=λbV r' hz h' c' kp e=>
    ⟨.ref s.heap.objs.size,_,I.laid (t':=s.toks) kp (aG _) (show dN X.prog X.w _ h' _ (.lst ys)from⟨hz,bV,c',r',e⟩),rfl,q _ (I.hok.fresh (aG _))⟩
  rcases hq with hq|hq
  · obtain⟨bV,r',pl,hz⟩:=I.list hq
    have d6:=r'.length
    obtain⟨o,ho,hc,n,hd⟩:=pl.isList
    exact call_list_seq p (.inl rfl) ho hc hd (λh' c' kp e=>fin bV r' hz h' c' kp e) (by simp only[aD]<;>omega)
  · obtain⟨bV,r',pl,hz⟩:=I.tuple hq
    have d6:=r'.length
    obtain⟨o,ho,hc,n,hd⟩:=pl
    exact call_list_seq p (.inr rfl) ho hc hd (λh' c' kp e=>fin bV r' hz h' c' kp e) (by simp only[aD]<;>omega)
def Lg (K:aa)(T:String)(x:V)(H:Hp):Prop:=match x with
 |.str _=>T = "str"
 |.int _=>T = "int"
 |.ref p=>(T = "list"/\∃xs,eJ K H p xs)\/(T = "tuple"/\∃o,K.lookup p=some o/\o.cls=.type "tuple"/\o.dict=none) \/
   (T = "dict"/\((∃cq,H p=some (.dK cq))\/∃cq,H p=some (.dT cq)))\/(T = "set"/\∃S n,H p=some (.set S n))
 |_=>False
theorem Xr {aj:List (af×cN)}{σ:St}{H:Hp}{s:ak}{T:String}{x:V}{v:ae}(I:Inv X aj σ H s)(r:RelV x v)(ty:Lg X.K T x H) :
  s.TypeIs v T/\∀a,v=.ref a->∃ob,s.heap.get? a=some ob/\ob.dict=none:=by
 cases x with
 |str z=>
  obtain⟨t,rfl⟩:=r
  cases(show T = "str" from ty)
  exact⟨typeIs_str s z t,λ_ e=>nomatch e⟩
 |int i=>
  obtain⟨t,rfl⟩:=r
  cases(show T = "int" from ty)
  exact⟨sY s i t,λ_ e=>nomatch e⟩
 |ref p=>
  cases r
  rcases ty with⟨rfl,xs,hq⟩|⟨rfl,o,hk,hc,hd⟩|⟨rfl,hk⟩|⟨rfl,S,n,hk⟩
  ·obtain⟨bV,_,pl,_⟩:=I.list hq
   refine⟨pl.isList.typeIs,λa e=>?_⟩
   cases e
   obtain⟨o,n,e,c,hd,_⟩:=pl
   exact⟨o,e,hd⟩
  ·refine⟨⟨o,I.kIn p o hk,hc⟩,λa e=>?_⟩
   cases e
   exact⟨o,I.kIn _ o hk,hd⟩
  ·have z:∃o,s.heap.get? p=some o/\o.ExactDict:=by
    rcases hk with⟨cq,hk⟩|⟨cq,hk⟩
    ·obtain⟨_,_,_,_,o,_,_,e,ex,_⟩:=I.hok p _ hk
     exact⟨o,e,ex⟩
    ·obtain⟨_,_,_,_,o,_,_,e,ex,_⟩:=I.hok p _ hk
     exact⟨o,e,ex⟩
   obtain⟨o,e,ex⟩:=z
   refine⟨⟨o,e,ex.1⟩,λa e2=>?_⟩
   cases e2
   exact⟨o,e,ex.2.1⟩
  ·obtain⟨o,_,_,_,e,ex,_⟩:=I.hok p _ hk
   refine⟨⟨o,e,ex.1⟩,λa e2=>?_⟩
   cases e2
   exact⟨o,e,ex.2.1⟩
 |_=>exact False.elim ty
def RI (K:aa)(T:String)(r:V->List V->Hp->VK->Prop)(to:TE)(t:TA):TE:=λσ H Q=>to σ H λx H1=>Lg K T x H1/\t σ H1 λxs H2=>r x xs H2 Q
variable {o e:Expr}{es:List Expr}{to:TE}{t:TA}{name:aI}{cY dM:cA}{T id:String}{r:V->List V->Hp->VK->Prop}
theorem YD (pa:PlainAttrs T)(slot:Slot T name id)(PJ:typeOf (.builtin id)=pure (.type "method_descriptor"))(hm:Og X id r)(ho:PE X o to)(ha:PA X (e::es) t)
  (qM:eP o name X.env (bN o X.env)=bN o X.env:=by rfl)
  (vY:((cC dM (aq (e::es) X.env)).all (λx=>!x.1)&&(eQ dM (dC [] X.env)).all (λx=>x.1.isSome)
   && decide ((e::es).length+([]:List iq).length+(if([]:List iq).isEmpty then 0 else 1)<30))=true:=by rfl)
  (qT:(cY.endLine==dM.line)=true:=by rfl) (hs:aq (e::es) X.env=(false,bN e X.env)::aq es X.env:=by rfl) (oo:(cC dM (aq es X.env)).any (·.1)=false:=by rfl) :
  PE X (.Call (.Attribute o name cY) (e::es) [] dM) (RI X.K T r to t):=by
 intro aj s σ H Q I h
 refine wpAny_Call_method_late qM vY qT rfl (de (ho aj s σ H _ I h) λv s1 di=>?_)
 obtain⟨x,H1,I1,r1,ty,q1⟩:=di
 obtain⟨h1,h2⟩:=Xr I1 r1 ty
 refine⟨T,id,pa,slot,PJ,h1,h2,?_⟩
 have hA:=ha dM aj s1 σ H1 _ I1 q1
 rw[hs]at hA ⊢
 refine Calls.callWith_builtin (by show(false || (cC dM (aq es X.env)).any (·.1))=false;rw[oo]<;>rfl) (Calls.evalArgs_plain ?_)
 exact de hA λus s2 ⟨vs,H2,I2,r2,q2⟩=>hm aj s2 σ H2 x vs v us Q I2 r1 r2 q2
end
end L2
namespace L2
open PySem PySem.Spec PyProof.Rows
def Of (X:Cx)(id:String)(r:V->List V->Hp->VK->Prop):Prop :=
 ∀(aj:List (af×cN)) (s:ak) (σ:St) (H:Hp) (x:V) (xs:List V) (v:ae) (us:List ae) (Q:VK),Inv X aj σ H s->RelV x v->bQ xs us->r x xs H Q ->
  bg (aZ X.prog X.w) X.A (call (.builtin id) (v::us)) (EP X aj σ Q) X.xe s
theorem bQ.one:∀{x:V} {us:List ae},bQ [x] us->∃u,us=[u]/\RelV x u
 |_,_,.cons r .nil=>⟨_,rfl,r⟩
theorem bQ.rep {xs:List V}{us:List ae}(h:bQ xs us):∀k:Nat,bQ (av k xs).flatten (av k us).flatten
 |0=>.nil
 |k+1=>by
  rw[cz,cz,cB,cB]
  exact bQ.append h (bQ.rep h k)
theorem foldl_rep (bV:List ae):∀(k:Nat) (fP:List ae),
  pf (λx1 x2=>x1++x2) fP.toArray (av k bV.toArray)=(fP++(av k bV).flatten).toArray
 |0,fP=>by simp
 |k+1,fP=>by
  have e:fP.toArray++bV.toArray=(fP++bV).toArray:=by simp
  have e2:(fP++bV)++(av k bV).flatten=fP++(av (k+1) bV).flatten:=by
   rw[cz,cB,ee]
  rw[←e2,←foldl_rep bV k (fP++bV),←e,cz,bD]
section
variable {X:Cx}{aj:List (af×cN)}{σ:St}{H:Hp}{s:ak}{l b:af}{xs ys zs:List V}
theorem Inv.lset {bV its':List ae}{n:Nat}{f:Array ae->Array ae}{t':Nat}(I:Inv X aj σ H s)(hH:H l=some (.lst xs))
    (e:s.heap.get? l=some { cls:=.type "list",data:=.seq bV.toArray n }) (hf:f bV.toArray=its'.toArray) (hv:bQ ys its') (hz:ys.length<=sizeLine) :
    Inv X aj σ (upd H l (.lst ys)) { s with heap:=s.heap.update l (cN.mapSeq f),toks:=t' }:=by
  have q:=PySem.IsL.update e f
  rw[hf]at q
  refine I.write (x:=l) (e:=l) (by rw[hH];exact trivial) (.inl rfl) (λb' u hb hu=>(mY s.heap (cN.mapSeq f) (Ne.symm hb)).trans hu) ⟨_,q⟩ ?_
  exact⟨hz,its',_,hv,q⟩
theorem Inv.lnew {bV:List ae}{t':Nat}(I:Inv X aj σ H s)(hv:bQ ys bV)(hz:ys.length<=sizeLine) :
    Inv X aj σ (upd H s.heap.objs.size (.lst ys)) { s with heap:=s.heap.push { cls:=.type "list",data:=.seq bV.toArray },toks:=t' } :=
  I.laid (λ_ _ q=>aC _ q) (aG _) ⟨hz,bV,0,hv,bB _ rfl⟩
theorem Inv.fresh (I:Inv X aj σ H s):H s.heap.objs.size=none:=I.hok.fresh (aG _)
theorem Inv.lstM (I:Inv X aj σ H s)(hH:H l=some (.lst xs)):xs.length<=sizeLine/\∃(bV:List ae) (n:Nat),bQ xs bV/\xs.length=bV.length/\s.heap.get? l=some { cls:=.type "list",data:=.seq bV.toArray n }:=by
  obtain⟨z,bV,n,r,e⟩:=I.hok l _ hH
  exact⟨z,bV,n,r,r.length,e⟩
theorem rj {n:Nat}(h:n<=sizeLine):Builtin.List.listTooLong n=false:=by
 unfold Builtin.List.listTooLong
 exact decide_eq_false (by omega)
end
section
variable {X:Cx}
def sJ:V->List V->Hp->VK->Prop:=λx vs H Q=>∃l xs y,x=.ref l/\vs=[y]/\H l=some (.lst xs)/\xs.length<sizeLine/\Q .non (upd H l (.lst (xs++[y])))
theorem Iu:Of X "list.append" sJ:=by
 intro aj s σ H x vs v us Q I rx rv h
 obtain⟨l,xs,y,rfl,rfl,hH,hz,q⟩:=h
 cases rx
 obtain⟨u,rfl,ru⟩:=rv.one
 obtain⟨z,bV,n,r,hl,e⟩:=I.lstM hH
 refine sX F.slot_list_append ⟨_,e,rfl⟩ F.entry_list_append (F.args_list_append_2 _ _) (PySem.list_append l bV.toArray n u (by rw[aD];omega)) ⟨e,?_⟩
 refine⟨.non,_,I.lset (its':=bV++[u]) hH e (by simp) (r.append (.cons ru .nil)) ?_,rfl,q⟩
 rw[aR,fD]
 omega
theorem Vs {α:Type}(xs:List α)(k:Nat):(av k xs).flatten.length=k*xs.length:=by
 induction k with
 |zero=>simp
 |succ k ih=>rw[cz,cB,aR,ih,Nat.succ_mul,Nat.add_comm]
end
section
variable {prog:aX}{w:bz}{A:bq}{E:ae->ak->Prop}{s:ak}
end
section
variable {X:Cx}
end
end L2
namespace Att
open PySem PySem.W PySem.Calls PyProof.Rows
theorem Si {P:Params}{h:aS}:∀(ns:List Int) (vs:List ae),WellAll P h vs (ns.map WData.int)->IntsAre vs ns:=by
 intro ns
 induction ns with
 |nil=>
  intro vs w
  rw[kb]at w
  cases w
  exact .nil
 |cons n ns ih=>
  intro vs w
  rw[br]at w
  cases w with
  |cons a b=>
   cases a
   exact .cons _ _ (ih _ b)
theorem TZ {l:OpenLaw}{n:Nat}(hn:l.most=some n){P:Params}{h:aS}{args:List WData}{vals:List ae}
    (pK:l.row.toRowW.claim.pre args=true) (Hs:WellAll P h vals args) :
    ∃a vs ns,vals=[ae.ref a]/\args=[WData.list (ns.map WData.int)]/\h.get? a=some { cls:=.type "list",data:=.seq vs.toArray }/\IntsAre vs ns/\ns.length<=n:=by
  have Hn:WShape.hasAll [] args [.list .int]=true:=(pre_splitW pK).1
  have hc:l.pre.holds [] { args:=args }=true:=(pre_splitW pK).2
  obtain⟨d,r,rfl,h1,h2⟩:=hasAllW_cons Hn
  obtain rfl:=hasAllW_nil h2
  obtain⟨xs,rfl,h3⟩:=hasW_list h1
  obtain⟨ns,rfl⟩:=items_int h3
  have d6:ns.length<=n:=by
    unfold OpenLaw.pre at hc
    have h4:(WTm.not (.lt (.lit (.int (n:Int))) (.len (.arg 0)))).holds [] { args:=[.list (ns.map .int)] }=true:=by
      have h4:=(holds_andW hc).1
      rw[hn]at h4
      exact h4
    have h5:=condW_of h4 (w_not (w_lt w_lit (w_len_list (w_arg rfl))))
    rw[aE]at h5
    refine Nat.le_of_not_lt λq=>?_
    have q':(n:Int)<((ns.length:Nat):Int):=by omega
    first
      |(rw[decide_eq_true q']at h5;exact absurd h5 (by decide))
      |(simp at h5;omega)
  cases Hs with
  |cons w1 w2=>
    cases w2
    cases w1 with
    |list ho nB=>exact⟨_,_,ns,rfl,rfl,ho,Si ns _ nB,d6⟩
theorem T3 (l:OpenLaw)(args:List WData):l.row.toRowW.claim.post args (.bool true) args=true :=
  postW_of (r:=l.row.toRowW) (X:=(true==true))
    (show WShape.has [] (.bool true) .bool=true by first|rfl|decide|simp[WShape.has,WShape.arms,WShape.armsAll])
    (show(WTm.eq .res (.lit (.bool true))).value [] { args:=args,res:=some (.bool true),after:=args }=some (.bool (true==true))from w_eq_bool (w_res rfl) w_lit) rfl
theorem attach_call {l:OpenLaw}{n:Nat}{q:aX}{loose:List aI}{XP:(aI->Option ae)->aS->Prop}{YP:bz->aS->Prop}{d:DefRec}
    (hn:l.most=some n) (Bx:d.params.defaults=[])
    (call:∀(w:bz) (s₀ s₁:ak) (mg mb:aI->Option ae) (fa:af) (o:cN) (pm cd doc:ae) (a:af) (vs:List ae) (ns:List Int),
      Ground q loose [] XP w s₀ mg mb s₁.heap->YP w s₁.heap ->
      s₁.heap.get? fa=some o->o.data=.func (docDef d.name d.params d.body d.scope pm cd doc)->s₁.heap.CodeRec cd d.name->mg d.name=some (.ref fa) ->
      s₁.heap.get? a=some { cls:=.type "list",data:=.seq vs.toArray }->IntsAre vs ns->ns.length<=n->s₁.gens = #[] ->
      gK (aZ l.prog w) lJ (.call (.ref fa) ⟨[.ref a],[]⟩) (λr s'=>r=.ok (.ret (.bool true))/\OldK s₁.heap s'.heap/\s'.os=s₁.os/\AllBare s'.gens) s₁) :
    WalkO q loose XP YP l.row.toRowW d [] (λf vs=>PySem.call f vs):=by
  intro w s₀ s₁ mg mb G Y fa o pm cd doc dV kV ho hd gG hD hmg hg args vals as pK Pq Y5 Hs Y2
  obtain rfl:dV=.none:=Dflts.none hD Bx
  obtain rfl:kV=.none:=Dflts.noKw hD
  obtain⟨a,vs,ns,rfl,rfl,wC,qS,d6⟩:=TZ hn pK Hs
  refine enter_call (lK (call w s₀ s₁ mg mb fa o pm cd doc a vs ns G Y ho (fd_plain hd) gG hmg wC qS d6 hg) λr s' hq=>?_)
  obtain⟨rfl,h2,h3,h4⟩:=hq
  exact⟨.inl ⟨.bool true,.bool true,[],rfl,λ_=>rfl,.bool true,T3 l _,λ_=>⟨List.Pairwise.nil,λ_ hm=>(nomatch hm)⟩⟩,h2,h3,h4⟩
section
variable {prog:aX}{w:bz}{A:bq}{E:ae->ak->Prop}{s:ak}{K:Frag}
end
end Att
namespace L2
open PySem PySem.Spec PyProof.Rows
theorem LQ:∀{vs:List ae} {ns:List Int},IntsAre vs ns->bQ (ns.map V.int) vs
 |_,_,.nil=>.nil
 |_,_,.cons n t h=>.cons ⟨t,rfl⟩ (LQ h)
def uH (H:Hp):Prop:=∀b,H b=none\/∃o xs,H b=some (.frz o (.lst xs))
theorem Uu {P:aX}{w:bz}{K:aa}{mg mb:aI->Option ae}{CX:pY}{k:Nat}{fa a:af}{fd:aF}{x:aI}{sp:Sp}{s₁:ak}{vs:List ae}{ns:List Int}
    (KX:K.In s₁.heap) (oW:s₁.heap.Ns ax mg) (hb:s₁.heap.Ns sW mb) (Pc:∀x:aI,x≠"__name__"->mb x=bU x) (He:s₁.heap.NoLimit) (hg:s₁.gens = #[])
    (ha:s₁.heap.get? a=some { cls:=.type "list",data:=.seq vs.toArray }) (hi:IntsAre vs ns) (hl:ns.length<=sizeLine) (hr:dY k lJ)
    (F:∀base:aS,K.In base->base.Ns ax mg->cH P w K mg base CX k fa fd [x] sp) (Bv:∀(s:ak) (u:ae),nc s fd ⟨[u],[]⟩ [(x,u)])
    (tO:∀H:Hp,uH H->eJ K H a (ns.map V.int)->sp [.ref a] H (λv _=>v=.bl true) λ_ _ _=>False)
    (GQ:∀H e s',CX [] H s₁ (λ_ _ _=>False) e s'->False) :
    gK (aZ P w) lJ (.call (.ref fa) ⟨[.ref a],[]⟩) (λr s'=>r=.ok (.ret (.bool true))/\OldK s₁.heap s'.heap/\s'.os=s₁.os/\AllBare s'.gens) s₁:=by
  have rv:=LQ hi
  have HF:=hi.length
  have core:∀H:Hp,uH H->eJ K H a (ns.map V.int)->jM P w H s₁.heap->(∀b,H b≠none->b=a)->(H a≠none->K.lookup a=none) ->
      gK (aZ P w) lJ (.call (.ref fa) ⟨[.ref a],[]⟩) (λr s'=>r=.ok (.ret (.bool true))/\OldK s₁.heap s'.heap/\s'.os=s₁.os/\AllBare s'.gens) s₁:=by
    intro H hO hS hok hA hK
    have oP:∀{b:af} {o:cN},s₁.heap.get? b=some o->H b=none->(mK s₁.heap H).get? b=some o:=λe n=>UH e n
    have CA:∀{b:af} {o:cN} {es:Array DictEntry} {ep:Nat},s₁.heap.get? b=some o->o.data=.dict es ep->H b=none:=λ{b o es ep} e d=>by
      cases q:H b with
      |none=>rfl
      |some u=>
        have e':b=a:=hA b (by rw[q];simp)
        subst e'
        rw[ha]at e;cases e
        have d':oN.seq vs.toArray _=oN.dict es ep:=d
        cases d'
    have ED:∀{b:af} {m:aI->Option ae},s₁.heap.Ns b m->(mK s₁.heap H).Ns b m:=λ{b m} ⟨o,es,ep,e,d,r⟩=>⟨o,es,ep,oP e (CA e d),d,r⟩
    have Kh:K.In (mK s₁.heap H):=λb o e=>oP (KX b o e) (by
      cases q:H b with
      |none=>rfl
      |some u=>
        have e':b=a:=hA b (by rw[q];simp)
        subst e'
        rw[hK (by rw[q];simp)]at e;cases e)
    have hM:Mod K mg (mK s₁.heap H):=⟨Kh,ED oW,⟨mb,ED hb,Pc⟩,let⟨mc,h1,h2⟩:=He;⟨mc,ED h1,h2⟩⟩
    have e0:n4 P w K mg (mK s₁.heap H) lJ [] s₁ H:=⟨rfl,hM,λb o e=>VA e,nL (Te _ _),trivial,λb hb=>absurd (show b∈([]:List af)from hb) (by simp),hok,.of_eq hg⟩
    refine lK ((F _ Kh (ED oW)).run lJ [] s₁ H ⟨[.ref a],[]⟩ [.ref a] [.ref a] _ _ hr e0 (Bv s₁ (.ref a)) (.cons rfl .nil) (tO H hO hS)) λr s' h=>?_
    cases r with
    |error e=>exact(GQ H e s' h).elim
    |ok fl=>
      cases fl with
      |next=>exact False.elim h
      |brk=>exact False.elim h
      |cont=>exact False.elim h
      |ret u=>
        obtain⟨v,H',os,bare,un,Hj,r',q⟩:=h
        have q':v=.bl true:=q
        subst q'
        obtain rfl:u=ae.bool true:=r'
        refine⟨rfl,OldK.of_keep λb o e=>?_,os,bare⟩
        cases q:H b with
        |none=>exact un.keep b o e q (by intro z;exact absurd (show b∈([]:List af)from z) (by simp)) (by simp)
        |some u=>
          rcases hO b with z|⟨ob,xs,z⟩
          · rw[q]at z;cases z
          · have z2:=un.frzs b ob _ z
            obtain⟨e1,_⟩:=hok b _ z
            obtain⟨e2,_⟩:=Hj b _ z2
            rw[e]at e1;cases e1
            exact e2
  cases hk:K.lookup a with
  |some o=>
    have e:=KX a o hk
    rw[ha]at e
    cases e
    refine core (λ_=>none) (λ_=>.inl rfl) (.inr ⟨_,vs.toArray,_,hk,rfl,rfl,rfl,by rw[aD,HF];exact hl,by simpa using rv⟩) (λb u z=>by have z':(none:Option HO)=some u:=z;cases z') (λb z=>absurd rfl z) λz=>absurd rfl z
  |none=>
    refine core (λb=>if b=a then some (.frz { cls:=.type "list",data:=.seq vs.toArray } (.lst (ns.map V.int)))else none) (λb=>?_) (.inl (.inr ⟨{ cls:=.type "list",data:=.seq vs.toArray },if_pos rfl⟩)) (λb u z=>?_) (λb z=>?_) λ_=>hk
    · by_cases hb:b=a
      · exact .inr ⟨_,_,if_pos hb⟩
      · exact .inl (if_neg hb)
    · by_cases hb:b=a
      · have z':=(if_pos hb).symm.trans z
        cases z'
        subst hb
        exact⟨ha,by rw[aE];exact hl,vs,_,rv,ha⟩
      · have z':=(if_neg hb).symm.trans z
        cases z'
    · by_cases hb:b=a
      · exact hb
      · exact absurd (if_neg hb) z
end L2
namespace L2
open PySem PySem.Spec PyProof.Rows
theorem walk_of {l:kx}{n k:Nat}{q:aX}{loose:List aI}{XP:(aI->Option ae)->aS->Prop}{YP:bz->aS->Prop}{d:DefRec}{K:Params->aa}{CX:bz->pY}{sp:bz->Sp}{x:aI}
  (hn:l.most=some n) (rN:n<=sizeLine) (Bx:d.params.defaults=[]) (hr:dY k lJ)
  (hY:∀(w:bz) (h:aS),YP w h->(K w.params).In h)
  (F:∀(w:bz) (mg:aI->Option ae) (fa:af) (h:aS),(K w.params).In h->h.Ns ax mg->mg d.name=some (.ref fa) ->
   ∃fd:aF,(∀(s:ak) (u:ae),nc s fd ⟨[u],[]⟩ [(x,u)]) /\
    ∀base:aS,(K w.params).In base->base.Ns ax mg->cH l.prog w (K w.params) mg base (CX w) k fa fd [x] (sp w))
  (tO:∀(w:bz) (H:Hp) (a:af) (ns:List Int),ns.length<=n->uH H->eJ (K w.params) H a (ns.map V.int)->sp w [.ref a] H (λv _=>v=.bl true) λ_ _ _=>False)
  (GQ:∀(w:bz) (H:Hp) (s:ak) (e:ae) (s':ak),CX w [] H s (λ_ _ _=>False) e s'->False) :
  qE q loose XP YP l.row.toRowW d [] (λf vs=>PySem.call f vs):=by
 refine Att.attach_call hn Bx λw s₀ s₁ mg mb fa o pm cd doc a vs ns G Y ho hd gG hmg wC qS d6 hg=>?_
 have KX:=hY w _ Y
 obtain⟨fd,hb,hF⟩:=F w mg fa _ KX G.T.g hmg
 exact Uu KX G.T.g G.T.b G.T.builtins G.T.nolimit hg wC qS (bK d6 rN) hr hF hb (λH hO hS=>tO w H a ns d6 hO hS) λH e s'=>GQ w H s₁ e s'
end L2
namespace L2
open PySem PySem.Spec PyProof.Rows
def inClass (s:bI)(j:Nat):bI:=match s with
 |.ClassDef _ _ _ body _ _ _ _ _ _ _=>body.getD j (.Pass ⟨0,0,0,0⟩)
 |_=>.Pass ⟨0,0,0,0⟩
def lc (s:bI):Arguments:=match s with
  |.FunctionDef _ a _ _ _ _ _ _ _ _=>a
  |_=>{ posonlyargs:=[],args:=[],vararg:=none,kwonlyargs:=[],kw_defaults:=[],kwarg:=none,defaults:=[] }
def fT (s:bI):List bI:=match s with
 |.FunctionDef _ _ b _ _ _ _ _ _ _=>b
 |_=>[]
def aV (s:bI):fm:=match s with
  |.FunctionDef _ _ _ _ _ _ sc _ _ _=>sc
  |_=>{ kind:=.function,names:=[],isGenerator:=false,isCoroutine:=false }
abbrev eF:pY:=λ_ _ _ _ _ _=>False
abbrev E0:XK:=λ_ _ _=>False
theorem mr {X:Cx}:iE eF X E0:=λ_ _ _ _ _ _ _ h=>h.elim
section
variable {P:aX}{w:bz}{K:aa}{mg:aI->Option ae}{base:aS}
end
theorem DP {A:bq}{k:Nat}(hr:dY k A):A.units+1<gE:=pU (Nat.add_le_add_left (by decide:1<=64) _) hr.units
theorem pN {n:Nat}(h:n<=1000):n<sizeLine:=pU h (by decide)
section
variable {X:Cx}
end
def bE (H H':Hp):Prop:=∀b o,H b=some o->H' b=some o
theorem bE.refl (H:Hp):bE H H:=λ_ _ h=>h
theorem bE.trans {H H1 H2:Hp}(a:bE H H1)(b:bE H1 H2):bE H H2:=λc o h=>b c o (a c o h)
theorem bE.free {H H':Hp}(e:bE H H'){l:af}(h:H' l=Option.none):H l=Option.none:=by
 cases q:H l with
 |none=>rfl
 |some o=>
  rw[e l o q]at h
  cases h
theorem bE.seq {K:aa}{H H':Hp}{a:af}{xs:List V}(e:bE H H')(h:eJ K H a xs):eJ K H' a xs:=by
 rcases h with(h|⟨o,h⟩)|h
 ·exact .inl (.inl (e _ _ h))
 ·exact .inl (.inr ⟨o,e _ _ h⟩)
 ·exact .inr h
end L2
namespace L2
open PySem PySem.Spec PyProof.Rows
def Oh (a C:af)(dx tb:Option af)(h:aS):Prop :=
  ∃a0,h.get? a=some { cls:=.ref C,dict:=dx,data:=.fields #[a0,tb.elim ae.none .ref,.none,.none,.bool false,.none] }
abbrev Lk (a C:af)(dx tb:Option af):HO:=.ext (Oh a C dx tb)
section
variable {X:Cx}{aj:List (af×cN)}{σ:St}{H:Hp}{s:ak}{a C:af}{dx tb:Option af}{M:Model}{A1 A2:bq}{E1 E2:ae->ak->Prop}
end
abbrev GK:=St->af->Hp->Prop
section
variable {X:Cx}{k:Nat}{f C:af}{fd:aF}{ps:List aI}{sp:Sp}{hV:List V}{ds:List ae}{G:GK}{x m:aI}{p pos cY:cA}{e o:Expr}{es:List Expr}{ta:TE}{t:TA}
end
end L2
namespace L2
open PySem PySem.Spec PyProof.Rows
section
variable {nm q:aI}{C N:af}{bs bm:List ae}{GY:Bool}{sn:List aI}{sub:List ae}{ab:Bool}{col:Option Bool}{dd:Option af}{k0 k1 k2 k3 k5:Option ae}
variable {prog:aX}{w:bz}{A:bq}{R:Result->ak->Prop}{h:aS}{g:Array GenState}{d:Drawn}{t:Nat}{os:OsState}
end
end L2
namespace L2
open PySem PySem.Spec PyProof.Rows
section
variable {nm q:aI}{C N:af}{bs bm:List ae}{GY:Bool}{sn:List aI}{sub:List ae}{ab:Bool}{col:Option Bool}{dd:Option af}{k0 k1 k2 k3 k5:Option ae}
variable {prog:aX}{w:bz}{A:bq}{E:ae->ak->Prop}{h:aS}{g:Array GenState}{d:Drawn}{t:Nat}{os:OsState}
end
section
variable {nm q:aI}{C N:af}{bs bm:List ae}{sn:List aI}{sub:List ae}{ab:Bool}{col:Option Bool}{dd:Option af}{k0 k1 k2 k3 k5:Option ae}
variable {prog:aX}{w:bz}{A:bq}{E:ae->ak->Prop}{s:ak}{K:aa}{x:af}{dt:oN}{sl:Array (Option ae)}{name:aI}{v:ae}
end
end L2
set_option maxHeartbeats 4000000
namespace L2
open PySem PySem.Spec PyProof.Rows
section
variable {X:Cx}{aj:List (af×cN)}{σ:St}{H:Hp}{s:ak}{C:af}
variable {k:Nat}{f:af}{fd:aF}{ps:List aI}{sp:Sp}{x:aI}{p pos:cA}{e:Expr}{es:List Expr}{t:TA}{te:TE}{G:GK}
end
end L2
set_option maxHeartbeats 4000000
namespace L2
open PySem PySem.Spec PyProof.Rows
section
variable {X:Cx}{e:Expr}{es:List Expr}{te:TE}{pos:cA}
abbrev TF:=St->Hp->(Hp->Prop)->Prop
def PF (X:Cx)(e:Expr)(n:Nat)(t:TF):Prop:=∀(aj:List (af×cN)) (s:ak) (σ:St) (H:Hp) (Q:Hp->Prop),Inv X aj σ H s->t σ H Q ->
 bg (aZ X.prog X.w) X.A (bN e X.env) (λv s1=>∃y tk H1,v=.str y tk/\y.length<=n/\Inv X aj σ H1 s1/\Q H1) X.xe s
end
structure tw (K:aa)(C:af):Prop where
 ga:ao K (.ref C) "__getattribute__"=some (some (.builtin "BaseException.__getattribute__"))
 gn:ao K (.ref C) "__getattr__"=some none
 mB:dr K C (.type "BaseException")=some true
 hd:cx K C=true
 ca:ao K (.ref C) "__class__"=some (some (.builtin "object.__class__"))
 cg:cX K (.builtin "object.__class__") "__get__"=some (some (.builtin "getset_descriptor.__get__"))
 ct:hJ K (.builtin "object.__class__")=some true
 mO:dr K C (.type "object")=some true
section
variable {prog:aX}{w:bz}{A:bq}{E:ae->ak->Prop}{s:ak}{K:aa}{x C:af}{ox:cN}{od:Option cN}
end
end L2
set_option maxHeartbeats 4000000
namespace L2
open PySem PySem.Spec PyProof.Rows
section
variable {X:Cx}{aj:List (af×cN)}{σ:St}{H:Hp}{s:ak}{E:ae->ak->Prop}{a:af}
end
end L2
set_option maxHeartbeats 4000000
namespace L2
open PySem PySem.Spec PyProof.Rows
section
variable {X:Cx}{e:Expr}{es:List Expr}{te:TE}{pos:cA}
end
end L2
namespace L2
open PySem PySem.Spec PyProof.Rows
section
variable {κ:Type}[DecidableEq κ]
def ig (cq:List (κ×V))(k:κ):Option V:=(cq.find? λkv=>decide (kv.1=k)).map (·.2)
def putK (cq:List (κ×V))(k:κ)(v:V):List (κ×V) :=
 if(cq.any λkv=>decide (kv.1=k))=true then cq.map (λkv=>if kv.1=k then(kv.1,v)else kv)else cq++[(k,v)]
theorem IK {p:κ×V}{r:List (κ×V)}{k:κ}(e:p.1=k):ig (p::r) k=some p.2:=by simp[ig,cP,e]
theorem IL {p:κ×V}{r:List (κ×V)}{k:κ}(e:¬p.1=k):ig (p::r) k=ig r k:=by simp[ig,cP,e]
theorem Mh (k:κ):∀cq:List (κ×V),(cq.any λkv=>decide (kv.1=k))=(ig cq k).isSome
 |[]=>rfl
 |p::r=>by
  rw[d8]
  by_cases e:p.1=k
  ·simp only[IK e,decide_eq_true e,Bool.true_or,Option.isSome_some]
  ·rw[IL e,decide_eq_false e,sU];exact Mh k r
theorem Lr (cq:List (κ×V))(k:κ)(v:V):(putK cq k v).length<=cq.length+1:=by
 unfold putK
 split
 ·rw[aE];omega
 ·rw[aR,az,List.length_nil];omega
theorem iY.isSome_eq {o:Option V}{u:Option ae}(r:iY o u):o.isSome=u.isSome:=by
 cases o with
 |none=>cases u with
  |none=>rfl
  |some _=>exact(show False from r).elim
 |some _=>cases u with
  |none=>exact(show False from r).elim
  |some _=>rfl
theorem iY.getD {o:Option V}{u:Option ae}{d:V}{d':ae}(r:iY o u)(rd:RelV d d'):RelV (o.getD d) (u.getD d'):=by
 cases o with
 |none=>cases u with
  |none=>exact rd
  |some _=>exact(show False from r).elim
 |some _=>cases u with
  |none=>exact(show False from r).elim
  |some _=>exact r
theorem KV.val {cq:List (κ×V)}{vs:List (κ×ae)}(r:KV cq vs)(k:κ):iY (ig cq k) (nh vs k):=by
 unfold KV at r
 induction r with
 |nil=>exact True.intro
 |@cons p q ps qs h t ih=>
  obtain⟨h1,h2⟩:=h
  by_cases e:p.1=k
  ·have e':q.1=k:=h1.symm.trans e
   have b:nh (q::qs) k=some q.2:=by simp[nh,cP,e']
   rw[IK e,b];exact h2
  ·have e':¬q.1=k:=λz=>e (h1.trans z)
   have b:nh (q::qs) k=nh qs k:=by simp[nh,cP,e']
   rw[IL e,b];exact ih
theorem KV.any {cq:List (κ×V)}{vs:List (κ×ae)}(r:KV cq vs)(k:κ):(cq.any λkv=>decide (kv.1=k))=vs.any λkv=>decide (kv.1=k):=by
 unfold KV at r
 induction r with
 |nil=>rfl
 |cons h t ih=>rw[d8,d8,ih,h.1]
theorem KV.repl {cq:List (κ×V)}{vs:List (κ×ae)}(r:KV cq vs)(k:κ){y:V}{u:ae}(ry:RelV y u) :
  KV (cq.map λkv=>if kv.1=k then(kv.1,y)else kv) (vs.map λkv=>if kv.1=k then(kv.1,u)else kv):=by
 unfold KV at r ⊢
 induction r with
 |nil=>exact .nil
 |@cons p q ps qs h t ih=>
  rw[br,br]
  refine .cons ?_ ih
  obtain⟨h1,h2⟩:=h
  by_cases e:p.1=k
  ·rw[if_pos e,if_pos (h1.symm.trans e)];exact⟨h1,ry⟩
  ·rw[if_neg e,if_neg (λz=>e (h1.trans z))];exact⟨h1,h2⟩
theorem KV.put {cq:List (κ×V)}{vs:List (κ×ae)}(r:KV cq vs)(k:κ){y:V}{u:ae}(ry:RelV y u):KV (putK cq k y) (stored vs k u):=by
 unfold putK stored
 rw[r.any k]
 by_cases e:(vs.any λkv=>decide (kv.1=k))=true
 ·rw[if_pos e,if_pos e];exact r.repl k ry
 ·rw[if_neg e,if_neg e];exact Paired.snoc r ⟨rfl,ry⟩
theorem KV.length {cq:List (κ×V)}{vs:List (κ×ae)}(r:KV cq vs):cq.length=vs.length:=Paired.length r
end
theorem DQ {P:aX}{w:bz}{k:et}{u:ae}(r:RelV (kV k) u):(dF P w).is k u=true:=by
 cases k with
 |inl i=>obtain⟨t,e⟩:=(show∃t,u=ae.int i t from r);subst e;exact SS P w i t
 |inr x=>obtain⟨t,e⟩:=(show∃t,u=ae.str x t from r);subst e;exact SU P w x t
theorem LR {P:aX}{w:bz}:∀{ks:List et} {us:List ae},bQ (ks.map kV) us->ItemsAre (dF P w) ks us
 |[],_,r=>by rw[kb]at r;cases r;exact .nil
 |k::ks,_,r=>by
  rw[br]at r
  cases r with
  |cons h t=>exact .cons (DQ h) (LR t)
abbrev KT (H:Hp):List (List et×V)->List (List et×af×ae)->Prop:=Paired λp q=>p.1=q.1/\H q.2.1=some (.tup (p.1.map kV))/\RelV p.2 q.2.2
theorem KT.val {H:Hp}{cq:List (List et×V)}{xs:List (List et×af×ae)}(r:KT H cq xs)(k:List et):iY (ig cq k) ((pA xs k).map (·.2)):=by
 induction r with
 |nil=>exact True.intro
 |@cons p q ps qs h t ih=>
  obtain⟨h1,_,h2⟩:=h
  by_cases e:p.1=k
  ·have e':q.1=k:=h1.symm.trans e
   have b:pA (q::qs) k=some q.2:=by simp[pA,cP,e']
   rw[IK e,b];exact h2
  ·have e':¬q.1=k:=λz=>e (h1.trans z)
   have b:pA (q::qs) k=pA qs k:=by simp[pA,cP,e']
   rw[IL e,b];exact ih
theorem KT.repl {H:Hp}{cq:List (List et×V)}{xs:List (List et×af×ae)}(r:KT H cq xs)(k:List et){y:V}{u:ae}(ry:RelV y u) :
  KT H (cq.map λkv=>if kv.1=k then(kv.1,y)else kv) (xs.map (putAt k u)):=by
 induction r with
 |nil=>exact .nil
 |@cons p q ps qs h t ih=>
  rw[br,br]
  refine .cons ?_ ih
  obtain⟨h1,h2,h3⟩:=h
  unfold putAt
  by_cases e:p.1=k
  ·rw[if_pos e,if_pos (h1.symm.trans e)];exact⟨h1,h2,ry⟩
  ·rw[if_neg e,if_neg (λz=>e (h1.trans z))];exact⟨h1,h2,h3⟩
theorem KT.put {H:Hp}{cq:List (List et×V)}{xs:List (List et×af×ae)}(r:KT H cq xs)(k:List et){b:af}{y:V}{u:ae}(hb:H b=some (.tup (k.map kV)))(ry:RelV y u) :
  KT H (putK cq k y) (storedH xs k b u):=by
 have e:(cq.any λkv=>decide (kv.1=k))=(pA xs k).isSome:=by
  rw[Mh,(r.val k).isSome_eq,oM]
 unfold putK storedH
 rw[e]
 by_cases q:(pA xs k).isSome=true
 ·rw[if_pos q,if_pos q];exact r.repl k ry
 ·rw[if_neg q,if_neg q];exact Paired.snoc r ⟨rfl,hb,ry⟩
theorem KT.keeps {H H':Hp}{cq:List (List et×V)}{xs:List (List et×af×ae)}(r:KT H cq xs)(ht:∀b ys,H b=some (.tup ys)->H' b=some (.tup ys)):KT H' cq xs :=
 Paired.mapP r λ_ _ z=>⟨z.1,ht _ _ z.2.1,z.2.2⟩
section
variable {P:aX}{w:bz}{H:Hp}{h:aS}{a:af}
theorem NE {u:HO}(ok:jM P w H h)(e:Rd H a u):dN P w H h a u:=e.ok ok
theorem yZ {cq:List (et×V)}(ok:jM P w H h)(e:Rd H a (.dK cq)):cq.length<=sizeLine/\(a==ej)=false/\∃vs,KV cq vs/\h.DictOf (dF P w) a vs :=
 show dN P w H h a (.dK cq)from NE ok e
theorem YE {cq:List (et×V)}(ok:jM P w H h)(e:H a=some (.dK cq)):cq.length<=sizeLine/\(a==ej)=false/\∃vs,KV cq vs/\h.DictOf (dF P w) a vs:=yZ ok (.inl e)
theorem DK {ks:List et}(ok:jM P w H h)(e:H a=some (.tup (ks.map kV))):(iQ (dF P w)).is h ks a:=by
 obtain⟨_,bV,r,o,h1,h2,n,h3⟩:=(show dN P w H h a (.tup (ks.map kV))from ok a _ e)
 exact⟨o,bV.toArray,n,h1,h2,h3,by simpa using LR r⟩
theorem DR {cq:List (List et×V)}(ok:jM P w H h)(e:Rd H a (.dT cq)):cq.length<=sizeLine/\(a==ej)=false /\
  ∃xs,KT H cq xs/\h.DictOfH (iQ (dF P w)) a xs:=by
 obtain⟨z,y,xs,r,o,es,ep,h1,h2,h3,h4,h5⟩:=(show dN P w H h a (.dT cq)from NE ok e)
 refine⟨z,y,xs,r,o,es,ep,h1,h2,h3,h4,λx hx=>?_,h5⟩
 have all:∀{l:List (List et×V)} {m:List (List et×af×ae)},KT H l m->∀x∈m,(iQ (dF P w)).is h x.1 x.2.1:=by
  intro l m q
  induction q with
  |nil=>intro x hx;exact nomatch hx
  |@cons p q ps qs hq t ih=>
   intro x hx
   rcases ay.mp hx with e|hx
   ·subst e
    exact DK ok (by rw[←hq.1];exact hq.2.1)
   ·exact ih x hx
 exact all r x hx
theorem YF {cq:List (List et×V)}(ok:jM P w H h)(e:H a=some (.dT cq)):cq.length<=sizeLine/\(a==ej)=false /\
  ∃xs,KT H cq xs/\h.DictOfH (iQ (dF P w)) a xs:=DR ok (.inl e)
end
def lP (H:Hp)(a:af)(y:V)(r:Option V):Prop :=
 (∃cq k,Rd H a (.dK cq)/\y=kV k/\r=ig cq k)\/∃cq k b,Rd H a (.dT cq)/\y=.ref b/\H b=some (.tup (k.map kV))/\r=ig cq k
def ni (H:Hp)(a:af)(y v:V)(H':Hp):Prop :=
 (∃cq k,H a=some (.dK cq)/\y=kV k/\cq.length<sizeLine/\H'=upd H a (.dK (putK cq k v))) \/
 ∃cq k b,H a=some (.dT cq)/\y=.ref b/\H b=some (.tup (k.map kV))/\cq.length<sizeLine/\H'=upd H a (.dT (putK cq k v))
theorem lP.k {H:Hp}{a:af}{cq:List (et×V)}{k:et}(e:H a=some (.dK cq)):lP H a (kV k) (ig cq k):=.inl ⟨cq,k,.inl e,rfl,rfl⟩
theorem ni.k {H:Hp}{a:af}{cq:List (et×V)}{k:et}{v:V}(e:H a=some (.dK cq))(hl:cq.length<sizeLine):ni H a (kV k) v (upd H a (.dK (putK cq k v))):=.inl ⟨cq,k,e,rfl,hl,rfl⟩
theorem ni.t {H:Hp}{a b:af}{cq:List (List et×V)}{k:List et}{v:V}(e:H a=some (.dT cq))(eb:H b=some (.tup (k.map kV)))(hl:cq.length<sizeLine) :
  ni H a (.ref b) v (upd H a (.dT (putK cq k v))):=.inr ⟨cq,k,b,e,rfl,eb,hl,rfl⟩
section
variable {X:Cx}{aj:List (af×cN)}{σ:St}{H:Hp}{s:ak}{a:af}{y v:V}{u r:ae}{o:Option V}{A:bq}{E:ae->ak->Prop}
theorem Inv.big (I:Inv X aj σ H s):ej<s.heap.objs.size:=by
 have h:ax<s.heap.objs.size:=(I.mod.glob.keeps I.bk).lt
 exact Nat.lt_trans (by decide) h
theorem Gh {Q:ae->ak->Prop}(hu:A.units+1<gE)(I:Inv X aj σ H s)(g:lP H a y o)(ry:RelV y u)(h:∀s',Inv X aj σ H s'->Q (.bool o.isSome) s') :
  bg (aZ X.prog X.w) A (cD .In u (.ref a)) Q E s:=by
 rcases g with⟨cq,k,e,ey,l⟩|⟨cq,k,b,e,ey,eb,l⟩
 ·subst ey
  obtain⟨z,hd,vs,rel,dd⟩:=yZ I.hok e
  refine wpAny_in_of (DQ ry) hd dd.mapOf ?_
  rw[←(rel.val k).isSome_eq,←l]
  exact h _ (I.tok _)
 ·subst ey
  cases(show u=ae.ref b from ry)
  obtain⟨z,hd,xs,rel,dd⟩:=DR I.hok e
  refine wpAny_in_heap (gP hu) (DK I.hok eb) hd dd ?_
  have q:=(rel.val k).isSome_eq
  rw[oM]at q
  rw[←q,←l]
  exact h _ (I.tok _)
theorem MI {h':aS}{t':Nat}{ob:HO}(I:Inv X aj σ H s)(mu:zH (H a))(hs:dH a s.heap h')(he:∃q,h'.get? a=some q)(new:dN X.prog X.w (upd H a ob) h' a ob) :
  Inv X aj σ (upd H a ob) { s with heap:=h',toks:=t' } :=
 I.write (x:=a) (e:=a) mu (.inl rfl) (λb q hb z=>(hs.2 b hb).trans z) he new
theorem WW {P:aX}{w:bz}{H':Hp}{h':aS}{cq:List (et×V)}{vs:List (et×ae)}(z:cq.length<=sizeLine)(hd:(a==ej)=false)(rel:KV cq vs)(dd:h'.DictOf (dF P w) a vs) :
  dN P w H' h' a (.dK cq):=⟨z,hd,vs,rel,dd⟩
theorem T4 {H':Hp}{Q:Unit->ak->Prop}(hu:A.units+1<gE)(I:Inv X aj σ H s)(g:ni H a y v H')(ry:RelV y u)(rv:RelV v r)(h:∀s',Inv X aj σ H' s'->Q () s') :
  bg (aZ X.prog X.w) A (kc (.ref a) u r) Q E s:=by
 rcases g with⟨cq,k,e,ey,l,eH⟩|⟨cq,k,b,e,ey,eb,l,eH⟩
 ·subst ey eH
  obtain⟨z,hd,vs,rel,dd⟩:=YE I.hok e
  have hz:vs.length<=sizeLine:=by rw[←rel.length];exact z
  have hl:(putK cq k v).length<=sizeLine:=by have:=Lr cq k v;omega
  refine wpAny_setItem_pairs (hsz:=hz) (DQ ry) dd λh' D4 hs=>h _ ?_
  have he:∃q,h'.get? a=some q:=let⟨q,_,_,hq,_⟩:=D4;⟨q,hq⟩
  exact MI I (by rw[e];exact True.intro) hs he (WW hl hd (rel.put k rv) D4)
 ·subst ey eH
  cases(show u=ae.ref b from ry)
  obtain⟨z,hd,xs,rel,dd⟩:=YF I.hok e
  have hz:xs.length<=sizeLine:=by rw[←Paired.length rel];exact z
  have hl:(putK cq k v).length<=sizeLine:=by have:=Lr cq k v;omega
  refine wpAny_setItem_heap (hsz:=hz) (gP hu) (DK I.hok eb) dd λh' D4 hs=>h _ ?_
  obtain⟨q,es,ep,hq,h2,h3,h4,_,h5⟩:=D4
  refine MI I (by rw[e];exact True.intro) hs ⟨q,hq⟩ ⟨hl,hd,_,(rel.put k eb rv).keeps λc ys ec=>?_,q,es,ep,hq,h2,h3,h4,h5⟩
  rw[zn (Yv ec e (λz=>nomatch z))]
  exact ec
end
section
variable {X:Cx}{aj:List (af×cN)}{σ:St}{H:Hp}{s:ak}{a:af}{cq:List (et×V)}{k:et}{u:ae}{A:bq}{E:ae->ak->Prop}
theorem YG {Q:ae->ak->Prop}(I:Inv X aj σ H s)(e:Rd H a (.dK cq))(h:∀t s',Inv X aj σ H s'->Q (.int cq.length t) s'):bg (aZ X.prog X.w) A (call (.builtin "len") [.ref a]) Q E s:=by
 obtain⟨z,hd,vs,rel,dd⟩:=yZ I.hok e
 refine call_len_dict hd dd (by rw[←rel.length];rw[bG]at z;omega) ?_
 rw[←rel.length]
 exact h _ _ (I.tok _)
end
def Ia (ty td:TE):TE:=λσ H Q=>ty σ H λy H1=>td σ H1 λx H2=>∃a o,x=.ref a/\lP H2 a y o/\Q (.bl o.isSome) H2
def Dh (td ty tv:TE):TS:=λD σ H=>tv σ H λv H1=>td σ H1 λx H2=>ty σ H2 λy H3=>∃a H4,x=.ref a/\ni H3 a y v H4/\D.nx σ H4
section
variable {X:Cx}{o i e value:Expr}{pos pos' ez:cA}{td ty tv:TE}
theorem WX (hu:X.A.units+1<gE)(hi:PE X i ty)(ho:PE X o td):PC X .In i o (Ia ty td):=by
 intro aj s σ H Q I h
 refine de (hi aj s σ H _ I h) λiv s1 ⟨y,H1,I1,ry,q1⟩=>de (ho aj s1 σ H1 _ I1 q1) λu s2 di=>?_
 obtain⟨x,H2,I2,rx,a,ov,ex,g,q2⟩:=di
 subst ex
 obtain rfl:u=ae.ref a:=rx
 exact Gh hu I2 g ry λs3 I3=>⟨.bl ov.isSome,H2,I3,rfl,q2⟩
theorem Vt (hu:X.A.units+1<gE)(ho:PE X o td)(hi:PE X i ty)(hv:PE X value tv)(hs:dO value (some (.Subscript o i pos')) pos.line X.env=pure false) :
  PS X (.Assign [.Subscript o i pos'] value pos) (Dh td ty tv):=by
 intro aj s σ H D I h
 refine wpAny_Assign_Subscript (de (hv aj s σ H _ I h) λr s1 ⟨v,H1,I1,rv,q1⟩=>de (ho aj s1 σ H1 _ I1 q1) λu s2 ⟨x,H2,I2,rx,q2⟩=>de (hi aj s2 σ H2 _ I2 q2) λiv s3 ⟨y,H3,I3,ry,a,H4,ex,g,q3⟩=>?_) hs
 subst ex
 obtain rfl:u=ae.ref a:=rx
 exact T4 hu I3 g ry rv λs4 I4=>⟨σ,H4,I4,q3⟩
end
theorem UR {P:aX}{w:bz}{H:Hp}(h:aS)(hb:ej<h.objs.size):dN P w H (h.push { cls:=.type "dict",data:=.dict #[] }) h.objs.size (.dK []) :=
  ⟨cZ _,beq_eq_false_iff_ne.mpr (Ne.symm (bt hb)),[],.nil,aS.DictOf.new h⟩
theorem US {P:aX}{w:bz}{H:Hp}(h:aS)(hb:ej<h.objs.size):dN P w H (h.push { cls:=.type "dict",data:=.dict #[] }) h.objs.size (.dT []) :=
  ⟨cZ _,beq_eq_false_iff_ne.mpr (Ne.symm (bt hb)),[],.nil,_,#[],0,bB _ rfl,⟨rfl,rfl,rfl⟩,rfl,rfl,bx⟩
def xO:TE:=λ_ H Q=>∀p,H p=none->Q (.ref p) (upd H p (.dK []))
def xP:TE:=λ_ H Q=>∀p,H p=none->Q (.ref p) (upd H p (.dT []))
section
variable {X:Cx}{pos:cA}
theorem UT:PE X (.Dict [] [] pos) xO:=λaj s σ H Q I h=>
 wpAny_Dict_empty ⟨.ref s.heap.objs.size,_,I.laid (a:=s.heap.objs.size) (o:=.dK []) (t':=s.toks) (λ_ _ q=>aC _ q) (aG _) (UR s.heap I.big),rfl,h _ (I.hok.fresh (aG _))⟩
theorem UU:PE X (.Dict [] [] pos) xP:=λaj s σ H Q I h=>
 wpAny_Dict_empty ⟨.ref s.heap.objs.size,_,I.laid (a:=s.heap.objs.size) (o:=.dT []) (t':=s.toks) (λ_ _ q=>aC _ q) (aG _) (US s.heap I.big),rfl,h _ (I.hok.fresh (aG _))⟩
end
structure M1 (X:Cx)(o:Expr)(m:aI)(cY:cA)(e:Expr)(dM:cA):Prop where
 base:eP o m X.env (bN o X.env)=bN o X.env
 few:((cC dM (aq [e] X.env)).all (λx=>!x.1)&&(eQ dM (dC [] X.env)).all (λx=>x.1.isSome)
  && decide (([e]:List Expr).length+([]:List iq).length+(if([]:List iq).isEmpty then 0 else 1)<30))=true
 line:(cY.endLine==dM.line)=true
 trees:cC dM (aq [e] X.env)=[(false,bN e X.env)]
structure M2 (X:Cx)(o:Expr)(m:aI)(cY:cA)(e f:Expr)(dM:cA):Prop where
 base:eP o m X.env (bN o X.env)=bN o X.env
 few:((cC dM (aq [e,f] X.env)).all (λx=>!x.1)&&(eQ dM (dC [] X.env)).all (λx=>x.1.isSome)
  && decide (([e,f]:List Expr).length+([]:List iq).length+(if([]:List iq).isEmpty then 0 else 1)<30))=true
 line:(cY.endLine==dM.line)=true
 trees:cC dM (aq [e,f] X.env)=[(false,bN e X.env),(false,bN f X.env)]
def yB (H:Hp)(a:af):Prop:=(∃cq,Rd H a (.dK cq))\/∃cq,Rd H a (.dT cq)
theorem Nt {X:Cx}{aj:List (af×cN)}{σ:St}{H:Hp}{s:ak}{a:af}(I:Inv X aj σ H s)(d:yB H a) :
  s.TypeIs (.ref a) "dict"/\(∀b,ae.ref a=.ref b->∃ob,s.heap.get? b=some ob/\ob.dict=none)/\(a==ej)=false:=by
 rcases d with⟨cq,e⟩|⟨cq,e⟩
 ·obtain⟨_,hd,vs,_,dd⟩:=yZ I.hok e
  refine⟨dd.typeIs,λb q=>?_,hd⟩
  cases q
  obtain⟨ob,_,_,h1,h2,_⟩:=dd
  exact⟨ob,h1,h2.2.1⟩
 ·obtain⟨_,hd,xs,_,dd⟩:=DR I.hok e
  refine⟨dd.typeIs,λb q=>?_,hd⟩
  cases q
  obtain⟨ob,_,_,h1,h2,_⟩:=dd
  exact⟨ob,h1,h2.2.1⟩
section
variable {X:Cx}{aj:List (af×cN)}{σ:St}{H:Hp}{s:ak}{a:af}{y d:V}{u r:ae}{o:Option V}{A:bq}{E:ae->ak->Prop}
theorem WY {Q:ae->ak->Prop}(hu:A.units+1<gE)(I:Inv X aj σ H s)(g:lP H a y o)(ry:RelV y u)(h:∀w' s',Inv X aj σ H s'->RelV (o.getD .non) w'->Q w' s') :
  bg (aZ X.prog X.w) A (call (.builtin "dict.get") [.ref a,u]) Q E s:=by
 rcases g with⟨cq,k,e,ey,l⟩|⟨cq,k,b,e,ey,eb,l⟩
 ·subst ey
  obtain⟨z,hd,vs,rel,dd⟩:=yZ I.hok e
  refine call_meetsIn PySem.F.slot_dict_get dd.typeIs PySem.F.entry_dict_get (PySem.F.args_dict_get_2 _ _) (meets_dict_get (dF X.prog X.w) a (DQ ry) hd) ⟨_,dd.mapOf,h _ _ (I.tok _) ?_⟩
  rw[l]
  exact(rel.val k).getD rfl
 ·subst ey
  cases(show u=ae.ref b from ry)
  obtain⟨z,hd,xs,rel,dd⟩:=DR I.hok e
  refine call_meetsIn PySem.F.slot_dict_get dd.typeIs PySem.F.entry_dict_get (PySem.F.args_dict_get_2 _ _) (meetsH_dict_get (iQ (dF X.prog X.w)) a b hd) ⟨gP hu,k,xs,DK I.hok eb,dd,h _ _ (I.tok _) ?_⟩
  rw[l]
  exact(rel.val k).getD rfl
theorem WZ {Q:ae->ak->Prop}(hu:A.units+1<gE)(I:Inv X aj σ H s)(g:lP H a y o)(ry:RelV y u)(rd:RelV d r)(h:∀w' s',Inv X aj σ H s'->RelV (o.getD d) w'->Q w' s') :
  bg (aZ X.prog X.w) A (call (.builtin "dict.get") [.ref a,u,r]) Q E s:=by
 rcases g with⟨cq,k,e,ey,l⟩|⟨cq,k,b,e,ey,eb,l⟩
 ·subst ey
  obtain⟨z,hd,vs,rel,dd⟩:=yZ I.hok e
  refine call_meetsIn PySem.F.slot_dict_get dd.typeIs PySem.F.entry_dict_get (PySem.F.args_dict_get_3 _ _ _) (meets_dict_get_default (dF X.prog X.w) a (DQ ry) hd r) ⟨_,dd.mapOf,h _ _ (I.tok _) ?_⟩
  rw[l]
  exact(rel.val k).getD rd
 ·subst ey
  cases(show u=ae.ref b from ry)
  obtain⟨z,hd,xs,rel,dd⟩:=DR I.hok e
  refine call_meetsIn PySem.F.slot_dict_get dd.typeIs PySem.F.entry_dict_get (PySem.F.args_dict_get_3 _ _ _) (meetsH_dict_get_default (iQ (dF X.prog X.w)) a b hd r) ⟨gP hu,k,xs,DK I.hok eb,dd,h _ _ (I.tok _) ?_⟩
  rw[l]
  exact(rel.val k).getD rd
end
def xM (td ty:TE):TE:=λσ H Q=>td σ H λx H1=>∃a,x=.ref a/\yB H1 a/\ty σ H1 λy H2=>∃o,lP H2 a y o/\Q (o.getD .non) H2
def xN (td ty tx:TE):TE:=λσ H Q=>td σ H λx H1=>∃a,x=.ref a/\yB H1 a/\ty σ H1 λy H2=>tx σ H2 λz H3=>∃o,lP H3 a y o/\Q (o.getD z) H3
section
variable {X:Cx}{o e f:Expr}{cY dM:cA}{td ty tx:TE}
theorem UV (hu:X.A.units+1<gE)(ho:PE X o td)(he:PE X e ty)(m:M1 X o "get" cY e dM):PE X (.Call (.Attribute o "get" cY) [e] [] dM) (xM td ty):=by
 intro aj s σ H Q I h
 refine wpAny_Call_method m.base m.few m.line PySem.F.plainAttrs_dict PySem.F.slot_dict_get PySem.F.type_dict_get (de (ho aj s σ H _ I h) λu s1 di=>?_)
 obtain⟨x,H1,I1,rx,a,ex,d,q1⟩:=di
 subst ex
 obtain rfl:u=ae.ref a:=rx
 obtain⟨t1,t2,_⟩:=Nt I1 d
 refine⟨t1,t2,?_⟩
 rw[m.trees]
 refine Calls.callWith_builtin rfl (Calls.evalArgs_plain (Calls.spliced_cons (de (he aj s1 σ H1 _ I1 q1) λiv s2 ⟨y,H2,I2,ry,ov,g,q2⟩=>Calls.spliced_nil ?_)))
 exact WY hu I2 g ry λw' s3 I3 oA=>⟨_,H2,I3,oA,q2⟩
theorem UW (hu:X.A.units+1<gE)(ho:PE X o td)(he:PE X e ty)(hf:PE X f tx)(m:M2 X o "get" cY e f dM):PE X (.Call (.Attribute o "get" cY) [e,f] [] dM) (xN td ty tx):=by
 intro aj s σ H Q I h
 refine wpAny_Call_method m.base m.few m.line PySem.F.plainAttrs_dict PySem.F.slot_dict_get PySem.F.type_dict_get (de (ho aj s σ H _ I h) λu s1 di=>?_)
 obtain⟨x,H1,I1,rx,a,ex,d,q1⟩:=di
 subst ex
 obtain rfl:u=ae.ref a:=rx
 obtain⟨t1,t2,_⟩:=Nt I1 d
 refine⟨t1,t2,?_⟩
 rw[m.trees]
 refine Calls.callWith_builtin rfl (Calls.evalArgs_plain (Calls.spliced_cons (de (he aj s1 σ H1 _ I1 q1) λiv s2 ⟨y,H2,I2,ry,q2⟩=>
  Calls.spliced_cons (de (hf aj s2 σ H2 _ I2 q2) λfv s3 ⟨z,H3,I3,rz,ov,g,q3⟩=>Calls.spliced_nil ?_))))
 exact WZ hu I3 g ry rz λw' s4 I4 oA=>⟨_,H3,I4,oA,q3⟩
end
section
variable {X:Cx}{aj:List (af×cN)}{σ:St}{H:Hp}{s:ak}{a:af}{cq:List (et×V)}{A:bq}{E:ae->ak->Prop}
end
section
variable {X:Cx}{aj:List (af×cN)}{σ:St}{H:Hp}{s:ak}{a:af}{y:V}{u:ae}{A:bq}{E:ae->ak->Prop}
end
end L2
namespace L2
open PySem PySem.Spec PyProof.Rows
section
variable {X:Cx}
theorem T5:eM X (.builtin "len") (λxs H Q=>∃a cq,xs=[V.ref a]/\H a=some (.dK cq)/\Q (.int cq.length) H):=by
 intro aj s σ H xs us Q I r h
 obtain⟨a,cq,rfl,ha,q⟩:=h
 obtain⟨u,rfl,ru⟩:=o4 r
 cases ru
 exact YG I (.inl ha) λt s' I'=>⟨.int cq.length,H,I',⟨t,rfl⟩,q⟩
end
end L2
namespace L2
open PySem
section
variable {κ:Type}[DecidableEq κ]
end
end L2
namespace L2
open PySem PySem.Spec PyProof.Rows
def Sz (n:Nat)(i:Int):Prop:=i.natAbs<2 ^ n
theorem Sz.bits {n:Nat}{i:Int}(h:Sz n i):Builtin.Int.intBits i<=n:=by
 unfold Builtin.Int.intBits
 by_cases h0:(i==0)=true
 ·rw[if_pos h0];exact cZ _
 ·rw[if_neg h0]
  have hi:i.natAbs≠0:=by
   have:i≠0:=by simpa using h0
   omega
  exact Nat.succ_le_of_lt ((Nat.log2_lt hi).mpr h)
theorem Sz.log {n:Nat}{i:Int}(h:Sz n i)(hn:0<n):i.natAbs.log2<n:=by
 by_cases hi:i.natAbs=0
 ·rw[hi];exact hn
 ·exact(Nat.log2_lt hi).mpr h
theorem Sz.mono {n m:Nat}{i:Int}(h:Sz n i)(hm:n<=m):Sz m i:=bo h (i7 (by decide) hm)
def lY (i j:Int):Prop:=uF i j\/(Sz 100000 i/\Sz 100000 j)
theorem lY.ok {i j:Int}(h:lY i j):IntMulOk i j:=by
 rcases h with h|h
 ·exact h.ok
 ·exact IntMulOk.of_bits (bK h.1.bits (by decide)) (bK h.2.bits (by decide))
section
variable {X:Cx}
theorem vn:fJ X (dG .Mult) (rI lY λi j=>.int (i*j)):=yQ λ_ _ _ _ _ _ _ hc q=>mul_int q hc.ok
theorem we:fJ X (dG .FloorDiv) (rI (λ_ j=>j≠0/\Sz 9000 j) λi j=>.int (i.fdiv j)) :=
 yQ λ_ _ _ _ _ _ _ hc q=>floordiv_int hc.1 q (.inl (PyProof.noPylong_of_log2 (hc.2.log (by decide))))
theorem RelV.bool_iff {x:V}{v:ae}{b:Bool}(r:RelV x v):(v==ae.bool b)=decide (x=.bl b):=by
 cases x with
 |bl c=>
  cases(show v=ae.bool c from r)
  by_cases h:c=b
  ·subst h;simp
  ·have h1:¬V.bl c=V.bl b:=λz=>h (V.bl.inj z)
   rw[decide_eq_false h1]
   exact beq_eq_false_iff_ne.mpr λz=>h (by injection z)
 |non=>cases(show v=ae.none from r);rw[decide_eq_false (λz=>nomatch z)];exact beq_eq_false_iff_ne.mpr λz=>nomatch z
 |int i=>obtain⟨t,rfl⟩:=(show∃t,v=ae.int i t from r);rw[decide_eq_false (λz=>nomatch z)];exact beq_eq_false_iff_ne.mpr λz=>nomatch z
 |str i=>obtain⟨t,rfl⟩:=(show∃t,v=ae.str i t from r);rw[decide_eq_false (λz=>nomatch z)];exact beq_eq_false_iff_ne.mpr λz=>nomatch z
 |byt i=>obtain⟨t,rfl⟩:=(show∃t,v=ae.bytes i t from r);rw[decide_eq_false (λz=>nomatch z)];exact beq_eq_false_iff_ne.mpr λz=>nomatch z
 |flt i=>obtain⟨t,rfl⟩:=(show∃t,v=ae.float i t from r);rw[decide_eq_false (λz=>nomatch z)];exact beq_eq_false_iff_ne.mpr λz=>nomatch z
 |ref i=>cases(show v=ae.ref i from r);rw[decide_eq_false (λz=>nomatch z)];exact beq_eq_false_iff_ne.mpr λz=>nomatch z
 |ty i=>cases(show v=ae.type i from r);rw[decide_eq_false (λz=>nomatch z)];exact beq_eq_false_iff_ne.mpr λz=>nomatch z
theorem Lm {x:V}{v:ae}{b:Bool}(r:RelV x v):plainIs v (.bool b)=true:=by
 cases x with
 |bl c=>cases(show v=ae.bool c from r);rfl
 |non=>cases(show v=ae.none from r);rfl
 |int i=>obtain⟨t,rfl⟩:=(show∃t,v=ae.int i t from r);rfl
 |str i=>obtain⟨t,rfl⟩:=(show∃t,v=ae.str i t from r);rfl
 |byt i=>obtain⟨t,rfl⟩:=(show∃t,v=ae.bytes i t from r);rfl
 |flt i=>obtain⟨t,rfl⟩:=(show∃t,v=ae.float i t from r);rfl
 |ref i=>cases(show v=ae.ref i from r);rfl
 |ty i=>cases(show v=ae.type i from r);rfl
theorem W1:fJ X (cD .Is) (λx y H Q=>∃b,y=.bl b/\Q (.bl (decide (x=.bl b))) H):=by
 intro aj s σ H x y v u Q I rx ry h
 obtain⟨b,rfl,q⟩:=h
 cases ry
 exact wpAny_is_plain (Lm rx) (Fu I q (RelV.bool_iff rx).symm)
theorem T6:fJ X (cD .IsNot) (λx y H Q=>∃b,y=.bl b/\Q (.bl (!decide (x=.bl b))) H):=by
 intro aj s σ H x y v u Q I rx ry h
 obtain⟨b,rfl,q⟩:=h
 cases ry
 exact wpAny_isNot_plain (Lm rx) (Fu I q (by rw[RelV.bool_iff rx]))
theorem UX:eM X (.builtin "isinstance") (λxs H Q=>∃x c t b,xs=[x,.ty c]/\jI X.K H x t/\bv X.K t (.type c)=some b/\Q (.bl b) H):=by
 intro aj s σ H xs us Q I r h
 obtain⟨x,c,t,b,rfl,ty,e,q⟩:=h
 obtain⟨u,w',rfl,ru,oA⟩:=vals2 r
 cases(show w'=ae.type c from oA)
 exact LH I ru ty e λtk=>⟨.bl b,H,I.tok tk,rfl,q⟩
theorem T7:eM X (.builtin "isinstance") (λxs H Q=>∃x C t b,xs=[x,.ref C]/\jI X.K H x t/\bv X.K t (.ref C)=some b/\Q (.bl b) H):=by
 intro aj s σ H xs us Q I r h
 obtain⟨x,c,t,b,rfl,ty,e,q⟩:=h
 obtain⟨u,w',rfl,ru,oA⟩:=vals2 r
 cases(show w'=ae.ref c from oA)
 exact LH I ru ty e λtk=>⟨.bl b,H,I.tok tk,rfl,q⟩
end
mutual
inductive Dt (K:aa)(H:Hp):V->bM->Prop
 |non:Dt K H .non .none
 |bl (b:Bool):Dt K H (.bl b) (.bool b)
 |int (i:Int):Dt K H (.int i) (.int i)
 |str (x:aI):Dt K H (.str x) (.str x)
 |lst {a:af} {xs:List V} {ds:List bM}:eJ K H a xs->Dts K H xs ds->Dt K H (.ref a) (.list ds)
 |tup {a:af} {xs:List V} {ds:List bM}:jU K H a xs->Dts K H xs ds->Dt K H (.ref a) (.tuple ds)
inductive Dts (K:aa)(H:Hp):List V->List bM->Prop
 |nil:Dts K H [] []
 |cons {v:V} {d:bM} {vs:List V} {ds:List bM}:Dt K H v d->Dts K H vs ds->Dts K H (v::vs) (d::ds)
end
section
variable {X:Cx}{aj:List (af×cN)}{σ:St}{H:Hp}{s:ak}
mutual
theorem Dt.reads (I:Inv X aj σ H s):∀{v:V} {d:bM} {u:ae},Dt X.K H v d->RelV v u->∃as,Reads s.heap u d as
 |_,_,_,.non,r=>by cases r;exact⟨_,.none⟩
 |_,_,_,.bl b,r=>by cases r;exact⟨_,.bool b⟩
 |_,_,_,.int i,r=>by obtain⟨t,rfl⟩:=r;exact⟨_,.int i t⟩
 |_,_,_,.str x,r=>by obtain⟨t,rfl⟩:=r;exact⟨_,.str x t⟩
 |_,_,_,.lst hq ds,r=>by
  obtain⟨bV,rv,⟨o,n,e,c,_,dd⟩,_⟩:=I.list hq
  obtain⟨as,ra⟩:=Dts.reads I ds rv
  cases r
  exact⟨_,.list e c dd (by simpa using ra)⟩
 |_,_,_,.tup hq ds,r=>by
  obtain⟨bV,rv,⟨o,e,c,n,dd⟩,_⟩:=I.tuple hq
  obtain⟨as,ra⟩:=Dts.reads I ds rv
  cases r
  exact⟨_,.tuple e c dd (by simpa using ra)⟩
theorem Dts.reads (I:Inv X aj σ H s):∀{vs:List V} {ds:List bM} {us:List ae},Dts X.K H vs ds->bQ vs us->∃as,ReadsAll s.heap us ds as
 |_,_,_,.nil,r=>by cases r;exact⟨_,.nil⟩
 |_,_,_,.cons h t,r=>by
  cases r with
  |cons p q=>
   obtain⟨as,ra⟩:=Dt.reads I h p
   obtain⟨bs,rb⟩:=Dts.reads I t q
   exact⟨_,.cons ra rb⟩
end
end
section
variable {X:Cx}
def xH (K:aa)(neg:Bool):R2:=λx y H Q=>∃d e,Dt K H x d/\Dt K H y e/\d.canLay0=true/\e.canLay0=true/\min d.depth e.depth<=60/\Q (.bl (if neg then !bM.eqv d e else bM.eqv d e)) H
theorem t8 (hu:X.A.units+64<gE):fJ X (cD .Eq) (xH X.K false):=by
 intro aj s σ H x y v u Q I rx ry h
 obtain⟨d,e,hd,he,c1,c2,dp,q⟩:=h
 obtain⟨as,ra⟩:=hd.reads I rx
 obtain⟨bs,rb⟩:=he.reads I ry
 exact SeqAt.compareEq_reads ra rb c1 c2 (by omega) ⟨.bl _,H,I,rfl,q⟩
theorem Nu (hu:X.A.units+64<gE):fJ X (cD .NotEq) (xH X.K true):=by
 intro aj s σ H x y v u Q I rx ry h
 obtain⟨d,e,hd,he,c1,c2,dp,q⟩:=h
 obtain⟨as,ra⟩:=hd.reads I rx
 obtain⟨bs,rb⟩:=he.reads I ry
 exact SeqAt.compareNe_reads ra rb c1 c2 (by omega) ⟨.bl _,H,I,rfl,q⟩
theorem Dts.ints (K:aa)(H:Hp):∀ns:List Int,Dts K H (ns.map V.int) (ns.map bM.int)
 |[]=>.nil
 |n::r=>.cons (.int n) (Dts.ints K H r)
end
theorem j1 {H:Hp}{p:af}(h:H p=none)(o:HO):bE H (upd H p o):=λb u q=>by rw[zn (yw q h)];exact q
theorem dY.u64 {k:Nat}{A:bq}(r:dY k A):A.units+64<gE:=r.units
theorem small {n:Nat}(h:n<=1000):n<=sizeLine:=ko (pN h)
end L2
namespace L2
open PySem PySem.Spec PyProof.Rows
end L2
namespace L2
open PySem PySem.Spec PyProof.Rows
end L2
namespace L2
open PySem
theorem Nv:bU "int"=some (.type "int"):=by decide +kernel
theorem W2:bU "str"=some (.type "str"):=by decide +kernel
theorem MJ:bU "bool"=some (.type "bool"):=by decide +kernel
theorem ql:bU "list"=some (.type "list"):=by decide +kernel
theorem Nw:bU "len"=some (.builtin "len"):=by decide +kernel
theorem DL:bU "max"=some (.builtin "max"):=by decide +kernel
theorem j2:bU "isinstance"=some (.builtin "isinstance"):=by decide +kernel
theorem T8:bU "sorted"=some (.builtin "sorted"):=by decide +kernel
theorem Nh:bU "all"=some (.builtin "all"):=by decide +kernel
end L2
namespace L2
open PySem PySem.Spec PyProof.Rows
section
variable {prog:aX}{w:bz}{A:bq}{R:Result->ak->Prop}{s:ak}
theorem Ln {iT target iter:Expr}{ifs:List Expr}{scope:fm}{pos:cA}{it fP:ae}{env:Env}(I:Nat->ak->Prop)
  (mR:∀n s,I n s->bg (aZ prog w) A (pyNext it) (λr s₁=>match r with
   |none=>R (.ok .next) s₁
   |some v=>bg (aZ prog w) A (gx target it v) (λ_ La=>bg (aZ prog w) A (eW target env v) (λ_ s₂=>
     bg (aZ prog w) A (forIn ifs true λc r=>if r=true then do let ok ← pW c env (bN c env);pure (ForInStep.yield ok)else pure (ForInStep.yield r)) (λok s₃=>
      if ok=true then bg (aZ prog w) A (bN iT env) (λx s₄=>
       bg (aZ prog w) A (call (.builtin "list.append") [fP,x]) (λ_ s₅=>∃m,m<n/\I m s₅) (λ_ _=>False) s₄) (λ_ _=>False) s₃
      else∃m,m<n/\I m s₃) (λ_ _=>False) s₂) (λ_ _=>False) La) (λ_ _=>False) s₁) (λ_ _=>False) s)
  (n:Nat) (h:I n s) :
  gK (aZ prog w) A (.compLoop (.ListComp iT [⟨target,iter,ifs,0⟩] scope pos) 0 it fP env) R s:=by
 have up:∀{α:Type} {m:ik α} {Q:α->ak->Prop} {E:ae->ak->Prop} {s:ak},bg (aZ prog w) A m Q (λ_ _=>False) s->bg (aZ prog w) A m Q E s:=λh=>dW h (λ_ _ q=>q) λ_ _ f=>f.elim
 refine codeAny_loop rfl I (λn s hI=>?_) n h
 show bg _ A ((compTurn (.ListComp iT [⟨target,iter,ifs,0⟩] scope pos) 0 it fP env).onRaise (λx=>do noteFrame x env;theTreesLotGoes x)) _ _ s
 refine wpAny_noted ?_
 rw[compTurn_list]
 refine aL (kQ (aL (dW (up (mR n s hI)) (λr s₁ h₁=>?_) λ_ _ h'=>h')))
 cases r with
 |none=>exact bF h₁
 |some v=>
  refine aL (dW (up h₁) (λ_ La PR=>?_) λ_ _ h'=>h')
  refine aL (dW (up PR) (λ_ s₂ h₂=>aL (dW (up h₂) (λok s₃ h₃=>?_) λ_ _ h'=>h')) λ_ _ h'=>h')
  cases ok with
  |false=>exact bF ⟨rfl,h₃⟩
  |true=>
   exact aL (aL (dW (up h₃) (λx s₄ h₄=>aL (dW (up h₄) (λ_ s₅ h₅=>bF (bF ⟨rfl,h₅⟩)) λ_ _ h'=>h')) λ_ _ h'=>h'))
end
theorem jb {env:Env}:∀(names:List (aI×bi)) (fP:List (aI×af)),(∀x∈names,x.2=.free->∃c,env.cells.lookup x.1=some c)->(∀y c,fP.lookup y=some c->env.cells.lookup y=some c) ->
  ∃cl,(forIn names fP λ(x:aI×bi) (cs:List (aI×af))=>if(x.2==bi.free)=true then do let a ← cellOf env x.1;pure (ForInStep.yield ((x.1,a)::cs))else pure (ForInStep.yield cs):ik (List (aI×af)))=pure cl /\
   (∀y c,cl.lookup y=some c->env.cells.lookup y=some c)/\(∀x∈names,x.2=.free->∃c,cl.lookup x.1=some c)/\∀y c,fP.lookup y=some c->∃c',cl.lookup y=some c'
 |[],fP,_,ha=>⟨fP,rfl,ha,λ_ h=>(nomatch h),λy c h=>⟨c,h⟩⟩
 |(n,k)::r,fP,hn,ha=>by
  by_cases hk:k=.free
  ·subst hk
   obtain⟨c,hc⟩:=hn (n,.free) ah rfl
   have e1:cellOf env n=pure c:=by unfold cellOf;rw[hc]
   have si:∀y d,((n,c)::fP).lookup y=some d->env.cells.lookup y=some d:=λy d h=>by
    rw[ba]at h
    cases hy:y==n with
    |true=>
     rw[hy]at h
     have:y=n:=eq_of_beq hy
     subst this
     cases h
     exact hc
    |false=>rw[hy]at h;exact ha y d h
   obtain⟨cl,h1,h2,h3,h4⟩:=jb r ((n,c)::fP) (λx hx=>hn x (ai _ hx)) si
   refine⟨cl,?_,h2,?_,?_⟩
   ·rw[fR]
    simp only[beq_self_eq_true,if_true,e1,pure_bind]
    exact h1
   ·intro x hx hf
    rcases ay.mp hx with rfl|hx
    ·exact h4 n c (by rw[ba,beq_self_eq_true])
    ·exact h3 x hx hf
   ·intro y d hy
    cases hb:y==n with
    |true=>exact h4 y c (by rw[ba,hb])
    |false=>exact h4 y d (by rw[ba,hb];exact hy)
  ·have hb:(k==bi.free)=false:=by simpa using hk
   obtain⟨cl,h1,h2,h3,h4⟩:=jb r fP (λx hx=>hn x (ai _ hx)) ha
   refine⟨cl,?_,h2,?_,h4⟩
   ·rw[fR]
    simp only[hb,cJ,if_false,pure_bind]
    exact h1
   ·intro x hx hf
    rcases ay.mp hx with rfl|hx
    ·exact absurd hf hk
    ·exact h3 x hx hf
theorem Fh (n:Nat)(a:aI)(r:List (aI×bi))(fP:List (aI×af)):cellsFrom n ((a,.cell)::r) fP=cellsFrom (n+1) r ((a,n)::fP):=rfl
theorem Fw {k:bi}(hk:k≠.cell)(n:Nat)(a:aI)(r:List (aI×bi))(fP:List (aI×af)):cellsFrom n ((a,k)::r) fP=cellsFrom n r fP:=by
 cases k<;>first|rfl|exact absurd rfl hk
def iK (names:List (aI×bi)):Nat:=(names.filter λy=>y.2==bi.cell).length
theorem Jg (a:aI)(r:List (aI×bi)):iK ((a,.cell)::r)=iK r+1:=by unfold iK;rw[gX (by rfl),az]
theorem Ni {k:bi}(hk:k≠.cell)(a:aI)(r:List (aI×bi)):iK ((a,k)::r)=iK r:=by unfold iK;rw[gW (by simpa using hk)]
theorem zA:∀(names:List (aI×bi)) (n:Nat) (fP:List (aI×af)) {x:aI} {c:Nat},(cellsFrom n names fP).lookup x=some c->(n<=c/\c<n+iK names/\(x,bi.cell)∈names)\/(fP.lookup x=some c/\(x,bi.cell)∉names)
 |[],_,_,_,_,h=>.inr ⟨h,by simp⟩
 |(a,k)::r,n,fP,x,c,h=>by
  by_cases hk:k=.cell
  ·subst hk
   rw[Fh]at h
   rcases zA r (n+1) _ h with⟨h1,h2,h3⟩|⟨h1,h2⟩
   ·refine .inl ⟨by omega,?_,ai _ h3⟩
    rw[Jg];omega
   ·rw[ba]at h1
    cases hx:x==a with
    |true=>
     rw[hx]at h1
     cases h1
     refine .inl ⟨aG _,?_,by rw[eq_of_beq hx];exact ah⟩
     rw[Jg];omega
    |false=>
     rw[hx]at h1
     refine .inr ⟨h1,λz=>?_⟩
     rcases ay.mp z with z|z
     ·cases z;simp at hx
     ·exact h2 z
  ·rw[Fw hk]at h
   have hf:=Ni hk a r
   rw[hf]
   rcases zA r n _ h with⟨h1,h2,h3⟩|⟨h1,h2⟩
   ·exact .inl ⟨h1,h2,ai _ h3⟩
   ·refine .inr ⟨h1,λz=>?_⟩
    rcases ay.mp z with z|z
    ·cases z;exact hk rfl
    ·exact h2 z
theorem Jm:∀(names:List (aI×bi)) (n:Nat) (fP:List (aI×af)) {x:aI},(x,bi.cell)∉names->(cellsFrom n names fP).lookup x=fP.lookup x
 |[],_,_,_,_=>rfl
 |(a,k)::r,n,fP,x,h=>by
  have hr:(x,bi.cell)∉r:=λz=>h (ai _ z)
  by_cases hk:k=.cell
  ·subst hk
   rw[Fh,Jm r _ _ hr,ba]
   cases hx:x==a with
   |true=>exact absurd (by rw[eq_of_beq hx];exact ah) h
   |false=>rfl
  ·rw[Fw hk,Jm r _ _ hr]
theorem Jn:∀(names:List (aI×bi)) (n:Nat) (fP:List (aI×af)),(∀x y c,fP.lookup x=some c->fP.lookup y=some c->x=y)->(∀x c,fP.lookup x=some c->c<n)->∀x y c,(cellsFrom n names fP).lookup x=some c->(cellsFrom n names fP).lookup y=some c->x=y
 |[],_,_,h,_=>h
 |(a,k)::r,n,fP,h,hb=>by
  by_cases hk:k=.cell
  ·subst hk
   rw[Fh]
   refine Jn r (n+1) _ (λx y c e e'=>?_) λx c e=>?_
   ·rw[ba]at e e'
    cases hx:x==a with
    |true=>
     rw[hx]at e
     cases e
     cases hy:y==a with
     |true=>rw[eq_of_beq hx,eq_of_beq hy]
     |false=>rw[hy]at e';exact absurd (hb _ _ e') (d9 _)
    |false=>
     rw[hx]at e
     cases hy:y==a with
     |true=>rw[hy]at e';cases e';exact absurd (hb _ _ e) (d9 _)
     |false=>rw[hy]at e';exact h x y c e e'
   ·rw[ba]at e
    cases hx:x==a with
    |true=>rw[hx]at e;cases e;exact fI _
    |false=>rw[hx]at e;exact dh (hb _ _ e)
  ·rw[Fw hk]
   exact Jn r n fP h hb
theorem qm {M:Model}{A:bq}{E:ae->ak->Prop}:∀(names:List (aI×bi)) (cells:List (aI×af)) (s:ak) (Q:List (aI×af)->ak->Prop),
    (∀h':aS,(∀b o,s.heap.get? b=some o->h'.get? b=some o)->(∀c,s.heap.objs.size<=c->c<s.heap.objs.size+iK names->h'.IsCell c none)->Q (cellsFrom s.heap.objs.size names cells) { s with heap:=h' }) ->
    bg M A (forIn names cells λ(x:aI×bi) (cells:List (aI×af))=>if(x.2==bi.cell)=true then do let a ← alloc { cls:=ae.type "cell",data:=oN.cell none };pure (ForInStep.yield ((x.1,a)::cells))else pure (ForInStep.yield cells)) Q E s
  |[],cells,s,Q,h=>by
    have:=h s.heap (λ_ _ e=>e) (λc h1 h2=>by rw[show iK []=0 from rfl]at h2;omega)
    rw[iW]
    exact bF this
  |(a,k)::r,cells,s,Q,h=>by
    rw[fR]
    by_cases hk:k=.cell
    · subst hk
      simp only[beq_self_eq_true,if_true,bind_assoc,pure_bind]
      refine aL (wpAny_alloc ?_)
      have ih:=qm (M:=M) (A:=A) (E:=E) r ((a,s.heap.objs.size)::cells) { s with heap:=s.heap.push { cls:=ae.type "cell",data:=oN.cell none } } Q (λh' k1 k2=>by
        have hz:(s.heap.push { cls:=ae.type "cell",data:=oN.cell none }).objs.size=s.heap.objs.size+1:=eS _ _
        have:=h h' (λb o e=>k1 b o (aC _ e)) (λc h1 h2=>by
          rw[Jg]at h2
          by_cases hc:c=s.heap.objs.size
          · subst hc
            exact⟨_,k1 _ _ (bB _ rfl),rfl⟩
          · exact k2 c (by show(s.heap.push _).objs.size<=c;rw[hz];omega) (by show c<(s.heap.push _).objs.size+_;rw[hz];omega))
        rw[Fh]at this
        have e:(({ s with heap:=s.heap.push { cls:=ae.type "cell",data:=oN.cell none } }:ak)).heap.objs.size=s.heap.objs.size+1:=hz
        rw[e]
        exact this)
      exact ih
    · have hb:(k==bi.cell)=false:=by simpa using hk
      simp only[hb,cJ,if_false,pure_bind]
      refine qm r cells s Q λh' k1 k2=>?_
      have hf:=Ni hk a r
      have:=h h' k1 (by rw[hf];exact k2)
      rw[Fw hk]at this
      exact this
theorem Lo {M:Model}{A:bq}{E:ae->ak->Prop}{s:ak}{scope:fm}{globals:af}{closure:List (aI×af)}{qual:aI}{code:ae}{out:Env}{builtins:af}{Q:Env->ak->Prop}
    (h:∀h':aS,(∀b o,s.heap.get? b=some o->h'.get? b=some o)->h'.Ns s.heap.objs.size (λ_=>none)->(∀c,s.heap.objs.size+1<=c->c<s.heap.objs.size+1+iK scope.names->h'.IsCell c none) ->
      Q (newEnv scope s.heap.objs.size globals (cellsFrom (s.heap.objs.size+1) scope.names closure) qual none code (some out) builtins) { s with heap:=h' }) :
    bg M A (ka scope globals closure [] qual none code (some out) builtins) Q E s:=by
  unfold ka
  refine aL (wpAny_alloc ?_)
  have hz:(s.heap.push { cls:=ae.type "dict",data:=oN.dict #[] }).objs.size=s.heap.objs.size+1:=eS _ _
  refine aL (qm scope.names closure { s with heap:=s.heap.push { cls:=ae.type "dict",data:=oN.dict #[] } } _ λh' k1 k2=>?_)
  have PP:(({ s with heap:=s.heap.push { cls:=ae.type "dict",data:=oN.dict #[] } }:ak)).heap.objs.size=s.heap.objs.size+1:=hz
  rw[PP]at k2 ⊢
  dsimp only
  rw[iW]
  refine aL (bF (bF ?_))
  exact h h' (λb o e=>k1 b o (aC _ e)) ((aS.Ns.new s.heap _).keeps k1) k2
def gR (X:Cx)(scope:fm)(cl:List (aI×af))(N:List aI)(C:af)(fp:List af)(s₀:ak)(H₀:Hp):Cx :=
 { X with N:=N,s₀:=s₀,H₀:=H₀,env:=nR scope cl C X.env,outer:=X.stack,stack:=X.stack,ex:=fp,fn:=λx=>scope.names.lookup x==some .cell,pn:=[],xe:=λ_ _=>False }
structure jR (X:Cx)(scope:fm)(N:List aI)(own:Nat)(cap:List Nat):Prop where
 kind:scope.kind=.function
 cells:∀x∈scope.names,x.2=.cell->scope.names.lookup x.1=some .cell
 locs:∀x∈scope.names,x.2=.local->scope.names.lookup x.1=some .local
 free:∀x∈scope.names,x.2=.free->X.env.kindOf x.1=some .cell\/X.env.kindOf x.1=some .free
 len:N.length=own+cap.length
 caps:∀(j:Nat) (x:aI),N[own+j]?=some x->∃i,cap[j]?=some i/\X.N[i]?=some x/\(scope.names.lookup x=some .free)
theorem jc {α β:Type}[BEq α][LawfulBEq α]{x:α}{y:β}:∀{l:List (α×β)},l.lookup x=some y->(x,y)∈l
 |[],h=>by simp at h
 |(a,b)::r,h=>by
  rw[ba]at h
  cases hb:x==a with
  |true=>rw[hb]at h;cases h;rw[eq_of_beq hb];exact ah
  |false=>rw[hb]at h;exact ai _ (jc h)
theorem Lp {env:Env}{x:aI}:∀{names:List (aI×bi)},names.lookup x=some .free ->
  (names.map λ(n,k)=>if(k==bi.free&&env.scope.kind==.function&&env.kindOf n==some .cell)then(n,bi.cell)else(n,k)).lookup x=some .cell \/
  (names.map λ(n,k)=>if(k==bi.free&&env.scope.kind==.function&&env.kindOf n==some .cell)then(n,bi.cell)else(n,k)).lookup x=some .free
 |[],h=>by simp at h
 |(n,k)::r,h=>by
  rw[ba]at h
  rw[br]
  cases hx:x==n with
  |true=>
   rw[hx]at h
   cases h
   by_cases hc:(bi.free==bi.free&&env.scope.kind==.function&&env.kindOf n==some .cell)=true
   ·left
    simp only[hc,if_true,ba,hx]
   ·right
    simp only[hc,if_false,ba,hx,cJ]
  |false=>
   rw[hx]at h
   rcases Lp (env:=env) h with q|q
   ·left
    by_cases hc:(k==bi.free&&env.scope.kind==.function&&env.kindOf n==some .cell)=true
    ·simp only[hc,if_true,ba,hx];exact q
    ·simp only[hc,if_false,ba,hx,cJ];exact q
   ·right
    by_cases hc:(k==bi.free&&env.scope.kind==.function&&env.kindOf n==some .cell)=true
    ·simp only[hc,if_true,ba,hx];exact q
    ·simp only[hc,if_false,ba,hx,cJ];exact q
theorem j3 {env:Env}{x:aI}:∀{names:List (aI×bi)},((names.map λ(n,k)=>if(k==bi.free&&env.scope.kind==.function&&env.kindOf n==some .cell)then(n,bi.cell)else(n,k)).lookup x=some .cell \/
  (names.map λ(n,k)=>if(k==bi.free&&env.scope.kind==.function&&env.kindOf n==some .cell)then(n,bi.cell)else(n,k)).lookup x=some .free)->(x,bi.free)∈names\/(x,bi.cell)∈names
 |[],h=>by simp at h
 |(n,k)::r,h=>by
  rw[br]at h
  cases hx:x==n with
  |true=>
   have e:x=n:=eq_of_beq hx
   by_cases hc:(k==bi.free&&env.scope.kind==.function&&env.kindOf n==some .cell)=true
   ·have:k=.free:=by
     rw[bO,bO]at hc
     exact eq_of_beq hc.1.1
    left
    rw[e,this];exact ah
   ·simp only[hc,if_false,ba,hx,cJ]at h
    rcases h with h|h
    ·cases h;right;rw[e];exact ah
    ·cases h;left;rw[e];exact ah
  |false=>
   refine(j3 (env:=env) (names:=r) ?_).imp (ai _) (ai _)
   by_cases hc:(k==bi.free&&env.scope.kind==.function&&env.kindOf n==some .cell)=true
   ·simpa only[hc,if_true,ba,hx]using h
   ·simpa only[hc,if_false,ba,hx,cJ]using h
def fu (σ:St)(cap:List Nat):St:=cap.map λi=>(σ[i]?).join
theorem Tq {σ:St}{cap:List Nat}{j i:Nat}{v:V}(hj:cap[j]?=some i)(h:(fu σ cap)[j]?=some (some v)):σ[i]?=some (some v):=by
 unfold fu at h
 rw[bj,hj]at h
 cases e:σ[i]? with
 |none=>rw[ij,e]at h;cases h
 |some o=>
  rw[ij,e]at h
  cases o with
  |none=>cases h
  |some u=>exact h
section
variable {X:Cx}{aj:List (af×cN)}{σ:St}{H:Hp}{s:ak}
theorem LS {scope:fm}{cl:List (aI×af)}{N:List aI}{own:Nat}{cap:List Nat}{fp:List af}{h₁:aS}{t':Nat}{m₀:aI->Option ae}(B:jR X scope N own cap)(I:Inv X aj σ H s)
    (c1:∀y c,cl.lookup y=some c->X.env.cells.lookup y=some c) (c2:∀x∈scope.names,x.2=.free->∃c,cl.lookup x.1=some c)
    (hf:∀b∈fp,jS X aj H b) (Ko:∀b∈fp,b<s.heap.objs.size) (oW:h₁.Ns s.heap.objs.size m₀) (k:∀b o,s.heap.get? b=some o->h₁.get? b=some o)
    (vV:∀c,s.heap.objs.size+1<=c->c<s.heap.objs.size+1+iK scope.names->h₁.IsCell c none) :
    Inv (gR X scope (cellsFrom (s.heap.objs.size+1) scope.names cl) N s.heap.objs.size fp s H) [] (av own none++fu σ cap) H { s with heap:=h₁,toks:=t' } :=
  have low:∀x c,cl.lookup x=some c->c<s.heap.objs.size:=λx c e=>by
    obtain⟨v,o,q,_⟩:=I.cell x c (c1 x c e)
    exact aP q
  { ok:={
      mod:=I.mod
      kind:=B.kind
      glob:=I.ok.glob
      blt:=I.ok.blt
      above:=aG _
      inj:=Jn _ _ _ (λx y c e e'=>I.ok.inj x y c (c1 x c e) (c1 y c e')) λx c e=>dh (low x c e)
      has:=λx hx=>by
        refine lO.mp (gQ scope.names _ _ ?_)
        rcases j3 hx with q|q
        · right
          obtain⟨c,e⟩:=c2 _ q rfl
          rw[e];rfl
        · exact .inl (B.cells _ q rfl)
      cab:=λx c e e'=>by
        have hx:scope.names.lookup x=some .cell:=eq_of_beq e
        rcases zA _ _ _ e' with⟨h1,_⟩|⟨_,h2⟩
        · exact kr h1
        · exact absurd (jc hx) h2
      hd:=I.ok.hd
      frames:=I.ok.frames
      stk:=.inl rfl
      exf:=λb hb=>⟨bt (Ko b hb),λx c e=>by
        rcases zA _ _ _ e with⟨h1,_⟩|⟨h1,_⟩
        · exactλz=>absurd (Ko b hb) (by rw[←z];exact Nat.not_lt.mpr (kr h1))
        · exact(hf b hb).2.2.2.2.1 x c (c1 x c h1)⟩
      bs:=I.bs
      bsz:=bK I.ok.bsz I.sz
      noex:=λb o e hb=>by
        rcases(hf b hb).2.2.2.1 with q|q
        · exact I.ok.noex b o e q
        · exact absurd (bo (aP e) I.ok.bsz) (Nat.not_lt.mpr q)
      exfs:=λb hb hz=>by
        rcases ay.mp (I.stkSub b hz)with q|q
        · exact(hf b hb).2.1 q
        · exact(hf b hb).2.2.1 q
      funs:=I.stack
      frf:=I.stkFree }
    os:=rfl
    bare:=I.bare
    base:=Un.kept k
    loc:=by
      refine⟨m₀,oW,λi x v hN hσ hv=>?_⟩
      by_cases hi:i<own
      · rw[bw (by rw[cR];exact hi),eL,if_pos hi]at hσ
        cases hσ
      · obtain⟨j,rfl⟩:∃j,i=own+j:=⟨i-own,by omega⟩
        obtain⟨i',e1,e2,e3⟩:=B.caps j x hN
        rw[bT (by rw[cR];omega),cR,m9]at hσ
        have wJ:=Tq e1 hσ
        have hk:=B.free (x,.free) (jc e3) rfl
        obtain⟨m,hm,hl⟩:=I.loc
        obtain⟨u,ru,hu⟩:=hl i' x v e2 wJ (.inr hk)
        refine⟨u,ru,?_⟩
        rcases hu with⟨q,_⟩|⟨_,c,hc,ic⟩
        · rcases hk with hk|hk
          · rw[hk]at q;cases q
          · rw[hk]at q;cases q
        · obtain⟨c',tI⟩:=c2 (x,.free) (jc e3) rfl
          have ec:=c1 x c' tI
          rw[hc]at ec
          cases ec
          have hn:(x,bi.cell)∉scope.names:=λz=>by
            have:=B.cells _ z rfl
            rw[e3]at this
            cases this
          exact .inr ⟨Lp e3,c,by show(cellsFrom _ _ _).lookup x=_;rw[Jm _ _ _ hn];exact tI,ic.keeps k⟩
    cell:=λx c e=>by
      rcases zA _ _ _ e with⟨h1,h2,_⟩|⟨h1,_⟩
      · exact⟨none,vV c h1 h2⟩
      · obtain⟨v,q⟩:=I.cell x c (c1 x c h1)
        exact⟨v,q.keeps k⟩
    free:=I.hok.fresh (aG _)
    freeC:=λx c e=>by
      rcases zA _ _ _ e with⟨h1,_⟩|⟨h1,_⟩
      · exact I.hok.fresh (kr h1)
      · exact I.freeC x c (c1 x c h1)
    pin:=λp hp=>(nomatch hp)
    hok:=I.hok.kept k
    len:=by
      show(av own none++fu σ cap).length=N.length
      rw[aR,cR,B.len]
      unfold fu
      rw[aE] }
end
def sO:TT:=λ_ H Q=>Q true H
def tf (X:Cx)(ifs:List Expr)(t:TT):Prop :=
 ∀(aj:List (af×cN)) (s:ak) (σ:St) (H:Hp) (Q:Bool->Hp->Prop),Inv X aj σ H s->t σ H Q ->
  bg (aZ X.prog X.w) X.A (forIn ifs true λc r=>if r=true then do let ok ← pW c X.env (bN c X.env);pure (ForInStep.yield ok)else pure (ForInStep.yield r)) (TP X aj σ Q) X.xe s
theorem Vu {X:Cx}:tf X [] sO:=λ_ _ _ H _ I h=>wpAny_tests_nil ⟨H,I,h⟩
theorem Vv {X:Cx}{c:Expr}{t:TT}(h:PT X c t):tf X [c] t:=λaj s σ H Q I q=>wpAny_tests_one (h aj s σ H Q I q)
def oZ (wi:TI)(own:Nat)(cap:List Nat)(g:TG)(tt:TT)(te:TE):TE:=λσ H Q=>wi σ H λJ H1=>∀D,H1 D=none->∃W:Nat->Nat->List V->Hp->Prop,(∃m,W 0 m [] (upd H1 D (.lst []))) /\
 ∀i m ys H2,W i m ys H2->H2 D=some (.lst ys)/\((J.stop i H2/\Q (.ref D) H2)\/(J.go i H2/\ys.length<sizeLine/\∀x H3,J.yld i H2 x H3->g x (av own none++fu σ cap) H3 λσ2 H4=>tt σ2 H4 λb H5=>
  if b=true then te σ2 H5 λy H6=>H6 D=some (.lst ys)/\∃m',m'<m/\W (i+1) m' (ys++[y]) (upd H6 D (.lst (ys++[y])))else∃m',m'<m/\W (i+1) m' ys H5))
def fw (own:Nat)(g:TG):Prop:=∀v σ H Q,g v σ H Q->g v σ H λσ' H'=>Q σ' H'/\σ'.length = σ.length/\∀i,own<=i->σ'[i]? = σ[i]?
theorem Lw (i own:Nat)(h:i<own):fw own (ny i):=λv σ H Q q=>⟨q,by rw[iw],λj hj=>by rw[dI (by omega)]⟩
theorem Vw {X:Cx}{iT iter tg:Expr}{ifs:List Expr}{scope:fm}{pos:cA}{N:List aI}{own:Nat}{cap:List Nat}{wi:TI}{g:TG}{tt:TT}{te:TE}(B:jR X scope N own cap)(hc:X.calm=true)(hi:PI X tg iter wi)
    (kg:fw own g)
    (hg:∀cl C fp s₀ H₀,PG (gR X scope cl N C fp s₀ H₀) tg g) (ht:∀cl C fp s₀ H₀,tf (gR X scope cl N C fp s₀ H₀) ifs tt) (he:∀cl C fp s₀ H₀,PE (gR X scope cl N C fp s₀ H₀) iT te)
    (hs:∀x,cQ iter X.env x=pure x:=by intro _;rfl):PE X (.ListComp iT [⟨tg,iter,ifs,0⟩] scope pos) (oZ wi own cap g tt te):=by
  intro aj s σ H Q I h
  obtain⟨cl,Bw,c1,c2,_⟩:=jb (env:=X.env) scope.names [] (λx hx hf=>I.ok.has x.1 (B.free x hx hf)) (λy c e=>by simp at e)
  have qP:nQ scope X.env=pure cl:=by
    have e:nQ scope X.env=(forIn scope.names ([]:List (aI×af)) (λ(x:aI×bi) (cs:List (aI×af))=>if(x.2==bi.free)=true then do let a ← cellOf X.env x.1;pure (ForInStep.yield ((x.1,a)::cs))else pure (ForInStep.yield cs)) >>= pure:ik (List (aI×af))):=rfl
    rw[e,Bw]
    rfl
  rw[eval_ListComp]
  refine wpAny_comprehension_free (use:=none) rfl hs qP B.kind B.locs (de (hi aj s σ H _ I h) λv s1 h1=>de h1 λEy s2 h2=>?_)
  obtain⟨it,fp,tn,J,H2,e,I2,T,rQ,f2,W0⟩:=h2
  subst e
  obtain⟨W,⟨m0,w0⟩,mR⟩:=W0 s2.heap.objs.size (I2.hok.fresh (aG _))
  refine wpAny_newObj_type ?_
  have I3:Inv X aj σ (upd H2 s2.heap.objs.size (.lst [])) { s2 with heap:=s2.heap.push { cls:=.type "list",data:=.seq ([]:List ae).toArray } }:=I2.lnew .nil (cZ _)
  generalize BL:({ s2 with heap:=s2.heap.push { cls:=.type "list",data:=.seq ([]:List ae).toArray } }:ak)=s3 at I3
  have k3:∀b o,s2.heap.get? b=some o->s3.heap.get? b=some o:=λb o e=>by rw[←BL];exact aC _ e
  have z3:s3.heap.objs.size=s2.heap.objs.size+1:=by rw[←BL];exact eS _ _
  have oi:∀b∈fp,b<s2.heap.objs.size:=λb hb=>by
    obtain⟨o,e,_⟩:=T.obj _ _ rQ b hb
    exact aP e
  have mL:∀b∈fp,b≠s2.heap.objs.size:=λb hb=>bt (oi b hb)
  have f3:∀b∈fp,jS X aj (upd H2 s2.heap.objs.size (.lst [])) b:=λb hb=>⟨by rw[zn (mL b hb)];exact(f2 b hb).1,(f2 b hb).2⟩
  have EO:tn 0 s3.heap:=T.keep _ _ _ rQ λb _ o e=>k3 b o e
  show bg _ _ (ka scope X.env.globals cl [] X.env.qual none .none (some X.env)) _ _ _
  refine Lo λh₁ kk wA vW=>?_
  have IB:=LS (t':=s3.toks) B I3 c1 c2 f3 (λb hb=>by rw[z3];exact dh (oi b hb)) wA kk vW
  generalize cellsFrom (s3.heap.objs.size+1) scope.names cl=cl at IB ⊢
  generalize Hm:({ s3 with heap:=h₁,toks:=s3.toks }:ak)=s4 at IB
  have DA:tn 0 s4.heap:=T.keep _ _ _ EO λb _ o e=>by rw[←Hm];exact kk b o e
  show gK (aZ X.prog X.w) X.A (.compStart (.ListComp iT [⟨tg,iter,ifs,0⟩] scope pos) 0 (.ref it) (.ref s2.heap.objs.size) (nR scope cl s3.heap.objs.size X.env))
      (nS (aZ X.prog X.w) X.A X.xe none (EP X aj σ Q) (.ref s2.heap.objs.size) s3.heap.objs.size) s4
  have lG:∀{H':Hp},(∀b∈fp,H' b=none)->∀b∈fp,jS (gR X scope cl N s3.heap.objs.size fp s3 (upd H2 s2.heap.objs.size (.lst []))) [] H' b:=λhn b hb=>
    ⟨hn b hb,bt (by show b<s3.heap.objs.size;rw[z3];exact dh (oi b hb)),IB.ok.exfs b hb,.inl hb,λx c e=>(IB.ok.exf b hb).2 x c e,λp hp=>(nomatch hp)⟩
  have loop:gK (aZ X.prog X.w) X.A (.compLoop (.ListComp iT [⟨tg,iter,ifs,0⟩] scope pos) 0 (.ref it) (.ref s2.heap.objs.size) (nR scope cl s3.heap.objs.size X.env))
      (nS (aZ X.prog X.w) X.A X.xe none (EP X aj σ Q) (.ref s2.heap.objs.size) s3.heap.objs.size) s4:=by
    refine Ln (λn s'=>∃i ys H',Inv (gR X scope cl N s3.heap.objs.size fp s3 (upd H2 s2.heap.objs.size (.lst []))) [] (av own none++fu σ cap) H' s'/\tn i s'.heap/\(∀b∈fp,H' b=none)/\W i n ys H') ?_ m0
      ⟨0,[],_,IB,DA,λb hb=>(f3 b hb).1,w0⟩
    rintro n s5 ⟨i,ys,H5,I5,sM,vS,w5⟩
    obtain⟨hD,p7⟩:=mR i n ys H5 w5
    rcases p7 with⟨stop,qn⟩|⟨go,kh,step⟩
    · refine de (T.done (gR X scope cl N s3.heap.objs.size fp s3 (upd H2 s2.heap.objs.size (.lst []))) rfl rfl rfl hc i [] s5 _ H5 (λ_ _=>False) I5 (lG vS) sM stop) λr s6 di=>?_
      obtain⟨hr,I6⟩:=di
      subst hr
      obtain⟨m,hm,_⟩:=id I6.loc
      refine⟨m,hm,λh' sb=>⟨.ref s2.heap.objs.size,H5,?_,rfl,qn⟩⟩
      have U:=I6.base
      have nC:∀b o,s3.heap.get? b=some o->b≠s3.heap.objs.size:=λb o e=>bt (aP e)
      have nT:∀b o,H5 b=some o->b≠s3.heap.objs.size:=λb o e z=>by
        have q:H5 s3.heap.objs.size=none:=I6.free
        rw[z,q]at e
        cases e
      refine I3.call' (ch:=fp) I6.os ?_ (λa o e=>(I6.hok a o e).stay (λb u hb q=>sb.extBut b u ?_ q) (λ_ q=>q) λ_ _ q=>q) I6.bare (λb hb=>⟨(f3 b hb).2.2.2.1,(f3 b hb).2.1,(f3 b hb).2.2.2.2.1,(f3 b hb).2.2.2.2.2⟩)
      · exact{
          keep:=λb o e z hb he=>sb.extBut b o (nC b o e) (U.keep b o e z hb he)
          slot:=λb o e z hb he=>by
            obtain⟨sl,q⟩:=U.slot b o e z hb he
            exact⟨sl,sb.extBut b _ (nC b o e) q⟩
          free:=U.free
          there:=λb o e he=>by
            obtain⟨o',q⟩:=U.there b o e he
            exact⟨o',sb.extBut b o' (nC b o e) q⟩
          tups:=U.tups
          frzs:=U.frzs
          tbls:=U.tbls }
      · rcases hb with rfl|hb
        · exact nT _ _ e
        · exact nT _ _ hb
    · refine de (T.item (gR X scope cl N s3.heap.objs.size fp s3 (upd H2 s2.heap.objs.size (.lst []))) rfl rfl rfl hc i [] s5 _ H5 (λ_ _=>False) I5 (lG vS) sM go) λr s6 di=>?_
      obtain⟨u,hr,h6⟩:=di
      subst hr
      refine de h6 λ_ s7 di=>?_
      obtain⟨x,H7,I7,r7,y7,xK,GJ⟩:=di
      have FD:=I7.pinned (lG GJ) (T.obj _ _ xK)
      refine de (hg cl s3.heap.objs.size fp s3 _ _ s7 _ H7 x u _ FD r7 (kg _ _ _ _ (step x H7 y7))) λ_ s8 di=>?_
      obtain⟨σ8,H8,I8,q8,l8,p8⟩:=di
      have back:∀{H9:Hp} {s9:ak},Inv (gR X scope cl N s3.heap.objs.size fp s3 (upd H2 s2.heap.objs.size (.lst []))) ([]++kj fp s7.heap) σ8 H9 s9 ->
          Inv (gR X scope cl N s3.heap.objs.size fp s3 (upd H2 s2.heap.objs.size (.lst []))) [] (av own none++fu σ cap) H9 s9/\tn (i+1) s9.heap/\∀b∈fp,H9 b=none:=λ{H9 s9} I9=>by
        refine⟨(I9.unpinned).weak l8.symm (λj v e=>?_),T.keep _ _ _ xK λb hb o e=>(I9.pin (b,o) (aw _ (aw _ (vi hb e)))).1,λb hb=>?_⟩
        · by_cases hj:j<own
          · rw[bw (by rw[cR];exact hj),eL,if_pos hj]at e
            cases e
          · rw[p8 j (by omega)];exact e
        · obtain⟨o,e,d⟩:=T.obj _ _ xK b hb
          exact(I9.pin (b,o) (aw _ (aw _ (vi hb e)))).2.1
      refine de (ht cl s3.heap.objs.size fp s3 _ _ s8 σ8 H8 _ I8 q8) λok s9 di=>?_
      obtain⟨H9,I9,q9⟩:=di
      cases ok with
      |false=>
        rw[if_neg aJ]
        rw[if_neg aJ]at q9
        obtain⟨m',sk,w'⟩:=q9
        obtain⟨b1,b2,b3⟩:=back I9
        exact⟨m',sk,i+1,ys,H9,b1,b2,b3,w'⟩
      |true=>
        rw[if_pos rfl]
        rw[if_pos rfl]at q9
        refine de (he cl s3.heap.objs.size fp s3 _ _ s9 σ8 H9 _ I9 q9) λuy HV di=>?_
        obtain⟨y,zE,FB,r10,vT,m',sk,w'⟩:=di
        refine de (Iu _ HV σ8 zE (.ref s2.heap.objs.size) [y] (.ref s2.heap.objs.size) [uy] (λ_ zF=>zF=upd zE s2.heap.objs.size (.lst (ys++[y]))) FB rfl (.cons r10 .nil) ⟨_,ys,y,rfl,rfl,vT,kh,rfl⟩) λ_ Q9 di=>?_
        obtain⟨_,zF,FC,_,Gk⟩:=di
        subst Gk
        obtain⟨b1,b2,b3⟩:=back FC
        exact⟨m',sk,i+1,ys++[y],_,b1,b2,b3,w'⟩
  exact codeAny_compStart_list loop (T.self X.A 0 s4 _ _ DA loop)
end L2
namespace L2
open PySem PySem.Spec PyProof.Rows
section
variable {X:Cx}{aj:List (af×cN)}{σ:St}{H:Hp}{s:ak}{h':aS}
theorem Inv.turnLay {ch:List af}{a:af}{o:HO}{t':Nat}(I:Inv X aj σ H s)(lg:∀b∈ch,jS X aj H b)(k:∀b o,b∉ch->s.heap.get? b=some o->h'.get? b=some o)(hp:s.heap.objs.size<=a)
  (new:dN X.prog X.w (upd H a o) h' a o):Inv X aj σ (upd H a o) { s with heap:=h',toks:=t' }:=by
 have hn:H a=none:=I.hok.fresh hp
 have Cz:∀b u,H b=some u->b∉ch:=λb u e z=>by rw[(lg b z).1]at e;cases e
 refine I.step (g':=s.gens) (d':=s.drawn) (ch:=ch) (λb hb=>⟨(lg b hb).2.2.2.1,(lg b hb).2.1,(lg b hb).2.2.2.2.1,(lg b hb).2.2.2.2.2⟩) (λb o _ _ hc e _=>k b o hc e) (λb o _ _ hc e _=>⟨o.slots,k b o hc e⟩)
  (λb o _ e n=>by rw[zn (bt (bo (aP e) hp))];exact n) (λb o hc e=>⟨o,k b o hc e⟩) (λb xs q=>by rw[zn (yw q hn)];exact q) (λb u xs q=>by rw[zn (yw q hn)];exact q)
  (λb ps q=>⟨#[],by rw[zn (yw q hn),q];simp⟩) (λm hm=>?_) (λb u e=>?_) I.bare
 ·obtain⟨o',es,ep,ho,r⟩:=hm
  exact⟨o',es,ep,k _ o' (λz=>(lg _ z).2.1 rfl) ho,r⟩
 ·by_cases hb:b=a
  ·subst hb
   rw[ym]at e
   cases e
   exact new
  ·rw[zn hb]at e
   refine(I.hok b u e).stay (λc v hc q=>k c v ?_ q) (λc q=>by rw[zn (yw q hn)];exact q) λc xs q=>by rw[zn (yw q hn)];exact q
   rcases hc with z|z
   ·rw[z];exact Cz b u e
   ·exact Cz c _ z
theorem Inv.turnedL {ch:List af}{t':Nat}(I:Inv X aj σ H s)(lg:∀b∈ch,jS X aj H b)(k:∀b o,b∉ch->s.heap.get? b=some o->h'.get? b=some o):Inv X aj σ H { s with heap:=h',toks:=t' }:=by
 have Cz:∀b u,H b=some u->b∉ch:=λb u e z=>by rw[(lg b z).1]at e;cases e
 refine I.step (g':=s.gens) (d':=s.drawn) (ch:=ch) (λb hb=>⟨(lg b hb).2.2.2.1,(lg b hb).2.1,(lg b hb).2.2.2.2.1,(lg b hb).2.2.2.2.2⟩) (λb o _ _ hc e _=>k b o hc e) (λb o _ _ hc e _=>⟨o.slots,k b o hc e⟩)
  (λ_ _ _ _ n=>n) (λb o hc e=>⟨o,k b o hc e⟩) (λ_ _ e=>e) (λ_ _ _ e=>e) (λb ps e=>⟨#[],by rw[e];simp⟩) (λm hm=>?_) (λb u e=>?_) I.bare
 ·obtain⟨o',es,ep,ho,r⟩:=hm
  exact⟨o',es,ep,k _ o' (λz=>(lg _ z).2.1 rfl) ho,r⟩
 ·refine(I.hok b u e).stay (λc v hc q=>k c v ?_ q) (λ_ q=>q) λ_ _ q=>q
  rcases hc with z|z
  ·rw[z];exact Cz b u e
  ·exact Cz c _ z
end
def FE (K:aa)(a:af):It :=
 ⟨λi H=>∃xs x,eJ K H a xs/\xs[i]?=some x,λi H x H'=>∃p y,H p=none/\x=.ref p/\H'=upd H p (.tup [.int i,y])/\∀xs,eJ K H a xs->xs[i]?=some y,λi H=>∃xs,eJ K H a xs/\xs.length<=i⟩
theorem T9 {P:aX}{w:bz}{K:aa}{mH:List Expr}{kt:Nat}{pt:cA}(a e it:af)(Kn:e≠it) :
    Turn P w K (.Tuple mH kt pt) (FE K a) [e,it] e (λi h=>(∃old,IsEnum h e it i old)/\h.IsListIter it a i) where
  mem:=by simp
  obj:=λi h st b hb=>by
    obtain⟨⟨old,he⟩,o,e1,c,d⟩:=st
    rcases ay.mp hb with rfl|hb
    · exact⟨_,he,λv z=>by cases z⟩
    · have e2:b=it:=by simpa using hb
      subst e2
      exact⟨o,e1,λv z=>by rw[d]at z;cases z⟩
  keep:=λi h h' st k=>by
    obtain⟨⟨old,he⟩,hit⟩:=st
    exact⟨⟨old,k e (by simp) _ he⟩,hit.at λo x=>k it (by simp) o x⟩
  item:=by
    intro X hP hw hK hc i aj s σ H E I hf st hg
    subst hP hw hK
    obtain⟨xs,x,hq,hx⟩:=hg
    obtain⟨bV,rv,p,hz⟩:=I.list hq
    obtain⟨u,hu,ru⟩:=rv.get hx
    obtain⟨⟨old,he⟩,hit⟩:=st
    refine wpAny_pyNext_enum_item he hit p.isList (x:=u) (by simpa using hu) Kn λh1 ho G6 hT hsz hk=>?_
    refine⟨_,rfl,wpAny_letOwnedTupleGo_enum (s:={ s with heap:=h1,toks:=s.toks+1 }) ho λh2 Pg HX=>?_⟩
    have iT:e<s.heap.objs.size:=aP he
    have PU:it<s.heap.objs.size:=by obtain⟨_,q,_⟩:=hit;exact aP q
    have O7:h2.get? s.heap.objs.size=some { cls:=.type "tuple",data:=.seq #[.int i s.toks,u] }:=(HX.2 _ (nM iT)).trans hT
    have Pl:H s.heap.objs.size=none:=I.hok.fresh (aG _)
    have I1:Inv X aj σ (upd H s.heap.objs.size (.tup [.int i,x])) { s with heap:=h2,toks:=s.toks+1 }:=by
      refine I.turnLay (ch:=[e,it]) hf (λb o hb q=>?_) (aG _) ⟨by show 2<=sizeLine;decide,[.int i s.toks,u],.cons ⟨_,rfl⟩ (.cons ru .nil),_,O7,rfl,_,rfl⟩
      have Kc:b≠e:=λz=>hb (by simp[z])
      have O4:b≠it:=λz=>hb (by simp[z])
      exact(HX.2 b Kc).trans (hk b o Kc O4 q)
    refine⟨.ref s.heap.objs.size,_,I1,rfl,⟨_,x,Pl,rfl,rfl,λys hy=>by rw[I.list_inj hy hq];exact hx⟩,⟨⟨u,by simpa using Pg⟩,G6.at λo q=>(HX.2 it Kn.symm).trans q⟩,λb hb=>?_⟩
    rw[zn ?_]
    · exact(hf b hb).1
    · rcases ay.mp hb with rfl|hb
      · exact bt iT
      · have e2:b=it:=by simpa using hb
        rw[e2];exact bt PU
  done:=by
    intro X hP hw hK hc i aj s σ H E I hf st hg
    subst hP hw hK
    obtain⟨xs,hq,hx⟩:=hg
    obtain⟨bV,rv,p,hz⟩:=I.list hq
    obtain⟨⟨old,he⟩,hit⟩:=st
    have hl:=rv.length
    exact wpAny_pyNext_enum_end (I.ok.hd hc) he hit p.isList (by simp;omega) λh' eb=>⟨rfl,I.turnedL (ch:=[e,it]) (t':=s.toks) hf λb o hb q=>eb b o (λz=>hb (by simp[z])) q⟩
  self:=λ_ _ _ _ _ st h=>wpAny_pyIter_enum st.1.choose_spec h
section
variable {X:Cx}{mH:List Expr}{kt:Nat}{pt:cA}
def BO (K:aa)(ta:TA):TI:=λσ H R=>ta σ H λvs H1=>∃a,vs=[.ref a]/\(∃xs,eJ K H1 a xs)/\R (FE K a) H1
theorem MK {l:Expr}{ta:TA}{p pos:cA}(hg:Gl X "enumerate")(hm:X.mg "enumerate"=none)(ha:PA X [l] ta)(hs:aq [l] X.env=[(false,bN l X.env)]:=by rfl) :
  PI X (.Tuple mH kt pt) (.Call (.Name "enumerate" p) [l] [] pos) (BO X.K ta):=by
 intro aj s σ H R I h
 refine Call_ (xS I hg hm PyProof.Rows.boot_enumerate (fk (de (ha pos aj s σ H _ I h) λus s1 ⟨vs,H1,I1,r1,q1⟩=>?_) hs rfl))
 obtain⟨a,e,⟨xs,hq⟩,q⟩:=q1
 subst e
 cases r1 with
 |cons r rr=>
  cases rr
  cases r
  obtain⟨bV,rv,pl,hz⟩:=I1.list hq
  refine call_enumerate_list pl.isList λh' he hit hsz hk=>?_
  refine wpAny_pyIter_enum (s:={ s1 with heap:=h' }) he ?_
  refine⟨s1.heap.objs.size+1,[s1.heap.objs.size+1,s1.heap.objs.size],_,_,H1,rfl,I1.kept (t':=s1.toks) hk,T9 a _ _ (Nat.succ_ne_self _),⟨⟨_,he⟩,hit⟩,λb hb=>?_,q⟩
  rcases ay.mp hb with rfl|hb
  ·exact I1.fpOk (fN _) (I1.hok.fresh (fN _))
  ·have e:b=s1.heap.objs.size:=by simpa using hb
   subst e
   exact I1.fpOk (aG _) (I1.hok.fresh (aG _))
end
end L2
set_option maxHeartbeats 4000000
namespace L2
open PySem PySem.Spec PyProof.Rows
section
variable {P:aX}{w:bz}{A:bq}{E:ae->ak->Prop}{s:ak}
end
section
variable {X:Cx}{aj:List (af×cN)}{σ:St}{H:Hp}{s:ak}{a:af}
end
end L2
set_option maxHeartbeats 4000000
namespace L2
open PySem PySem.Spec PyProof.Rows
section
variable {P:aX}{w:bz}{A:bq}{E:ae->ak->Prop}{s:ak}
end
section
variable {X:Cx}{aj:List (af×cN)}{σ:St}{H:Hp}{s:ak}{a:af}
end
end L2
namespace L2
open PySem PySem.W PyProof.Rows
section
variable {lt:Nat->Nat->Bool}{p:Array Nat}
end
section
variable {prog:aX}{w:bz}{A:bq}{E:ae->ak->Prop}{s:ak}{lt:Nat->Nat->Bool}{vs:List ae}{κ:SortKind}
end
end L2
set_option maxHeartbeats 4000000
namespace L2
open PySem PySem.Spec PyProof.Rows
section
variable {prog:aX}{w:bz}{A:bq}{E:ae->ak->Prop}{s:ak}{b fin:Bool}{Q:Bool->ak->Prop}
end
end L2
set_option maxHeartbeats 4000000
namespace L2
open PySem PySem.Spec PyProof.Rows
section
variable {P:aX}{w:bz}{A:bq}{E:ae->ak->Prop}{s:ak}{K:Type}[DecidableEq K]{Y8:HeapKind P w K}
end
section
variable {X:Cx}
end
end L2
set_option maxHeartbeats 4000000
namespace L2
namespace TS
open PySem PySem.Spec PyProof.Rows
structure Ix where
 n:Nat
structure PS where
 a:Array Ix
 pend:Array (Nat×Nat×Nat)
 mg:Nat
abbrev PM:=StateT PS Option
noncomputable def kJ (arr:Array Ix)(i:Nat):PM Ix:=match arr.toList[i]? with
 |some p=>pure p
 |none=>failure
section
variable (lt:Nat->Nat->Bool)
noncomputable def CD (x y:Ix):PM (Option Bool):=pure (some (lt x.n y.n))
noncomputable def lE (i j:Nat):PM (Option Bool):=do
 let a:=(← get).a
 CD lt (← kJ a i) (← kJ a j)
def frc {β:Type}:List Ix->(List Ix->β)->β
 |[],k=>k []
 |⟨n⟩::xs,k=>match n with
  |0=>frc xs λys=>k (⟨0⟩::ys)
  |m+1=>frc xs λys=>k (⟨m+1⟩::ys)
theorem frc_eq {β:Type}:∀(xs:List Ix) (k:List Ix->β),frc xs k=k xs
 |[],_=>rfl
 |⟨0⟩::xs,k=>frc_eq xs _
 |⟨m+1⟩::xs,k=>frc_eq xs _
def wK (a:Array Ix)(src d:Nat):List Ix:=if src<a.size/\d<=src then a.toList.take (src-d)++((a.toList.drop src).take 1++((a.toList.drop (src-d)).take d++a.toList.drop (src+1)))else(bubble a src d).toList
theorem Vx (a:Array Ix)(src d:Nat):(wK a src d).toArray=bubble a src d:=by
 unfold wK
 by_cases h:src<a.size/\d<=src
 ·rw[if_pos h]
  apply Array.ext_getElem?
  intro k
  rw[getElem?_bubble h.1 d h.2 k,List.getElem?_toArray]
  have e1:(a.toList.take (src-d)).length=src-d:=by rw[dw,bL];omega
  have e2:((a.toList.drop src).take 1).length=1:=by rw[dw,gY,bL];omega
  have e3:((a.toList.drop (src-d)).take d).length=d:=by rw[dw,gY,bL];omega
  by_cases k1:k<src-d
  ·rw[bw (by omega),if_neg (by omega),if_neg (by omega),eD k1,d7]
  ·rw[bT (by omega),e1]
   by_cases k2:k=src-d
   ·rw[if_pos k2,bw (by omega),eD (by omega),jP,d7]
    congr 1;omega
   ·rw[if_neg k2,bT (by omega),e2]
    by_cases k3:k<=src
    ·rw[if_pos ⟨by omega,k3⟩,bw (by omega),eD (by omega),jP,d7]
     congr 1;omega
    ·rw[if_neg (by omega),bT (by omega),e3,jP,d7]
     congr 1;omega
 ·rw[if_neg h]
noncomputable def pL (i j:Nat):PM Unit:=λs=>frc (mirror s.a i j ((j-i)/2)).toList λl=>some ((),PS.mk l.toArray s.pend s.mg)
noncomputable def rm (src J5:Nat):PM Unit:=λs=>frc (wK s.a src (src-J5)) λl=>some ((),PS.mk l.toArray s.pend s.mg)
noncomputable def oz (lo oy:Nat):PM (Option Nat):=do
 let mut n:=1
 for _ in[1:oy]do
  let some jY ← lE lt (lo+n) (lo+n-1)|return none
  if jY then break
  n:=n+1
 if n==oy then return some n
 if n > 1 then
  let some HS ← lE lt lo (lo+n-1)|return none
  if HS then return some n
  pL lo (lo+n)
 pure ()
 n:=n+1
 let mut neq:=0
 for _ in[n:oy]do
  let some jY ← lE lt (lo+n) (lo+n-1)|return none
  if jY then
   if neq > 0 then pL (lo+n-(neq+1)) (lo+n)
   neq:=0
  else
   let some larger ← lE lt (lo+n-1) (lo+n)|return none
   if larger then break
   neq:=neq+1
  n:=n+1
 if neq > 0 then pL (lo+n-(neq+1)) (lo+n)
 pL lo (lo+n)
 for _ in[n:oy]do
  let some jY ← lE lt (lo+n) (lo+n-1)|return none
  if jY then break
  n:=n+1
 return some n
noncomputable def wY (lo n ok:Nat):PM Bool:=do
 for k in[max ok 1:n]do
  let mut l:=0
  let mut r:=k
  for _ in[0:k]do
   if l >= r then break
   let m:=(l+r)/2
   let some less ← lE lt (lo+k) (lo+m)|return false
   if less then r:=m else l:=m+1
  rm (lo+k) (lo+l)
 return true
noncomputable def iU (left:Bool)(key:Ix)(arr:Array Ix)(base i:Nat):PM (Option Bool):=do
 let x ← kJ arr (base+i)
 if left then CD lt x key else return(← CD lt key x).map (!·)
noncomputable def jX (left:Bool)(key:Ix)(arr:Array Ix)(base n hint:Nat):PM (Option Nat):=do
 let mut lastofs:=0
 let mut ofs:=1
 let mut lo:=0
 let mut hi:=0
 let some right ← iU lt left key arr base hint|return none
 if right then
  let gc:=n-hint
  for _ in[0:n]do
   if ofs >= gc then break
   let some more ← iU lt left key arr base (hint+ofs)|return none
   if !more then break
   lastofs:=ofs
   ofs:=2*ofs+1
  lo:=hint+lastofs+1
  hi:=hint+min ofs gc
 else
  let gc:=hint+1
  for _ in[0:n]do
   if ofs >= gc then break
   let some found ← iU lt left key arr base (hint-ofs)|return none
   if found then break
   lastofs:=ofs
   ofs:=2*ofs+1
  lo:=hint+1-min ofs gc
  hi:=hint-lastofs
 for _ in[0:n]do
  if lo >= hi then break
  let m:=lo+(hi-lo)/2
  let some more ← iU lt left key arr base m|return none
  if more then lo:=m+1 else hi:=m
 return some hi
end
structure Tab where
 k:Nat->Int
 t:Nat->Tok
 v:Nat->ae
def itm (it:Tab)(x:Ix):Keyed:=(.int (it.k x.n) (it.t x.n),it.v x.n)
noncomputable def fU:Bool->Keyed->Array Keyed->Nat->Nat->Nat->StateT SortSt ik (Option Nat):=sortPriv% PySem.Builtin.gallop
noncomputable def iS (left:Bool)(key:Keyed)(arr:Array Keyed)(base i:Nat):StateT SortSt ik (Option Bool):=do
 let x ← elem' arr (base+i)
 if left then lt' x key else return(← lt' key x).map (!·)
theorem Tr (left:Bool)(key:Keyed)(arr:Array Keyed)(base n hint:Nat):fU left key arr base n hint=(do
 let mut lastofs:=0
 let mut ofs:=1
 let mut lo:=0
 let mut hi:=0
 let some right ← iS left key arr base hint|return none
 if right then
  let gc:=n-hint
  for _ in[0:n]do
   if ofs >= gc then break
   let some more ← iS left key arr base (hint+ofs)|return none
   if !more then break
   lastofs:=ofs
   ofs:=2*ofs+1
  lo:=hint+lastofs+1
  hi:=hint+min ofs gc
 else
  let gc:=hint+1
  for _ in[0:n]do
   if ofs >= gc then break
   let some found ← iS left key arr base (hint-ofs)|return none
   if found then break
   lastofs:=ofs
   ofs:=2*ofs+1
  lo:=hint+1-min ofs gc
  hi:=hint-lastofs
 for _ in[0:n]do
  if lo >= hi then break
  let m:=lo+(hi-lo)/2
  let some more ← iS left key arr base m|return none
  if more then lo:=m+1 else hi:=m
 return some hi):=rfl
class Cv (it:Tab) (β:Type) (α:outParam Type) where
 cv:β->α
section
variable {it:Tab}
instance:Cv it Nat Nat:=⟨id⟩
instance:Cv it Bool Bool:=⟨id⟩
instance:Cv it PUnit PUnit:=⟨id⟩
instance:Cv it Ix Keyed:=⟨itm it⟩
instance:Cv it (Array Ix) (Array Keyed):=⟨λa=>a.map (itm it)⟩
instance {α β:Type} [Cv it β α]:Cv it (Option β) (Option α):=⟨λo=>o.map (Cv.cv it)⟩
instance {α β γ δ:Type} [Cv it β α] [Cv it δ γ]:Cv it (β×δ) (α×γ):=⟨λp=>(Cv.cv it p.1,Cv.cv it p.2)⟩
instance {α β:Type} [Cv it β α]:Cv it (ForInStep β) (ForInStep α):=⟨λo=>match o with|.done b=>.done (Cv.cv it b)|.yield b=>.yield (Cv.cv it b)⟩
end
def emb (it:Tab)(ps:PS):SortSt:=SortSt.mk' oneType' (ps.a.map (itm it)) ps.pend ps.mg none
section
variable {prog:aX}{w:bz}{A:bq}{E:ae->ak->Prop}{s:ak}{it:Tab}
def eR (prog:aX)(w:bz)(A:bq)(E:ae->ak->Prop)(s:ak)(it:Tab){α β:Type}[Cv it β α](m:StateT SortSt ik α)(m':PM β):Prop :=
 ∀(ps:PS) (b:β) (lV:PS),m'.run ps=some (b,lV)->∀Q:α->SortSt->Prop,Q (Cv.cv it b) (emb it lV)->wpS (aZ prog w) A E s m Q (emb it ps)
theorem zk {α β:Type}[Cv it β α]{a:α}{b:β}(h:a=Cv.cv it b):eR prog w A E s it (pure a) (pure b):=by
 intro ps b' lV e Q q
 cases e
 rw[h]
 exact wpS_pure q
theorem zj {α β γ δ:Type}[Cv it β α][Cv it δ γ]{m:StateT SortSt ik α}{k:α->StateT SortSt ik γ}{m':PM β}{k':β->PM δ}(h:eR prog w A E s it m m')(hk:∀b,eR prog w A E s it (k (Cv.cv it b)) (k' b)):eR prog w A E s it (m >>= k) (m' >>= k'):=by
 intro ps d lV e Q q
 rw[StateT.run_bind]at e
 obtain⟨⟨b,K2⟩,e1,e2⟩:=Option.bind_eq_some_iff.mp e
 exact wpS_bind (h ps b K2 e1 _ (hk b K2 d lV e2 Q q))
theorem wa {α β:Type}[Cv it β α]{c:Prop}[Decidable c]{m n:StateT SortSt ik α}{m' n':PM β}(h1:c->eR prog w A E s it m m')(h2:¬c->eR prog w A E s it n n'):eR prog w A E s it (if c then m else n) (if c then m' else n'):=by
 by_cases hc:c
 ·rw[if_pos hc,if_pos hc];exact h1 hc
 ·rw[if_neg hc,if_neg hc];exact h2 hc
theorem ug {γ δ:Type}[Cv it δ γ]{k:SortSt->StateT SortSt ik γ}{k':PS->PM δ}(h:∀ps,eR prog w A E s it (k (emb it ps)) (k' ps)):eR prog w A E s it (get >>= k) (get >>= k'):=by
 intro ps d lV e Q q
 exact wpS_bind (wpS_get (h ps ps d lV e Q q))
theorem jd {α β:Type}[Cv it β α]{m:StateT SortSt ik α}:eR prog w A E s it m (failure:PM β):=by
 intro ps d lV e Q q
 cases e
theorem Mi {α β:Type}[Cv it β α]{f:Nat->α->StateT SortSt ik (ForInStep α)}{f':Nat->β->PM (ForInStep β)}(h:∀x b,eR prog w A E s it (f x (Cv.cv it b)) (f' x b)):∀(l:List Nat) (b:β),eR prog w A E s it (forIn l (Cv.cv it b) f) (forIn l b f')
 |[],b=>by rw[iW,iW];exact zk rfl
 |x::l,b=>by
  rw[fR,fR]
  refine zj (h x b) λr=>?_
  cases r with
  |done b'=>exact zk rfl
  |yield b'=>exact Mi h l b'
theorem vo {α β:Type}[Cv it β α]{f:Nat->α->StateT SortSt ik (ForInStep α)}{f':Nat->β->PM (ForInStep β)}{a:α}{b:β}{i j:Nat}(hb:a=Cv.cv it b)(h:∀x b,eR prog w A E s it (f x (Cv.cv it b)) (f' x b)):eR prog w A E s it (forIn [i:j] a f) (forIn [i:j] b f'):=by
 rw[Std.Legacy.Range.forIn_eq_forIn_range',Std.Legacy.Range.forIn_eq_forIn_range',hb]
 exact Mi h _ _
theorem MB {F:SortSt->SortSt}{F':PS->PS}(h:∀ps,F (emb it ps)=emb it (F' ps)):eR prog w A E s it (modify F) (modify F'):=by
 intro ps d lV e Q q
 cases e
 exact wpS_modify (by rw[h];exact q)
theorem E6 {x:String}:eR prog w A E s it (liftM (rule x):StateT SortSt ik PUnit) (pure PUnit.unit):=by
 intro ps d lV e Q q
 cases e
 exact wpS_lift (wpAny_rule ⟨rfl,q⟩)
theorem vz {arr:Array Ix}{i:Nat}:eR prog w A E s it (elem' (Cv.cv it arr) i) (kJ arr i):=by
 intro ps d lV e Q q
 rw[elem'_eq]
 have e':(Cv.cv it arr:Array Keyed)[i]?=(arr[i]?).map (itm it):=by show(arr.map (itm it))[i]?=_;simp
 rw[e']
 unfold kJ at e
 rw[d7]at e
 cases h:arr[i]? with
 |none=>rw[h]at e;cases e
 |some x=>rw[h]at e;cases e;exact wpS_pure q
theorem zgh {x y:Ix}:eR prog w A E s it (lt' (Cv.cv it x) (Cv.cv it y)) (CD (λi j=>decide (it.k i<it.k j)) x y):=by
 intro ps d lV e Q q
 cases e
 rw[lt'_eq]
 refine wpS_bind (wpS_get ?_)
 show wpS _ _ _ _ (do let r ← (liftM (keyLt' oneType' _ _).attempt:StateT SortSt ik _);_) _ _
 rw[keyLt'_oneType]
 refine wpS_bind (wpS_lift (wpAny_attempt (oneLt_int ⟨rfl,?_⟩)))
 exact wpS_pure q
theorem IA {F:SortSt->SortSt}{m:PM Unit}{F':PS->PS}(hm:∀ps,m ps=some ((),F' ps))(h:∀ps,F (emb it ps)=emb it (F' ps)):eR prog w A E s it (modify F) m:=by
 intro ps d lV e Q q
 have e:m ps=some (d,lV):=e
 rw[hm]at e
 cases e
 exact wpS_modify (by rw[h];exact q)
theorem zn7 {i j:Nat}:eR prog w A E s it (reverseSlice' i j) (pL i j):=by
 rw[reverseSlice'_eq]
 refine IA (F':=λs=>PS.mk (mirror s.a i j ((j-i)/2)) s.pend s.mg) (λps=>by unfold pL;rw[frc_eq]) λps=>?_
 show SortSt.mk' _ (mirror (ps.a.map (itm it)) i j ((j-i)/2)) _ _ _=SortSt.mk' _ ((mirror ps.a i j ((j-i)/2)).map (itm it)) _ _ _
 have e1:mirror (ps.a.map (itm it)) i j ((j-i)/2)=(mirror ps.a i j ((j-i)/2)).map (itm it):=mC (itm it) (λk=>i+k) (λk=>j-1-k) _ ps.a
 rw[e1];rfl
theorem zlh {k l:Nat}:eR prog w A E s it (moveDown' k l) (rm k l):=by
 rw[moveDown'_eq]
 refine IA (F':=λs=>PS.mk (bubble s.a k (k-l)) s.pend s.mg) (λps=>by unfold rm;rw[frc_eq,Vx]) λps=>?_
 show SortSt.mk' _ (bubble (ps.a.map (itm it)) k (k-l)) _ _ _=SortSt.mk' _ ((bubble ps.a k (k-l)).map (itm it)) _ _ _
 have e1:bubble (ps.a.map (itm it)) k (k-l)=(bubble ps.a k (k-l)).map (itm it):=mC (itm it) (λi=>k-i) (λi=>k-i-1) _ ps.a
 rw[e1];rfl
abbrev Tab.lt (it:Tab)(i j:Nat):Bool:=decide (it.k i<it.k j)
theorem zli {i j:Nat}:eR prog w A E s it (ltAt' i j) (lE it.lt i j):=by
 rw[ltAt'_eq]
 exact ug λps=>zj (vz (arr:=ps.a)) λx=>zj (vz (arr:=ps.a)) λy=>zgh
section
variable {α β γ δ:Type}[Cv it β α][Cv it δ γ]
theorem zgi (n:Nat):Cv.cv it n=n:=rfl
theorem zi1 (n:Bool):Cv.cv it n=n:=rfl
theorem zi2 (n:PUnit):Cv.cv it n=n:=rfl
theorem zc1 (x:β)(y:δ):Cv.cv it (x,y)=(Cv.cv it x,Cv.cv it y):=rfl
theorem zfk:Cv.cv it (none:Option β)=none:=rfl
theorem zfl (x:β):Cv.cv it (some x)=some (Cv.cv it x):=rfl
theorem zi3 (x:β):Cv.cv it (ForInStep.done x)=ForInStep.done (Cv.cv it x):=rfl
theorem zgj (x:β):Cv.cv it (ForInStep.yield x)=ForInStep.yield (Cv.cv it x):=rfl
end
theorem zi4 (a:Array Ix)(x:Ix):(Cv.cv it a:Array Keyed).push (Cv.cv it x)=Cv.cv it (a.push x):=(Array.map_push ..).symm
theorem qp (a:Array Ix):(Cv.cv it a:Array Keyed).size=a.size:=Array.size_map ..
theorem ut (a:Array Ix)(i j:Nat):(Cv.cv it a:Array Keyed).extract i j=Cv.cv it (a.extract i j):=by show(a.map _).extract i j=(a.extract i j).map _;simp
theorem jm (a b:Array Ix):(Cv.cv it a:Array Keyed)++(Cv.cv it b:Array Keyed)=Cv.cv it (a++b):=by show(a.map _)++(b.map _)=(a++b).map _;simp
theorem zgk (a:Array Ix):(Cv.cv it a:Array Keyed).reverse=Cv.cv it a.reverse:=by show(a.map _).reverse=a.reverse.map _;simp
theorem zai (x:Ix):(#[Cv.cv it x]:Array Keyed)=Cv.cv it #[x]:=by show _=(#[x]:Array Ix).map _;simp;rfl
theorem zm2 {α β:Type}[Cv it β α]{x:String}{k:PUnit->StateT SortSt ik α}{m:PM β}(h:eR prog w A E s it (k PUnit.unit) m):eR prog w A E s it (liftM (rule x) >>= k) m:=by
 intro ps d lV e Q q
 exact wpS_bind (wpS_lift (wpAny_rule ⟨rfl,h ps d lV e Q q⟩))
section
variable {α β γ δ:Type}[Cv it β α][Cv it δ γ]
theorem zm3 (p:β×δ):(Cv.cv it p).fst=Cv.cv it p.fst:=rfl
theorem zm4 (p:β×δ):(Cv.cv it p).snd=Cv.cv it p.snd:=rfl
end
local macro_rules| `(tactic|walk_at "cv")=>`(tactic|simp only[zgi,zi1,zi2,zc1,zfk,zfl,zi3,zgj,zi4,qp,ut,jm,zgk,zai,zm3,zm4])
local macro_rules| `(tactic|walk_at "opt")=>`(tactic|(rintro(_|b)<;>(try walk_at "cv")<;>(try dsimp only)))
local macro_rules| `(tactic|walk_at "tidy")=>`(tactic|((try walk_at "cv");(try dsimp only)))
local macro_rules| `(tactic|walk_at "sim")=>`(tactic|repeat' (first|exact zk rfl|exact jd|(refine wa (λ_=>?_) (λ_=>?_))|(refine zj zli ?_;walk_at "opt")|(refine zj zn7 λ_=>?_)|(refine zj zlh λ_=>?_)|(refine zm2 ?_)|(refine zj (vo rfl λx b=>?_) λb=>?_<;>walk_at "tidy")|(rename_i b;generalize b.fst=o;rcases o with _|r<;>walk_at "tidy")))
theorem TN {lo oy:Nat}:eR prog w A E s it (countRun' lo oy) (oz it.lt lo oy):=by
 rw[countRun'_eq]
 unfold oz
 dsimp only
 walk_at "sim"
theorem Vy {lo n ok:Nat}:eR prog w A E s it (binarySort' lo n ok) (wY it.lt lo n ok):=by
 rw[binarySort'_eq]
 unfold wY
 dsimp only
 walk_at "sim"
theorem zhl {left:Bool}{key:Ix}{arr:Array Ix}{base i:Nat}:eR prog w A E s it (iS left (Cv.cv it key) (Cv.cv it arr) base i) (iU it.lt left key arr base i):=by
 unfold iS iU
 refine zj vz λx=>?_
 cases left with
 |true=>exact zgh
 |false=>
  refine zj zgh ?_
  rintro(_|b)<;>exact zk rfl
local macro_rules| `(tactic|walk_at "gal")=>`(tactic|repeat' (first|exact zk rfl|exact jd|(refine wa (λ_=>?_) (λ_=>?_))|(refine zj zhl ?_;walk_at "opt")|(refine zj (vo rfl λx b=>?_) λb=>?_<;>walk_at "tidy")|(rename_i b;generalize b.fst=o;rcases o with _|r<;>walk_at "tidy")))
theorem qq {left:Bool}{key:Ix}{arr:Array Ix}{base n hint:Nat}:eR prog w A E s it (fU left (Cv.cv it key) (Cv.cv it arr) base n hint) (jX it.lt left key arr base n hint):=by
 rw[Tr]
 unfold jX
 dsimp only
 walk_at "gal"
end
end TS
end L2
set_option maxHeartbeats 4000000
namespace L2
namespace TS
open PySem PySem.Spec PyProof.Rows
structure DV (m:Type->Type)(κ:Type) where
 elem:Array κ->Nat->m κ
 lt:κ->κ->m (Option Bool)
 gal:Bool->κ->Array κ->Nat->Nat->Nat->m (Option Nat)
 setMG:Nat->m Unit
 getMG:(Nat->m (Array κ))->m (Array κ)
 rule:String->m PUnit
 bad:String->m (Array κ)
abbrev S1 (κ:Type):=Option (Array κ)×Array κ×Nat×Nat×Nat×Nat
abbrev S2 (κ:Type):=Option (Array κ)×Array κ×Nat×Nat×Nat×Nat×Nat
abbrev S0 (κ:Type):=Option (Array κ)×Array κ×Nat×Nat×Nat
section
variable {m:Type->Type}[Monad m]{κ:Type}(O:DV m κ)(a b:Array κ)(na nb:Nat)
def dn (out:Array κ)(ia ib:Nat):Array κ:=out++a.extract ia na++b.extract ib nb
def ls (out:Array κ)(ia ib:Nat):Array κ:=out++b.extract ib nb++a.extract ia na
def lo1 (mg:Nat)(s:S1 κ):m (ForInStep (S1 κ)) :=
 O.elem b s.2.2.2.1 >>= λy=>O.elem a s.2.2.1 >>= λx=>O.lt y x >>= λr=>match r with
  |some w=>if w=true then O.elem b s.2.2.2.1 >>= λz=>
     if(s.2.2.2.1+1==nb)=true then pure (.done (some (dn a b na nb (s.2.1.push z) s.2.2.1 (s.2.2.2.1+1)),s.2.1.push z,s.2.2.1,s.2.2.2.1+1,0,s.2.2.2.2.2+1))
     else if s.2.2.2.2.2+1 >= mg then pure (.done (none,s.2.1.push z,s.2.2.1,s.2.2.2.1+1,0,s.2.2.2.2.2+1))else pure (.yield (none,s.2.1.push z,s.2.2.1,s.2.2.2.1+1,0,s.2.2.2.2.2+1))
    else O.elem a s.2.2.1 >>= λz=>
     if(s.2.2.1+1+1==na)=true then pure (.done (some (ls a b na nb (s.2.1.push z) (s.2.2.1+1) s.2.2.2.1),s.2.1.push z,s.2.2.1+1,s.2.2.2.1,s.2.2.2.2.1+1,0))
     else if s.2.2.2.2.1+1 >= mg then pure (.done (none,s.2.1.push z,s.2.2.1+1,s.2.2.2.1,s.2.2.2.2.1+1,0))else pure (.yield (none,s.2.1.push z,s.2.2.1+1,s.2.2.2.1,s.2.2.2.2.1+1,0))
  |_=>pure (.done (some (dn a b na nb s.2.1 s.2.2.1 s.2.2.2.1),s.2.1,s.2.2.1,s.2.2.2.1,s.2.2.2.2.1,s.2.2.2.2.2))
def tV (out:Array κ)(ia ib mg ac bc:Nat):m (ForInStep (S2 κ)) :=
 O.elem a ia >>= λz=>if(ia+1+1==na)=true then pure (.done (some (ls a b na nb (out.push z) (ia+1) ib),out.push z,ia+1,ib,mg,ac,bc))
  else if(decide (ac<7)&&decide (bc<7))=true then pure (.done (none,out.push z,ia+1,ib,mg,ac,bc))else pure (.yield (none,out.push z,ia+1,ib,mg,ac,bc))
def tU (out:Array κ)(ia ib mg ac Ap:Nat):m (ForInStep (S2 κ)) :=
 O.elem b ib >>= λz=>if(ib+1==nb)=true then pure (.done (some (dn a b na nb (out.push z) ia (ib+1)),out.push z,ia,ib+1,mg,ac,Ap))
  else O.elem a ia >>= λx=>O.gal true x b (ib+1) (nb-(ib+1)) 0 >>= λr=>match r with
   |some k=>if k > 0 then(if(ib+1+k==nb)=true then pure (.done (some (dn a b na nb (out.push z++b.extract (ib+1) (ib+1+k)) ia (ib+1+k)),out.push z++b.extract (ib+1) (ib+1+k),ia,ib+1+k,mg,ac,k))
      else tV O a b na nb (out.push z++b.extract (ib+1) (ib+1+k)) ia (ib+1+k) mg ac k)
     else tV O a b na nb (out.push z) ia (ib+1) mg ac k
   |_=>pure (.done (some (dn a b na nb (out.push z) ia (ib+1)),out.push z,ia,ib+1,mg,ac,Ap))
def yO (out:Array κ)(ia ib mg FL bc:Nat):m (ForInStep (S2 κ)) :=
 O.setMG mg >>= λ_=>O.elem b ib >>= λy=>O.gal false y a ia (na-ia) 0 >>= λr=>match r with
  |some k=>if k > 0 then(if(ia+k+1==na)=true then pure (.done (some (ls a b na nb (out++a.extract ia (ia+k)) (ia+k) ib),out++a.extract ia (ia+k),ia+k,ib,mg,k,bc))
     else if(ia+k==na)=true then pure (.done (some (dn a b na nb (out++a.extract ia (ia+k)) (ia+k) ib),out++a.extract ia (ia+k),ia+k,ib,mg,k,bc))
     else tU O a b na nb (out++a.extract ia (ia+k)) (ia+k) ib mg k bc)
    else tU O a b na nb out ia ib mg k bc
  |_=>pure (.done (some (dn a b na nb out ia ib),out,ia,ib,mg,FL,bc))
def Ez (s:S2 κ):m (ForInStep (S2 κ)):=if s.2.2.2.2.1 > 1 then yO O a b na nb s.2.1 s.2.2.1 s.2.2.2.1 (s.2.2.2.2.1-1) s.2.2.2.2.2.1 s.2.2.2.2.2.2 else yO O a b na nb s.2.1 s.2.2.1 s.2.2.2.1 s.2.2.2.2.1 s.2.2.2.2.2.1 s.2.2.2.2.2.2
def Cq (s:S0 κ):m (ForInStep (S0 κ)) :=
 forIn [0:na+nb] ((none,s.2.1,s.2.2.1,s.2.2.2.1,0,0):S1 κ) (λ_ t=>lo1 O a b na nb s.2.2.2.2 t) >>= λt=>match t.1 with
  |some r=>pure (.done (some r,t.2.1,t.2.2.1,t.2.2.2.1,s.2.2.2.2))
  |none=>O.rule "list.sort.gallop" >>= λ_=>forIn [0:na+nb] ((none,t.2.1,t.2.2.1,t.2.2.2.1,s.2.2.2.2+1,t.2.2.2.2.1,t.2.2.2.2.2):S2 κ) (λ_ u=>Ez O a b na nb u) >>= λu=>match u.1 with
   |some r=>pure (.done (some r,u.2.1,u.2.2.1,u.2.2.2.1,u.2.2.2.2.1))
   |none=>O.setMG (u.2.2.2.2.1+1) >>= λ_=>pure (.yield (none,u.2.1,u.2.2.1,u.2.2.2.1,u.2.2.2.2.1+1))
def Ct:m (Array κ) :=
 O.rule "list.sort.merge-lo" >>= λ_=>O.elem b 0 >>= λz=>if(1==nb)=true then pure (dn a b na nb #[z] 0 1)else if(0+1==na)=true then pure (ls a b na nb #[z] 0 1)
  else O.getMG λg=>forIn [0:na+nb] ((none,#[z],0,1,g):S0 κ) (λ_ s=>Cq O a b na nb s) >>= λs=>match s.1 with
   |some r=>pure r
   |none=>O.bad "internal:list.sort.merge-bound"
end
abbrev T1 (κ:Type):=Option (Array κ)×Nat×Nat×Array κ×Nat×Nat
abbrev T2 (κ:Type):=Option (Array κ)×Nat×Nat×Array κ×Nat×Nat×Nat
abbrev T0 (κ:Type):=Option (Array κ)×Nat×Nat×Array κ×Nat
section
variable {m:Type->Type}[Monad m]{κ:Type}(O:DV m κ)(a b:Array κ)
def pZ (out:Array κ)(i j:Nat):Array κ:=a.extract 0 i++b.extract 0 j++out.reverse
def tW (out:Array κ)(i j:Nat):Array κ:=b.extract 0 j++a.extract 0 i++out.reverse
def BA (mg:Nat)(s:T1 κ):m (ForInStep (T1 κ)) :=
 O.elem b (s.2.2.1-1) >>= λy=>O.elem a (s.2.1-1) >>= λx=>O.lt y x >>= λr=>match r with
  |some w=>if w=true then O.elem a (s.2.1-1) >>= λz=>
     if(s.2.1-1==0)=true then pure (.done (some (pZ a b (s.2.2.2.1.push z) (s.2.1-1) s.2.2.1),s.2.1-1,s.2.2.1,s.2.2.2.1.push z,s.2.2.2.2.1+1,0))
     else if s.2.2.2.2.1+1 >= mg then pure (.done (none,s.2.1-1,s.2.2.1,s.2.2.2.1.push z,s.2.2.2.2.1+1,0))else pure (.yield (none,s.2.1-1,s.2.2.1,s.2.2.2.1.push z,s.2.2.2.2.1+1,0))
    else O.elem b (s.2.2.1-1) >>= λz=>
     if(s.2.2.1-1==1)=true then pure (.done (some (tW a b (s.2.2.2.1.push z) s.2.1 (s.2.2.1-1)),s.2.1,s.2.2.1-1,s.2.2.2.1.push z,0,s.2.2.2.2.2+1))
     else if s.2.2.2.2.2+1 >= mg then pure (.done (none,s.2.1,s.2.2.1-1,s.2.2.2.1.push z,0,s.2.2.2.2.2+1))else pure (.yield (none,s.2.1,s.2.2.1-1,s.2.2.2.1.push z,0,s.2.2.2.2.2+1))
  |_=>pure (.done (some (pZ a b s.2.2.2.1 s.2.1 s.2.2.1),s.2.1,s.2.2.1,s.2.2.2.1,s.2.2.2.2.1,s.2.2.2.2.2))
def tM (i j:Nat)(out:Array κ)(mg ac bc:Nat):m (ForInStep (T2 κ)) :=
 O.elem a (i-1) >>= λz=>if(i-1==0)=true then pure (.done (some (pZ a b (out.push z) (i-1) j),i-1,j,out.push z,mg,ac,bc))
  else if(decide (ac<7)&&decide (bc<7))=true then pure (.done (none,i-1,j,out.push z,mg,ac,bc))else pure (.yield (none,i-1,j,out.push z,mg,ac,bc))
def tL (i j:Nat)(out:Array κ)(mg ac Ap:Nat):m (ForInStep (T2 κ)) :=
 O.elem b (j-1) >>= λz=>if(j-1==1)=true then pure (.done (some (tW a b (out.push z) i (j-1)),i,j-1,out.push z,mg,ac,Ap))
  else O.elem a (i-1) >>= λx=>O.gal true x b 0 (j-1) (j-1-1) >>= λr=>match r with
   |some k=>if j-1-k > 0 then(if(k==1)=true then pure (.done (some (tW a b (out.push z++(b.extract k (j-1)).reverse) i k),i,k,out.push z++(b.extract k (j-1)).reverse,mg,ac,j-1-k))
      else if(k==0)=true then pure (.done (some (pZ a b (out.push z++(b.extract k (j-1)).reverse) i k),i,k,out.push z++(b.extract k (j-1)).reverse,mg,ac,j-1-k))
      else tM O a b i k (out.push z++(b.extract k (j-1)).reverse) mg ac (j-1-k))
     else tM O a b i (j-1) (out.push z) mg ac (j-1-k)
   |_=>pure (.done (some (pZ a b (out.push z) i (j-1)),i,j-1,out.push z,mg,ac,Ap))
def yJ (i j:Nat)(out:Array κ)(mg FL bc:Nat):m (ForInStep (T2 κ)) :=
 O.setMG mg >>= λ_=>O.elem b (j-1) >>= λy=>O.gal false y a 0 i (i-1) >>= λr=>match r with
  |some k=>if i-k > 0 then(if(k==0)=true then pure (.done (some (pZ a b (out++(a.extract k i).reverse) k j),k,j,out++(a.extract k i).reverse,mg,i-k,bc))
     else tL O a b k j (out++(a.extract k i).reverse) mg (i-k) bc)
    else tL O a b i j out mg (i-k) bc
  |_=>pure (.done (some (pZ a b out i j),i,j,out,mg,FL,bc))
def tK (s:T2 κ):m (ForInStep (T2 κ)):=if s.2.2.2.2.1 > 1 then yJ O a b s.2.1 s.2.2.1 s.2.2.2.1 (s.2.2.2.2.1-1) s.2.2.2.2.2.1 s.2.2.2.2.2.2 else yJ O a b s.2.1 s.2.2.1 s.2.2.2.1 s.2.2.2.2.1 s.2.2.2.2.2.1 s.2.2.2.2.2.2
def Bz (n:Nat)(s:T0 κ):m (ForInStep (T0 κ)) :=
 forIn [0:n] ((none,s.2.1,s.2.2.1,s.2.2.2.1,0,0):T1 κ) (λ_ t=>BA O a b s.2.2.2.2 t) >>= λt=>match t.1 with
  |some r=>pure (.done (some r,t.2.1,t.2.2.1,t.2.2.2.1,s.2.2.2.2))
  |none=>O.rule "list.sort.gallop" >>= λ_=>forIn [0:n] ((none,t.2.1,t.2.2.1,t.2.2.2.1,s.2.2.2.2+1,t.2.2.2.2.1,t.2.2.2.2.2):T2 κ) (λ_ u=>tK O a b u) >>= λu=>match u.1 with
   |some r=>pure (.done (some r,u.2.1,u.2.2.1,u.2.2.2.1,u.2.2.2.2.1))
   |none=>O.setMG (u.2.2.2.2.1+1) >>= λ_=>pure (.yield (none,u.2.1,u.2.2.1,u.2.2.2.1,u.2.2.2.2.1+1))
def Cr (na nb:Nat):m (Array κ) :=
 O.rule "list.sort.merge-hi" >>= λ_=>O.elem a (na-1) >>= λz=>if(na-1==0)=true then pure (pZ a b #[z] (na-1) nb)else if(nb==1)=true then pure (tW a b #[z] (na-1) nb)
  else O.getMG λg=>forIn [0:na+nb] ((none,na-1,nb,#[z],g):T0 κ) (λ_ s=>Bz O a b (na+nb) s) >>= λs=>match s.1 with
   |some r=>pure r
   |none=>O.bad "internal:list.sort.merge-bound"
end
noncomputable def lD:Array Keyed->Array Keyed->StateT SortSt ik (Array Keyed):=sortPriv% PySem.Builtin.mergeLo
noncomputable def lC:Array Keyed->Array Keyed->StateT SortSt ik (Array Keyed):=sortPriv% PySem.Builtin.mergeHi
noncomputable def d5:Nat->StateT SortSt ik Unit:=sortPriv% PySem.Builtin.setMinGallop
noncomputable def rq (g:Nat):PM Unit:=modify λs=>PS.mk s.a s.pend g
noncomputable def PO (lt:Nat->Nat->Bool):DV PM Ix:=⟨kJ,CD lt,jX lt,rq,λk=>get >>= λs=>k s.mg,λ_=>pure PUnit.unit,λ_=>failure⟩
noncomputable def RO:DV (StateT SortSt ik) Keyed:=⟨elem',lt',fU,d5,λk=>get >>= λs=>k (gallopOf s),λx=>liftM (rule x),λx=>unsupported x⟩
theorem SX (a b:Array Keyed):lD a b=(do
 rule "list.sort.merge-lo"
 let total:=a.size+b.size
 let done (out:Array Keyed) (ia ib:Nat):=out++a.extract ia a.size++b.extract ib b.size
 let lh (out:Array Keyed) (ia ib:Nat):=out++b.extract ib b.size++a.extract ia a.size
 let mut out:Array Keyed:=#[←elem' b 0]
 let mut ia:=0
 let mut ib:=1
 if ib==b.size then return done out ia ib
 if ia+1==a.size then return lh out ia ib
 let mut minGallop:=gallopOf (← get)
 for _ in[0:total]do
  let mut acount:=0
  let mut bcount:=0
  for _ in[0:total]do
   let some Ao ← lt' (← elem' b ib) (← elem' a ia)|return done out ia ib
   if Ao then
    out:=out.push (← elem' b ib);ib:=ib+1;bcount:=bcount+1;acount:=0
    if ib==b.size then return done out ia ib
    if bcount >= minGallop then break
   else
    out:=out.push (← elem' a ia);ia:=ia+1;acount:=acount+1;bcount:=0
    if ia+1==a.size then return lh out ia ib
    if acount >= minGallop then break
  rule "list.sort.gallop"
  minGallop:=minGallop+1
  for _ in[0:total]do
   if minGallop > 1 then minGallop:=minGallop-1
   d5 minGallop
   let some k ← fU false (← elem' b ib) a ia (a.size-ia) 0|return done out ia ib
   acount:=k
   if k > 0 then
    out:=out++a.extract ia (ia+k);ia:=ia+k
    if ia+1==a.size then return lh out ia ib
    if ia==a.size then return done out ia ib
   out:=out.push (← elem' b ib);ib:=ib+1
   if ib==b.size then return done out ia ib
   let some k ← fU true (← elem' a ia) b ib (b.size-ib) 0|return done out ia ib
   bcount:=k
   if k > 0 then
    out:=out++b.extract ib (ib+k);ib:=ib+k
    if ib==b.size then return done out ia ib
   out:=out.push (← elem' a ia);ia:=ia+1
   if ia+1==a.size then return lh out ia ib
   if acount<7&&bcount<7 then break
  minGallop:=minGallop+1
  d5 minGallop
 unsupported "internal:list.sort.merge-bound"):=rfl
set_option maxHeartbeats 400000
theorem SY (a b:Array Keyed):lD a b=Ct RO a b a.size b.size:=by
 rw[SX]
 unfold Ct Cq lo1 Ez yO tU tV dn ls RO
 dsimp only
 refine congrArg _ (funext λu=>?_)
 refine congrArg _ (funext λz=>?_)
 refine ite_congr rfl (λ_=>rfl) λ_=>?_
 refine ite_congr rfl (λ_=>rfl) λ_=>?_
 refine congrArg _ (funext λs=>?_)
 refine congr (congrArg _ (congrArg _ (funext λx=>funext λt=>?_))) (funext λt=>?_)
 ·refine congr (congrArg _ (congrArg _ (funext λx=>funext λt=>?_))) (funext λt=>?_)
  ·rfl
  ·generalize t.1=o
   cases o with
   |some r=>rfl
   |none=>
    dsimp only
    refine congrArg _ (funext λu=>?_)
    refine congr (congrArg _ (congrArg _ (funext λx=>funext λt=>?_))) (funext λt=>?_)
    ·refine ite_congr rfl (λ_=>?_) λ_=>?_
     ·rfl
     ·rfl
    ·generalize t.1=o
     cases o with
     |some r=>rfl
     |none=>rfl
 ·generalize t.1=o
  cases o with
  |none=>rfl
  |some r=>rfl
theorem SZ (a b:Array Keyed):lC a b=(do
 rule "list.sort.merge-hi"
 let total:=a.size+b.size
 let done (out:Array Keyed) (na nb:Nat):=a.extract 0 na++b.extract 0 nb++out.reverse
 let jW (out:Array Keyed) (na nb:Nat):=b.extract 0 nb++a.extract 0 na++out.reverse
 let mut na:=a.size-1
 let mut nb:=b.size
 let mut out:Array Keyed:=#[←elem' a na]
 if na==0 then return done out na nb
 if nb==1 then return jW out na nb
 let mut minGallop:=gallopOf (← get)
 for _ in[0:total]do
  let mut acount:=0
  let mut bcount:=0
  for _ in[0:total]do
   let some zM ← lt' (← elem' b (nb-1)) (← elem' a (na-1))|return done out na nb
   if zM then
    na:=na-1;out:=out.push (← elem' a na);acount:=acount+1;bcount:=0
    if na==0 then return done out na nb
    if acount >= minGallop then break
   else
    nb:=nb-1;out:=out.push (← elem' b nb);bcount:=bcount+1;acount:=0
    if nb==1 then return jW out na nb
    if bcount >= minGallop then break
  rule "list.sort.gallop"
  minGallop:=minGallop+1
  for _ in[0:total]do
   if minGallop > 1 then minGallop:=minGallop-1
   d5 minGallop
   let some at_ ← fU false (← elem' b (nb-1)) a 0 na (na-1)|return done out na nb
   let k:=na-at_
   acount:=k
   if k > 0 then
    out:=out++(a.extract at_ na).reverse;na:=at_
    if na==0 then return done out na nb
   nb:=nb-1;out:=out.push (← elem' b nb)
   if nb==1 then return jW out na nb
   let some at_ ← fU true (← elem' a (na-1)) b 0 nb (nb-1)|return done out na nb
   let k:=nb-at_
   bcount:=k
   if k > 0 then
    out:=out++(b.extract at_ nb).reverse;nb:=at_
    if nb==1 then return jW out na nb
    if nb==0 then return done out na nb
   na:=na-1;out:=out.push (← elem' a na)
   if na==0 then return done out na nb
   if acount<7&&bcount<7 then break
  minGallop:=minGallop+1
  d5 minGallop
 unsupported "internal:list.sort.merge-bound"):=rfl
theorem S3 (a b:Array Keyed):lC a b=Cr RO a b a.size b.size:=by
 rw[SZ]
 unfold Cr Bz BA tK yJ tL tM pZ tW RO
 dsimp only
 refine congrArg _ (funext λu=>?_)
 refine congrArg _ (funext λz=>?_)
 refine ite_congr rfl (λ_=>rfl) λ_=>?_
 refine ite_congr rfl (λ_=>rfl) λ_=>?_
 refine congrArg _ (funext λs=>?_)
 refine congr (congrArg _ (congrArg _ (funext λx=>funext λt=>?_))) (funext λt=>?_)
 ·refine congr (congrArg _ (congrArg _ (funext λx=>funext λt=>?_))) (funext λt=>?_)
  ·rfl
  ·generalize t.1=o
   cases o with
   |some r=>rfl
   |none=>
    dsimp only
    refine congrArg _ (funext λu=>?_)
    refine congr (congrArg _ (congrArg _ (funext λx=>funext λt=>?_))) (funext λt=>?_)
    ·refine ite_congr rfl (λ_=>?_) λ_=>?_
     ·rfl
     ·rfl
    ·generalize t.1=o
     cases o with
     |some r=>rfl
     |none=>rfl
 ·generalize t.1=o
  cases o with
  |none=>rfl
  |some r=>rfl
section
variable {prog:aX}{w:bz}{A:bq}{E:ae->ak->Prop}{s:ak}{it:Tab}{a b out:Array Ix}{na nb:Nat}
theorem zbg {g:Nat}:eR prog w A E s it (d5 g) (rq g):=MB λps=>rfl
theorem zq7 (i j:Nat):dn (Cv.cv it a) (Cv.cv it b) na nb (Cv.cv it out:Array Keyed) i j=Cv.cv it (dn a b na nb out i j):=by unfold dn;rw[ut,ut,jm,jm]
theorem zq8 (i j:Nat):ls (Cv.cv it a) (Cv.cv it b) na nb (Cv.cv it out:Array Keyed) i j=Cv.cv it (ls a b na nb out i j):=by unfold ls;rw[ut,ut,jm,jm]
theorem zm5 (i j:Nat):pZ (Cv.cv it a) (Cv.cv it b) (Cv.cv it out:Array Keyed) i j=Cv.cv it (pZ a b out i j):=by unfold pZ;rw[ut,ut,zgk,jm,jm]
theorem zm6 (i j:Nat):tW (Cv.cv it a) (Cv.cv it b) (Cv.cv it out:Array Keyed) i j=Cv.cv it (tW a b out i j):=by unfold tW;rw[ut,ut,zgk,jm,jm]
local macro_rules| `(tactic|walk_at "cv")=>`(tactic|simp only[zgi,zi1,zi2,zc1,zfk,zfl,zi3,zgj,zi4,qp,ut,jm,zgk,zai,zm3,zm4,zq7,zq8,zm5,zm6])
local macro_rules| `(tactic|walk_at "opt")=>`(tactic|(rintro(_|b)<;>(try walk_at "cv")<;>(try dsimp only)))
local macro_rules| `(tactic|walk_at "mrg")=>`(tactic|repeat' (first|(refine wa (λ_=>?_) (λ_=>?_))|(refine zj vz λ_=>?_)|(refine zj zgh ?_;walk_at "opt")|(refine zj qq ?_;walk_at "opt")|(refine zj zbg λ_=>?_)|assumption|(refine zk ?_;walk_at "cv";done)))
theorem Vz {mg:Nat}(t:S1 Ix):eR prog w A E s it (lo1 RO (Cv.cv it a) (Cv.cv it b) na nb mg (Cv.cv it t)) (lo1 (PO it.lt) a b na nb mg t):=by
 obtain⟨r,out,ia,ib,ac,bc⟩:=t
 unfold lo1 RO PO
 walk_at "cv"
 walk_at "mrg"
theorem VY (out:Array Ix)(ia ib mg ac bc:Nat):eR prog w A E s it (tV RO (Cv.cv it a) (Cv.cv it b) na nb (Cv.cv it out) ia ib mg ac bc) (tV (PO it.lt) a b na nb out ia ib mg ac bc):=by
 unfold tV RO PO
 dsimp only
 walk_at "mrg"
theorem V3 (out:Array Ix)(ia ib mg ac bc:Nat):eR prog w A E s it (tU RO (Cv.cv it a) (Cv.cv it b) na nb (Cv.cv it out) ia ib mg ac bc) (tU (PO it.lt) a b na nb out ia ib mg ac bc):=by
 have h:=VY (prog:=prog) (w:=w) (A:=A) (E:=E) (s:=s) (it:=it) (a:=a) (b:=b) (na:=na) (nb:=nb)
 unfold tU
 generalize tV RO (Cv.cv it a) (Cv.cv it b) na nb=F,tV (PO it.lt) a b na nb=F' at *
 unfold RO PO
 walk_at "cv"
 walk_at "mrg"
 all_goals exact h _ _ _ _ _ _
theorem MC (out:Array Ix)(ia ib mg ac bc:Nat):eR prog w A E s it (yO RO (Cv.cv it a) (Cv.cv it b) na nb (Cv.cv it out) ia ib mg ac bc) (yO (PO it.lt) a b na nb out ia ib mg ac bc):=by
 have h:=V3 (prog:=prog) (w:=w) (A:=A) (E:=E) (s:=s) (it:=it) (a:=a) (b:=b) (na:=na) (nb:=nb)
 unfold yO
 generalize tU RO (Cv.cv it a) (Cv.cv it b) na nb=F,tU (PO it.lt) a b na nb=F' at *
 unfold RO PO
 walk_at "cv"
 walk_at "mrg"
 all_goals exact h _ _ _ _ _ _
theorem V4 (t:S2 Ix):eR prog w A E s it (Ez RO (Cv.cv it a) (Cv.cv it b) na nb (Cv.cv it t)) (Ez (PO it.lt) a b na nb t):=by
 obtain⟨r,out,ia,ib,mg,ac,bc⟩:=t
 exact wa (λ_=>MC _ _ _ _ _ _) (λ_=>MC _ _ _ _ _ _)
theorem V5 (t:S0 Ix):eR prog w A E s it (Cq RO (Cv.cv it a) (Cv.cv it b) na nb (Cv.cv it t)) (Cq (PO it.lt) a b na nb t):=by
 unfold Cq
 refine zj (vo (b:=(none,_,_,_,0,0)) rfl λx t=>Vz t) λt=>?_
 obtain⟨o,t⟩:=t
 cases o with
 |some r=>exact zk rfl
 |none=>
  refine zj (α:=PUnit) (β:=PUnit) E6 λ_=>zj (vo (b:=(none,_,_,_,_,_,_)) rfl λx t=>V4 t) λt=>?_
  obtain⟨o,t⟩:=t
  cases o with
  |some r=>exact zk rfl
  |none=>exact zj zbg λ_=>zk rfl
theorem V6:eR prog w A E s it (Ct RO (Cv.cv it a) (Cv.cv it b) na nb) (Ct (PO it.lt) a b na nb):=by
 refine zj (α:=PUnit) (β:=PUnit) E6 λ_=>zj (α:=Keyed) (β:=Ix) vz λz=>wa (λ_=>zk ?_) (λ_=>wa (λ_=>zk ?_) (λ_=>ug λps=>?_))
 ·rw[zai,zq7]
 ·rw[zai,zq8]
 ·refine zj (vo (b:=(none,#[z],0,1,ps.mg)) (by rw[zai];rfl) λx t=>V5 t) λt=>?_
  obtain⟨o,t⟩:=t
  cases o with
  |some r=>exact zk rfl
  |none=>exact jd
theorem V7 {mg:Nat}(t:T1 Ix):eR prog w A E s it (BA RO (Cv.cv it a) (Cv.cv it b) mg (Cv.cv it t)) (BA (PO it.lt) a b mg t):=by
 obtain⟨r,i,j,out,ac,bc⟩:=t
 unfold BA RO PO
 walk_at "cv"
 walk_at "mrg"
theorem V8 (i j:Nat)(out:Array Ix)(mg ac bc:Nat):eR prog w A E s it (tM RO (Cv.cv it a) (Cv.cv it b) i j (Cv.cv it out) mg ac bc) (tM (PO it.lt) a b i j out mg ac bc):=by
 unfold tM RO PO
 dsimp only
 walk_at "mrg"
theorem V9 (i j:Nat)(out:Array Ix)(mg ac bc:Nat):eR prog w A E s it (tL RO (Cv.cv it a) (Cv.cv it b) i j (Cv.cv it out) mg ac bc) (tL (PO it.lt) a b i j out mg ac bc):=by
 have h:=V8 (prog:=prog) (w:=w) (A:=A) (E:=E) (s:=s) (it:=it) (a:=a) (b:=b)
 unfold tL
 generalize tM RO (Cv.cv it a) (Cv.cv it b)=F,tM (PO it.lt) a b=F' at *
 unfold RO PO
 walk_at "cv"
 walk_at "mrg"
 all_goals exact h _ _ _ _ _ _
theorem MD (i j:Nat)(out:Array Ix)(mg ac bc:Nat):eR prog w A E s it (yJ RO (Cv.cv it a) (Cv.cv it b) i j (Cv.cv it out) mg ac bc) (yJ (PO it.lt) a b i j out mg ac bc):=by
 have h:=V9 (prog:=prog) (w:=w) (A:=A) (E:=E) (s:=s) (it:=it) (a:=a) (b:=b)
 unfold yJ
 generalize tL RO (Cv.cv it a) (Cv.cv it b)=F,tL (PO it.lt) a b=F' at *
 unfold RO PO
 walk_at "cv"
 walk_at "mrg"
 all_goals exact h _ _ _ _ _ _
theorem Wa (t:T2 Ix):eR prog w A E s it (tK RO (Cv.cv it a) (Cv.cv it b) (Cv.cv it t)) (tK (PO it.lt) a b t):=by
 obtain⟨r,i,j,out,mg,ac,bc⟩:=t
 exact wa (λ_=>MD _ _ _ _ _ _) (λ_=>MD _ _ _ _ _ _)
theorem Wb {n:Nat}(t:T0 Ix):eR prog w A E s it (Bz RO (Cv.cv it a) (Cv.cv it b) n (Cv.cv it t)) (Bz (PO it.lt) a b n t):=by
 unfold Bz
 refine zj (vo (b:=(none,_,_,_,0,0)) rfl λx t=>V7 t) λt=>?_
 obtain⟨o,t⟩:=t
 cases o with
 |some r=>exact zk rfl
 |none=>
  refine zj (α:=PUnit) (β:=PUnit) E6 λ_=>zj (vo (b:=(none,_,_,_,_,_,_)) rfl λx t=>Wa t) λt=>?_
  obtain⟨o,t⟩:=t
  cases o with
  |some r=>exact zk rfl
  |none=>exact zj zbg λ_=>zk rfl
theorem Wc:eR prog w A E s it (Cr RO (Cv.cv it a) (Cv.cv it b) na nb) (Cr (PO it.lt) a b na nb):=by
 refine zj (α:=PUnit) (β:=PUnit) E6 λ_=>zj (α:=Keyed) (β:=Ix) vz λz=>wa (λ_=>zk ?_) (λ_=>wa (λ_=>zk ?_) (λ_=>ug λps=>?_))
 ·rw[zai,zm5]
 ·rw[zai,zm6]
 ·refine zj (vo (b:=(none,na-1,nb,#[z],ps.mg)) (by rw[zai];rfl) λx t=>Wb t) λt=>?_
  obtain⟨o,t⟩:=t
  cases o with
  |some r=>exact zk rfl
  |none=>exact jd
end
end TS
end L2
set_option maxHeartbeats 4000000
namespace L2
namespace TS
open PySem PySem.Spec PyProof.Rows
section
variable (lt:Nat->Nat->Bool)
noncomputable def layAt (sa:Nat)(m:Array Ix)(a:Array Ix):Array Ix:=m.toList.zipIdx.foldl (λa (p,j)=>a.setIfInBounds (sa+j) p) a
noncomputable def wQ (sa:Nat)(m:Array Ix)(a:Array Ix):List Ix:=if sa+m.size<=a.size then a.toList.take sa++(m.toList++a.toList.drop (sa+m.size))else(layAt sa m a).toList
noncomputable def sD (sa:Nat)(m:Array Ix):PM Unit:=λs=>frc (wQ sa m s.a) λl=>some ((),PS.mk l.toArray s.pend s.mg)
noncomputable def iL (i:Nat):PM Bool:=do
 let s ← get
 let(some (sa,na,power),some (sb,nb,_)):=(s.pend[i]?,s.pend[i+1]?)|failure
 set (PS.mk s.a ((s.pend.setIfInBounds i (sa,na+nb,power)).eraseIdxIfInBounds (i+1)) s.mg)
 let some k ← jX lt false (← kJ s.a sb) s.a sa na 0|return false
 let(sa,na):=(sa+k,na-k)
 if na==0 then return true
 let some nb ← jX lt true (← kJ s.a (sa+na-1)) s.a sb nb (nb-1)|return false
 if nb==0 then return true
 let merged ← frc (s.a.extract sa sb).toList λx=>frc (s.a.extract sb (sb+nb)).toList λy=>if na<=nb then Ct (PO lt) x.toArray y.toArray x.length y.length else Cr (PO lt) x.toArray y.toArray x.length y.length
 sD sa merged
 return true
noncomputable def rn:PM Unit:=do
 let size:=(← get).a.size
 let rf:=minRun' size size 0
 let mut lo:=0
 for _ in[0:size]do
  if lo >= size then break
  let some found ← oz lt lo (size-lo)|return
  let mut n:=found
  if n<rf then
   pure ()
   let tG:=min (size-lo) rf
   if !(← wY lt lo tG n)then return
   n:=tG
  if let some (s1,n1,_):=(← get).pend.back? then
   let pw:=power' size (2*s1+n1) (2*s1+n1+n1+n) size
   for _ in[0:size]do
    let p:=(← get).pend
    let some (_,_,mq):=(if p.size > 1 then p[p.size-2]? else none)|break
    if mq<=pw then break
    if !(← iL lt (p.size-2))then return
   modify λs=>PS.mk s.a (s.pend.modify (s.pend.size-1) λ(st,len,_)=>(st,len,pw)) s.mg
  modify λs=>PS.mk s.a (s.pend.push (lo,n,0)) s.mg
  lo:=lo+n
 for _ in[0:size]do
  let p:=(← get).pend
  if p.size<=1 then break
  let i:=p.size-2
  let before:=if i > 0 then p[i-1]?.map (·.2.1)else none
  let i:=if before.any (·<(p[i+1]?.elim 0 (·.2.1)))then i-1 else i
  if !(← iL lt i)then return
end
noncomputable def tsort (n:Nat)(kf:Nat->Int):Option (List Nat):=((rn (λi j=>decide (kf i<kf j))).run (PS.mk ((aH n).map Ix.mk).toArray #[] 7)).map λr=>r.2.a.toList.map Ix.n
theorem S4 (i:Nat):mergeAt' i=(do
 let s ← get
 let(some (sa,na,power),some (sb,nb,_)):=((pendingOf s)[i]?,(pendingOf s)[i+1]?)|unsupported "internal:list.sort.pending"
 set (setPending s (((pendingOf s).setIfInBounds i (sa,na+nb,power)).eraseIdxIfInBounds (i+1)))
 let some k ← fU false (← elem' (arrOf s) sb) (arrOf s) sa na 0|return false
 let(sa,na):=(sa+k,na-k)
 if na==0 then return true
 let some nb ← fU true (← elem' (arrOf s) (sa+na-1)) (arrOf s) sb nb (nb-1)|return false
 if nb==0 then return true
 let x:=(arrOf s).extract sa sb
 let y:=(arrOf s).extract sb (sb+nb)
 let merged ← if na<=nb then lD x y else lC x y
 modify λs=>setArr s (merged.toList.zipIdx.foldl (λa (p,j)=>a.setIfInBounds (sa+j) p) (arrOf s))
 return(failedOf (← get)).isNone):=rfl
section
variable {prog:aX}{w:bz}{A:bq}{E:ae->ak->Prop}{s:ak}{it:Tab}
theorem ME (sa:Nat):∀(m:List (Ix×Nat)) (a:Array Ix),(m.map λp=>(itm it p.1,p.2)).foldl (λ(a:Array Keyed) (p:Keyed×Nat)=>a.setIfInBounds (sa+p.2) p.1) (a.map (itm it))=(m.foldl (λ(a:Array Ix) (p:Ix×Nat)=>a.setIfInBounds (sa+p.2) p.1) a).map (itm it)
 |[],_=>rfl
 |p::m,a=>by
  rw[br,bD,bD]
  have:(a.map (itm it)).setIfInBounds (sa+p.2) (itm it p.1)=(a.setIfInBounds (sa+p.2) p.1).map (itm it):=by simp
  rw[←ME sa m]
  dsimp only
  rw[this]
theorem W3 {α β:Type}[Cv it β α]{k:SortSt->StateT SortSt ik α}{m:PM β}(h:∀ps,eR prog w A E s it (k (emb it ps)) m):eR prog w A E s it (get >>= k) m:=by
 intro ps d lV e Q q
 exact wpS_bind (wpS_get (h ps ps d lV e Q q))
theorem Wd {X:SortSt}{P:PS}(h:X=emb it P):eR prog w A E s it (set X) (set P):=by
 intro ps d lV e Q q
 cases e
 rw[h]
 unfold wpS
 rw[StateT.run_set]
 exact bF ⟨rfl,q⟩
theorem XD (sa:Nat)(m a:Array Ix)(h:sa+m.size<=a.size):(a.toList.take sa++(m.toList++a.toList.drop (sa+m.size))).toArray=layAt sa m a:=by
 have key:∀(l:List Ix) (j:Nat) (x:List Ix),sa+j+l.length<=x.length->(l.zipIdx j).foldl (λ(a:Array Ix) (p:Ix×Nat)=>a.setIfInBounds (sa+p.2) p.1) x.toArray=(x.take (sa+j)++(l++x.drop (sa+j+l.length))).toArray:=by
  intro l
  induction l with
  |nil=>intro j x _;simp
  |cons y l ih=>
   intro j x hx
   rw[az]at hx
   rw[List.zipIdx_cons,bD]
   have e:x.toArray.setIfInBounds (sa+j) y=(x.set (sa+j) y).toArray:=by simp
   rw[e,ih (j+1) _ (by rw[iw];omega)]
   congr 1
   have q1:(x.set (sa+j) y).take (sa+(j+1))=x.take (sa+j)++[y]:=by
    rw[show sa+(j+1)=(sa+j)+1 by omega,pT,List.take_set_of_le (aG _),cw (by omega)];rfl
   have q2:(x.set (sa+j) y).drop (sa+(j+1)+l.length)=x.drop (sa+j+(y::l).length):=by
    rw[List.drop_set_of_lt (by omega),az,show sa+(j+1)+l.length=sa+j+(l.length+1)by omega]
   rw[q1,q2,ee];rfl
 have:=key m.toList 0 a.toList (by simpa using h)
 unfold layAt
 simp only[Nat.add_zero,bL]at this
 rw[←this]
theorem XF (sa:Nat)(m a:Array Ix):(wQ sa m a).toArray=layAt sa m a:=by
 unfold wQ
 by_cases h:sa+m.size<=a.size
 ·rw[if_pos h];exact XD sa m a h
 ·rw[if_neg h]
theorem We {sa:Nat}{m:Array Ix}:eR prog w A E s it (modify λs=>setArr s ((Cv.cv it m:Array Keyed).toList.zipIdx.foldl (λa (p,j)=>a.setIfInBounds (sa+j) p) (arrOf s))) (sD sa m):=by
 refine IA (F':=λs=>PS.mk (layAt sa m s.a) s.pend s.mg) (λps=>by unfold sD;rw[frc_eq,XF]) λps=>?_
 have e:(Cv.cv it m:Array Keyed).toList.zipIdx=m.toList.zipIdx.map λp=>(itm it p.1,p.2):=by
  show(m.map (itm it)).toList.zipIdx=_
  rw[gO,List.zipIdx_map];rfl
 have:=ME (it:=it) sa m.toList.zipIdx ps.a
 rw[e]
 exact congrArg (λz=>SortSt.mk' oneType' z ps.pend ps.mg none) this
theorem Ls {i:Nat}:eR prog w A E s it (mergeAt' i) (iL it.lt i):=by
 rw[S4]
 unfold iL
 refine ug λps=>?_
 have e1:pendingOf (emb it ps)=ps.pend:=rfl
 have e2:arrOf (emb it ps)=Cv.cv it ps.a:=rfl
 rw[e1,e2]
 cases h1:ps.pend[i]? with
 |none=>exact jd
 |some p=>
  obtain⟨sa,na,power⟩:=p
  cases h2:ps.pend[i+1]? with
  |none=>exact jd
  |some q=>
   obtain⟨sb,nb,u⟩:=q
   dsimp only
   refine zj (α:=PUnit) (β:=PUnit) (Wd rfl) λ_=>zj (α:=Keyed) (β:=Ix) vz λx=>zj (α:=Option Nat) (β:=Option Nat) qq ?_
   rintro(_|k)
   ·exact zk rfl
   show eR prog w A E s it (if(na-k==0)=true then _ else _) _
   refine wa (λ_=>zk rfl) λ_=>zj (α:=Keyed) (β:=Ix) vz λy=>zj (α:=Option Nat) (β:=Option Nat) qq ?_
   rintro(_|n)
   ·exact zk rfl
   show eR prog w A E s it (if(n==0)=true then _ else _) _
   refine wa (λ_=>zk rfl) λ_=>?_
   rw[ut,ut]
   have key:∀(f:StateT SortSt ik (Array Keyed)) (f':PM (Array Ix)),eR prog w A E s it f f'->eR prog w A E s it (f >>= λm=>(modify λs=>setArr s (m.toList.zipIdx.foldl (λa (p,j)=>a.setIfInBounds (sa+k+j) p) (arrOf s))) >>= λ_=>get >>= λs=>pure (failedOf s).isNone)
     (f' >>= λm=>sD (sa+k) m >>= λ_=>pure true):=λf f' hf=>zj (α:=Array Keyed) (β:=Array Ix) hf λm=>zj (α:=PUnit) (β:=PUnit) We λ_=>W3 λps=>zk rfl
   rw[frc_eq,frc_eq]
   have HD:∀(c:Prop) [Decidable c] (f g:StateT SortSt ik (Array Keyed)) (h:Array Keyed->StateT SortSt ik Bool) (f':PM (Array Ix)) (h':Array Ix->PM Bool) (g':PM (Array Ix)),(c->eR prog w A E s it (f >>= h) (f' >>= h'))->(¬c->eR prog w A E s it (g >>= h) (g' >>= h'))->eR prog w A E s it (if c then f >>= h else g >>= h) ((if c then f' else g') >>= h'):=by
    intro c _ f g h f' h' g' h1 h2
    by_cases hc:c
    ·rw[if_pos hc,if_pos hc];exact h1 hc
    ·rw[if_neg hc,if_neg hc];exact h2 hc
   refine HD _ _ _ _ _ _ _ (λ_=>key _ _ ?_) λ_=>key _ _ ?_
   ·rw[SY,qp,qp];exact V6
   ·rw[S3,qp,qp];exact Wc
theorem IC {ps:PS}:pendingOf (emb it ps)=ps.pend:=rfl
theorem ID {F:Array (Nat×Nat×Nat)->Array (Nat×Nat×Nat)}:eR prog w A E s it (modify λs=>setPending s (F (pendingOf s))) (modify λs=>PS.mk s.a (F s.pend) s.mg):=MB λps=>rfl
theorem TQ {n pw:Nat}:eR prog w A E s it (forIn [0:n] ((none,()):Option PUnit×PUnit) λx t=>do
   let s ← get
   match if(pendingOf s).size > 1 then(pendingOf s)[(pendingOf s).size-2]? else none with
    |some (_,_,mq)=>if mq<=pw then pure (ForInStep.done (none,()))else do
      let r ← mergeAt' ((pendingOf s).size-2)
      if(!r)=true then pure (ForInStep.done (some (),()))else pure (ForInStep.yield (none,()))
    |_=>pure (ForInStep.done (none,())))
  (forIn [0:n] ((none,()):Option PUnit×PUnit) λx t=>do
   let s ← get
   match if s.pend.size > 1 then s.pend[s.pend.size-2]? else none with
    |some (_,_,mq)=>if mq<=pw then pure (ForInStep.done (none,()))else do
      let r ← iL it.lt (s.pend.size-2)
      if(!r)=true then pure (ForInStep.done (some (),()))else pure (ForInStep.yield (none,()))
    |_=>pure (ForInStep.done (none,()))):=by
 refine vo (b:=(none,())) rfl λx t=>ug λps=>?_
 rw[IC]
 generalize (if ps.pend.size > 1 then ps.pend[ps.pend.size-2]? else none)=o
 rcases o with _|⟨_,_,mq⟩
 ·exact zk rfl
 ·exact wa (λ_=>zk rfl) λ_=>zj (α:=Bool) (β:=Bool) Ls λr=>wa (λ_=>zk rfl) λ_=>zk rfl
theorem sim_runs:eR prog w A E s it sortRuns' (rn it.lt):=by
 rw[sortRuns'_eq]
 unfold rn
 refine ug λps=>?_
 have e2:(arrOf (emb it ps)).size=ps.a.size:=by show(ps.a.map _).size=_;simp
 rw[e2]
 dsimp only
 refine zj (vo (b:=(none,0)) rfl λx t=>?_) λt=>?_
 ·obtain⟨_,lo⟩:=t
  simp only[zc1,zgi]
  refine wa (λ_=>zk rfl) λ_=>zj (α:=Option Nat) (β:=Option Nat) TN ?_
  rintro(_|found)
  ·exact zk rfl
  simp only[zfl,zgi]
  refine wa (λ_=>zm2 (zj (α:=Bool) (β:=Bool) Vy λr=>wa (λ_=>zk rfl) λ_=>ug λps=>?_)) λ_=>ug λps=>?_
  all_goals
   rw[IC]
   generalize ps.pend.back?=o
   rcases o with _|⟨s1,n1,_⟩
   ·exact zj (α:=PUnit) (β:=PUnit) (ID (F:=λp=>p.push _)) λ_=>zk rfl
   ·refine zj TQ λt=>?_
    obtain⟨o,_⟩:=t
    cases o with
    |some r=>exact zk rfl
    |none=>exact zj (α:=PUnit) (β:=PUnit) (ID (F:=λp=>p.modify (p.size-1) _)) λ_=>zj (α:=PUnit) (β:=PUnit) (ID (F:=λp=>p.push _)) λ_=>zk rfl
 ·obtain⟨o,lo⟩:=t
  cases o with
  |some r=>exact zk rfl
  |none=>
   simp only[zc1,zfk]
   refine zj (vo (b:=(none,())) rfl λx t=>ug λps=>?_) λt=>?_
   ·rw[IC]
    exact wa (λ_=>zk rfl) λ_=>zj (α:=Bool) (β:=Bool) Ls λr=>wa (λ_=>zk rfl) λ_=>zk rfl
   ·obtain⟨o,_⟩:=t
    cases o with
    |some r=>exact zk rfl
    |none=>exact zk rfl
end
end TS
end L2
set_option maxHeartbeats 4000000
namespace L2
open PySem PySem.Spec PyProof.Rows
namespace TS
noncomputable def tsrt (ks:List Int):Option (List Nat):=if ks.length<2 then some (aH ks.length)else tsort ks.length λi=>ks.getD i 0
end TS
section
variable {prog:aX}{w:bz}{A:bq}{E:ae->ak->Prop}{s:ak}{vs:List ae}{kz:List Int}{π:List Nat}
def tokOf:ae->Tok
 |.int _ t=>t
 |_=>0
theorem MS:∀{ks:List ae} {kz:List Int},IntsAre ks kz->∀i,i<kz.length->ks[i]?=some (.int (kz.getD i 0) (tokOf (ks.getD i .none)))
 |_,_,.nil,i,h=>by simp at h
 |_,_,.cons n t h,0,_=>rfl
 |_,_,.cons n t h,i+1,hi=>by
  have:=MS h i (by simpa using hi)
  simpa using this
theorem Ts {keys:Array ae}(hk:IntsAre keys.toList kz)(d6:kz.length=vs.length)(ht:TS.tsort kz.length (λi=>kz.getD i 0)=some π){Q:Unit->SortSt->Prop}(h:∀lM,(arrOf lM).map (·.2)=(π.map λi=>vs.getD i ae.none).toArray->failedOf lM=none->Q () lM) :
  wpS (aZ prog w) A E s sortRuns' Q (SortSt.mk' oneType' (keys.zip vs.toArray) #[] 7 none):=by
 obtain⟨it,hit⟩:∃it:TS.Tab,it=⟨λi=>kz.getD i 0,λi=>tokOf (keys.toList.getD i .none),λi=>vs.getD i ae.none⟩:=⟨_,rfl⟩
 have e:SortSt.mk' oneType' (keys.zip vs.toArray) #[] 7 none=TS.emb it (TS.PS.mk ((aH kz.length).map TS.Ix.mk).toArray #[] 7):=by
  have:keys.zip vs.toArray=((aH kz.length).map TS.Ix.mk).toArray.map (TS.itm it):=by
   apply oJ
   rw[ksk_zip,gO,cU]
   apply eh
   intro i
   rw[bj]
   by_cases hi:i<kz.length
   ·rw[dm hi]
    refine List.getElem?_zip_eq_some.mpr ⟨?_,?_⟩
    ·rw[MS hk i hi,hit];rfl
    ·rw[hit]
     show vs[i]?=some (vs.getD i ae.none)
     rw[aN,bC (by omega)];rfl
   ·rw[bS (by rw[eE,hk.length];omega),bS (by simpa using hi)];rfl
  show SortSt.mk' _ _ _ _ _=SortSt.mk' _ _ _ _ _
  rw[this]
 rw[e]
 unfold TS.tsort at ht
 obtain⟨⟨⟨⟩,lV⟩,h1,h2⟩:=dq.mp ht
 have kh:it.lt=λi j=>decide (kz.getD i 0<kz.getD j 0):=by rw[hit]
 refine TS.sim_runs (it:=it) _ _ _ (by rw[kh];exact h1) Q (h _ ?_ rfl)
 show((lV.a.map (TS.itm it)).map (·.2))=_
 rw[←h2,Array.map_map,cU]
 apply oJ
 rw[gO]
 exact dR λx _=>by rw[hit];rfl
theorem Tt {l:af}{Q:ae->ak->Prop}(hl:s.heap.IsList l vs.toArray)(hn:vs.length<=1000)(d6:kz.length=vs.length)(hπ:π.length<=1000)
  (hv:∀(i:Nat) (v:ae),vs[i]?=some v->∃(p:af) (bV:Array ae),v=.ref p/\s.heap.IsList p bV/\bV.size<=sizeLine/\kz.getD i 0=bV.size) (ht:TS.tsrt kz=some π)
  (h:∀h' tk c,(∀b o,s.heap.get? b=some o->h'.get? b=some o)->h'.get? (s.heap.objs.size+1)=some (seqObj "list" (π.map λi=>vs.getD i ae.none).toArray c)->Q (.ref (s.heap.objs.size+1)) { s with heap:=h',toks:=tk }) :
  bg (aZ prog w) A (call (.builtin "sorted") [.ref l] [(aI.ofString "key",.builtin "len")]) Q E s:=by
 refine call_function_entry_kw kind_sorted plain_sorted entry_sorted (ksk_s1 _ _) ?_
 unfold Builtin.«sorted»
 refine aL (m:=checkCount "sorted" 1 1 _) (bF ?_)
 refine aL (collect_list hl ?_ (by rw[bG];omega))
 refine aL (wpAny_newList ?_ (by rw[bG];omega))
 have hsz:((s.heap.push (seqObj "list" #[] 0)).update s.heap.objs.size (cN.mapSeq (·++vs.toArray))).objs.size=s.heap.objs.size+1:=by
  rw[qD,size_push']
 have sm:(((s.heap.push (seqObj "list" #[] 0)).update s.heap.objs.size (cN.mapSeq (·++vs.toArray))).push (seqObj "list" vs.toArray 0)).get? (s.heap.objs.size+1)=some (seqObj "list" vs.toArray 0):=by
  rw[←hsz];exact bB _ rfl
 have keep:∀b o,s.heap.get? b=some o->(((s.heap.push (seqObj "list" #[] 0)).update s.heap.objs.size (cN.mapSeq (·++vs.toArray))).push (seqObj "list" vs.toArray 0)).get? b=some o:=λb o q=>by
  have kh:b<s.heap.objs.size:=aP q
  rw[pO _ _ _ (by rw[hsz];exact bt (dh kh)),aS.get?_update_ne _ _ _ _ (bt kh),pO _ _ _ (bt kh)]
  exact q
 show bg _ _ _ _ _ { s with heap:=((s.heap.push (seqObj "list" #[] 0)).update s.heap.objs.size (cN.mapSeq (·++vs.toArray))).push (seqObj "list" vs.toArray 0) }
 rw[hsz]
 generalize ((s.heap.push (seqObj "list" #[] 0)).update s.heap.objs.size (cN.mapSeq (·++vs.toArray))).push (seqObj "list" vs.toArray 0)=h1 at sm keep ⊢
 refine aL (iA (wpAny_call_entry_kw slot_list_sort ⟨_,sm,rfl⟩ entry_list_sort ?_ (ksk_l1 _ _)))
 rw[ksk_t4]
 have GS:s.heap.get? (s.heap.objs.size+1)=none:=nW (fN _)
 generalize s.heap.objs.size+1=a at sm GS h ⊢
 have ha:a<h1.objs.size:=aP sm
 have s1:=dH.update h1 a (cN.mapSeq λ_=>(#[]:Array ae))
 obtain⟨e1,Ks⟩:∃e1,(h1.update a (cN.mapSeq λ_=>(#[]:Array ae))).get? a=some (seqObj "list" #[] e1):=⟨_,get?_update_seq sm λ_=>#[]⟩
 unfold ksk_tree
 refine aL (listItems_at (s:={ s with heap:=h1 }) sm rfl ?_)
 refine aL (listUpdate_at sm rfl ?_ (by rw[aD,bG];omega) (cZ _))
 refine aL (seqEpoch_at Ks rfl ?_)
 refine aL (wpAny_newTuple ?_ (by show vs.length<=_;rw[bG];omega))
 refine aL (wpAny_newList ?_ (cZ _))
 refine iA ?_
 have PQ:(h1.update a (cN.mapSeq λ_=>(#[]:Array ae))).objs.size=h1.objs.size:=qD ..
 have Kr:((h1.update a (cN.mapSeq λ_=>(#[]:Array ae))).push (seqObj "tuple" vs.toArray 0)).objs.size=h1.objs.size+1:=by rw[size_push',PQ]
 have Ki:((((h1.update a (cN.mapSeq λ_=>(#[]:Array ae))).push (seqObj "tuple" vs.toArray 0)).push (seqObj "list" #[] 0))).get? a=some (seqObj "list" #[] e1):=aC _ (aC _ Ks)
 have G9:((((h1.update a (cN.mapSeq λ_=>(#[]:Array ae))).push (seqObj "tuple" vs.toArray 0)).push (seqObj "list" #[] 0))).get? (h1.objs.size+1)=some (seqObj "list" #[] 0):=by rw[←Kr];exact bB _ rfl
 have tR:∀b o,s.heap.get? b=some o->((((h1.update a (cN.mapSeq λ_=>(#[]:Array ae))).push (seqObj "tuple" vs.toArray 0)).push (seqObj "list" #[] 0))).get? b=some o:=λb o e=>
  aC _ (aC _ ((s1.2 b λz=>by rw[z,GS]at e;cases e).trans (keep b o e)))
 show bg _ _ (ksk_rest a (.builtin "len") false vs.toArray e1 (.ref ((h1.update a (cN.mapSeq λ_=>(#[]:Array ae))).push (seqObj "tuple" vs.toArray 0)).objs.size)) _ _ { s with heap:=((h1.update a (cN.mapSeq λ_=>(#[]:Array ae))).push (seqObj "tuple" vs.toArray 0)).push (seqObj "list" #[] 0) }
 rw[Kr]
 have Hb:h1.objs.size+1≠a:=nM (dh ha)
 have G8:s.heap.get? (h1.objs.size+1)=none:=by
  cases q:s.heap.get? (h1.objs.size+1)with
  |none=>rfl
  |some o=>exact absurd (aP (keep _ _ q)) (Nat.not_lt_of_le (fN _))
 generalize ((h1.update a (cN.mapSeq λ_=>(#[]:Array ae))).push (seqObj "tuple" vs.toArray 0)).push (seqObj "list" #[] 0)=h3 at Ki G9 tR ⊢
 generalize h1.objs.size+1=kS at G9 Hb G8 ⊢
 unfold ksk_rest
 refine aL (wpAny_rule ?_)
 rw[List.forIn_toArray]
 refine aL (ksk_fold (λi s'=>∃h' tk kA e,s' = { s with heap:=h',toks:=tk }/\(∀b o,s.heap.get? b=some o->h'.get? b=some o)/\h'.get? kS=some (seqObj "list" kA e)/\h'.get? a=some (seqObj "list" #[] e1)/\IntsAre kA.toList (kz.take i)) vs 0 _
  ⟨h3,s.toks,#[],0,rfl,tR,G9,Ki,by simpa using IntsAre.nil⟩ (λj x s' hx hI=>?_) λs' hI=>?_)
 ·obtain⟨h',tk,kA,e,rfl,kp,hk,hA,hi⟩:=hI
  simp only[nO]at hi ⊢
  have hj:j<vs.length:=(aU.mp hx).1
  obtain⟨p,bV,rfl,hp,BI,Pp⟩:=hv j x hx
  have Pu:h'.IsList p bV:=by
   obtain⟨o,q1,q2⟩:=hp
   exact⟨o,kp _ _ q1,q2⟩
  have Ha:kA.size<=vs.length:=by
   have h1:=hi.length
   rw[bL,dw]at h1
   omega
  refine aL (wpAny_attempt (Calls.call_len_list Pu (by have:=iJ;omega) ?_))
  have s2:=dH.update h' kS (cN.mapSeq (·.push (.int bV.size (tk+1))))
  obtain⟨c2,p6⟩:∃c2,(h'.update kS (cN.mapSeq (·.push (.int bV.size (tk+1))))).get? kS=some (seqObj "list" (kA.push (.int bV.size (tk+1))) c2):=⟨_,get?_update_seq hk (·.push (.int bV.size (tk+1)))⟩
  have ek:kz.take (j+1)=kz.take j++[(bV.size:Int)]:=by
   rw[pT,bC (by omega),←Pp,aN,bC (by omega)];rfl
  have ea:(kA.push (ae.int bV.size (tk+1))).toList=kA.toList++[ae.int bV.size (tk+1)]:=by simp
  refine aL (listUpdate_at hk rfl ?_ (by rw[bG];omega) (bK (nL (Array.size_push ..)) (by rw[bG];omega)))
  refine bF ⟨rfl,_,tk+1+1,kA.push (.int bV.size (tk+1)),c2,rfl,λb o q=>(s2.2 b λz=>by rw[z,G8]at q;cases q).trans (kp b o q),p6,(s2.2 a Hb.symm).trans hA,by rw[ea,ek];exact ksk_snoc hi⟩
 ·obtain⟨h',tk,kA,e,rfl,kp,hk,hA,hi⟩:=hI
  have hi:IntsAre kA.toList kz:=by
   have e3:kz.take (0+vs.length)=kz:=m8 (by omega)
   rw[e3]at hi
   exact hi
  have Ha:kA.size=vs.length:=by
   have h1:=hi.length
   rw[bL]at h1
   omega
  refine aL (listItems_at hk rfl ?_)
  have fin:∀st:SortSt,(arrOf st).map (·.2)=(π.map λi=>vs.getD i ae.none).toArray->failedOf st=none->bg (aZ prog w) A.in1.in1 (ksk_tail a false e1 (.ref kS) st) (λfin s'=>∃v,fin=.done (.ret v)/\bg (aZ prog w) A.in1 (ret (.ref a)) (λfin s'=>∃v,fin=.done (.ret v)/\Q v s') E s') E { s with heap:=h',toks:=tk }:=λst q1 q2=>by
   have s4:=dH.update h' kS (cN.mapSeq λ_=>(#[]:Array ae))
   have GP:(h'.update kS (cN.mapSeq λ_=>(#[]:Array ae))).get? a=some (seqObj "list" #[] e1):=(s4.2 a Hb.symm).trans hA
   have s5:=dH.update (h'.update kS (cN.mapSeq λ_=>(#[]:Array ae))) a (cN.mapSeq λ_=>(arrOf st).map (·.2))
   obtain⟨c2,p6⟩:∃c2,((h'.update kS (cN.mapSeq λ_=>(#[]:Array ae))).update a (cN.mapSeq λ_=>(arrOf st).map (·.2))).get? a=some (seqObj "list" ((arrOf st).map (·.2)) c2):=⟨_,get?_update_seq GP λ_=>(arrOf st).map (·.2)⟩
   have wD:((arrOf st).map (·.2)).size<=1000:=by rw[q1];simpa using hπ
   unfold ksk_tail
   try dsimp only
   refine aL (listUpdate_at hk rfl ?_ (by rw[Ha,bG];omega) (cZ _))
   refine aL (wpAny_letGo ?_)
   refine aL (seqEpoch_at GP rfl ?_)
   refine aL (listUpdate_at GP rfl ?_ (cZ _) (bK wD (by rw[bG];omega)))
   rw[q2]
   simp only[bne_self_eq_false,cJ,if_false]
   refine bF ⟨_,rfl,bF ⟨_,rfl,h _ tk c2 (λb o q=>?_) ?_⟩⟩
   ·exact(s5.2 b λz=>by rw[z,GS]at q;cases q).trans ((s4.2 b λz=>by rw[z,G8]at q;cases q).trans (kp b o q))
   ·show aS.get? _ a=_
    rw[←q1];exact p6
  unfold ksk_end
  try dsimp only
  simp only[cJ,if_false]
  unfold TS.tsrt at ht
  by_cases h2:vs.toArray.size<2
  ·rw[if_pos h2,if_pos h2]
   refine aL (bF ?_)
   rw[StateT.run_pure]
   refine aL (bF ?_)
   rw[aD]at h2
   rw[if_pos (by omega)]at ht
   cases ht
   refine fin _ ?_ rfl
   show(kA.zip vs.toArray).map (·.2)=_
   apply oJ
   rw[gO,ksk_zip,List.map_snd_zip (by simpa[Ha]using aG _)]
   apply eh
   intro i
   rw[bj]
   by_cases qA:i<kz.length
   ·rw[dm qA,bC (by omega),ij,aN,bC (by omega)];rfl
   ·rw[bS (by omega),bS (by simpa using qA)];rfl
  ·rw[if_neg h2,if_neg h2]
   rw[aD]at h2
   rw[if_neg (by omega)]at ht
   rw[ksk_kind hi (by omega)]
   refine aL (bF ?_)
   refine aL (dW (Ts hi d6 ht (Q:=λ_ lM=>(arrOf lM).map (·.2)=(π.map λi=>vs.getD i ae.none).toArray/\failedOf lM=none) λlM a1 a2=>⟨a1,a2⟩) ?_ λ_ _ e=>e)
   rintro⟨⟨⟩,lM⟩ s' ⟨rfl,q1,q2⟩
   exact fin lM q1 q2
end
end L2
namespace L2
open PySem
theorem bE.rd {H H':Hp}{a:af}{u:HO}(e:bE H H')(h:Rd H a u):Rd H' a u:=h.elim (λh=>.inl (e _ _ h)) λh=>.inr (h.elim λo h=>⟨o,e _ _ h⟩)
end L2
namespace L3
open PySem PySem.Spec L2
open PyProof.Rows hiding St
inductive D where
 |non|bl (b:Bool)|int (i:Int)|str (x:aI)
 |lst (xs:List D)|tup (xs:List D)|dK (ks:List et) (ds:List D)|dT (ks:List (List et)) (ds:List D)
 |obj (c:Nat) (ns:List aI) (ds:List D)
 |exc (c:Nat) (ns:List aI) (ds:List D)
 deriving Inhabited
inductive Pr (R:D->V->Prop):List D->List V->Prop
 |nil:Pr R [] []
 |cons {d:D} {v:V} {ds:List D} {vs:List V}:R d v->Pr R ds vs->Pr R (d::ds) (v::vs)
theorem Pr.mono {R R':D->V->Prop}(f:∀d v,R d v->R' d v){ds:List D}{vs:List V}(h:Pr R ds vs):Pr R' ds vs:=by
 induction h with
 |nil=>exact .nil
 |cons h t ih=>exact .cons (f _ _ h) ih
theorem Pr.length {R:D->V->Prop}{ds:List D}{vs:List V}(h:Pr R ds vs):ds.length=vs.length:=by
 induction h with
 |nil=>rfl
 |cons h t ih=>rw[az,az,ih]
theorem Pr.get' {R:D->V->Prop}{ds:List D}{vs:List V}{i:Nat}{d:D}(h:Pr R ds vs)(e:ds[i]?=some d):∃v,vs[i]?=some v/\R d v:=by
 induction h generalizing i with
 |nil=>cases e
 |cons h t ih=>
  cases i with
  |zero=>cases e;exact⟨_,rfl,h⟩
  |succ i=>exact ih e
theorem Pr.append {R:D->V->Prop}{ds es:List D}{vs us:List V}(h:Pr R ds vs)(s:Pr R es us):Pr R (ds++es) (vs++us):=by
 induction h with
 |nil=>exact s
 |cons h t ih=>exact .cons h ih
theorem Pr.take {R:D->V->Prop}{ds:List D}{vs:List V}(n:Nat)(h:Pr R ds vs):Pr R (ds.take n) (vs.take n):=by
 induction h generalizing n with
 |nil=>cases n<;>exact .nil
 |cons h t ih=>cases n with
  |zero=>exact .nil
  |succ n=>exact .cons h (ih n)
theorem Pr.drop {R:D->V->Prop}{ds:List D}{vs:List V}(n:Nat)(h:Pr R ds vs):Pr R (ds.drop n) (vs.drop n):=by
 induction h generalizing n with
 |nil=>cases n<;>exact .nil
 |cons h t ih=>cases n with
  |zero=>exact .cons h t
  |succ n=>exact ih n
theorem Pr.rep {R:D->V->Prop}{ds:List D}{vs:List V}(h:Pr R ds vs)(k:Nat):Pr R (av k ds).flatten (av k vs).flatten:=by
 induction k with
 |zero=>exact .nil
 |succ k ih=>rw[cz,cB,cz,cB];exact h.append ih
mutual
inductive Dt (K:aa)(ct:Nat->af)(F:Hp):D->V->Prop
 |non:Dt K ct F .non .non
 |bl (b:Bool):Dt K ct F (.bl b) (.bl b)
 |int (i:Int):Dt K ct F (.int i) (.int i)
 |str (x:aI):Dt K ct F (.str x) (.str x)
 |lst {a:af} {vs:List V} {ds:List D}:eJ K F a vs->Dts K ct F ds vs->Dt K ct F (.lst ds) (.ref a)
 |tup {a:af} {vs:List V} {ds:List D}:F a=some (.tup vs)->Dts K ct F ds vs->Dt K ct F (.tup ds) (.ref a)
 |dK {a:af} {ks:List et} {vs:List V} {ds:List D}:F a=some (.dK (ks.zip vs))->ks.length=vs.length->Dts K ct F ds vs->Dt K ct F (.dK ks ds) (.ref a)
 |dT {a:af} {ks:List (List et)} {vs:List V} {ds:List D}:Rd F a (.dT (ks.zip vs))->ks.length=vs.length->Dts K ct F ds vs->Dt K ct F (.dT ks ds) (.ref a)
 |obj {a dx:af} {c:Nat} {ns:List aI} {vs:List V} {ds:List D}:F a=some (.ins (ct c) dx (ns.zip vs))->ns.length=vs.length->Dts K ct F ds vs->Dt K ct F (.obj c ns ds) (.ref a)
 |exc0 {a:af} {c:Nat} {tb:Option af}:F a=some (Lk a (ct c) none tb)->Dt K ct F (.exc c [] []) (.ref a)
 |exc {a dx:af} {c:Nat} {tb:Option af} {ns:List aI} {vs:List V} {ds:List D}:F a=some (Lk a (ct c) (some dx) tb)->F dx=some (.xd (ns.zip vs))->ns.length=vs.length->Dts K ct F ds vs->Dt K ct F (.exc c ns ds) (.ref a)
inductive Dts (K:aa)(ct:Nat->af)(F:Hp):List D->List V->Prop
 |nil:Dts K ct F [] []
 |cons {d:D} {v:V} {ds:List D} {vs:List V}:Dt K ct F d v->Dts K ct F ds vs->Dts K ct F (d::ds) (v::vs)
end
section
variable {K:aa}{ct:Nat->af}{F F' G G' H H' B B':Hp}
theorem Dts.pr {ds:List D}{vs:List V}(h:Dts K ct F ds vs):Pr (Dt K ct F) ds vs:=by
 induction ds generalizing vs with
 |nil=>cases h;exact .nil
 |cons d ds ih=>cases h with|cons h t=>exact .cons h (ih t)
theorem Dts.of {ds:List D}{vs:List V}(h:Pr (Dt K ct F) ds vs):Dts K ct F ds vs:=by
 induction h with
 |nil=>exact .nil
 |cons h t ih=>exact .cons h ih
theorem Dt.mono (s:bE F F'){d:D}{v:V}(h:Dt K ct F d v):Dt K ct F' d v :=
 Dt.rec (motive_1:=λd v _=>Dt K ct F' d v) (motive_2:=λd v _=>Dts K ct F' d v) .non .bl .int .str (λh _ t=>.lst (s.seq h) t) (λh _ t=>.tup (s _ _ h) t) (λh l _ t=>.dK (s _ _ h) l t) (λh l _ t=>.dT (s.rd h) l t) (λh l _ t=>.obj (s _ _ h) l t) (λh=>.exc0 (s _ _ h)) (λh h' l _ t=>.exc (s _ _ h) (s _ _ h') l t) .nil (λ_ _ h t=>.cons h t) h
end
def D.sc:D->Bool
 |.non=>true|.bl _=>true|.int _=>true|.str _=>true|_=>false
inductive yA (K:aa)(ct:Nat->af)(F G:Hp)(R:D->V->Prop):D->V->Prop
 |lst {a:af} {vs:List V} {ds:List D}:G a=some (.lst vs)->Pr R ds vs->yA K ct F G R (.lst ds) (.ref a)
 |tup {a:af} {vs:List V} {ds:List D}:F a=some (.tup vs)->Pr R ds vs->yA K ct F G R (.tup ds) (.ref a)
 |dK {a:af} {ks:List et} {vs:List V} {ds:List D}:G a=some (.dK (ks.zip vs))->ks.length=vs.length->Pr R ds vs->yA K ct F G R (.dK ks ds) (.ref a)
 |dT {a:af} {ks:List (List et)} {vs:List V} {ds:List D}:Rd G a (.dT (ks.zip vs))->ks.length=vs.length->Pr R ds vs->yA K ct F G R (.dT ks ds) (.ref a)
 |obj {a dx:af} {c:Nat} {ns:List aI} {vs:List V} {ds:List D}:G a=some (.ins (ct c) dx (ns.zip vs))->ns.length=vs.length->Pr R ds vs->yA K ct F G R (.obj c ns ds) (.ref a)
def Al (K:aa)(ct:Nat->af)(F G:Hp):Nat->D->V->Prop
 |0,d,v=>Dt K ct F d v
 |n+1,d,v=>Dt K ct F d v\/yA K ct F G (Al K ct F G n) d v
inductive dU (R:D->V->List af->Prop):List D->List V->List af->Prop
 |nil:dU R [] [] []
 |cons {d:D} {v:V} {ds:List D} {vs:List V} {f g:List af}:R d v f->dU R ds vs g->dU R (d::ds) (v::vs) (f++g)
inductive rK (K:aa)(ct:Nat->af)(F H:Hp)(R:D->V->List af->Prop):D->V->List af->Prop
 |lst {a:af} {vs:List V} {ds:List D} {fp:List af}:F a=none->H a=some (.lst vs)->dU R ds vs fp->rK K ct F H R (.lst ds) (.ref a) (a::fp)
 |tup {a:af} {vs:List V} {ds:List D} {fp:List af}:F a=some (.tup vs)->dU R ds vs fp->rK K ct F H R (.tup ds) (.ref a) fp
 |dK {a:af} {ks:List et} {vs:List V} {ds:List D} {fp:List af}:F a=none->H a=some (.dK (ks.zip vs))->ks.length=vs.length->dU R ds vs fp->rK K ct F H R (.dK ks ds) (.ref a) (a::fp)
 |dT {a:af} {ks:List (List et)} {vs:List V} {ds:List D} {fp:List af}:F a=none->H a=some (.dT (ks.zip vs))->ks.length=vs.length->dU R ds vs fp->rK K ct F H R (.dT ks ds) (.ref a) (a::fp)
 |obj {a dx:af} {c:Nat} {ns:List aI} {vs:List V} {ds:List D} {fp:List af}:F a=none->H a=some (.ins (ct c) dx (ns.zip vs))->ns.length=vs.length->dU R ds vs fp->rK K ct F H R (.obj c ns ds) (.ref a) (a::fp)
def Ow (K:aa)(ct:Nat->af)(F H:Hp):Nat->D->V->List af->Prop
 |0,d,v,fp=>Dt K ct F d v/\fp=[]
 |n+1,d,v,fp=>(d.sc=true/\Dt K ct F d v/\fp=[])\/rK K ct F H (Ow K ct F H n) d v fp
def iD (o:HO):Prop:=∀xs,o≠.tup xs
structure eY (F H F' H':Hp):Prop where
 ff:bE F F'
 hh:bE H H'
 fh:bE F' H'
 nf:∀a o,H a=some o->iD o->F a=none->F' a=none
theorem eY.refl {F H:Hp}(h:bE F H):eY F H F H:=⟨.refl _,.refl _,h,λ_ _ _ _ h=>h⟩
theorem eY.trans {F H F1 H1 F2 H2:Hp}(a:eY F H F1 H1)(b:eY F1 H1 F2 H2):eY F H F2 H2 :=
 ⟨a.ff.trans b.ff,a.hh.trans b.hh,b.fh,λc o h t n=>b.nf c o (a.hh _ _ h) t (a.nf c o h t n)⟩
theorem eY.newO {F H:Hp}{p:af}(s:bE F H)(h:H p=none)(o:HO):eY F H F (upd H p o) :=
 ⟨.refl _,j1 h o,s.trans (j1 h o),λ_ _ _ _ h=>h⟩
theorem eY.newS {F H:Hp}{p:af}(s:bE F H)(h:H p=none)(o:HO):eY F H (upd F p o) (upd H p o) :=
  ⟨j1 (s.free h) o,j1 h o,λb u q=>by
    by_cases e:b=p
    · subst e;rw[ym]at q ⊢;exact q
    · rw[zn e]at q ⊢;exact s _ _ q,
   λb u q _ n=>by rw[zn (yw q h)];exact n⟩
section
variable {K:aa}{ct:Nat->af}{F F' G G' H H' B B':Hp}
theorem Al.mono (sF:bE F F')(sG:bE G G'){n:Nat}:∀{d:D} {v:V},Al K ct F G n d v->Al K ct F' G' n d v:=by
 induction n with
 |zero=>exactλh=>Dt.mono sF h
 |succ n ih=>
  intro d v h
  rcases h with h|h
  ·exact .inl (Dt.mono sF h)
  ·cases h with
   |lst h p=>exact .inr (.lst (sG _ _ h) (p.mono λ_ _ q=>ih q))
   |tup h p=>exact .inr (.tup (sF _ _ h) (p.mono λ_ _ q=>ih q))
   |dK h l p=>exact .inr (.dK (sG _ _ h) l (p.mono λ_ _ q=>ih q))
   |dT h l p=>exact .inr (.dT (sG.rd h) l (p.mono λ_ _ q=>ih q))
   |obj h l p=>exact .inr (.obj (sG _ _ h) l (p.mono λ_ _ q=>ih q))
theorem Al.of:∀{n:Nat} {d:D} {v:V},Dt K ct F d v->Al K ct F G n d v
 |0,_,_,h=>h
 |_+1,_,_,h=>.inl h
theorem Al.up {n:Nat}:∀{m:Nat} {d:D} {v:V},Al K ct F G n d v->n<=m->Al K ct F G m d v:=by
 induction n with
 |zero=>exactλh _=>Al.of h
 |succ n ih=>
  intro m d v h l
  cases m with
  |zero=>exact absurd l (by omega)
  |succ m=>
   rcases h with h|h
   ·exact .inl h
   ·cases h with
    |lst h p=>exact .inr (.lst h (p.mono λ_ _ q=>ih q (by omega)))
    |tup h p=>exact .inr (.tup h (p.mono λ_ _ q=>ih q (by omega)))
    |dK h e p=>exact .inr (.dK h e (p.mono λ_ _ q=>ih q (by omega)))
    |dT h e p=>exact .inr (.dT h e (p.mono λ_ _ q=>ih q (by omega)))
    |obj h e p=>exact .inr (.obj h e (p.mono λ_ _ q=>ih q (by omega)))
theorem Dt.scal {d:D}{v:V}(h:Dt K ct F d v)(hs:d.sc=true):Dt K ct F' d v:=by
 cases h with
 |non=>exact .non
 |bl b=>exact .bl b
 |int i=>exact .int i
 |str x=>exact .str x
 |lst _ _=>cases hs
 |tup _ _=>cases hs
 |dK _ _ _=>cases hs
 |dT _ _ _=>cases hs
 |obj _ _ _=>cases hs
 |exc0 _=>cases hs
 |exc _ _ _ _=>cases hs
theorem Al.scal {n:Nat}{d:D}{v:V}(h:Al K ct F G n d v)(hs:d.sc=true):Dt K ct F' d v:=by
 cases n with
 |zero=>exact Dt.scal h hs
 |succ n=>
  rcases h with h|h
  ·exact h.scal hs
  ·cases h<;>cases hs
theorem Al.int {n:Nat}{i:Int}{v:V}(h:Al K ct F G n (.int i) v):v=.int i:=by
 have q:=Al.scal (F':=F) h rfl
 cases q;rfl
theorem Al.bl {n:Nat}{b:Bool}{v:V}(h:Al K ct F G n (.bl b) v):v=.bl b:=by
 have q:=Al.scal (F':=F) h rfl
 cases q;rfl
theorem Al.str {n:Nat}{x:aI}{v:V}(h:Al K ct F G n (.str x) v):v=.str x:=by
 have q:=Al.scal (F':=F) h rfl
 cases q;rfl
theorem Al.non {n:Nat}{v:V}(h:Al K ct F G n .non v):v=.non:=by
 have q:=Al.scal (F':=F) h rfl
 cases q;rfl
theorem Al.lst {n:Nat}{ds:List D}{v:V}(h:Al K ct F G n (.lst ds) v)(s:bE F G):∃a vs,v=.ref a/\eJ K G a vs/\Pr (Al K ct F G (n-1)) ds vs:=by
 cases n with
 |zero=>
  have h:Dt K ct F (.lst ds) v:=h
  cases h with
  |lst q t=>exact⟨_,_,rfl,s.seq q,t.pr⟩
 |succ n=>
  rcases h with h|h
  ·cases h with
   |lst q t=>exact⟨_,_,rfl,s.seq q,t.pr.mono λ_ _=>Al.of⟩
  ·cases h with
   |lst q t=>exact⟨_,_,rfl,eJ.of q,t⟩
theorem Al.tup {n:Nat}{ds:List D}{v:V}(h:Al K ct F G n (.tup ds) v)(s:bE F G):∃a vs,v=.ref a/\G a=some (.tup vs)/\Pr (Al K ct F G (n-1)) ds vs:=by
 cases n with
 |zero=>
  have h:Dt K ct F (.tup ds) v:=h
  cases h with
  |tup q t=>exact⟨_,_,rfl,s _ _ q,t.pr⟩
 |succ n=>
  rcases h with h|h
  ·cases h with
   |tup q t=>exact⟨_,_,rfl,s _ _ q,t.pr.mono λ_ _=>Al.of⟩
  ·cases h with
   |tup q t=>exact⟨_,_,rfl,s _ _ q,t⟩
theorem Al.dK {n:Nat}{ks:List et}{ds:List D}{v:V}(h:Al K ct F G n (.dK ks ds) v)(s:bE F G):∃a vs,v=.ref a/\G a=some (.dK (ks.zip vs))/\ks.length=vs.length/\Pr (Al K ct F G (n-1)) ds vs:=by
 cases n with
 |zero=>
  have h:Dt K ct F (.dK ks ds) v:=h
  cases h with
  |dK q l t=>exact⟨_,_,rfl,s _ _ q,l,t.pr⟩
 |succ n=>
  rcases h with h|h
  ·cases h with
   |dK q l t=>exact⟨_,_,rfl,s _ _ q,l,t.pr.mono λ_ _=>Al.of⟩
  ·cases h with
   |dK q l t=>exact⟨_,_,rfl,q,l,t⟩
theorem Al.dT {n:Nat}{ks:List (List et)}{ds:List D}{v:V}(h:Al K ct F G n (.dT ks ds) v)(s:bE F G):∃a vs,v=.ref a/\Rd G a (.dT (ks.zip vs))/\ks.length=vs.length/\Pr (Al K ct F G (n-1)) ds vs:=by
 cases n with
 |zero=>
  have h:Dt K ct F (.dT ks ds) v:=h
  cases h with
  |dT q l t=>exact⟨_,_,rfl,s.rd q,l,t.pr⟩
 |succ n=>
  rcases h with h|h
  ·cases h with
   |dT q l t=>exact⟨_,_,rfl,s.rd q,l,t.pr.mono λ_ _=>Al.of⟩
  ·cases h with
   |dT q l t=>exact⟨_,_,rfl,q,l,t⟩
theorem Al.obj {n:Nat}{c:Nat}{ns:List aI}{ds:List D}{v:V}(h:Al K ct F G n (.obj c ns ds) v)(s:bE F G):∃a dx vs,v=.ref a/\G a=some (.ins (ct c) dx (ns.zip vs))/\ns.length=vs.length/\Pr (Al K ct F G (n-1)) ds vs:=by
 cases n with
 |zero=>
  have h:Dt K ct F (.obj c ns ds) v:=h
  cases h with
  |obj q l t=>exact⟨_,_,_,rfl,s _ _ q,l,t.pr⟩
 |succ n=>
  rcases h with h|h
  ·cases h with
   |obj q l t=>exact⟨_,_,_,rfl,s _ _ q,l,t.pr.mono λ_ _=>Al.of⟩
  ·cases h with
   |obj q l t=>exact⟨_,_,_,rfl,q,l,t⟩
theorem dU.mono {R R':D->V->List af->Prop}{ds:List D}{vs:List V}{fp:List af}(h:dU R ds vs fp):(∀d v f,(∀a∈f,a∈fp)->R d v f->R' d v f)->dU R' ds vs fp:=by
 induction h with
 |nil=>exactλ_=>.nil
 |cons h t ih=>exactλq=>.cons (q _ _ _ (λa z=>bp _ z) h) (ih λd v f i r=>q d v f (λa z=>aw _ (i a z)) r)
theorem dU.pr {R:D->V->List af->Prop}{R':D->V->Prop}{ds:List D}{vs:List V}{fp:List af}(h:dU R ds vs fp):(∀d v f,(∀a∈f,a∈fp)->R d v f->R' d v)->Pr R' ds vs:=by
 induction h with
 |nil=>exactλ_=>.nil
 |cons h t ih=>exactλq=>.cons (q _ _ _ (λa z=>bp _ z) h) (ih λd v f i r=>q d v f (λa z=>aw _ (i a z)) r)
theorem dU.ofPr {R:D->V->List af->Prop}{ds:List D}{vs:List V}(h:Pr (λd v=>R d v []) ds vs):dU R ds vs []:=by
 induction h with
 |nil=>exact .nil
 |cons h t ih=>exact dU.cons (f:=[]) (g:=[]) h ih
theorem dU.append {R:D->V->List af->Prop}{ds es:List D}{vs us:List V}{f g:List af}(h:dU R ds vs f)(s:dU R es us g):dU R (ds++es) (vs++us) (f++g):=by
 induction h with
 |nil=>exact s
 |cons h t ih=>rw[ee];exact .cons h ih
theorem dU.length {R:D->V->List af->Prop}{ds:List D}{vs:List V}{fp:List af}(h:dU R ds vs fp):ds.length=vs.length:=by
 induction h with
 |nil=>rfl
 |cons _ t ih=>simp[ih]
theorem Ow.frame (sF:bE F F'){n:Nat}:∀{d:D} {v:V} {fp:List af},Ow K ct F H n d v fp->(∀a∈fp,H' a=H a/\F' a=none)->Ow K ct F' H' n d v fp:=by
 induction n with
 |zero=>exactλh _=>⟨h.1.mono sF,h.2⟩
 |succ n ih=>
  intro d v fp h k
  rcases h with h|h
  ·exact .inl ⟨h.1,h.2.1.mono sF,h.2.2⟩
  ·cases h with
   |lst hn h p=>exact .inr (.lst (k _ ah).2 ((k _ ah).1.trans h) (p.mono λ_ _ _ i q=>ih q λa z=>k a (ai _ (i a z))))
   |tup h p=>exact .inr (.tup (sF _ _ h) (p.mono λ_ _ _ i q=>ih q λa z=>k a (i a z)))
   |dK hn h l p=>exact .inr (.dK (k _ ah).2 ((k _ ah).1.trans h) l (p.mono λ_ _ _ i q=>ih q λa z=>k a (ai _ (i a z))))
   |dT hn h l p=>exact .inr (.dT (k _ ah).2 ((k _ ah).1.trans h) l (p.mono λ_ _ _ i q=>ih q λa z=>k a (ai _ (i a z))))
   |obj hn h l p=>exact .inr (.obj (k _ ah).2 ((k _ ah).1.trans h) l (p.mono λ_ _ _ i q=>ih q λa z=>k a (ai _ (i a z))))
theorem dU.cells0 {R:D->V->List af->Prop}(k:∀d v f,R d v f->∀a∈f,F a=none/\∃o,H a=some o/\iD o){ds:List D}{vs:List V}{fp:List af}(h:dU R ds vs fp):∀a∈fp,F a=none/\∃o,H a=some o/\iD o:=by
 induction h with
 |nil=>exactλa z=>by cases z
 |cons h t ih=>exactλa z=>(aT.mp z).elim (λz=>k _ _ _ h a z) (ih a)
theorem Ow.cells {n:Nat}:∀{d:D} {v:V} {fp:List af},Ow K ct F H n d v fp->∀a∈fp,F a=none/\∃o,H a=some o/\iD o:=by
 induction n with
 |zero=>exactλh a z=>by rw[h.2]at z;cases z
 |succ n ih=>
  intro d v fp h a z
  rcases h with h|h
  ·rw[h.2.2]at z;cases z
  ·cases h with
   |lst hn h p=>exact(ay.mp z).elim (λe=>by rw[e];exact⟨hn,_,h,nofun⟩) (dU.cells0 (λd v f q=>ih q) p a)
   |tup h p=>exact dU.cells0 (λd v f q=>ih q) p a z
   |dK hn h l p=>exact(ay.mp z).elim (λe=>by rw[e];exact⟨hn,_,h,nofun⟩) (dU.cells0 (λd v f q=>ih q) p a)
   |dT hn h l p=>exact(ay.mp z).elim (λe=>by rw[e];exact⟨hn,_,h,nofun⟩) (dU.cells0 (λd v f q=>ih q) p a)
   |obj hn h l p=>exact(ay.mp z).elim (λe=>by rw[e];exact⟨hn,_,h,nofun⟩) (dU.cells0 (λd v f q=>ih q) p a)
theorem Ow.ext {n:Nat}{d:D}{v:V}{fp:List af}(h:Ow K ct F H n d v fp)(e:eY F H F' H'):Ow K ct F' H' n d v fp :=
 h.frame e.ff λa z=>by
  obtain⟨hn,o,ho,nt⟩:=h.cells a z
  exact⟨(e.hh _ _ ho).trans ho.symm,e.nf a o ho nt hn⟩
theorem Ow.al (s:bE F H){n:Nat}:∀{d:D} {v:V} {fp:List af},Ow K ct F H n d v fp->Al K ct F H n d v:=by
 induction n with
 |zero=>exactλh=>h.1
 |succ n ih=>
  intro d v fp h
  rcases h with h|h
  ·exact .inl h.2.1
  ·cases h with
   |lst hn h p=>exact .inr (.lst h (p.pr λ_ _ _ _ q=>ih q))
   |tup h p=>exact .inr (.tup h (p.pr λ_ _ _ _ q=>ih q))
   |dK hn h l p=>exact .inr (.dK h l (p.pr λ_ _ _ _ q=>ih q))
   |dT hn h l p=>exact .inr (.dT (.inl h) l (p.pr λ_ _ _ _ q=>ih q))
   |obj hn h l p=>exact .inr (.obj h l (p.pr λ_ _ _ _ q=>ih q))
theorem Ow.dt (sF:bE F F'){n:Nat}:∀{d:D} {v:V} {fp:List af},Ow K ct F H n d v fp->(∀a∈fp,F' a=H a)->Dt K ct F' d v:=by
 induction n with
 |zero=>exactλh _=>h.1.mono sF
 |succ n ih=>
  intro d v fp h k
  rcases h with h|h
  ·exact h.2.1.mono sF
  ·cases h with
   |lst hn h p=>exact .lst (eJ.of ((k _ ah).trans h)) (.of (p.pr λ_ _ _ i q=>ih q λa z=>k a (ai _ (i a z))))
   |tup h p=>exact .tup (sF _ _ h) (.of (p.pr λ_ _ _ i q=>ih q λa z=>k a (i a z)))
   |dK hn h l p=>exact .dK ((k _ ah).trans h) l (.of (p.pr λ_ _ _ i q=>ih q λa z=>k a (ai _ (i a z))))
   |dT hn h l p=>exact .dT (.inl ((k _ ah).trans h)) l (.of (p.pr λ_ _ _ i q=>ih q λa z=>k a (ai _ (i a z))))
   |obj hn h l p=>exact .obj ((k _ ah).trans h) l (.of (p.pr λ_ _ _ i q=>ih q λa z=>k a (ai _ (i a z))))
def gC (F H:Hp)(fp:List af):Hp:=λa=>if a∈fp then H a else F a
theorem w9 {fp:List af}(s:bE F H)(hf:∀a∈fp,F a=none):bE F (gC F H fp)/\bE (gC F H fp) H/\∀a∈fp,gC F H fp a=H a:=by
 refine⟨λa o h=>?_,λa o h=>?_,λa z=>if_pos z⟩
 ·have:¬a∈fp:=λz=>by rw[hf a z]at h;cases h
  unfold gC;rw[if_neg this];exact h
 ·unfold gC at h
  by_cases z:a∈fp
  ·rw[if_pos z]at h;exact h
  ·rw[if_neg z]at h;exact s _ _ h
theorem Ow.freeze {n:Nat}{d:D}{v:V}{fp:List af}{F0 H0:Hp}(h:Ow K ct F H n d v fp)(e:eY F0 H0 F H)(hf:∀a∈fp,H0 a=none):∃F',eY F0 H0 F' H/\Dt K ct F' d v:=by
 obtain⟨w1,w2,w3⟩:=w9 (fp:=fp) e.fh (λa z=>(h.cells a z).1)
 refine⟨gC F H fp,⟨e.ff.trans w1,e.hh,w2,λa o ho nt hn=>?_⟩,h.dt w1 w3⟩
 have:¬a∈fp:=λz=>by rw[hf a z]at ho;cases ho
 unfold gC;rw[if_neg this];exact e.nf a o ho nt hn
theorem Ow.zero {d:D}{v:V}(h:Dt K ct F d v):Ow K ct F H 0 d v []:=⟨h,rfl⟩
theorem Ow.scal {n:Nat}{d:D}{v:V}(h:Dt K ct F d v)(hs:d.sc=true):Ow K ct F H n d v []:=by
 cases n with
 |zero=>exact⟨h,rfl⟩
 |succ n=>exact .inl ⟨hs,h,rfl⟩
end
end L3
namespace L3
open PySem PySem.Spec L2
open PyProof.Rows hiding St
abbrev Env:=List (Option D)
inductive Mo where
 |al (n:Nat)|ow (n:Nat)|px (v:V)|so (x:af)
def Mo.lv:Mo->Nat
 |.al n=>n
 |.ow n=>n
 |.px _=>1
 |.so _=>1
section
variable (K:aa)(ct:Nat->af)
inductive SL (F B H:Hp):List Mo->Env->St->List af->Prop
 |nil:SL F B H [] [] [] []
 |no {m:Mo} {o:Option V} {ms:List Mo} {ρ:Env} {σ:St} {fp:List af}:SL F B H ms ρ σ fp->SL F B H (m::ms) (none::ρ) (o::σ) fp
 |al {n:Nat} {d:D} {v:V} {ms:List Mo} {ρ:Env} {σ:St} {fp:List af}:Al K ct F B n d v->SL F B H ms ρ σ fp->SL F B H (.al n::ms) (some d::ρ) (some v::σ) fp
 |px {d:D} {v:V} {ms:List Mo} {ρ:Env} {σ:St} {fp:List af}:Al K ct F B 1 d v->SL F B H ms ρ σ fp->SL F B H (.px v::ms) (some d::ρ) (some v::σ) fp
 |so {d:D} {x:af} {ms:List Mo} {ρ:Env} {σ:St} {fp:List af}:Ow K ct F H 1 d (.ref x) [x]->SL F B H ms ρ σ fp->SL F B H (.so x::ms) (some d::ρ) (some (.ref x)::σ) (x::fp)
 |ow {n:Nat} {d:D} {v:V} {ms:List Mo} {ρ:Env} {σ:St} {f fp:List af}:Ow K ct F H n d v f->SL F B H ms ρ σ fp->SL F B H (.ow n::ms) (some d::ρ) (some v::σ) (f++fp)
structure RS (F0 B:Hp)(ms:List Mo)(F H:Hp)(ρ:Env)(σ:St):Prop where
 f0:bE F0 F
 bh:bE B H
 fh:bE F H
 nf:∀a o,B a=some o->iD o->F0 a=none->F a=none
 sl:∃fp,SL K ct F B H ms ρ σ fp/\fp.Nodup/\∀a∈fp,B a=none
end
section
variable {K:aa}{ct:Nat->af}{F F' G G' H H' B B' F0:Hp}{ms:List Mo}{ρ:Env}{σ:St}
theorem SL.cells {ms:List Mo}{ρ:Env}{σ:St}{fp:List af}(h:SL K ct F B H ms ρ σ fp):∀a∈fp,F a=none/\∃o,H a=some o/\iD o:=by
 induction h with
 |nil=>intro a z;cases z
 |no t ih=>exact ih
 |al _ t ih=>exact ih
 |px _ t ih=>exact ih
 |so h t ih=>exactλa z=>(ay.mp z).elim (λz=>h.cells a (by rw[z];exact ah)) (ih a)
 |ow h t ih=>exactλa z=>(aT.mp z).elim (h.cells a) (ih a)
theorem SL.frame (sF:bE F F'){ms:List Mo}{ρ:Env}{σ:St}{fp:List af}(h:SL K ct F B H ms ρ σ fp):(∀a∈fp,H' a=H a/\F' a=none)->SL K ct F' B H' ms ρ σ fp:=by
 induction h with
 |nil=>exactλ_=>.nil
 |no t ih=>exactλk=>.no (ih k)
 |al h t ih=>exactλk=>.al (h.mono sF (.refl _)) (ih k)
 |px h t ih=>exactλk=>.px (h.mono sF (.refl _)) (ih k)
 |so h t ih=>exactλk=>.so (h.frame sF λa z=>k a (by rw[aO]at z;rw[z];exact ah)) (ih λa z=>k a (ai _ z))
 |ow h t ih=>exactλk=>.ow (h.frame sF λa z=>k a (bp _ z)) (ih λa z=>k a (aw _ z))
theorem RS.ext (r:RS K ct F0 B ms F H ρ σ)(e:eY F H F' H'):RS K ct F0 B ms F' H' ρ σ:=by
 obtain⟨fp,s,nd,hb⟩:=r.sl
 refine⟨r.f0.trans e.ff,r.bh.trans e.hh,e.fh,λa o h t n=>e.nf a o (r.bh _ _ h) t (r.nf a o h t n),fp,s.frame e.ff λa z=>?_,nd,hb⟩
 obtain⟨hn,o,ho,nt⟩:=s.cells a z
 exact⟨(e.hh _ _ ho).trans ho.symm,e.nf a o ho nt hn⟩
theorem SL.get {ms:List Mo}{ρ:Env}{σ:St}{fp:List af}{i:Nat}{m:Mo}{d:D}(h:SL K ct F B H ms ρ σ fp)(s:bE F H)(s':bE B H):ms[i]?=some m->ρ[i]?=some (some d)->∃v,σ[i]?=some (some v)/\Al K ct F H m.lv d v:=by
 induction h generalizing i with
 |nil=>intro e;simp at e
 |no t ih=>
  intro e e'
  cases i with
  |zero=>simp at e'
  |succ i=>simpa using ih (by simpa using e) (by simpa using e')
 |al h t ih=>
  intro e e'
  cases i with
  |zero=>
   simp at e e';subst e;subst e'
   exact⟨_,rfl,h.mono (.refl _) s'⟩
  |succ i=>simpa using ih (by simpa using e) (by simpa using e')
 |px h t ih=>
  intro e e'
  cases i with
  |zero=>
   simp at e e';subst e;subst e'
   exact⟨_,rfl,h.mono (.refl _) s'⟩
  |succ i=>simpa using ih (by simpa using e) (by simpa using e')
 |so h t ih=>
  intro e e'
  cases i with
  |zero=>
   simp at e e';subst e;subst e'
   exact⟨_,rfl,h.al s⟩
  |succ i=>simpa using ih (by simpa using e) (by simpa using e')
 |ow h t ih=>
  intro e e'
  cases i with
  |zero=>
   simp at e e';subst e;subst e'
   exact⟨_,rfl,h.al s⟩
  |succ i=>simpa using ih (by simpa using e) (by simpa using e')
theorem RS.get (r:RS K ct F0 B ms F H ρ σ){i:Nat}{m:Mo}{d:D}(hm:ms[i]?=some m)(e:ρ[i]?=some (some d)):∃v,σ[i]?=some (some v)/\Al K ct F H m.lv d v:=by
 obtain⟨fp,s,_,_⟩:=r.sl
 exact s.get r.fh r.bh hm e
theorem SL.put {ms:List Mo}{ρ:Env}{σ:St}{fp:List af}{i k:Nat}(h0:SL K ct F B H ms ρ σ fp):ms[i]?=some (.ow k) ->
  ∃f1 fr:List af,(∀a∈f1,a∈fp)/\(∀a∈fr,a∈fp)/\(fp.Nodup->f1.Nodup/\fr.Nodup/\∀a∈f1,a∉fr)/\(∀d,ρ[i]?=some (some d)->∃v,σ[i]?=some (some v)/\Ow K ct F H k d v f1) /\
   ∀(F' H':Hp) (d':D) (v':V) (f':List af),bE F F'->(∀a∈fr,H' a=H a/\F' a=none)->Ow K ct F' H' k d' v' f' ->
    ∃gr,SL K ct F' B H' ms (ρ.set i (some d')) (σ.set i (some v')) gr/\(∀a∈gr,a∈f'\/a∈fr)/\(f'.Nodup->fr.Nodup->(∀a∈f',a∉fr)->gr.Nodup):=by
 induction h0 generalizing i with
 |nil=>
  intro e
  simp at e
 |@no m0 o0 ms ρ σ fp t ih=>
  intro e
  cases i with
  |zero=>
   simp at e;subst e
   refine⟨[],fp,λa z=>(by cases z),λa z=>z,λn=>⟨bx,n,λa z=>(by cases z)⟩,λd q=>(by simp at q),λF' H' d' v' f' s kf h=>⟨f'++fp,.ow h (t.frame s kf),λa z=>aT.mp z,λn1 n2 dj=>?_⟩⟩
   exact aW.mpr ⟨n1,n2,λa z b zb e=>dj a z (e▸zb)⟩
  |succ i=>
   obtain⟨f1,fr,h1,h2,h3,h4,h5⟩:=ih (i:=i) (by simpa using e)
   refine⟨f1,fr,h1,h2,h3,λd q=>by simpa using h4 d (by simpa using q),λF' H' d' v' f' s kf h=>?_⟩
   obtain⟨gr,q1,q2,q3⟩:=h5 F' H' d' v' f' s kf h
   exact⟨gr,.no q1,q2,q3⟩
 |@al n0 d0 v0 ms ρ σ fp h t ih=>
  intro e
  cases i with
  |zero=>
   simp at e
  |succ i=>
   obtain⟨f1,fr,h1,h2,h3,h4,h5⟩:=ih (i:=i) (by simpa using e)
   refine⟨f1,fr,h1,h2,h3,λd q=>by simpa using h4 d (by simpa using q),λF' H' d' v' f' s kf h'=>?_⟩
   obtain⟨gr,q1,q2,q3⟩:=h5 F' H' d' v' f' s kf h'
   exact⟨gr,.al (h.mono s (.refl _)) q1,q2,q3⟩
 |@px d0 v0 ms ρ σ fp h t ih=>
  intro e
  cases i with
  |zero=>
   simp at e
  |succ i=>
   obtain⟨f1,fr,h1,h2,h3,h4,h5⟩:=ih (i:=i) (by simpa using e)
   refine⟨f1,fr,h1,h2,h3,λd q=>by simpa using h4 d (by simpa using q),λF' H' d' v' f' s kf h'=>?_⟩
   obtain⟨gr,q1,q2,q3⟩:=h5 F' H' d' v' f' s kf h'
   exact⟨gr,.px (h.mono s (.refl _)) q1,q2,q3⟩
 |@so d0 x ms ρ σ fp h t ih=>
  intro e
  cases i with
  |zero=>
   simp at e
  |succ i=>
   obtain⟨f1,fr,h1,h2,h3,h4,h5⟩:=ih (i:=i) (by simpa using e)
   refine⟨f1,x::fr,λa z=>ai _ (h1 a z),λa z=>(ay.mp z).elim (λz=>by rw[z];exact ah) λz=>ai _ (h2 a z),λn=>?_,λd q=>by simpa using h4 d (by simpa using q),λF' H' d' v' f' s kf h'=>?_⟩
   ·obtain⟨n1,n2⟩:=aY.mp n
    obtain⟨m1,m2,m3⟩:=h3 n2
    refine⟨m1,aY.mpr ⟨λz=>n1 (h2 x z),m2⟩,λa z zb=>?_⟩
    rcases ay.mp zb with zb|zb
    ·rw[zb]at z;exact n1 (h1 x z)
    ·exact m3 a z zb
   ·obtain⟨gr,q1,q2,q3⟩:=h5 F' H' d' v' f' s (λa z=>kf a (ai _ z)) h'
    refine⟨x::gr,.so (h.frame s λa z=>kf a (by rw[aO]at z;rw[z];exact ah)) q1,λa z=>?_,λn1 n2 dj=>?_⟩
    ·rcases ay.mp z with z|z
     ·exact .inr (by rw[z];exact ah)
     ·exact(q2 a z).imp id λz=>ai _ z
    ·obtain⟨m1,m2⟩:=aY.mp n2
     refine aY.mpr ⟨λz=>?_,q3 n1 m2 λa z zb=>dj a z (ai _ zb)⟩
     rcases q2 x z with z|z
     ·exact dj x z ah
     ·exact m1 z
 |@ow n0 d0 v0 ms ρ σ f fp h t ih=>
  intro e
  cases i with
  |zero=>
   simp at e;subst e
   refine⟨f,fp,λa z=>bp _ z,λa z=>aw _ z,λn=>?_,λd q=>?_,λF' H' d' v' f' s kf h=>⟨f'++fp,.ow h (t.frame s kf),λa z=>aT.mp z,λn1 n2 dj=>?_⟩⟩
   ·obtain⟨n1,n2,n3⟩:=aW.mp n
    exact⟨n1,n2,λa z zb=>n3 a z a zb rfl⟩
   ·simp at q;subst q;exact⟨_,rfl,h⟩
   ·exact aW.mpr ⟨n1,n2,λa z b zb e=>dj a z (e▸zb)⟩
  |succ i=>
   obtain⟨f1,fr,h1,h2,h3,h4,h5⟩:=ih (i:=i) (by simpa using e)
   refine⟨f1,f++fr,λa z=>aw _ (h1 a z),λa z=>(aT.mp z).elim (λz=>bp _ z) λz=>aw _ (h2 a z),λn=>?_,λd q=>by simpa using h4 d (by simpa using q),λF' H' d' v' f' s kf h'=>?_⟩
   ·obtain⟨n1,n2,n3⟩:=aW.mp n
    obtain⟨m1,m2,m3⟩:=h3 n2
    refine⟨m1,aW.mpr ⟨n1,m2,λa z b zb=>n3 a z b (h2 b zb)⟩,λa z zb=>?_⟩
    rcases aT.mp zb with zb|zb
    ·exact n3 a zb a (h1 a z) rfl
    ·exact m3 a z zb
   ·obtain⟨gr,q1,q2,q3⟩:=h5 F' H' d' v' f' s (λa z=>kf a (aw _ z)) h'
    refine⟨f++gr,.ow (h.frame s λa z=>kf a (bp _ z)) q1,λa z=>?_,λn1 n2 dj=>?_⟩
    ·rcases aT.mp z with z|z
     ·exact .inr (bp _ z)
     ·exact(q2 a z).imp id λz=>aw _ z
    ·obtain⟨m1,m2,m3⟩:=aW.mp n2
     refine aW.mpr ⟨m1,q3 n1 m2 λa z zb=>dj a z (aw _ zb),λa z b zb e=>?_⟩
     subst e
     rcases q2 a zb with zb|zb
     ·exact dj a zb (bp _ z)
     ·exact m3 a z a zb rfl
end
abbrev EF:=Env->Option D
inductive i8 (K:aa)(ct:Nat->af)(F G:Hp):List Nat->List D->List V->Prop
 |nil:i8 K ct F G [] [] []
 |cons {n:Nat} {d:D} {v:V} {ns:List Nat} {ds:List D} {vs:List V}:Al K ct F G n d v->i8 K ct F G ns ds vs->i8 K ct F G (n::ns) (d::ds) (v::vs)
theorem i8.mono {K:aa}{ct:Nat->af}{F F' G G':Hp}(sF:bE F F')(sG:bE G G'){ns:List Nat}{ds:List D}{vs:List V}(h:i8 K ct F G ns ds vs):i8 K ct F' G' ns ds vs:=by
 induction h with
 |nil=>exact .nil
 |cons h t ih=>exact .cons (h.mono sF sG) ih
theorem i8.length {K:aa}{ct:Nat->af}{F G:Hp}{ns:List Nat}{ds:List D}{vs:List V}(h:i8 K ct F G ns ds vs):vs.length=ns.length:=by
 induction h with
 |nil=>rfl
 |cons h t ih=>rw[az,az,ih]
theorem i8.length' {K:aa}{ct:Nat->af}{F G:Hp}{ns:List Nat}{ds:List D}{vs:List V}(h:i8 K ct F G ns ds vs):ds.length=vs.length:=by
 induction h with
 |nil=>rfl
 |cons h t ih=>rw[az,az,ih]
theorem i8.append {K:aa}{ct:Nat->af}{F G:Hp}{EC:List Nat}{lT:List D}{Lh:List V}(q:i8 K ct F G EC lT Lh){ns:List Nat}{ds:List D}{vs:List V}(h:i8 K ct F G ns ds vs):i8 K ct F G (ns++EC) (ds++lT) (vs++Lh):=by
 induction h with
 |nil=>exact q
 |cons h t ih=>exact .cons h ih
section
variable (X:Cx)(ct:Nat->af)(ms:List Mo)
def XE (n:Nat)(e:Expr)(f:EF):Prop:=∃t,PE X e t/\∀(F0 B F H:Hp) (ρ:Env) (σ:St) (d:D) (Q:VK),RS X.K ct F0 B ms F H ρ σ->f ρ=some d ->
 (∀v F' H',eY F H F' H'->Al X.K ct F' H' n d v->Q v H')->t σ H Q
def XO (k:Nat)(e:Expr)(f:EF):Prop:=∃t,PE X e t/\∀(F0 B F H:Hp) (ρ:Env) (σ:St) (d:D) (Q:VK),RS X.K ct F0 B ms F H ρ σ->f ρ=some d ->
 (∀v F' H' fp,eY F H F' H'->Ow X.K ct F' H' k d v fp->fp.Nodup->(∀a∈fp,H a=none)->Q v H')->t σ H Q
def XT (e:Expr)(f:Env->Option Bool):Prop:=∃t,PT X e t/\∀(F0 B F H:Hp) (ρ:Env) (σ:St) (b:Bool) (Q:Bool->Hp->Prop),RS X.K ct F0 B ms F H ρ σ->f ρ=some b ->
 (∀F' H',eY F H F' H'->Q b H')->t σ H Q
def XW (e:Expr)(f:Env->Option Bool):Prop:=∃t,PW X e t/\∀(F0 B F H:Hp) (ρ:Env) (σ:St) (b:Bool) (Q:Bool->Hp->Prop),RS X.K ct F0 B ms F H ρ σ->f ρ=some b ->
 (∀F' H',eY F H F' H'->Q b H')->t σ H Q
def XA (es:List Expr)(ns:List Nat)(f:Env->Option (List D)):Prop:=∃t,PA X es t/\(∀ρ ds,f ρ=some ds->ds.length=es.length)/\∀(F0 B F H:Hp) (ρ:Env) (σ:St) (ds:List D) (Q:List V->Hp->Prop),RS X.K ct F0 B ms F H ρ σ->f ρ=some ds ->
 (∀vs F' H',eY F H F' H'->i8 X.K ct F' H' ns ds vs->Q vs H')->t σ H Q
end
def e2 (op:D->D->Option D)(f g:EF):EF:=λρ=>(f ρ).bind λx=>(g ρ).bind λy=>op x y
def e1 (op:D->Option D)(f:EF):EF:=λρ=>(f ρ).bind op
def eN (op:List D->Option D)(f:Env->Option (List D)):EF:=λρ=>(f ρ).bind op
def eC (d:D):EF:=λ_=>some d
def eV (i:Nat):EF:=λρ=>(ρ[i]?).join
def aNil:Env->Option (List D):=λ_=>some []
def aCons (f:EF)(g:Env->Option (List D)):Env->Option (List D):=λρ=>(f ρ).bind λx=>(g ρ).bind λxs=>some (x::xs)
theorem dz {α β γ:Type}{o:Option α}{p:Option β}{op:α->β->Option γ}{r:γ}(h:(o.bind λx=>p.bind λy=>op x y)=some r):∃x y,o=some x/\p=some y/\op x y=some r:=by
 cases o with
 |none=>cases h
 |some x=>
  cases p with
  |none=>cases h
  |some y=>exact⟨x,y,rfl,rfl,h⟩
theorem aM {α β:Type}{o:Option α}{op:α->Option β}{r:β}(h:o.bind op=some r):∃x,o=some x/\op x=some r:=by
 cases o with
 |none=>cases h
 |some x=>exact⟨x,rfl,h⟩
theorem yf {α:Type}{o:Option (Option α)}{x:α}(h:o.join=some x):o=some (some x):=by
 cases o with
 |none=>cases h
 |some y=>exact congrArg some h
def lu (K:aa)(ct:Nat->af)(n m k:Nat)(r:R2)(op:D->D->Option D):Prop :=
 ∀(F H:Hp) (x y:V) (d1 d2 d:D) (Q:VK),bE F H->Al K ct F H n d1 x->Al K ct F H m d2 y->op d1 d2=some d->(∀v F' H',eY F H F' H'->Al K ct F' H' k d v->Q v H')->r x y H Q
def zI (K:aa)(ct:Nat->af)(n m k:Nat)(r:R2)(op:D->D->Option D):Prop :=
 ∀(F H:Hp) (x y:V) (d1 d2 d:D) (Q:VK),bE F H->Al K ct F H n d1 x->Al K ct F H m d2 y->op d1 d2=some d ->
  (∀v F' H' fp,eY F H F' H'->Ow K ct F' H' k d v fp->fp.Nodup->(∀a∈fp,H a=none)->Q v H')->r x y H Q
def yD (K:aa)(ct:Nat->af)(ns:List Nat)(k:Nat)(r:List V->Hp->VK->Prop)(op:List D->Option D):Prop :=
 ∀(F H:Hp) (vs:List V) (ds:List D) (d:D) (Q:VK),bE F H->i8 K ct F H ns ds vs->op ds=some d->(∀v F' H',eY F H F' H'->Al K ct F' H' k d v->Q v H')->r vs H Q
def zJ (K:aa)(ct:Nat->af)(ns:List Nat)(k:Nat)(r:List V->Hp->VK->Prop)(op:List D->Option D):Prop :=
 ∀(F H:Hp) (vs:List V) (ds:List D) (d:D) (Q:VK),bE F H->i8 K ct F H ns ds vs->op ds=some d ->
  (∀v F' H' fp,eY F H F' H'->Ow K ct F' H' k d v fp->fp.Nodup->(∀a∈fp,H a=none)->Q v H')->r vs H Q
section
variable {X:Cx}{ct:Nat->af}{ms:List Mo}{n m k:Nat}{a b c e:Expr}{f g h:EF}{pos:cA}
theorem XE.up (he:XE X ct ms n e f)(hk:n<=k):XE X ct ms k e f:=by
 obtain⟨t,p,q⟩:=he
 exact⟨t,p,λF0 B F H ρ σ d Q r e w=>q F0 B F H ρ σ d Q r e λv F' H' x l=>w v F' H' x (l.up hk)⟩
theorem XO.sh (he:XO X ct ms k e f):XE X ct ms n e f:=by
 obtain⟨t,p,q⟩:=he
 refine⟨t,p,λF0 B F H ρ σ d Q r e w=>q F0 B F H ρ σ d Q r e λv F' H' fp x o nd hf=>?_⟩
 obtain⟨F2,x2,h2⟩:=o.freeze x hf
 exact w v F2 H' x2 (Al.of h2)
theorem XE.ow (he:XE X ct ms 0 e f):XO X ct ms 0 e f:=by
 obtain⟨t,p,q⟩:=he
 exact⟨t,p,λF0 B F H ρ σ d Q r e w=>q F0 B F H ρ σ d Q r e λv F' H' x l=>w v F' H' [] x ⟨l,rfl⟩ bx λa z=>(by cases z)⟩
theorem za (i n:Nat){x:aI}{m:Mo}(hm:ms[i]?=some m:=by rfl)(hl:m.lv=n:=by rfl)(hN:X.N[i]?=some x:=by rfl)(hv:mW X.env.scope x:=by first|exact Or.inl rfl|exact Or.inr (Or.inl rfl)|exact Or.inr (Or.inr rfl))(hd:(x==("__debug__":aI))=false:=by decide)
  (gG:(x==("__classdict__":aI))=false:=by decide):XE X ct ms n (.Name x pos) (eV i):=by
 subst hl
 refine⟨_,vk hN hv hd gG,λF0 B F H ρ σ d Q r e w=>?_⟩
 obtain⟨v,hv,l⟩:=r.get hm (yf e)
 exact⟨v,hv,w v F H (.refl r.fh) l⟩
theorem XH {i:Int}{j}:XE X ct ms n (.Constant (.int i) j pos) (eC (.int i)):=⟨_,WA,λF0 B F H ρ σ d Q r e w=>by cases e;exact w _ F H (.refl r.fh) (Al.of (.int i))⟩
theorem qr {i:Bool}{j}:XE X ct ms n (.Constant (.bool i) j pos) (eC (.bl i)):=⟨_,Yw,λF0 B F H ρ σ d Q r e w=>by cases e;exact w _ F H (.refl r.fh) (Al.of (.bl i))⟩
theorem DM {i:aI}{j}:XE X ct ms n (.Constant (.str i) j pos) (eC (.str i)):=⟨_,W5,λF0 B F H ρ σ d Q r e w=>by cases e;exact w _ F H (.refl r.fh) (Al.of (.str i))⟩
theorem XJ {j}:XE X ct ms n (.Constant .none j pos) (eC .non):=⟨_,W4,λF0 B F H ρ σ d Q r e w=>by cases e;exact w _ F H (.refl r.fh) (Al.of .non)⟩
theorem XE.bin (ha:XE X ct ms n a f)(hb:XE X ct ms m b g):∃ta tb,PE X a ta/\PE X b tb/\∀(F0 B F H:Hp) (ρ:Env) (σ:St) (d1 d2:D) (R:V->V->Hp->Prop),RS X.K ct F0 B ms F H ρ σ->f ρ=some d1->g ρ=some d2 ->
  (∀x y F' H',eY F H F' H'->Al X.K ct F' H' n d1 x->Al X.K ct F' H' m d2 y->R x y H')->ta σ H λx H1=>tb σ H1 λy H2=>R x y H2:=by
 obtain⟨ta,pa,qa⟩:=ha
 obtain⟨tb,pb,qb⟩:=hb
 refine⟨ta,tb,pa,pb,λF0 B F H ρ σ d1 d2 R r e1 e2 w=>qa F0 B F H ρ σ d1 _ r e1 λx F1 H1 x1 l1=>?_⟩
 exact qb F0 B F1 H1 ρ σ d2 _ (r.ext x1) e2 λy F2 H2 x2 l2=>w x y F2 H2 (x1.trans x2) (l1.mono x2.ff x2.hh) l2
theorem zy {op:iO}{r:R2}{o:D->D->Option D}(ho:fJ X (dG op) r)(hs:lu X.K ct n m k r o)(ha:XE X ct ms n a f)(hb:XE X ct ms m b g):XE X ct ms k (.BinOp a op b pos) (e2 o f g):=by
 obtain⟨ta,tb,pa,pb,q⟩:=ha.bin hb
 refine⟨_,DO ho pa pb,λF0 B F H ρ σ d Q rs e w=>?_⟩
 obtain⟨d1,d2,h1,h2,h3⟩:=dz e
 exact q F0 B F H ρ σ d1 d2 _ rs h1 h2 λx y F' H' x1 l1 l2=>hs F' H' x y d1 d2 d Q x1.fh l1 l2 h3 λv F2 H2 x2 l=>w v F2 H2 (x1.trans x2) l
theorem NI {op:iO}{r:R2}{o:D->D->Option D}(ho:fJ X (dG op) r)(hs:zI X.K ct n m k r o)(ha:XE X ct ms n a f)(hb:XE X ct ms m b g):XO X ct ms k (.BinOp a op b pos) (e2 o f g):=by
 obtain⟨ta,tb,pa,pb,q⟩:=ha.bin hb
 refine⟨_,DO ho pa pb,λF0 B F H ρ σ d Q rs e w=>?_⟩
 obtain⟨d1,d2,h1,h2,h3⟩:=dz e
 exact q F0 B F H ρ σ d1 d2 _ rs h1 h2 λx y F' H' x1 l1 l2=>hs F' H' x y d1 d2 d Q x1.fh l1 l2 h3 λv F2 H2 fp x2 l nd hf=>w v F2 H2 fp (x1.trans x2) l nd λz hz=>x1.hh.free (hf z hz)
theorem jo {op:kP}{r:R2}{o:D->D->Option D}(ho:fJ X (cD op) r)(hs:lu X.K ct n m k r o)(ha:XE X ct ms n a f)(hb:XE X ct ms m b g)(hm:dB op b=false):XE X ct ms k (.Compare a [op] [b] pos) (e2 o f g):=by
 obtain⟨ta,tb,pa,pb,q⟩:=ha.bin hb
 refine⟨_,VF ho pa pb hm,λF0 B F H ρ σ d Q rs e w=>?_⟩
 obtain⟨d1,d2,h1,h2,h3⟩:=dz e
 exact q F0 B F H ρ σ d1 d2 _ rs h1 h2 λx y F' H' x1 l1 l2=>hs F' H' x y d1 d2 d Q x1.fh l1 l2 h3 λv F2 H2 x2 l=>w v F2 H2 (x1.trans x2) l
theorem sT {r:R2}{o:D->D->Option D}(hr:rJ X r)(hs:lu X.K ct n m k r o)(ha:XE X ct ms n a f)(hb:XE X ct ms m b g)(hp:la b):XE X ct ms k (.Subscript a b pos) (e2 o f g):=by
 obtain⟨ta,tb,pa,pb,q⟩:=ha.bin hb
 refine⟨_,NG hr pa pb hp,λF0 B F H ρ σ d Q rs e w=>?_⟩
 obtain⟨d1,d2,h1,h2,h3⟩:=dz e
 exact q F0 B F H ρ σ d1 d2 _ rs h1 h2 λx y F' H' x1 l1 l2=>hs F' H' x y d1 d2 d Q x1.fh l1 l2 h3 λv F2 H2 x2 l=>w v F2 H2 (x1.trans x2) l
theorem YH {op:UnaryOp}{r:V->Hp->VK->Prop}{o:D->Option D}(ho:DW X (unaryOp op) r)
  (hs:∀(F H:Hp) (x:V) (d1 d:D) (Q:VK),bE F H->Al X.K ct F H n d1 x->o d1=some d->(∀v F' H',eY F H F' H'->Al X.K ct F' H' k d v->Q v H')->r x H Q) (ha:XE X ct ms n a f):XE X ct ms k (.UnaryOp op a pos) (e1 o f):=by
 obtain⟨ta,pa,qa⟩:=ha
 refine⟨_,Yz ho pa,λF0 B F H ρ σ d Q rs e w=>?_⟩
 obtain⟨d1,h1,h2⟩:=aM e
 exact qa F0 B F H ρ σ d1 _ rs h1 λx F' H' x1 l1=>hs F' H' x d1 d Q x1.fh l1 h2 λv F2 H2 x2 l=>w v F2 H2 (x1.trans x2) l
theorem zg:XA X ct ms [] [] aNil:=⟨_,xT,λρ ds e=>(by cases e;rfl),λF0 B F H ρ σ ds Q r e w=>by cases e;exact w [] F H (.refl r.fh) .nil⟩
theorem zc {es:List Expr}{ns:List Nat}{fs:Env->Option (List D)}(ha:XE X ct ms n a f)(hr:XA X ct ms es ns fs)(hs:aq (a::es) X.env=(false,bN a X.env)::aq es X.env:=by rfl):XA X ct ms (a::es) (n::ns) (aCons f fs):=by
 obtain⟨ta,pa,qa⟩:=ha
 obtain⟨tb,pb,lb,qb⟩:=hr
 refine⟨_,vc pa pb hs,λρ ds e=>(by obtain⟨x,xs,h1,h2,h3⟩:=dz e;cases h3;rw[az,az,lb _ _ h2]),λF0 B F H ρ σ ds Q r e w=>?_⟩
 obtain⟨x,xs,h1,h2,h3⟩:=dz e
 cases h3
 refine qa F0 B F H ρ σ x _ r h1 λv F1 H1 x1 l1=>?_
 exact qb F0 B F1 H1 ρ σ xs _ (r.ext x1) h2 λvs F2 H2 x2 l2=>w (v::vs) F2 H2 (x1.trans x2) (.cons (l1.mono x2.ff x2.hh) l2)
def zL (X:Cx)(ct:Nat->af)(ms:List Mo)(k:Nat)(es:List Expr)(f:Env->Option (List D)):Prop:=∃t,PA X es t/\(∀ρ ds,f ρ=some ds->ds.length=es.length)/\∀(F0 B F H:Hp) (ρ:Env) (σ:St) (ds:List D) (Q:List V->Hp->Prop),RS X.K ct F0 B ms F H ρ σ->f ρ=some ds ->
 (∀vs F' H' fp,eY F H F' H'->dU (Ow X.K ct F' H' k) ds vs fp->fp.Nodup->(∀a∈fp,H a=none)->Q vs H')->t σ H Q
theorem xj:zL X ct ms k [] aNil:=⟨_,xT,λρ ds e=>(by cases e;rfl),λF0 B F H ρ σ ds Q r e w=>by cases e;exact w [] F H [] (.refl r.fh) .nil bx λa z=>(by cases z)⟩
theorem zl {es:List Expr}{fs:Env->Option (List D)}(ha:XO X ct ms k a f)(hr:zL X ct ms k es fs)(hs:aq (a::es) X.env=(false,bN a X.env)::aq es X.env:=by rfl):zL X ct ms k (a::es) (aCons f fs):=by
 obtain⟨ta,pa,qa⟩:=ha
 obtain⟨tb,pb,lb,qb⟩:=hr
 refine⟨_,vc pa pb hs,λρ ds e=>(by obtain⟨x,xs,h1,h2,h3⟩:=dz e;cases h3;rw[az,az,lb _ _ h2]),λF0 B F H ρ σ ds Q r e w=>?_⟩
 obtain⟨x,xs,h1,h2,h3⟩:=dz e
 cases h3
 refine qa F0 B F H ρ σ x _ r h1 λv F1 H1 f1 x1 l1 n1 a1=>?_
 refine qb F0 B F1 H1 ρ σ xs _ (r.ext x1) h2 λvs F2 H2 f2 x2 l2 n2 a2=>w (v::vs) F2 H2 (f1++f2) (x1.trans x2) (.cons (l1.ext x2) l2) (aW.mpr ⟨n1,n2,λz hz y hy e=>?_⟩) λz hz=>?_
 ·subst e
  obtain⟨_,o,ho,_⟩:=l1.cells z hz
  rw[a2 z hy]at ho
  cases ho
 ·rcases aT.mp hz with hz|hz
  ·exact a1 z hz
  ·exact x1.hh.free (a2 z hz)
end
end L3
namespace L3
open PySem PySem.Spec L2
open PyProof.Rows hiding St
def D0:D->Option Bool
 |.bl b=>some b
 |_=>none
theorem je {d:D}{b:Bool}(h:D0 d=some b):d=.bl b:=by cases d<;>simp[D0]at h;subst h;rfl
abbrev BF:=Env->Option Bool
def tb (f:EF):BF:=λρ=>(f ρ).bind D0
def bNot (f:BF):BF:=λρ=>(f ρ).bind λb=>some (!b)
def bAnd (f g:BF):BF:=λρ=>(f ρ).bind λb=>if b=true then g ρ else some false
def bOr (f g:BF):BF:=λρ=>(f ρ).bind λb=>if b=true then some true else g ρ
def eB (f:BF):EF:=λρ=>(f ρ).bind λb=>some (.bl b)
def eIf (c:BF)(f g:EF):EF:=λρ=>(c ρ).bind λb=>if b=true then f ρ else g ρ
section
variable {X:Cx}{ct:Nat->af}{ms:List Mo}{n m k:Nat}{a b c e:Expr}{f g h:EF}{p q:BF}{pos:cA}
theorem wq (he:XE X ct ms n e f)(hi:∀whole,pW e X.env whole=(do let v ← whole;eT e.pos;dg [v] (truthy v)):=by intro _;rfl):XT X ct ms e (tb f):=by
 obtain⟨t,pt,qt⟩:=he
 refine⟨_,W7 pt hi,λF0 B F H ρ σ b Q r e w=>?_⟩
 obtain⟨d,h1,h2⟩:=aM e
 rw[je h2]at h1
 exact qt F0 B F H ρ σ _ _ r h1 λv F' H' x l=>⟨b,l.bl,w F' H' x⟩
theorem xm {op:kP}{r:R2}{o:D->D->Option D}(ho:fJ X (cD op) r)(hs:lu X.K ct n m k r o)(ha:XE X ct ms n a f)(hb:XE X ct ms m b g)(hm:dB op b=false):XT X ct ms (.Compare a [op] [b] pos) (tb (e2 o f g)):=by
 obtain⟨ta,tb,pa,pb,q⟩:=ha.bin hb
 refine⟨_,VG ho pa pb hm,λF0 B F H ρ σ b Q rs e w=>?_⟩
 obtain⟨d,h0,h4⟩:=aM e
 rw[je h4]at h0
 obtain⟨d1,d2,h1,h2,h3⟩:=dz h0
 exact q F0 B F H ρ σ d1 d2 _ rs h1 h2 λx y F' H' x1 l1 l2=>hs F' H' x y d1 d2 _ _ x1.fh l1 l2 h3 λv F2 H2 x2 l=>⟨b,l.bl,w F2 H2 (x1.trans x2)⟩
theorem XW.t (h:XW X ct ms e p):XT X ct ms e p:=by
 obtain⟨t,pt,qt⟩:=h
 exact⟨t,pt.pt,qt⟩
theorem Wf (ha:XT X ct ms a p):XW X ct ms (.BoolOp .And [a] pos) p:=by
 obtain⟨t,pt,qt⟩:=ha
 exact⟨t,VC pt,qt⟩
theorem t9 (ha:XT X ct ms a p):XW X ct ms (.BoolOp .Or [a] pos) p:=by
 obtain⟨t,pt,qt⟩:=ha
 exact⟨t,W8 pt,qt⟩
theorem Nj {rest:List Expr}(ha:XT X ct ms a p)(hb:XW X ct ms (.BoolOp .And (b::rest) pos) q):XW X ct ms (.BoolOp .And (a::b::rest) pos) (bAnd p q):=by
 obtain⟨t,pt,qt⟩:=ha
 obtain⟨u,pu,qu⟩:=hb
 refine⟨_,W9 pt pu,λF0 B F H ρ σ r Q rs e w=>?_⟩
 obtain⟨x,h1,h2⟩:=aM e
 refine qt F0 B F H ρ σ x _ rs h1 λF1 H1 x1=>?_
 cases x with
 |true=>rw[if_pos rfl];exact qu F0 B F1 H1 ρ σ r _ (rs.ext x1) h2 λF2 H2 x2=>w F2 H2 (x1.trans x2)
 |false=>cases h2;rw[if_neg aJ];exact w F1 H1 x1
theorem rR {rest:List Expr}(ha:XT X ct ms a p)(hb:XW X ct ms (.BoolOp .Or (b::rest) pos) q):XW X ct ms (.BoolOp .Or (a::b::rest) pos) (bOr p q):=by
 obtain⟨t,pt,qt⟩:=ha
 obtain⟨u,pu,qu⟩:=hb
 refine⟨_,Yx pt pu,λF0 B F H ρ σ r Q rs e w=>?_⟩
 obtain⟨x,h1,h2⟩:=aM e
 refine qt F0 B F H ρ σ x _ rs h1 λF1 H1 x1=>?_
 cases x with
 |true=>cases h2;rw[if_pos rfl];exact w F1 H1 x1
 |false=>rw[if_neg aJ];exact qu F0 B F1 H1 ρ σ r _ (rs.ext x1) h2 λF2 H2 x2=>w F2 H2 (x1.trans x2)
theorem uu (ha:XT X ct ms a p):XT X ct ms (.UnaryOp .Not a pos) (bNot p):=by
 obtain⟨t,pt,qt⟩:=ha
 refine⟨_,Xa pt,λF0 B F H ρ σ r Q rs e w=>?_⟩
 obtain⟨x,h1,h2⟩:=aM e
 cases h2
 exact qt F0 B F H ρ σ x _ rs h1 λF1 H1 x1=>w F1 H1 x1
theorem XN (ha:XE X ct ms n a f):XE X ct ms k (.UnaryOp .Not a pos) (eB (bNot (tb f))):=by
 obtain⟨t,pt,qt⟩:=ha
 refine⟨_,Xd pt,λF0 B F H ρ σ r Q rs e w=>?_⟩
 obtain⟨x,h1,h2⟩:=aM e
 obtain⟨y,h3,h4⟩:=aM h1
 obtain⟨z,h5,h6⟩:=aM h3
 cases h2;cases h4
 rw[je h6]at h5
 exact qt F0 B F H ρ σ _ _ rs h5 λv F1 H1 x1 l=>⟨y,l.bl,w _ F1 H1 x1 (Al.of (.bl _))⟩
theorem xU {op}(ha:XE X ct ms n a f):XE X ct ms k (.BoolOp op [a] pos) (eB (tb f)):=by
 obtain⟨t,pt,qt⟩:=ha
 refine⟨_,Xb pt,λF0 B F H ρ σ r Q rs e w=>?_⟩
 obtain⟨y,h3,h4⟩:=aM e
 obtain⟨z,h5,h6⟩:=aM h3
 cases h4
 rw[je h6]at h5
 exact qt F0 B F H ρ σ _ _ rs h5 λv F1 H1 x1 l=>w _ F1 H1 x1 (by rw[l.bl];exact Al.of (.bl _))
theorem yV {rest:List Expr}(ha:XE X ct ms n a f)(hb:XE X ct ms k (.BoolOp .And (b::rest) pos) (eB q)):XE X ct ms k (.BoolOp .And (a::b::rest) pos) (eB (bAnd (tb f) q)):=by
 obtain⟨t,pt,qt⟩:=ha
 obtain⟨u,pu,qu⟩:=hb
 refine⟨_,Xc pt pu,λF0 B F H ρ σ r Q rs e w=>?_⟩
 obtain⟨y,h3,h4⟩:=aM e
 obtain⟨x,h1,h2⟩:=aM h3
 obtain⟨z,h5,h6⟩:=aM h1
 cases h4
 rw[je h6]at h5
 refine qt F0 B F H ρ σ _ _ rs h5 λv F1 H1 x1 l=>⟨x,l.bl,?_⟩
 cases x with
 |true=>rw[if_pos rfl];exact qu F0 B F1 H1 ρ σ _ _ (rs.ext x1) (show(q ρ).bind _=_ by rw[if_pos rfl]at h2;rw[h2];rfl) λv F2 H2 x2 l=>w v F2 H2 (x1.trans x2) l
 |false=>rw[if_neg aJ]at h2 ⊢;cases h2;exact w _ F1 H1 x1 (Al.of (.bl _))
theorem YI {rest:List Expr}(ha:XE X ct ms n a f)(hb:XE X ct ms k (.BoolOp .Or (b::rest) pos) (eB q)):XE X ct ms k (.BoolOp .Or (a::b::rest) pos) (eB (bOr (tb f) q)):=by
 obtain⟨t,pt,qt⟩:=ha
 obtain⟨u,pu,qu⟩:=hb
 refine⟨_,Yy pt pu,λF0 B F H ρ σ r Q rs e w=>?_⟩
 obtain⟨y,h3,h4⟩:=aM e
 obtain⟨x,h1,h2⟩:=aM h3
 obtain⟨z,h5,h6⟩:=aM h1
 cases h4
 rw[je h6]at h5
 refine qt F0 B F H ρ σ _ _ rs h5 λv F1 H1 x1 l=>⟨x,l.bl,?_⟩
 cases x with
 |true=>rw[if_pos rfl]at h2 ⊢;cases h2;exact w _ F1 H1 x1 (Al.of (.bl _))
 |false=>rw[if_neg aJ];exact qu F0 B F1 H1 ρ σ _ _ (rs.ext x1) (show(q ρ).bind _=_ by rw[if_neg aJ]at h2;rw[h2];rfl) λv F2 H2 x2 l=>w v F2 H2 (x1.trans x2) l
theorem Jx (hc:XT X ct ms c p)(ha:XE X ct ms k a f)(hb:XE X ct ms k b g):XE X ct ms k (.IfExp c a b pos) (eIf p f g):=by
 obtain⟨s,ps,qs⟩:=hc
 obtain⟨t,pt,qt⟩:=ha
 obtain⟨u,pu,qu⟩:=hb
 refine⟨_,Uk ps pt pu,λF0 B F H ρ σ r Q rs e w=>?_⟩
 obtain⟨x,h1,h2⟩:=aM e
 refine qs F0 B F H ρ σ x _ rs h1 λF1 H1 x1=>?_
 cases x with
 |true=>rw[if_pos rfl]at h2 ⊢;exact qt F0 B F1 H1 ρ σ _ _ (rs.ext x1) h2 λv F2 H2 x2 l=>w v F2 H2 (x1.trans x2) l
 |false=>rw[if_neg aJ]at h2 ⊢;exact qu F0 B F1 H1 ρ σ _ _ (rs.ext x1) h2 λv F2 H2 x2 l=>w v F2 H2 (x1.trans x2) l
theorem uA {es:List Expr}{fs:Env->Option (List D)}{x1}(h:zL X ct ms k es fs)(hl:es.length<=1000:=by decide):XO X ct ms (k+1) (.Tuple es x1 pos) (λρ=>(fs ρ).bind λds=>some (.tup ds)):=by
 obtain⟨t,pt,lt,qt⟩:=h
 refine⟨_,Xm pt,λF0 B F H ρ σ r Q rs e w=>?_⟩
 obtain⟨ds,h1,h2⟩:=aM e
 cases h2
 refine qt F0 B F H ρ σ ds _ rs h1 λvs F1 H1 fp x1 l nd hf=>⟨?_,λp hp=>?_⟩
 ·rw[←l.length,lt _ _ h1];exact small hl
 ·have x2:=eY.newS x1.fh hp (.tup vs)
  exact w _ _ _ fp (x1.trans x2) (.inr (.tup ym (l.mono λ_ _ _ _ o=>o.ext x2))) nd hf
theorem dU.cellsOf {K:aa}{F H:Hp}{ds:List D}{vs:List V}{fp:List af}(l:dU (Ow K ct F H k) ds vs fp):∀a∈fp,F a=none/\∃o,H a=some o/\iD o:=dU.cells0 (λd v f q=>Ow.cells q) l
theorem MT {K:aa}{F H:Hp}{ds:List D}{vs:List V}{fp:List af}{p:af}(s:bE F H)(l:dU (Ow K ct F H k) ds vs fp)(hp:H p=none):Ow K ct F (upd H p (.lst vs)) (k+1) (.lst ds) (.ref p) (p::fp)/\(fp.Nodup->(p::fp).Nodup) :=
 ⟨.inr (.lst (s.free hp) ym (l.mono λ_ _ _ _ o=>o.ext (eY.newO s hp _))),λnd=>aY.mpr ⟨λz=>(by
  obtain⟨_,o,ho,_⟩:=dU.cellsOf l p z
  rw[hp]at ho
  cases ho),nd⟩⟩
theorem ve {es:List Expr}{fs:Env->Option (List D)}(h:zL X ct ms k es fs)(hl:es.length<=1000:=by decide):XO X ct ms (k+1) (.List es pos) (λρ=>(fs ρ).bind λds=>some (.lst ds)):=by
 obtain⟨t,pt,lt,qt⟩:=h
 refine⟨_,Xn pt,λF0 B F H ρ σ r Q rs e w=>?_⟩
 obtain⟨ds,h1,h2⟩:=aM e
 cases h2
 refine qt F0 B F H ρ σ ds _ rs h1 λvs F1 H1 fp x1 l nd hf=>⟨?_,λp hp=>?_⟩
 ·rw[←l.length,lt _ _ h1];exact small hl
 ·obtain⟨o,n2⟩:=MT x1.fh l hp
  refine w _ _ _ (p::fp) (x1.trans (eY.newO x1.fh hp _)) o (n2 nd) λz hz=>?_
  rcases ay.mp hz with rfl|hz
  ·exact x1.hh.free hp
  ·exact hf z hz
theorem UY:XO X ct ms (k+1) (.Dict [] [] pos) (eC (.dK [] [])):=by
 refine⟨_,UT,λF0 B F H ρ σ r Q rs e w p hp=>?_⟩
 cases e
 refine w _ F _ [p] (eY.newO rs.fh hp _) (.inr (rK.dK (vs:=[]) (rs.fh.free hp) ym rfl .nil)) (by simp) λz hz=>?_
 rw[aO]at hz;subst hz;exact hp
theorem UZ:XO X ct ms (k+1) (.Dict [] [] pos) (eC (.dT [] [])):=by
 refine⟨_,UU,λF0 B F H ρ σ r Q rs e w p hp=>?_⟩
 cases e
 refine w _ F _ [p] (eY.newO rs.fh hp _) (.inr (rK.dT (vs:=[]) (rs.fh.free hp) ym rfl .nil)) (by simp) λz hz=>?_
 rw[aO]at hz;subst hz;exact hp
def gL (K:aa)(ct:Nat->af)(pm:List Nat)(rk:Nat)(m:List D->Option D):Sp:=λvs H Q _=>∃(F:Hp) (ds:List D) (d:D),bE F H/\i8 K ct F H pm ds vs/\m ds=some d /\
 ∀v F' H' fp,eY F H F' H'->Ow K ct F' H' rk d v fp->fp.Nodup->(∀a∈fp,H a=none)->Q v H'
theorem gL.len {K:aa}{ct:Nat->af}{pm:List Nat}{rk:Nat}{m:List D->Option D}{ps:List aI}(h:pm.length=ps.length):∀vs H Q E,gL K ct pm rk m vs H Q E->vs.length=ps.length:=by
 rintro vs H Q E ⟨F,ds,d,_,l,_⟩
 rw[l.length,h]
variable {kk:Nat}{fa:af}{fd:aF}{ps:List aI}{pm:List Nat}{rk:Nat}{mf:List D->Option D}{x:aI}{pp:cA}
theorem Wg {es:List Expr}{ns nd:List Nat}{fs:Env->Option (List D)}{hV:List V}{kF:List D}{lw:List ae}(Fn:cH X.prog X.w X.K X.mg X.base eF kk fa fd ps (gL X.K ct (ns++nd) rk mf))(hr:dY kk X.A)(hg:Gl X x)(hm:X.mg x=some (.ref fa))(hk:ap X.K (.ref fa)=true)
  (hb:bJ X.K fd ps lw) (hd:bQ hV lw) (sj:∀F G,i8 X.K ct F G nd kF hV) (ha:XA X ct ms (e::es) ns fs)
  (lx:(x==("__debug__":aI))=false:=by decide) (he:aq (e::es) X.env=(false,bN e X.env)::aq es X.env:=by rfl) (gb:(cC pos (aq es X.env)).any (·.1)=false:=by rfl) :
  XO X ct ms rk (.Call (.Name x pp) (e::es) [] pos) (λρ=>(fs ρ).bind λds=>mf (ds++kF)):=by
 obtain⟨t,pt,_,qt⟩:=ha
 refine⟨_,MF Fn hr hg hm hk hb hd mr pt lx he gb,λF0 B F H ρ σ r Q rs e w=>?_⟩
 obtain⟨ds,h1,h2⟩:=aM e
 refine qt F0 B F H ρ σ ds _ rs h1 λvs F1 H1 x1 l=>⟨F1,ds++kF,r,x1.fh,i8.append (sj F1 H1) l,h2,λv F2 H2 fp x2 o nd hf=>?_⟩
 exact w v F2 H2 fp (x1.trans x2) o nd λz hz=>x1.hh.free (hf z hz)
theorem v3 {es:List Expr}{ns:List Nat}{fs:Env->Option (List D)}{id:String}{r:List V->Hp->VK->Prop}{op:List D->Option D}(hc:eM X (.builtin id) r)(hs:yD X.K ct ns k r op)(hg:Gl X x)(hm:X.mg x=none)(hv:bU x=some (.builtin id))(ha:XA X ct ms (e::es) ns fs)
  (hn:x≠"__name__":=by decide) (lx:(x==("__debug__":aI))=false:=by decide) (he:aq (e::es) X.env=(false,bN e X.env)::aq es X.env:=by rfl) (gb:(cC pos (aq es X.env)).any (·.1)=false:=by rfl) :
  XE X ct ms k (.Call (.Name x pp) (e::es) [] pos) (eN op fs):=by
 obtain⟨t,pt,_,qt⟩:=ha
 refine⟨_,II hc hg hm hv pt hn lx he gb,λF0 B F H ρ σ r Q rs e w=>?_⟩
 obtain⟨ds,h1,h2⟩:=aM e
 exact qt F0 B F H ρ σ ds _ rs h1 λvs F1 H1 x1 l=>hs F1 H1 vs ds r Q x1.fh l h2 λv F2 H2 x2 l2=>w v F2 H2 (x1.trans x2) l2
theorem j4 {es:List Expr}{ns:List Nat}{fs:Env->Option (List D)}{id:String}{r:List V->Hp->VK->Prop}{op:List D->Option D}(hc:eM X (.type id) r)(hs:zJ X.K ct ns k r op)(hg:Gl X x)(hm:X.mg x=none)(hv:bU x=some (.type id))(ha:XA X ct ms (e::es) ns fs)
  (hn:x≠"__name__":=by decide) (lx:(x==("__debug__":aI))=false:=by decide) (he:aq (e::es) X.env=(false,bN e X.env)::aq es X.env:=by rfl) (gb:(cC pos (aq es X.env)).any (·.1)=false:=by rfl) :
  XO X ct ms k (.Call (.Name x pp) (e::es) [] pos) (eN op fs):=by
 obtain⟨t,pt,_,qt⟩:=ha
 refine⟨_,TY hc hg hm hv pt hn lx he gb,λF0 B F H ρ σ r Q rs e w=>?_⟩
 obtain⟨ds,h1,h2⟩:=aM e
 exact qt F0 B F H ρ σ ds _ rs h1 λvs F1 H1 x1 l=>hs F1 H1 vs ds r Q x1.fh l h2 λv F2 H2 fp x2 l2 nd hf=>w v F2 H2 fp (x1.trans x2) l2 nd λz hz=>x1.hh.free (hf z hz)
theorem PE.or {t u:TE}(h1:PE X e t)(h2:PE X e u):PE X e (λσ H Q=>t σ H Q\/u σ H Q):=λaj s σ H Q I h=>h.elim (h1 aj s σ H Q I) (h2 aj s σ H Q I)
theorem NJ (ha:XO X ct ms k e f)(hb:XO X ct ms k e g):XO X ct ms k e (λρ=>(f ρ).or (g ρ)):=by
 obtain⟨t,pt,qt⟩:=ha
 obtain⟨u,pu,qu⟩:=hb
 refine⟨_,PE.or pt pu,λF0 B F H ρ σ r Q rs e w=>?_⟩
 dsimp only at e ⊢
 cases h:f ρ with
 |some d=>
  rw[h]at e
  cases e
  exact .inl (qt F0 B F H ρ σ _ Q rs h w)
 |none=>
  rw[h]at e
  exact .inr (qu F0 B F H ρ σ r Q rs e w)
def cE (cs:List Nat)(x:aI):D->Option D
 |.obj c ns ds=>if cs.contains c=true then(ns.zip ds).lookup x else none
 |_=>none
theorem Lx {R:D->V->Prop}{x:aI}{d:D}:∀{ns:List aI} {ds:List D} {vs:List V},Pr R ds vs->(ns.zip ds).lookup x=some d->∃v,(ns.zip vs).lookup x=some v/\R d v
 |[],_,_,_,e=>by simp at e
 |_::_,_,_,.nil,e=>by simp at e
 |y::ns,_,_,.cons h t,e=>by
  rw[eI,ba]at e
  rw[eI,ba]
  cases q:x==y with
  |true=>rw[q]at e;cases e;exact⟨_,rfl,h⟩
  |false=>rw[q]at e;exact Lx t e
theorem IE {vs:List V}{x:aI}:∀{ns:List aI} {vs:List V},ns.contains x=false->(ns.zip vs).lookup x=none
 |[],_,_=>by simp
 |_::_,[],_=>by simp
 |y::ns,_::vs,h=>by
  rw[o8,nV]at h
  rw[eI,ba,h.1]
  exact IE (vs:=vs) h.2
theorem yu {x:aI}{cs:List Nat}(he:XE X ct ms n e f)(hc:∀c∈cs,kB X.K (ct c)/\el X.K (ct c) x)(hb:eP e x X.env (bN e X.env)=bN e X.env):XE X ct ms (n-1) (.Attribute e x pos) (e1 (cE cs x) f):=by
 obtain⟨t,pt,qt⟩:=he
 refine⟨_,Xk pt hb,λF0 B F H ρ σ r Q rs e w=>?_⟩
 obtain⟨o,h1,h2⟩:=aM e
 refine qt F0 B F H ρ σ o _ rs h1 λv F1 H1 x1 l=>?_
 cases o with
 |obj c ns ds=>
  obtain⟨a,dx,vs,rfl,ha,hl,G1⟩:=l.obj x1.fh
  unfold cE at h2
  dsimp only at h2
  by_cases vV:cs.contains c=true
  ·rw[if_pos vV]at h2
   obtain⟨u,hu,du⟩:=Lx G1 h2
   have hh:=hc c (by simpa using vV)
   exact⟨a,_,dx,_,u,rfl,ha,hh.1,hh.2,hu,w u F1 H1 x1 du⟩
  ·rw[if_neg vV]at h2;cases h2
 |_=>cases h2
def i6 (c0:Nat)(m:aI)(mf:List D->Option D)(o:D)(ds:List D):Option D:=match o with
 |.obj c ns _=>if c=c0/\ns.contains m=false then mf (o::ds)else none
 |_=>none
theorem Jh {o:Expr}{x:aI}{cY:cA}{pl:ik Bool}{es:List Expr}{ns nd:List Nat}{fs:Env->Option (List D)}{hV:List V}{kF:List D}{lw:List ae}{c0:Nat}(ho:XE X ct ms n o f)(c:kB X.K (ct c0))(hm:oe X.K (ct c0) x fa)(Fn:cH X.prog X.w X.K X.mg X.base eF kk fa fd ps (gL X.K ct (n::(ns++nd)) rk mf))(hr:dY kk X.A)
  (hb:bJ X.K fd ps lw) (hd:bQ hV lw) (sj:∀F G,i8 X.K ct F G nd kF hV) (ha:XA X ct ms (e::es) ns fs)
  (nE:aq (e::es) X.env=(false,bN e X.env)::aq es X.env:=by rfl) (gb:(cC pos (aq es X.env)).any (·.1)=false:=by rfl)
  (ht:bN (.Call (.Attribute o x cY) (e::es) [] pos) X.env=(do
   let ov ← bN o X.env
   eT cY.atName
   let(f,first) ← dg [ov] (fW ov x pl)
   iP pos f first (cC pos (aq (e::es) X.env)) (eQ pos (dC [] X.env))):=by rfl) :
  XO X ct ms rk (.Call (.Attribute o x cY) (e::es) [] pos) (λρ=>(f ρ).bind λo=>(fs ρ).bind λds=>i6 c0 x mf o (ds++kF)):=by
 obtain⟨u,pu,qu⟩:=ho
 obtain⟨t,pt,_,qt⟩:=ha
 refine⟨_,VL pu c hm Fn hr hb hd mr pt nE gb ht,λF0 B F H ρ σ r Q rs e w=>?_⟩
 obtain⟨o,ds,h1,h2,h3⟩:=dz e
 refine qu F0 B F H ρ σ o _ rs h1 λv F1 H1 x1 l=>?_
 cases o with
 |obj c1 EC lT=>
  unfold i6 at h3
  dsimp only at h3
  split at h3
  ·rename_i hc
   obtain⟨rfl,oW⟩:=hc
   obtain⟨a,dx,vs,rfl,ha,hl,G1⟩:=l.obj x1.fh
   refine⟨a,dx,_,rfl,ha,IE (vs:=vs) oW,?_⟩
   refine qt F0 B F1 H1 ρ σ ds _ (rs.ext x1) h2 λus F2 H2 x2 l2=>⟨F2,_,r,x2.fh,.cons (l.mono x2.ff x2.hh) (i8.append (sj F2 H2) l2),h3,λv F3 H3 fp x3 o nd hf=>?_⟩
   exact w v F3 H3 fp ((x1.trans x2).trans x3) o nd λz hz=>(x1.trans x2).hh.free (hf z hz)
  ·cases h3
 |_=>cases h3
theorem j5 {o:Expr}{x:aI}{cY:cA}{pl:ik Bool}{nd:List Nat}{hV:List V}{kF:List D}{lw:List ae}{c0:Nat}(ho:XE X ct ms n o f)(c:kB X.K (ct c0))(hm:oe X.K (ct c0) x fa)(Fn:cH X.prog X.w X.K X.mg X.base eF kk fa fd ps (gL X.K ct (n::nd) rk mf))(hr:dY kk X.A)
  (hb:bJ X.K fd ps lw) (hd:bQ hV lw) (sj:∀F G,i8 X.K ct F G nd kF hV)
  (ht:bN (.Call (.Attribute o x cY) [] [] pos) X.env=(do
   let ov ← bN o X.env
   eT cY.atName
   let(f,first) ← dg [ov] (fW ov x pl)
   iP pos f first (cC pos (aq [] X.env)) (eQ pos (dC [] X.env))):=by rfl) :
  XO X ct ms rk (.Call (.Attribute o x cY) [] [] pos) (λρ=>(f ρ).bind λo=>i6 c0 x mf o kF):=by
 obtain⟨u,pu,qu⟩:=ho
 refine⟨_,Ur pu c hm Fn hr hb hd mr ht,λF0 B F H ρ σ r Q rs e w=>?_⟩
 obtain⟨o,h1,h3⟩:=aM e
 refine qu F0 B F H ρ σ o _ rs h1 λv F1 H1 x1 l=>?_
 cases o with
 |obj c1 EC lT=>
  unfold i6 at h3
  dsimp only at h3
  split at h3
  ·rename_i hc
   obtain⟨rfl,oW⟩:=hc
   obtain⟨a,dx,vs,rfl,ha,hl,G1⟩:=l.obj x1.fh
   refine⟨a,dx,_,rfl,ha,IE (vs:=vs) oW,F1,_,r,x1.fh,.cons l (sj F1 H1),h3,λv F3 H3 fp x3 o nd hf=>?_⟩
   exact w v F3 H3 fp (x1.trans x3) o nd λz hz=>x1.hh.free (hf z hz)
  ·cases h3
 |_=>cases h3
end
end L3
namespace L3
open PySem PySem.Spec L2
open PyProof.Rows hiding St
inductive Out where
 |nx (ρ:Env)|rt (d:D)|bk (ρ:Env)|ct (ρ:Env)
abbrev SF:=Env->Option Out
def kE (K:aa)(cl:Nat->af)(F0 B:Hp)(ms:List Mo)(rk:Nat)(E:kd):Out->Prop
 |.nx ρ=>∀σ F H,RS K cl F0 B ms F H ρ σ->E.nx σ H
 |.bk ρ=>∀σ F H,RS K cl F0 B ms F H ρ σ->E.bk σ H
 |.ct ρ=>∀σ F H,RS K cl F0 B ms F H ρ σ->E.ct σ H
 |.rt d=>∀v F H fp,bE F0 F->bE B H->bE F H->(∀a o,B a=some o->iD o->F0 a=none->F a=none)->Ow K cl F H rk d v fp->fp.Nodup->(∀a∈fp,B a=none)->E.rt v H
section
variable (X:Cx)(ct:Nat->af)(ms:List Mo)(rk:Nat)
def XS (st:bI)(f:SF):Prop:=∃t,PS X st t/\∀(F0 B F H:Hp) (ρ:Env) (σ:St) (o:Out) (E:kd),RS X.K ct F0 B ms F H ρ σ->f ρ=some o->kE X.K ct F0 B ms rk E o->t E σ H
def pG (st:List bI)(f:SF):Prop:=∃t,oh X st t/\∀(F0 B F H:Hp) (ρ:Env) (σ:St) (o:Out) (E:kd),RS X.K ct F0 B ms F H ρ σ->f ρ=some o->kE X.K ct F0 B ms rk E o->t E σ H
end
def sSkip:SF:=λρ=>some (.nx ρ)
def sSeq (f g:SF):SF:=λρ=>(f ρ).bind λo=>match o with
 |.nx ρ'=>g ρ'
 |o=>some o
def sIf (c:BF)(f g:SF):SF:=λρ=>(c ρ).bind λb=>if b=true then f ρ else g ρ
def sSet (i:Nat)(f:EF):SF:=λρ=>(f ρ).bind λd=>some (.nx (ρ.set i (some d)))
def sRet (f:EF):SF:=λρ=>(f ρ).bind λd=>some (.rt d)
def sRetN:SF:=λ_=>some (.rt .non)
def sDrop (f:EF):SF:=λρ=>(f ρ).bind λ_=>some (.nx ρ)
def kl:SF:=λ_=>none
def n6:Nat:=2 ^ 9000
def kn (c:BF)(b:SF):Nat->SF
 |0,_=>none
 |n+1,ρ=>(c ρ).bind λt=>if t=true then(b ρ).bind λo=>match o with
   |.nx ρ'=>kn c b n ρ'
   |.ct ρ'=>kn c b n ρ'
   |.bk ρ'=>some (.nx ρ')
   |.rt d=>some (.rt d)
  else some (.nx ρ)
def oE (c:BF)(b:SF):SF:=kn c b n6
def ir (g:D->Env->Option Env)(b:SF):List D->SF
 |[],ρ=>some (.nx ρ)
 |d::ds,ρ=>(g d ρ).bind λρ1=>(b ρ1).bind λo=>match o with
   |.nx ρ'=>ir g b ds ρ'
   |.ct ρ'=>ir g b ds ρ'
   |.bk ρ'=>some (.nx ρ')
   |.rt d=>some (.rt d)
def sFor (f:Env->Option (List D))(g:D->Env->Option Env)(b:SF):SF:=λρ=>(f ρ).bind λds=>ir g b ds ρ
section
variable {X:Cx}{ct:Nat->af}{ms:List Mo}{rk n m k:Nat}{st:bI}{rest:List bI}{a b c e:Expr}{f g h:EF}{p q:BF}{u w:SF}{pos:cA}
theorem yx:pG X ct ms rk [] sSkip:=⟨_,Mx,λF0 B F H ρ σ o E rs e w=>by cases e;exact w σ F H rs⟩
theorem ze (h1:XS X ct ms rk st u)(h2:pG X ct ms rk rest w):pG X ct ms rk (st::rest) (sSeq u w):=by
 obtain⟨t,pt,qt⟩:=h1
 obtain⟨t2,mN,mQ⟩:=h2
 refine⟨_,L5 pt mN,λF0 B F H ρ σ o E rs e z=>?_⟩
 obtain⟨o1,e1,e2⟩:=aM e
 refine qt F0 B F H ρ σ o1 _ rs e1 ?_
 cases o1 with
 |nx ρ'=>exactλσ' F' H' HU=>mQ F0 B F' H' ρ' σ' o E HU e2 z
 |rt d=>cases e2;exact z
 |bk ρ'=>cases e2;exact z
 |ct ρ'=>cases e2;exact z
theorem zf (h1:XS X ct ms rk st u):pG X ct ms rk [st] u:=by
 obtain⟨t,pt,qt⟩:=h1
 exact⟨_,Fd pt,qt⟩
theorem j6:XS X ct ms rk st kl:=⟨_,Ul,λF0 B F H ρ σ o E rs e w=>by cases e⟩
theorem yn (he:XO X ct ms rk e f):XS X ct ms rk (.Return (some e) pos) (sRet f):=by
 obtain⟨t,pt,qt⟩:=he
 refine⟨_,DI pt,λF0 B F H ρ σ o E rs e w=>?_⟩
 obtain⟨d,h1,h2⟩:=aM e
 cases h2
 refine qt F0 B F H ρ σ d _ rs h1 λv F' H' fp x l nd hf=>?_
 have r:=rs.ext x
 exact w v F' H' fp r.f0 r.bh r.fh r.nf l nd λz hz=>rs.bh.free (hf z hz)
theorem wt {K7 rQ:List bI}(hc:XT X ct ms c p)(h1:pG X ct ms rk K7 u)(h2:pG X ct ms rk rQ w):XS X ct ms rk (.If c K7 rQ pos) (sIf p u w):=by
 obtain⟨t,pt,qt⟩:=hc
 obtain⟨t1,xD,xF⟩:=h1
 obtain⟨t2,mN,mQ⟩:=h2
 refine⟨_,NF pt xD mN,λF0 B F H ρ σ o E rs e z=>?_⟩
 obtain⟨x,h1,h2⟩:=aM e
 refine qt F0 B F H ρ σ x _ rs h1 λF1 H1 x1=>?_
 cases x with
 |true=>rw[if_pos rfl]at h2 ⊢;exact xF F0 B F1 H1 ρ σ o E (rs.ext x1) h2 z
 |false=>rw[if_neg aJ]at h2 ⊢;exact mQ F0 B F1 H1 ρ σ o E (rs.ext x1) h2 z
theorem RS.put {K:aa}{F0 B F H F' H':Hp}{ρ:Env}{σ:St}{i:Nat}(rs:RS K ct F0 B ms F H ρ σ)(hm:ms[i]?=some (.ow k)) :
  ∃f1 fr:List af,f1.Nodup/\(∀a∈f1,B a=none)/\(∀a∈f1,a∉fr)/\(∀d,ρ[i]?=some (some d)->∃v,σ[i]?=some (some v)/\Ow K ct F H k d v f1)/\(∀a∈fr,F a=none/\∃o,H a=some o/\iD o) /\
   ∀(F' H':Hp) (d':D) (v':V) (f':List af),bE F F'->bE B H'->bE F' H'->(∀a o,B a=some o->iD o->F0 a=none->F' a=none)->(∀a∈fr,H' a=H a/\F' a=none)->Ow K ct F' H' k d' v' f'->f'.Nodup->(∀a∈f',a∉fr)->(∀a∈f',B a=none) ->
    RS K ct F0 B ms F' H' (ρ.set i (some d')) (σ.set i (some v')):=by
 obtain⟨fp,sl,nd,hb⟩:=rs.sl
 obtain⟨f1,fr,i1,i2,i3,i4,i5⟩:=sl.put hm
 obtain⟨n1,n2,n3⟩:=i3 nd
 refine⟨f1,fr,n1,λa z=>hb a (i1 a z),n3,i4,λa z=>sl.cells a (i2 a z),λF' H' d' v' f' s1 s2 s3 s4 kf o P1 dj Bu=>?_⟩
 obtain⟨gr,q1,q2,q3⟩:=i5 F' H' d' v' f' s1 kf o
 exact⟨rs.f0.trans s1,s2,s3,s4,gr,q1,q3 P1 n2 dj,λa z=>(q2 a z).elim (Bu a) λz=>hb a (i2 a z)⟩
theorem RS.set {K:aa}{F0 B F H F' H':Hp}{ρ:Env}{σ:St}{i:Nat}{d:D}{v:V}{fp:List af}(rs:RS K ct F0 B ms F H ρ σ)(hm:ms[i]?=some (.ow k))(x:eY F H F' H')(o:Ow K ct F' H' k d v fp)(nd:fp.Nodup)(hf:∀a∈fp,H a=none) :
  RS K ct F0 B ms F' H' (ρ.set i (some d)) (σ.set i (some v)):=by
 have r:=rs.ext x
 obtain⟨f1,fr,n1,b1,n3,i4,cf,put⟩:=rs.put (F':=F') (H':=H') hm
 refine put F' H' d v fp x.ff r.bh x.fh r.nf (λa z=>?_) o nd (λa z zb=>?_) λa z=>rs.bh.free (hf a z)
 ·obtain⟨hn,o,ho,nt⟩:=cf a z
  exact⟨(x.hh _ _ ho).trans ho.symm,x.nf a o ho nt hn⟩
 ·obtain⟨hn,o,ho,nt⟩:=cf a zb
  rw[hf a z]at ho
  cases ho
theorem XQ {i:Nat}{x:aI}{pos':cA}(hm:ms[i]?=some (.ow k))(hN:X.N.Nodup)(hi:X.N[i]?=some x)(hx:Loc X.env.scope x)(he:XO X ct ms k e f)(hs:dO e (some (.Name x pos')) pos.line X.env=pure false:=by rfl)
  (hf:X.fn x=true\/X.env.scope.names.lookup x=some .local:=by first|exact .inl rfl|exact .inr rfl|assumption):XS X ct ms rk (.Assign [.Name x pos'] e pos) (sSet i f):=by
 obtain⟨t,pt,qt⟩:=he
 refine⟨_,Jl hN hi hx pt hs hf,λF0 B F H ρ σ o E rs e w=>?_⟩
 obtain⟨d,h1,h2⟩:=aM e
 cases h2
 exact qt F0 B F H ρ σ d _ rs h1 λv F' H' fp x l nd hf=>w _ F' H' (rs.set hm x l nd hf)
theorem U0 (hc:XT X ct ms c p)(hb:pG X ct ms rk rest u)(hp:cM (aZ X.prog X.w) X.A X.env X.xe):XS X ct ms rk (.While c rest [] pos) (oE p u):=by
 obtain⟨t,pt,qt⟩:=hc
 obtain⟨t1,xD,xF⟩:=hb
 refine⟨_,Um hp pt xD,λF0 B F H ρ σ o E rs e z=>?_⟩
 refine⟨λm σ H=>∃F ρ,RS X.K ct F0 B ms F H ρ σ/\kn p u m ρ=some o,⟨n6,F,ρ,rs,e⟩,?_⟩
 rintro m σ H ⟨F,ρ,rs,e⟩
 cases m with
 |zero=>cases e
 |succ m=>
  obtain⟨x,h1,h2⟩:=aM e
  refine qt F0 B F H ρ σ x _ rs h1 λF1 H1 x1=>?_
  cases x with
  |true=>
   rw[if_pos rfl]at h2 ⊢
   obtain⟨o1,h3,h4⟩:=aM h2
   refine⟨λσ H=>∃F ρ,RS X.K ct F0 B ms F H ρ σ/\kn p u m ρ=some o,λσ' H' h=>⟨m,fI m,h⟩,?_⟩
   refine xF F0 B F1 H1 ρ σ o1 _ (rs.ext x1) h3 ?_
   cases o1 with
   |nx ρ'=>exactλσ' F' H' r=>⟨F',ρ',r,h4⟩
   |ct ρ'=>exactλσ' F' H' r=>⟨F',ρ',r,h4⟩
   |bk ρ'=>cases h4;exact z
   |rt d=>cases h4;exact z
  |false=>
   rw[if_neg aJ]at h2 ⊢
   cases h2
   exact z σ F1 H1 (rs.ext x1)
theorem RS.re {K:aa}{F0 B F H:Hp}{ρ:Env}{σ:St}(r:RS K ct F0 B ms F H ρ σ):RS K ct F B ms F H ρ σ:=⟨.refl _,r.bh,r.fh,λ_ _ _ _ h=>h,r.sl⟩
theorem RS.back {K:aa}{F0 B F H F' H':Hp}{ρ ρ':Env}{σ σ':St}(r:RS K ct F0 B ms F H ρ σ)(q:RS K ct F B ms F' H' ρ' σ'):RS K ct F0 B ms F' H' ρ' σ' :=
 ⟨r.f0.trans q.f0,q.bh,q.fh,λa o h t n=>q.nf a o h t (r.nf a o h t n),q.sl⟩
theorem kE.re {K:aa}{F0 B F H:Hp}{ρ:Env}{σ:St}{E:kd}{o:Out}(r:RS K ct F0 B ms F H ρ σ)(z:kE K ct F0 B ms rk E o):kE K ct F B ms rk E o:=by
 cases o with
 |nx ρ=>exactλσ' F' H' q=>z σ' F' H' (r.back q)
 |bk ρ=>exactλσ' F' H' q=>z σ' F' H' (r.back q)
 |ct ρ=>exactλσ' F' H' q=>z σ' F' H' (r.back q)
 |rt d=>exactλv F' H' fp s1 s2 s3 s4=>z v F' H' fp (r.f0.trans s1) s2 s3 λa o h t n=>s4 a o h t (r.nf a o h t n)
def qH (K:aa)(ct:Nat->af)(F B:Hp)(n:Nat)(J:It)(ds:List D):Prop :=
 ∀(i:Nat) (F' H':Hp),bE F F'->bE B H'->bE F' H'->(∀d,ds[i]?=some d->J.go i H'/\∀x H2,J.yld i H' x H2->∃F2,eY F' H' F2 H2/\Al K ct F2 B n d x)/\(ds.length<=i->J.stop i H')
def XI (X:Cx)(ct:Nat->af)(ms:List Mo)(n:Nat)(tg iter:Expr)(f:Env->Option (List D)):Prop:=∃wi,PI X tg iter wi/\∀(F0 B F H:Hp) (ρ:Env) (σ:St) (ds:List D) (R:It->Hp->Prop),RS X.K ct F0 B ms F H ρ σ->f ρ=some ds ->
 (∀J F' H',eY F H F' H'->qH X.K ct F' B n J ds->R J H')->wi σ H R
def tw (X:Cx)(ct:Nat->af)(ms:List Mo)(n:Nat)(tg iter:Expr)(f:Env->Option (List D)):Prop:=∃wi,PI X tg iter wi/\∀(F0 B F H:Hp) (ρ:Env) (σ:St) (ds:List D) (R:It->Hp->Prop),RS X.K ct F0 B ms F H ρ σ->f ρ=some ds ->
 (∀J F' H',eY F H F' H'->qH X.K ct F' H' n J ds->R J H')->wi σ H R
def XG (X:Cx)(ct:Nat->af)(ms:List Mo)(n:Nat)(tg:Expr)(g:D->Env->Option Env):Prop:=∃t,PG X tg t/\∀(F0 B F H:Hp) (ρ ρ':Env) (σ:St) (d:D) (v:V) (Q:St->Hp->Prop),RS X.K ct F0 B ms F H ρ σ->Al X.K ct F B n d v->g d ρ=some ρ' ->
 (∀σ',RS X.K ct F0 B ms F H ρ' σ'->Q σ' H)->t v σ H Q
theorem uv {tg iter:Expr}{fi:Env->Option (List D)}{gg:D->Env->Option Env}(hi:XI X ct ms n tg iter fi)(hg:XG X ct ms n tg gg)(hb:pG X ct ms rk rest u)(hp:cM (aZ X.prog X.w) X.A X.env X.xe)(hc:X.calm=true)
  (hs:∀x,cQ iter X.env x=pure x:=by intro _;rfl):XS X ct ms rk (.For tg iter rest [] pos) (sFor fi gg u):=by
 obtain⟨wi,pi,qi⟩:=hi
 obtain⟨Ld,pg,qg⟩:=hg
 obtain⟨t1,xD,xF⟩:=hb
 refine⟨_,Np hp hc pi pg xD hs,λF0 B F H ρ σ o E rs e z=>?_⟩
 obtain⟨ds,h1,h2⟩:=aM e
 refine qi F0 B F H ρ σ ds _ rs h1 λJ F1 H1 x1 ok=>?_
 refine⟨λi m σ H=>m=ds.length-i/\i<=ds.length/\∃F ρ,bE F1 F/\RS X.K ct F0 B ms F H ρ σ/\ir gg u (ds.drop i) ρ=some o,⟨ds.length,rfl,cZ _,F1,ρ,.refl _,rs.ext x1,h2⟩,?_⟩
 rintro i m σ H ⟨rfl,yK,F,ρ,s1,rs,e⟩
 obtain⟨k1,k2⟩:=ok i F H s1 rs.bh rs.fh
 by_cases kh:i<ds.length
 ·right
  have hd:ds[i]?=some ds[i]:=by simp[kh]
  obtain⟨go,yl⟩:=k1 _ hd
  rw[gD kh]at e
  obtain⟨ρ1,h3,h4⟩:=aM e
  obtain⟨o1,h5,h6⟩:=aM h4
  refine⟨go,λσ H=>i+1<=ds.length/\∃F ρ,bE F1 F/\RS X.K ct F0 B ms F H ρ σ/\ir gg u (ds.drop (i+1)) ρ=some o,λσ' H' h=>⟨ds.length-(i+1),by omega,rfl,h⟩,λx H2 y=>?_⟩
  obtain⟨F2,x2,l⟩:=yl x H2 y
  refine qg F0 B F2 H2 ρ ρ1 σ _ x _ (rs.ext x2) l h3 λσ' r=>?_
  have s2:=s1.trans x2.ff
  refine xF F2 B F2 H2 ρ1 σ' o1 _ r.re h5 ?_
  cases o1 with
  |nx ρ'=>exactλσ' F' H' q=>⟨kh,F',ρ',s2.trans q.f0,r.back q,h6⟩
  |ct ρ'=>exactλσ' F' H' q=>⟨kh,F',ρ',s2.trans q.f0,r.back q,h6⟩
  |bk ρ'=>cases h6;exactλσ' F' H' q=>z σ' F' H' (r.back q)
  |rt d=>cases h6;exact kE.re (o:=.rt d) r z
 ·left
  refine⟨k2 (by omega),?_⟩
  have:ds.drop i=[]:=ip (by omega)
  rw[this]at e
  cases e
  exact z σ F H rs
def gV (i:Nat):D->Env->Option Env:=λd ρ=>some (ρ.set i (some d))
theorem Wi {i:Nat}{x:aI}(hm:ms[i]?=some (.ow 0))(hN:X.N.Nodup)(hi:X.N[i]?=some x)(hx:Loc X.env.scope x)
  (hf:X.fn x=true\/X.env.scope.names.lookup x=some .local:=by first|exact .inl rfl|exact .inr rfl|assumption):XG X ct ms 0 (.Name x pos) (gV i):=by
 refine⟨_,Fe hN hi hx hf,λF0 B F H ρ ρ' σ d v Q rs l e w=>?_⟩
 cases e
 exact w _ (rs.set hm (.refl rs.fh) (Ow.zero l) bx λa z=>(by cases z))
theorem SL.setA {K:aa}{F B H:Hp}{d:D}{v:V}(l:Al K ct F B n d v){ms:List Mo}{ρ:Env}{σ:St}{fp:List af}{i:Nat}(h0:SL K ct F B H ms ρ σ fp):ms[i]?=some (.al n)->SL K ct F B H ms (ρ.set i (some d)) (σ.set i (some v)) fp:=by
 induction h0 generalizing i with
 |nil=>
  intro e
  simp at e
 |@no m0 o0 ms ρ σ fp t ih=>
  intro e
  cases i with
  |zero=>
   simp at e;subst e;exact .al l t
  |succ i=>
   exact .no (ih (by simpa using e))
 |@al n0 d0 v0 ms ρ σ fp h t ih=>
  intro e
  cases i with
  |zero=>
   simp at e;subst e;exact .al l t
  |succ i=>
   exact .al h (ih (by simpa using e))
 |@px d0 v0 ms ρ σ fp h t ih=>
  intro e
  cases i with
  |zero=>
   simp at e
  |succ i=>
   exact .px h (ih (by simpa using e))
 |@so d0 x0 ms ρ σ Bq h t ih=>
  intro e
  cases i with
  |zero=>
   simp at e
  |succ i=>
   exact .so h (ih (by simpa using e))
 |@ow n0 d0 v0 ms ρ σ f0 Bq h t ih=>
  intro e
  cases i with
  |zero=>
   simp at e
  |succ i=>
   exact .ow h (ih (by simpa using e))
def DZ (X:Cx)(ct:Nat->af)(ms:List Mo)(n:Nat)(jO:List Expr)(g:List D->Env->Option Env):Prop:=∃t,yE X jO t/\(∀ds ρ ρ',g ds ρ=some ρ'->ds.length=jO.length)/\∀(F0 B F H:Hp) (ρ ρ':Env) (σ:St) (ds:List D) (vs:List V) (Q:St->Hp->Prop),RS X.K ct F0 B ms F H ρ σ->Pr (Al X.K ct F B n) ds vs->g ds ρ=some ρ' ->
 (∀σ',RS X.K ct F0 B ms F H ρ' σ'->Q σ' H)->t vs σ H Q
def gsNil:List D->Env->Option Env:=λds ρ=>match ds with
 |[]=>some ρ
 |_=>none
def gsCons (g:D->Env->Option Env)(gs:List D->Env->Option Env):List D->Env->Option Env:=λds ρ=>match ds with
 |d::ds=>(g d ρ).bind λρ'=>gs ds ρ'
 |[]=>none
theorem Fa:DZ X ct ms n [] gsNil:=by
 refine⟨_,MA,λds ρ ρ' e=>?_,λF0 B F H ρ ρ' σ ds vs Q rs l e w=>?_⟩
 ·cases ds with
  |nil=>rfl
  |cons d ds=>cases e
 ·cases l with
  |nil=>cases e;exact⟨rfl,w σ rs⟩
  |cons _ _=>cases e
theorem w6 {tg:Expr}{jO:List Expr}{gg:D->Env->Option Env}{gs:List D->Env->Option Env}(h1:XG X ct ms n tg gg)(h2:DZ X ct ms n jO gs)
  (hs:(cF (tg::jO) X.env).map (·.2)=eW tg X.env::(cF jO X.env).map (·.2):=by rfl):DZ X ct ms n (tg::jO) (gsCons gg gs):=by
 obtain⟨t,pt,qt⟩:=h1
 obtain⟨t2,mN,HH,mQ⟩:=h2
 refine⟨_,L6 pt mN hs,λds ρ ρ' e=>?_,λF0 B F H ρ ρ' σ ds vs Q rs l e w=>?_⟩
 ·cases ds with
  |nil=>cases e
  |cons d ds=>
   obtain⟨ρ1,h3,h4⟩:=aM e
   rw[az,az,HH _ _ _ h4]
 ·cases l with
  |nil=>cases e
  |cons h t=>
   obtain⟨ρ1,h3,h4⟩:=aM e
   exact⟨_,_,rfl,qt F0 B F H ρ ρ1 σ _ _ _ rs h h3 λσ1 r1=>mQ F0 B F H ρ1 ρ' σ1 _ _ _ r1 t h4 w⟩
def gT (gs:List D->Env->Option Env):D->Env->Option Env:=λd ρ=>match d with
 |.tup ds=>gs ds ρ
 |_=>none
theorem Fx {jO:List Expr}{j:Nat}{gs:List D->Env->Option Env}(hc:X.calm=true)(h:DZ X ct ms (n-1) jO gs)(hl:(cF jO X.env).length=jO.length:=by rfl)(nE:(cF jO X.env).findIdx? (·.1)=none:=by rfl):XG X ct ms n (.Tuple jO j pos) (gT gs):=by
 obtain⟨t,pt,lt,qt⟩:=h
 refine⟨_,Nm (n:=jO.length) hc pt hl nE,λF0 B F H ρ ρ' σ d v Q rs l e w=>?_⟩
 cases d with
 |tup ds=>
  have l':Al X.K ct F H n (.tup ds) v:=l.mono (.refl _) rs.bh
  have:∃a vs,v=.ref a/\jU X.K H a vs/\Pr (Al X.K ct F B (n-1)) ds vs:=by
   cases n with
   |zero=>
    have l:Dt X.K ct F (.tup ds) v:=l
    cases l with
    |tup q t=>exact⟨_,_,rfl,jU.of (rs.fh _ _ q),t.pr⟩
   |succ n=>
    rcases l with l|l
    ·cases l with
     |tup q t=>exact⟨_,_,rfl,jU.of (rs.fh _ _ q),t.pr.mono λ_ _=>Al.of⟩
    ·cases l with
     |tup q t=>exact⟨_,_,rfl,jU.of (rs.fh _ _ q),t⟩
  obtain⟨a,vs,rfl,ha,hp⟩:=this
  exact⟨a,vs,rfl,ha,hp.length.symm.trans (lt _ _ _ e),qt F0 B F H ρ ρ' σ ds vs Q rs hp e w⟩
 |_=>cases e
def startD (N:List aI)(ds:List D):Env:=ds.map some++av (N.length-ds.length) none
def mOf (N:List aI)(b:SF)(ds:List D):Option D:=(b (startD N ds)).bind λo=>match o with
 |.rt d=>some d
 |.nx _=>some .non
 |_=>none
theorem SL.start {K:aa}{F B H:Hp}:∀{pm:List Nat} {ds:List D} {vs:List V} {ms:List Mo} (j:Nat),i8 K ct F B pm ds vs->(∀(i n:Nat),pm[i]?=some n->ms[i]?=some (Mo.al n)\/(n=0/\ms[i]?=some (Mo.ow 0)))->ms.length=pm.length+j ->
  SL K ct F B H ms (ds.map some++av j none) (vs.map some++av j none) []
 |_,_,_,ms,j,.nil,_,hl=>by
  have:∀(j:Nat) (ms:List Mo),ms.length=j->SL K ct F B H ms (av j none) (av j none) []:=by
   intro j
   induction j with
   |zero=>intro ms h;cases ms with
    |nil=>exact .nil
    |cons _ _=>simp at h
   |succ j ih=>intro ms h;cases ms with
    |nil=>simp at h
    |cons m ms=>exact .no (ih ms (by simpa using h))
  simpa using this j ms (by simpa using hl)
 |_,_,_,[],j,.cons h t,_,hl=>by simp at hl;omega
 |_,_,_,m::ms,j,.cons (n:=n) h t,hm,hl=>by
  have ih:=SL.start (ms:=ms) (H:=H) j t (λi n e=>by simpa using hm (i+1) n (by simpa using e)) (by simp at hl;omega)
  rcases hm 0 n rfl with e|⟨rfl,e⟩
  ·simp at e;subst e;exact .al h ih
  ·simp at e;subst e;exact SL.ow (f:=[]) (Ow.zero h) ih
structure Fun2 (K:aa)(x qual:aI)(st:bI)(f:af)(fd:aF):Prop where
 ex:∃(oc:ae) (od:Option af) (dV kV doc pm:ae) (an:Option af) (gz ct:ae) (wX:Array (Option ae)),
  fd=fO x qual (lc st) (fT st) (aV st) dV kV doc pm an gz ct/\K.lookup f=some ⟨oc,od,.func fd,wX⟩/\aA K gz qual=true
 kp:ap K (.ref f)=true
theorem Fun2.ok {P:aX}{w:bz}{K:aa}{mg:aI->Option ae}{base:aS}{x qual:aI}{st:bI}{f:af}{fd:aF}{N ps:List aI}{k:Nat}{sp:Sp}(F:Fun2 K x qual st f fd)(S:bA N ps (aV st))(len:∀vs H Q E,sp vs H Q E->vs.length=ps.length)
    (qO:∀(gz:ae) (A:bq) (outer:List PySem.Env) (s:ak) (H:Hp) (vs:List V) (Q:VK) (E:XK),dY k (A.deeper (envOfC qual (aV st) s.heap.objs.size f gz))->sp vs H Q E ->
      ∃t,oh (lS eF P w K mg base N qual (aV st) f gz A outer s H E).nox (fT st) t/\t { nx:=λ_ H'=>Q .non H',rt:=Q } (L2.start N vs) H):cH P w K mg base eF (k+1) f fd ps sp:=by
  obtain⟨oc,od,dV,kV,doc,pm,an,gz,ct,wX,rfl,lk,gG⟩:=F.ex
  refine YC lk gG S len λA outer s H vs Q E hr tO=>?_
  obtain⟨t,h,q⟩:=qO gz A outer s H vs Q E hr tO
  exact⟨t,h.nox,q⟩
theorem lift {P:aX}{w:bz}{K:aa}{mg:aI->Option ae}{base:aS}{x qual:aI}{st:bI}{fa:af}{fd:aF}{N ps:List aI}{kk:Nat}{pm:List Nat}{bf:SF}(Fn:Fun2 K x qual st fa fd)(S:bA N ps (aV st))(wF:pm.length=ps.length)(yL:ms.length=N.length)(pJ:ps.length<=N.length)
  (BE:∀(i n:Nat),pm[i]?=some n->ms[i]?=some (Mo.al n)\/(n=0/\ms[i]?=some (Mo.ow 0)))
  (body:∀(gz:ae) (A:bq) (outer:List PySem.Env) (s:ak) (H:Hp) (E:XK),dY kk (A.deeper (envOfC qual (aV st) s.heap.objs.size fa gz))->pG (lS eF P w K mg base N qual (aV st) fa gz A outer s H E).nox ct ms rk (fT st) bf) :
  cH P w K mg base eF (kk+1) fa fd ps (gL K ct pm rk (mOf N bf)):=by
 refine Fn.ok S (gL.len wF) λgz A outer s H vs Q E hr h=>?_
 obtain⟨F,ds,d,sF,l,hm,q⟩:=h
 obtain⟨t,pt,qt⟩:=body gz A outer s H E hr
 refine⟨t,pt,?_⟩
 obtain⟨o,h1,h2⟩:=aM hm
 have Y7:vs.length=pm.length:=l.length
 have By:ds.length=vs.length:=l.length'
 refine qt F H F H (startD N ds) (L2.start N vs) o _ ⟨.refl _,.refl _,sF,λ_ _ _ _ h=>h,[],?_,bx,λa z=>(by cases z)⟩ h1 ?_
 ·unfold startD L2.start
  rw[By]
  exact SL.start _ l BE (by omega)
 ·cases o with
  |nx ρ=>
   cases h2
   exactλσ F' H' r=>q .non F' H' [] ⟨r.f0,r.bh,r.fh,r.nf⟩ (Ow.scal .non rfl) bx λa z=>(by cases z)
  |rt d'=>
   cases h2
   exactλv F' H' fp s1 s2 s3 s4 o nd hf=>q v F' H' fp ⟨s1,s2,s3,s4⟩ o nd hf
  |bk ρ=>cases h2
  |ct ρ=>cases h2
end
end L3
namespace L3
open PySem PySem.Spec L2
open PyProof.Rows hiding St
theorem fJ.or {X:Cx}{f:ae->ae->ik ae}{r r':R2}(h:fJ X f r)(h':fJ X f r'):fJ X f (λx y H Q=>r x y H Q\/r' x y H Q) :=
 λaj s σ H x y v u Q I rx ry q=>q.elim (h aj s σ H x y v u Q I rx ry) (h' aj s σ H x y v u Q I rx ry)
section
variable {K:aa}{ct:Nat->af}{n m k:Nat}
def i2 (g:Int->Int->D):D->D->Option D
 |.int i,.int j=>some (g i j)
 |_,_=>none
def qX (C:Int->Int->Prop)[∀i j,Decidable (C i j)](g:Int->Int->D):D->D->Option D
 |.int i,.int j=>if C i j then some (g i j)else none
 |_,_=>none
theorem FA {g:Int->Int->D}{gv:Int->Int->V}(hg:∀i j F,Dt K ct F (g i j) (gv i j)):lu K ct n m k (nU gv) (i2 g):=by
 intro F H x y d1 d2 d Q s l1 l2 e w
 cases d1 with
 |int i=>
  cases d2 with
  |int j=>cases e;exact⟨i,j,l1.int,l2.int,w _ F H (.refl s) (Al.of (hg i j F))⟩
  |_=>cases e
 |_=>cases e
theorem Fy {C C':Int->Int->Prop}[∀i j,Decidable (C i j)]{g:Int->Int->D}{gv:Int->Int->V}(hC:∀i j,C i j->C' i j)(hg:∀i j F,Dt K ct F (g i j) (gv i j)):lu K ct n m k (rI C' gv) (qX C g):=by
 intro F H x y d1 d2 d Q s l1 l2 e w
 cases d1 with
 |int i=>
  cases d2 with
  |int j=>
   unfold qX at e
   dsimp only at e
   by_cases h:C i j
   ·rw[if_pos h]at e;cases e;exact⟨i,j,l1.int,l2.int,hC i j h,w _ F H (.refl s) (Al.of (hg i j F))⟩
   ·rw[if_neg h]at e;cases e
  |_=>cases e
 |_=>cases e
def JB:Nat:=2 ^ 9000
def zG:Nat:=2 ^ 100000
def gN:D->D->Option D:=i2 λi j=>.int (i-j)
theorem wj:lu K ct n m k (nU λi j=>.int (i-j)) gN:=FA λ_ _ _=>.int _
def kI (i j:Int):Prop:=(-18446744073709551616<i/\i<18446744073709551616)\/(-18446744073709551616<j/\j<18446744073709551616)\/(i.natAbs<zG/\j.natAbs<zG)
instance (i j:Int):Decidable (kI i j):=by unfold kI;infer_instance
def eO:D->D->Option D:=qX kI λi j=>.int (i*j)
theorem kI.ok {i j:Int}(h:kI i j):lY i j:=by
 rcases h with h|h|h
 ·exact .inl (.inl ⟨by have:=h.1;omega,by have:=h.2;omega⟩)
 ·exact .inl (.inr ⟨by have:=h.1;omega,by have:=h.2;omega⟩)
 ·exact .inr h
theorem Wj:lu K ct n m k (rI lY λi j=>.int (i*j)) eO:=Fy (λ_ _=>kI.ok) λ_ _ _=>.int _
def D.v:D->V
 |.bl b=>.bl b
 |.int i=>.int i
 |.str x=>.str x
 |_=>.non
theorem Dt.v {F:Hp}{d:D}{v:V}(h:Dt K ct F d v)(hs:d.sc=true):v=d.v:=by
 cases h<;>first|rfl|cases hs
theorem Al.v {F G:Hp}{d:D}{v:V}(h:Al K ct F G n d v)(hs:d.sc=true):v=d.v:=Dt.v (Al.scal (F':=F) h hs) hs
theorem D.flat {d:D}(hs:d.sc=true):jB d.v=true:=by cases d<;>first|rfl|cases hs
theorem Pr.vs {F G:Hp}:∀{ds:List D} {vs:List V},Pr (Al K ct F G n) ds vs->ds.all D.sc=true->vs=ds.map D.v
 |_,_,.nil,_=>rfl
 |d::ds,v::vs,.cons h t,e=>by
  rw[eA,bO]at e
  rw[br,Al.v h e.1,Pr.vs t e.2]
def d4:D->D->Option D
 |.int i,.int j=>if 0<j/\j<4611686018427387904 then some (.int (i/j))else if j≠0/\j.natAbs<JB then some (.int (i.fdiv j))else none
 |_,_=>none
theorem wf:lu K ct n m k (rI (λ_ j=>j≠0/\Sz 9000 j) λi j=>.int (i.fdiv j)) d4:=by
 intro F H x y d1 d2 d Q s l1 l2 e w
 cases d1 with
 |int i=>
  cases d2 with
  |int j=>
   unfold d4 at e
   dsimp only at e
   by_cases h:0<j/\j<4611686018427387904
   ·rw[if_pos h]at e
    cases e
    refine⟨i,j,l1.int,l2.int,⟨by omega,?_⟩,?_⟩
    ·have:Sz 62 j:=by unfold Sz;omega
     exact this.mono (by decide)
    ·show Q (.int (i.fdiv j)) H
     rw[lX i (by omega)]
     exact w _ F H (.refl s) (Al.of (.int _))
   ·rw[if_neg h]at e
    by_cases h:j≠0/\j.natAbs<JB
    ·rw[if_pos h]at e
     cases e
     exact⟨i,j,l1.int,l2.int,h,w _ F H (.refl s) (Al.of (.int _))⟩
    ·rw[if_neg h]at e;cases e
  |_=>cases e
 |_=>cases e
def dP:D->D->Option D
 |.int i,.int j=>if 0<j then some (.int (i%j))else if j≠0 then some (.int (i.fmod j))else none
 |_,_=>none
theorem xk:lu K ct n m k (rI (λ_ j=>j≠0) λi j=>.int (i.fmod j)) dP:=by
 intro F H x y d1 d2 d Q s l1 l2 e w
 cases d1 with
 |int i=>
  cases d2 with
  |int j=>
   unfold dP at e
   dsimp only at e
   by_cases h:0<j
   ·rw[if_pos h]at e
    cases e
    refine⟨i,j,l1.int,l2.int,by omega,?_⟩
    show Q (.int (i.fmod j)) H
    rw[Int.fmod_eq_emod_of_nonneg i (by omega)]
    exact w _ F H (.refl s) (Al.of (.int _))
   ·rw[if_neg h]at e
    by_cases h:j≠0
    ·rw[if_pos h]at e
     cases e
     exact⟨i,j,l1.int,l2.int,h,w _ F H (.refl s) (Al.of (.int _))⟩
    ·rw[if_neg h]at e;cases e
  |_=>cases e
 |_=>cases e
def mw (i j:Int):Prop:=0<=j/\j<=1000000/\i.natAbs<18446744073709551616
instance (i j:Int):Decidable (mw i j):=by unfold mw;infer_instance
def gh:D->D->Option D:=qX mw λi j=>.int (i ^ j.toNat)
theorem v7:lu K ct n m k (rI rS λi j=>.int (i ^ j.toNat)) gh:=Fy (λ_ _ h=>⟨h.1,h.2.1,by have:=h.2.2;omega⟩) λ_ _ _=>.int _
def sL:D->D->Option D:=qX mw λi j=>.int (i*2 ^ j.toNat)
theorem Wk:lu K ct n m k (rI rS λi j=>.int (i*2 ^ j.toNat)) sL:=Fy (λ_ _ h=>⟨h.1,h.2.1,by have:=h.2.2;omega⟩) λ_ _ _=>.int _
def pM:D->D->Option D:=qX (λ_ j=>0<=j) λi j=>.int (i/2 ^ j.toNat)
theorem MU:lu K ct n m k (rI (λ_ j=>0<=j) λi j=>.int (i/2 ^ j.toNat)) pM:=Fy (λ_ _ h=>h) λ_ _ _=>.int _
def qC:D->D->Option D:=i2 λi j=>.bl (decide (i<j))
def pI:D->D->Option D:=i2 λi j=>.bl (decide (j<i))
def GO:D->D->Option D:=i2 λi j=>.bl (decide (j<=i))
theorem xV:lu K ct n m k (nU λi j=>.bl (decide (i<j))) qC:=FA λ_ _ _=>.bl _
theorem uB:lu K ct n m k (nU λi j=>.bl (decide (j<i))) pI:=FA λ_ _ _=>.bl _
theorem XR:lu K ct n m k (nU λi j=>.bl (decide (j<=i))) GO:=FA λ_ _ _=>.bl _
def xI:R2:=λx y H Q=>∃i j,x=.str i/\y=.str j/\Q (.bl (!(decide (j.cps.toList<i.cps.toList)))) H
theorem XU {X:Cx}:fJ X (cD .LtE) xI:=by
 intro aj s σ H x y v u Q I rx ry h
 obtain⟨i,j,rfl,rfl,q⟩:=h
 obtain⟨t,rfl⟩:=rx
 obtain⟨t',rfl⟩:=ry
 exact PySem.P.le_str ⟨.bl _,H,I,rfl,q⟩
def tT:D->D->Option D
 |.int i,.int j=>some (.bl (decide (i<=j)))
 |.str i,.str j=>some (.bl (!(decide (j.cps.toList<i.cps.toList))))
 |_,_=>none
theorem qv:lu K ct n m k (λx y H Q=>nU (λi j=>.bl (decide (i<=j))) x y H Q\/xI x y H Q) tT:=by
 intro F H x y d1 d2 d Q s l1 l2 e w
 cases d1 with
 |int i=>
  cases d2 with
  |int j=>cases e;exact .inl ⟨i,j,l1.int,l2.int,w _ F H (.refl s) (Al.of (.bl _))⟩
  |_=>cases e
 |str i=>
  cases d2 with
  |str j=>cases e;exact .inr ⟨i,j,l1.str,l2.str,w _ F H (.refl s) (Al.of (.bl _))⟩
  |_=>cases e
 |_=>cases e
theorem yW {X:Cx}:fJ X (cD .LtE) (λx y H Q=>nU (λi j=>.bl (decide (i<=j))) x y H Q\/xI x y H Q):=fJ.or YA XU
def D.isN:D->Bool
 |.non=>true
 |_=>false
def D.isB (b:Bool):D->Bool
 |.bl c=>c==b
 |_=>false
def oX (neg:Bool):D->D->Option D
 |d,.non=>some (.bl (if neg then !d.isN else d.isN))
 |d,.bl b=>some (.bl (if neg then !d.isB b else d.isB b))
 |_,_=>none
theorem Al.ref {F G:Hp}{d:D}{v:V}(h:Al K ct F G n d v)(hs:d.sc=false):∃a,v=.ref a:=by
 cases n with
 |zero=>cases(show Dt K ct F d v from h)<;>first|cases hs;done|exact⟨_,rfl⟩
 |succ n=>rcases h with h|h<;>cases h<;>first|cases hs;done|exact⟨_,rfl⟩
theorem Al.isn {F G:Hp}{d:D}{v:V}(h:Al K ct F G n d v):decide (v=.non)=d.isN:=by
 cases hs:d.sc with
 |true=>
  have:=Al.v h hs
  subst this
  cases d<;>first|rfl|cases hs
 |false=>
  obtain⟨a,rfl⟩:=h.ref hs
  cases d<;>first|rfl|cases hs
theorem Al.isb {F G:Hp}{d:D}{v:V}{b:Bool}(h:Al K ct F G n d v):decide (v=.bl b)=d.isB b:=by
 cases hs:d.sc with
 |true=>
  have:=Al.v h hs
  subst this
  cases d<;>first|rfl|(cases hs;done)|(rename_i c;cases b<;>cases c<;>rfl)
 |false=>
  obtain⟨a,rfl⟩:=h.ref hs
  cases d<;>first|rfl|cases hs
def K5:R2:=λx y H Q=>(y=.non/\Q (.bl (decide (x=.non))) H)\/∃b,y=.bl b/\Q (.bl (decide (x=.bl b))) H
def rA:R2:=λx y H Q=>(y=.non/\Q (.bl (!decide (x=.non))) H)\/∃b,y=.bl b/\Q (.bl (!decide (x=.bl b))) H
theorem DS {X:Cx}:fJ X (cD .Is) K5:=fJ.or Xj W1
theorem Mj {X:Cx}:fJ X (cD .IsNot) rA:=fJ.or VE T6
theorem DN:lu K ct n m k K5 (oX false):=by
 intro F H x y d1 d2 d Q s l1 l2 e w
 cases d2 with
 |non=>
  cases e
  refine .inl ⟨l2.non,?_⟩
  rw[l1.isn]
  exact w _ F H (.refl s) (Al.of (.bl _))
 |bl b=>
  cases e
  refine .inr ⟨b,l2.bl,?_⟩
  rw[l1.isb]
  exact w _ F H (.refl s) (Al.of (.bl _))
 |_=>cases e
theorem LU:lu K ct n m k rA (oX true):=by
 intro F H x y d1 d2 d Q s l1 l2 e w
 cases d2 with
 |non=>
  cases e
  refine .inl ⟨l2.non,?_⟩
  rw[l1.isn]
  exact w _ F H (.refl s) (Al.of (.bl _))
 |bl b=>
  cases e
  refine .inr ⟨b,l2.bl,?_⟩
  rw[l1.isb]
  exact w _ F H (.refl s) (Al.of (.bl _))
 |_=>cases e
mutual
def D.py:D->Option bM
 |.non=>some .none
 |.bl b=>some (.bool b)
 |.int i=>some (.int i)
 |.str x=>some (.str x)
 |.lst xs=>(D.pys xs).bind λys=>some (.list ys)
 |.tup xs=>(D.pys xs).bind λys=>some (.tuple ys)
 |_=>none
def D.pys:List D->Option (List bM)
 |[]=>some []
 |d::ds=>(D.py d).bind λx=>(D.pys ds).bind λxs=>some (x::xs)
end
theorem Dt.toPy {F H:Hp}(s:bE F H){d:D}{v:V}{e:bM}(h:Dt K ct F d v)(q:d.py=some e):L2.Dt K H v e:=by
 refine Dt.rec (motive_1:=λd v _=>∀e,d.py=some e->L2.Dt K H v e) (motive_2:=λds vs _=>∀es,D.pys ds=some es->L2.Dts K H vs es) ?_ ?_ ?_ ?_ ?_ ?_ ?_ ?_ ?_ ?_ ?_ ?_ ?_ h e q
 ·intro e h;rw[D.py]at h;cases h;exact .non
 ·intro b e h;rw[D.py]at h;cases h;exact .bl b
 ·intro b e h;rw[D.py]at h;cases h;exact .int b
 ·intro b e h;rw[D.py]at h;cases h;exact .str b
 ·intro _ _ _ q _ t e h
  rw[D.py]at h
  obtain⟨ys,h1,h2⟩:=aM h
  cases h2
  exact .lst (s.seq q) (t _ h1)
 ·intro _ _ _ q _ t e h
  rw[D.py]at h
  obtain⟨ys,h1,h2⟩:=aM h
  cases h2
  exact .tup (jU.of (s _ _ q)) (t _ h1)
 ·intro _ _ _ _ _ _ _ _ e h;simp only[D.py]at h;cases h
 ·intro _ _ _ _ _ _ _ _ e h;simp only[D.py]at h;cases h
 ·intro _ _ _ _ _ _ _ _ _ _ e h;simp only[D.py]at h;cases h
 ·intro _ _ _ _ e h;simp only[D.py]at h;cases h
 ·intro _ _ _ _ _ _ _ _ _ _ _ _ e h;simp only[D.py]at h;cases h
 ·intro e h;rw[D.pys]at h;cases h;exact .nil
 ·intro _ _ _ _ _ _ p t e h
  rw[D.pys]at h
  obtain⟨y,ys,h1,h2,h3⟩:=dz h
  cases h3
  exact .cons (p _ h1) (t _ h2)
theorem Pr.toPy {H:Hp}{R:D->V->Prop}(f:∀d v e,R d v->d.py=some e->L2.Dt K H v e){ds:List D}{vs:List V}{es:List bM}(h:Pr R ds vs)(e:D.pys ds=some es):L2.Dts K H vs es:=by
 induction h generalizing es with
 |nil=>rw[D.pys]at e;cases e;exact .nil
 |cons h t ih=>
  rw[D.pys]at e
  obtain⟨y,ys,h1,h2,h3⟩:=dz e
  cases h3
  exact .cons (f _ _ _ h h1) (ih h2)
theorem Al.toPy {F H:Hp}(s:bE F H){n:Nat}{d:D}{v:V}{e:bM}(h:Al K ct F H n d v)(q:d.py=some e):L2.Dt K H v e:=by
 induction n generalizing d v e with
 |zero=>exact Dt.toPy s h q
 |succ n ih=>
  cases h with
  |inl h=>exact Dt.toPy s h q
  |inr h=>
   cases h with
   |lst h t=>
    rw[D.py]at q
    obtain⟨ys,h1,h2⟩:=aM q
    cases h2
    exact .lst (eJ.of h) (Pr.toPy (λ_ _ _=>ih) t h1)
   |tup h t=>
    rw[D.py]at q
    obtain⟨ys,h1,h2⟩:=aM q
    cases h2
    exact .tup (jU.of (s _ _ h)) (Pr.toPy (λ_ _ _=>ih) t h1)
   |_=>simp only[D.py]at q;cases q
def mP (a:bM):Bool:=a.canLay0&&decide (a.depth<=60)
def lU (neg:Bool)(x y:D):Option D:=x.py.bind λa=>y.py.bind λb=>if mP a=true/\mP b=true then some (.bl (if neg then !bM.eqv a b else bM.eqv a b))else none
theorem jp {neg:Bool}:lu K ct n m k (xH K neg) (lU neg):=by
 intro F H x y d1 d2 d Q s l1 l2 e w
 obtain⟨a,b,h1,h2,h3⟩:=dz e
 by_cases h:mP a=true/\mP b=true
 ·rw[if_pos h]at h3
  cases h3
  have o1:=h.1
  have o2:=h.2
  unfold mP at o1 o2
  rw[bO,decide_eq_true_iff]at o1 o2
  exact⟨a,b,Al.toPy s l1 h1,Al.toPy s l2 h2,o1.1,o2.1,bK (Nat.min_le_left _ _) o1.2,w _ F H (.refl s) (Al.of (.bl _))⟩
 ·rw[if_neg h]at h3;cases h3
end
end L3
namespace L3
open PySem PySem.Spec L2
open PyProof.Rows hiding St
section
variable {K:aa}{ct:Nat->af}{n m k:Nat}{X:Cx}
theorem Pr.atI {R:D->V->Prop}{ds:List D}{vs:List V}{i:Int}{d:D}(h:Pr R ds vs)(e:atI ds i=some d):∃v,atI vs i=some v/\R d v:=by
 unfold L2.atI at e ⊢
 rw[←h.length]
 obtain⟨j,h1,h2⟩:=aM e
 obtain⟨v,h3,h4⟩:=h.get' h2
 exact⟨v,by rw[h1];exact h3,h4⟩
def sv:D->Option et
 |.int i=>some (.inl i)
 |.str x=>some (.inr x)
 |_=>none
def mn:List D->Option (List et)
 |[]=>some []
 |d::ds=>(sv d).bind λk=>(mn ds).bind λks=>some (k::ks)
def iH {κ:Type}[DecidableEq κ](ks:List κ)(ds:List D)(k:κ):Option D:=((ks.zip ds).find? λp=>decide (p.1=k)).map (·.2)
def RO (R:D->V->Prop):Option D->Option V->Prop
 |some d,some u=>R d u
 |none,none=>True
 |_,_=>False
theorem RO.some_of {R:D->V->Prop}{d:D}{q:Option V}(h:RO R (some d) q):∃u,q=some u/\R d u:=by
 cases q with
 |none=>exact h.elim
 |some u=>exact⟨u,rfl,h⟩
theorem RO.none_of {R:D->V->Prop}{q:Option V}(h:RO R none q):q=none:=by
 cases q with
 |none=>rfl
 |some u=>exact h.elim
theorem IF {κ:Type}[DecidableEq κ]{R:D->V->Prop}{k:κ}:∀{ks:List κ} {ds:List D} {vs:List V},Pr R ds vs->RO R (iH ks ds k) (ig (ks.zip vs) k)
 |[],_,_,_=>by simp[iH,ig,RO]
 |_::_,_,_,.nil=>by simp[iH,ig,RO]
 |y::ks,d::ds,v::vs,.cons h t=>by
  by_cases e:y=k
  ·have h1:iH (y::ks) (d::ds) k=some d:=by simp[iH,cP,e]
   have h2:ig ((y::ks).zip (v::vs)) k=some v:=by simp[ig,cP,e]
   rw[h1,h2]
   exact h
  ·have h1:iH (y::ks) (d::ds) k=iH ks ds k:=by simp[iH,cP,e]
   have h2:ig ((y::ks).zip (v::vs)) k=ig (ks.zip vs) k:=by simp[ig,cP,e]
   rw[h1,h2]
   exact IF t
theorem Jp {F G:Hp}{d:D}{v:V}{k:et}(e:sv d=some k)(h:Al K ct F G n d v):v=kV k:=by
 cases d with
 |int i=>cases e;exact h.int
 |str i=>cases e;exact h.str
 |_=>cases e
theorem MV {F G:Hp}{ds:List D}{vs:List V}{ks:List et}(e:mn ds=some ks)(h:Pr (Al K ct F G n) ds vs):vs=ks.map kV:=by
 induction h generalizing ks with
 |nil=>cases e;rfl
 |cons h t ih=>
  unfold mn at e
  obtain⟨k,ks,h1,h2,h3⟩:=dz e
  cases h3
  rw[Jp h1 h,ih h2];rfl
def jV (o y:D):Option (Option D):=match o with
 |.dK ks ds=>(sv y).bind λk=>some (iH ks ds k)
 |.dT ks ds=>(match y with|.tup ys=>(mn ys).bind λk=>some (iH ks ds k)|_=>none)
 |_=>none
theorem Ji {F G:Hp}{o y:D}{x v:V}(s:bE F G)(l1:Al K ct F G n o x)(l2:Al K ct F G m y v){r:Option D}(e:jV o y=some r) :
  ∃a q,x=.ref a/\lP G a v q/\yB G a/\RO (Al K ct F G (n-1)) r q:=by
 cases o with
 |dK ks ds=>
  obtain⟨a,vs,rfl,ha,hl,hp⟩:=l1.dK s
  obtain⟨k,h1,h2⟩:=aM e
  cases h2
  have hv:=Jp h1 l2
  subst hv
  exact⟨a,_,rfl,lP.k ha,.inl ⟨_,.inl ha⟩,IF hp⟩
 |dT ks ds=>
  obtain⟨a,vs,rfl,ha,hl,hp⟩:=l1.dT s
  cases y with
  |tup ys=>
   obtain⟨k,h1,h2⟩:=aM e
   cases h2
   obtain⟨b,us,rfl,hb,Hk⟩:=l2.tup s
   have hv:=MV h1 Hk
   subst hv
   exact⟨a,_,rfl,.inr ⟨_,_,_,ha,rfl,hb,rfl⟩,.inr ⟨_,ha⟩,IF hp⟩
  |_=>cases e
 |_=>cases e
def eZ:D->D->Option D
 |.lst ds,.int i=>atI ds i
 |.tup ds,.int i=>atI ds i
 |.str x,.int i=>if x.length<=16777216 then(atI x.cps.toList i).bind λc=>some (.str ⟨#[c]⟩)else none
 |_,_=>none
theorem j7:lu K ct n m (n-1) (K6 K) eZ:=by
 intro F H x y d1 d2 d Q s l1 l2 e w
 cases d1 with
 |lst ds=>
  cases d2 with
  |int i=>
   obtain⟨a,vs,rfl,ha,hp⟩:=l1.lst s
   obtain⟨v,h1,h2⟩:=hp.atI e
   exact .inl ⟨a,vs,i,v,rfl,l2.int,ha,h1,w v F H (.refl s) h2⟩
  |_=>cases e
 |tup ds=>
  cases d2 with
  |int i=>
   obtain⟨a,vs,rfl,ha,hp⟩:=l1.tup s
   obtain⟨v,h1,h2⟩:=hp.atI e
   exact .inr (.inl ⟨a,vs,i,v,rfl,l2.int,jU.of ha,h1,w v F H (.refl s) h2⟩)
  |_=>cases e
 |str z=>
  cases d2 with
  |int i=>
   unfold eZ at e
   dsimp only at e
   by_cases h:z.length<=16777216
   ·rw[if_pos h]at e
    obtain⟨c,h1,h2⟩:=aM e
    cases h2
    exact .inr (.inr ⟨z,i,c,l1.str,l2.int,by rw[bG];exact h,h1,w _ F H (.refl s) (Al.of (.str _))⟩)
   ·rw[if_neg h]at e;cases e
  |_=>cases e
 |_=>cases e
theorem Wl {ms:List Mo}{o e:Expr}{f g:EF}{cY dM:cA}(hu:X.A.units+1<gE)(ho:XE X ct ms n o f)(he:XE X ct ms m e g)(h1:M1 X o "get" cY e dM):XE X ct ms (n-1) (.Call (.Attribute o "get" cY) [e] [] dM) (λρ=>(f ρ).bind λx=>(g ρ).bind λy=>(jV x y).bind λr=>some (r.getD .non)):=by
 obtain⟨ta,pa,qa⟩:=ho
 obtain⟨tb,pb,qb⟩:=he
 refine⟨_,UV hu pa pb h1,λF0 B F H ρ σ d Q rs e w=>?_⟩
 obtain⟨d1,d2,e1,e2,e3⟩:=dz e
 obtain⟨r,e4,e5⟩:=aM e3
 cases e5
 refine qa F0 B F H ρ σ d1 _ rs e1 λx F1 H1 x1 l1=>?_
 have:∃a,x=.ref a/\yB H1 a:=by
  cases d1 with
  |dK ks ds=>obtain⟨a,vs,rfl,ha,_⟩:=l1.dK x1.fh;exact⟨a,rfl,.inl ⟨_,.inl ha⟩⟩
  |dT ks ds=>obtain⟨a,vs,rfl,ha,_⟩:=l1.dT x1.fh;exact⟨a,rfl,.inr ⟨_,ha⟩⟩
  |_=>cases e4
 obtain⟨a,rfl,Hy⟩:=this
 refine⟨a,rfl,Hy,qb F0 B F1 H1 ρ σ d2 _ (rs.ext x1) e2 λy F2 H2 x2 l2=>?_⟩
 obtain⟨a',o,ea,gg,_,h⟩:=Ji (r:=r) x2.fh (l1.mono x2.ff x2.hh) l2 e4
 cases ea
 refine⟨o,gg,?_⟩
 cases r with
 |none=>rw[h.none_of];exact w _ F2 H2 (x1.trans x2) (Al.of .non)
 |some d=>obtain⟨u,rfl,Er⟩:=h.some_of;exact w _ F2 H2 (x1.trans x2) Er
theorem Wm {ms:List Mo}{o e z:Expr}{f g h:EF}{cY dM:cA}(hu:X.A.units+1<gE)(ho:XE X ct ms n o f)(he:XE X ct ms m e g)(hz:XE X ct ms (n-1) z h)(h1:M2 X o "get" cY e z dM):XE X ct ms (n-1) (.Call (.Attribute o "get" cY) [e,z] [] dM) (λρ=>(f ρ).bind λx=>(g ρ).bind λy=>(h ρ).bind λz=>(jV x y).bind λr=>some (r.getD z)):=by
 obtain⟨ta,pa,qa⟩:=ho
 obtain⟨tb,pb,qb⟩:=he
 obtain⟨tc,pc,qc⟩:=hz
 refine⟨_,UW hu pa pb pc h1,λF0 B F H ρ σ d Q rs e w=>?_⟩
 obtain⟨d1,d2,e1,e2,e3⟩:=dz e
 obtain⟨d3,e6,e7⟩:=aM e3
 obtain⟨r,e4,e5⟩:=aM e7
 cases e5
 refine qa F0 B F H ρ σ d1 _ rs e1 λx F1 H1 x1 l1=>?_
 have:∃a,x=.ref a/\yB H1 a:=by
  cases d1 with
  |dK ks ds=>obtain⟨a,vs,rfl,ha,_⟩:=l1.dK x1.fh;exact⟨a,rfl,.inl ⟨_,.inl ha⟩⟩
  |dT ks ds=>obtain⟨a,vs,rfl,ha,_⟩:=l1.dT x1.fh;exact⟨a,rfl,.inr ⟨_,ha⟩⟩
  |_=>cases e4
 obtain⟨a,rfl,Hy⟩:=this
 refine⟨a,rfl,Hy,qb F0 B F1 H1 ρ σ d2 _ (rs.ext x1) e2 λy F2 H2 x2 l2=>?_⟩
 refine qc F0 B F2 H2 ρ σ d3 _ (rs.ext (x1.trans x2)) e6 λz F3 H3 x3 l3=>?_
 have kK:=x2.trans x3
 obtain⟨a',o,ea,gg,_,h⟩:=Ji (r:=r) kK.fh (l1.mono kK.ff kK.hh) (l2.mono x3.ff x3.hh) e4
 cases ea
 refine⟨o,gg,?_⟩
 cases r with
 |none=>rw[h.none_of];exact w _ F3 H3 (x1.trans kK) l3
 |some d=>obtain⟨u,rfl,Er⟩:=h.some_of;exact w _ F3 H3 (x1.trans kK) Er
def J6:D->D->Bool
 |.non,.non=>true
 |.bl a,.bl b=>a==b
 |.bl a,.int b=>(if a then 1 else 0)==b
 |.int a,.bl b=>a==(if b then 1 else 0)
 |.int a,.int b=>a==b
 |.str a,.str b=>a==b
 |_,_=>false
theorem YJ {x y:D}(hx:x.sc=true)(hy:y.sc=true):sg x.v y.v=J6 x y:=by
 cases x<;>first|cases hx;done|(cases y<;>first|cases hy;done|rfl)
def tQ (x:D)(ds:List D):Bool:=ds.any λy=>J6 y x
theorem Jy {x:D}(hx:x.sc=true):∀{ds:List D},ds.all D.sc=true->Ew x.v (ds.map D.v)=tQ x ds
 |[],_=>rfl
 |d::ds,h=>by
  rw[eA,bO]at h
  have ih:=Jy hx h.2
  unfold Ew tQ at ih ⊢
  rw[br,d8,d8,ih,YJ h.1 hx]
theorem IG:∀{ds:List D},ds.all D.sc=true->(ds.map D.v).all jB=true
 |[],_=>rfl
 |d::ds,h=>by
  rw[eA,bO]at h
  rw[br,eA,D.flat h.1,IG h.2];rfl
def inD (neg:Bool)(x y:D):Option D:=match y with
 |.lst ds=>if x.sc=true/\ds.all D.sc=true then some (.bl (if neg then !tQ x ds else tQ x ds))else none
 |.tup ds=>if x.sc=true/\ds.all D.sc=true then some (.bl (if neg then !tQ x ds else tQ x ds))else none
 |_=>none
theorem XX {neg:Bool}:lu K ct n m k (K4 K neg) (inD neg):=by
 intro F H x y d1 d2 d Q s l1 l2 e w
 cases d2 with
 |lst ds=>
  unfold inD at e
  dsimp only at e
  by_cases h:d1.sc=true/\ds.all D.sc=true
  ·rw[if_pos h]at e
   cases e
   obtain⟨a,vs,rfl,ha,hp⟩:=l2.lst s
   have hv:=hp.vs h.2
   subst hv
   have hx:=Al.v l1 h.1
   subst hx
   refine⟨a,_,rfl,.inl ha,D.flat h.1,IG h.2,?_⟩
   rw[Jy h.1 h.2]
   exact w _ F H (.refl s) (Al.of (.bl _))
  ·rw[if_neg h]at e;cases e
 |tup ds=>
  unfold inD at e
  dsimp only at e
  by_cases h:d1.sc=true/\ds.all D.sc=true
  ·rw[if_pos h]at e
   cases e
   obtain⟨a,vs,rfl,ha,hp⟩:=l2.tup s
   have hv:=hp.vs h.2
   subst hv
   have hx:=Al.v l1 h.1
   subst hx
   refine⟨a,_,rfl,.inr (jU.of ha),D.flat h.1,IG h.2,?_⟩
   rw[Jy h.1 h.2]
   exact w _ F H (.refl s) (Al.of (.bl _))
  ·rw[if_neg h]at e;cases e
 |_=>cases e
def fV:List D->Option D
 |[.lst ds]=>some (.int ds.length)
 |[.tup ds]=>some (.int ds.length)
 |[.dK ks _]=>some (.int ks.length)
 |[.str x]=>if x.length<=16777216 then some (.int x.length)else none
 |_=>none
def De (K:aa):List V->Hp->VK->Prop:=λxs H Q=>(∃p ys,xs=[.ref p]/\(eJ K H p ys\/jU K H p ys)/\Q (.int ys.length) H)\/(∃z,xs=[.str z]/\z.length<=sizeLine/\Q (.int z.length) H)\/∃a cq,xs=[V.ref a]/\H a=some (.dK cq)/\Q (.int cq.length) H
theorem Ud:eM X (.builtin "len") (De X.K):=SH.or (SJ.or T5)
theorem Wn:yD K ct [n] k (De K) fV:=by
 intro F H vs ds d Q s l e w
 cases l with
 |cons h t=>
  cases t
  rename_i d1 v
  cases d1 with
  |lst xs=>
   cases e
   obtain⟨a,us,rfl,ha,hp⟩:=h.lst s
   refine .inl ⟨a,us,rfl,.inl ha,?_⟩
   rw[←hp.length]
   exact w _ F H (.refl s) (Al.of (.int _))
  |tup xs=>
   cases e
   obtain⟨a,us,rfl,ha,hp⟩:=h.tup s
   refine .inl ⟨a,us,rfl,.inr (jU.of ha),?_⟩
   rw[←hp.length]
   exact w _ F H (.refl s) (Al.of (.int _))
  |str x=>
   unfold fV at e
   dsimp only at e
   by_cases hz:x.length<=16777216
   ·rw[if_pos hz]at e
    cases e
    exact .inr (.inl ⟨x,by rw[h.str],by rw[bG];exact hz,w _ F H (.refl s) (Al.of (.int _))⟩)
   ·rw[if_neg hz]at e;cases e
  |dK ks xs=>
   cases e
   obtain⟨a,us,rfl,ha,hl,hp⟩:=h.dK s
   refine .inr (.inr ⟨a,_,rfl,ha,?_⟩)
   rw[eE,←hl,ku]
   exact w _ F H (.refl s) (Al.of (.int _))
  |_=>cases e
end
end L3
namespace L3
open PySem PySem.Spec L2
open PyProof.Rows hiding St
section
variable {ct:Nat->af}{K:aa}
theorem Yb {ι:Type}{Xs:ι->Cx}{ms:List Mo}{n:Nat}{e:Expr}{f:EF}(hK:∀i,(Xs i).K=K)(h:∀i,XO (Xs i) ct ms n e f):∃t,(∀i,PE (Xs i) e t)/\∀(F0 B F H:Hp) (ρ:Env) (σ:St) (d:D) (Q:VK),RS K ct F0 B ms F H ρ σ->f ρ=some d ->
  (∀v F' H' fp,eY F H F' H'->Ow K ct F' H' n d v fp->fp.Nodup->(∀a∈fp,H a=none)->Q v H')->t σ H Q:=by
 refine⟨λσ H Q=>∀i,(h i).choose σ H Q,λi aj s σ H Q I q=>(h i).choose_spec.1 aj s σ H Q I (q i),λF0 B F H ρ σ d Q rs e w i=>?_⟩
 exact(h i).choose_spec.2 F0 B F H ρ σ d Q (by rw[hK i];exact rs) e λv F' H' fp x l=>w v F' H' fp x (by rw[←hK i];exact l)
def uK (X:Cx)(ct:Nat->af)(ms:List Mo)(ifs:List Expr)(f:BF):Prop:=∃t,tf X ifs t/\∀(F0 B F H:Hp) (ρ:Env) (σ:St) (b:Bool) (Q:Bool->Hp->Prop),RS X.K ct F0 B ms F H ρ σ->f ρ=some b->(∀F' H',eY F H F' H'->Q b H')->t σ H Q
def iF:BF:=λ_=>some true
theorem ux {X:Cx}{ms:List Mo}:uK X ct ms [] iF:=⟨_,Vu,λF0 B F H ρ σ b Q rs e w=>by cases e;exact w F H (.refl rs.fh)⟩
theorem DE {X:Cx}{ms:List Mo}{c:Expr}{p:BF}(h:XT X ct ms c p):uK X ct ms [c] p:=by
 obtain⟨t,pt,qt⟩:=h
 exact⟨t,Vv pt,qt⟩
theorem Yc {ι:Type}{Xs:ι->Cx}{ms:List Mo}{ifs:List Expr}{f:BF}(hK:∀i,(Xs i).K=K)(h:∀i,uK (Xs i) ct ms ifs f):∃t,(∀i,tf (Xs i) ifs t)/\∀(F0 B F H:Hp) (ρ:Env) (σ:St) (b:Bool) (Q:Bool->Hp->Prop),RS K ct F0 B ms F H ρ σ->f ρ=some b ->
  (∀F' H',eY F H F' H'->Q b H')->t σ H Q:=by
 refine⟨λσ H Q=>∀i,(h i).choose σ H Q,λi aj s σ H Q I q=>(h i).choose_spec.1 aj s σ H Q I (q i),λF0 B F H ρ σ d Q rs e w i=>?_⟩
 exact(h i).choose_spec.2 F0 B F H ρ σ d Q (by rw[hK i];exact rs) e w
def tX {α:Type}(g:α->St->Hp->(St->Hp->Prop)->Prop):Prop:=∀v σ H Q Q',(∀σ' H',Q σ' H'->Q' σ' H')->g v σ H Q->g v σ H Q'
def rL (X:Cx)(ct:Nat->af)(ms:List Mo)(own n:Nat)(tg:Expr)(g:D->Env->Option Env):Prop:=∃t,PG X tg t/\fw own t/\tX t/\∀(F0 B F H:Hp) (ρ ρ':Env) (σ:St) (d:D) (v:V) (Q:St->Hp->Prop),RS X.K ct F0 B ms F H ρ σ->Al X.K ct F B n d v->g d ρ=some ρ' ->
 (∀σ',RS X.K ct F0 B ms F H ρ' σ'->Q σ' H)->t v σ H Q
theorem Yd {ι:Type}{Xs:ι->Cx}{ms:List Mo}{own n:Nat}{tg:Expr}{g:D->Env->Option Env}(hK:∀i,(Xs i).K=K)(h:∀i,rL (Xs i) ct ms own n tg g):∃t,(∀i,PG (Xs i) tg t)/\fw own t/\∀(F0 B F H:Hp) (ρ ρ':Env) (σ:St) (d:D) (v:V) (Q:St->Hp->Prop),RS K ct F0 B ms F H ρ σ->Al K ct F B n d v->g d ρ=some ρ' ->
  (∀σ',RS K ct F0 B ms F H ρ' σ'->Q σ' H)->t v σ H Q:=by
 refine⟨λv σ H Q=>∀i,(h i).choose v σ H Q,λi aj s σ H v u Q I r q=>(h i).choose_spec.1 aj s σ H v u Q I r (q i),λv σ H Q q i=>(h i).choose_spec.2.1 v σ H Q (q i),λF0 B F H ρ ρ' σ d v Q rs l e w i=>?_⟩
 exact(h i).choose_spec.2.2.2 F0 B F H ρ ρ' σ d v Q (by rw[hK i];exact rs) (by rw[hK i];exact l) e λσ' r=>w σ' (by rw[←hK i];exact r)
theorem U1 {X:Cx}{ms:List Mo}{own i:Nat}{x:aI}{pos:cA}(ho:i<own)(hm:ms[i]?=some (.ow 0))(hN:X.N.Nodup)(hi:X.N[i]?=some x)(hx:Loc X.env.scope x)
  (hf:X.fn x=true\/X.env.scope.names.lookup x=some .local:=by first|exact .inl rfl|exact .inr rfl|assumption):rL X ct ms own 0 (.Name x pos) (gV i):=by
 refine⟨_,Fe hN hi hx hf,Lw i own ho,λv σ H Q Q' m q=>m _ _ q,λF0 B F H ρ ρ' σ d v Q rs l e w=>?_⟩
 cases e
 exact w _ (rs.set hm (.refl rs.fh) (Ow.zero l) bx λa z=>(by cases z))
theorem Ue {X:Cx}{ms:List Mo}{own i n:Nat}{x:aI}{pos:cA}(ho:i<own)(hm:ms[i]?=some (.al n))(hN:X.N.Nodup)(hi:X.N[i]?=some x)(hx:Loc X.env.scope x)
  (hf:X.fn x=true\/X.env.scope.names.lookup x=some .local:=by first|exact .inl rfl|exact .inr rfl|assumption):rL X ct ms own n (.Name x pos) (gV i):=by
 refine⟨_,Fe hN hi hx hf,Lw i own ho,λv σ H Q Q' m q=>m _ _ q,λF0 B F H ρ ρ' σ d v Q rs l e w=>?_⟩
 cases e
 obtain⟨fp,sl,nd,hb⟩:=rs.sl
 exact w _ ⟨rs.f0,rs.bh,rs.fh,rs.nf,fp,sl.setA l hm,nd,hb⟩
def wN (own:Nat)(g:tu):Prop:=∀v σ H Q,g v σ H Q->g v σ H λσ' H'=>Q σ' H'/\σ'.length = σ.length/\∀i,own<=i->σ'[i]? = σ[i]?
def rV (X:Cx)(ct:Nat->af)(ms:List Mo)(own n:Nat)(jO:List Expr)(g:List D->Env->Option Env):Prop:=∃t,yE X jO t/\wN own t/\tX t/\(∀ds ρ ρ',g ds ρ=some ρ'->ds.length=jO.length)/\∀(F0 B F H:Hp) (ρ ρ':Env) (σ:St) (ds:List D) (vs:List V) (Q:St->Hp->Prop),RS X.K ct F0 B ms F H ρ σ->Pr (Al X.K ct F B n) ds vs->g ds ρ=some ρ' ->
 (∀σ',RS X.K ct F0 B ms F H ρ' σ'->Q σ' H)->t vs σ H Q
theorem Ml {X:Cx}{ms:List Mo}{own n:Nat}:rV X ct ms own n [] gsNil:=by
 refine⟨_,MA,λv σ H Q q=>⟨q.1,q.2,rfl,λ_ _=>rfl⟩,λv σ H Q Q' m q=>⟨q.1,m _ _ q.2⟩,λds ρ ρ' e=>?_,λF0 B F H ρ ρ' σ ds vs Q rs l e w=>?_⟩
 ·cases ds with
  |nil=>rfl
  |cons d ds=>cases e
 ·cases l with
  |nil=>cases e;exact⟨rfl,w σ rs⟩
  |cons _ _=>cases e
theorem j8 {X:Cx}{ms:List Mo}{own n:Nat}{tg:Expr}{jO:List Expr}{gg:D->Env->Option Env}{gs:List D->Env->Option Env}(h1:rL X ct ms own n tg gg)(h2:rV X ct ms own n jO gs)
  (hs:(cF (tg::jO) X.env).map (·.2)=eW tg X.env::(cF jO X.env).map (·.2):=by rfl):rV X ct ms own n (tg::jO) (gsCons gg gs):=by
 obtain⟨t,pt,kt,mt,qt⟩:=h1
 obtain⟨t2,mN,PX,KL,HH,mQ⟩:=h2
 refine⟨_,L6 pt mN hs,λvs σ H Q q=>?_,λvs σ H Q Q' m q=>?_,λds ρ ρ' e=>?_,λF0 B F H ρ ρ' σ ds vs Q rs l e w=>?_⟩
 ·obtain⟨v,r,e,q⟩:=q
  refine⟨v,r,e,mt _ _ _ _ _ (λσ' H' z=>?_) (kt v σ H _ q)⟩
  obtain⟨z1,z2,z3⟩:=z
  refine KL _ _ _ _ _ (λσ2 H2 y=>?_) (PX r σ' H' Q z1)
  exact⟨y.1,y.2.1.trans z2,λi hi=>(y.2.2 i hi).trans (z3 i hi)⟩
 ·obtain⟨v,r,e,q⟩:=q
  exact⟨v,r,e,mt _ _ _ _ _ (λσ' H' z=>KL _ _ _ _ _ m z) q⟩
 ·cases ds with
  |nil=>cases e
  |cons d ds=>
   obtain⟨ρ1,h3,h4⟩:=aM e
   rw[az,az,HH _ _ _ h4]
 ·cases l with
  |nil=>cases e
  |cons h t'=>
   obtain⟨ρ1,h3,h4⟩:=aM e
   exact⟨_,_,rfl,qt F0 B F H ρ ρ1 σ _ _ _ rs h h3 λσ1 r1=>mQ F0 B F H ρ1 ρ' σ1 _ _ _ r1 t' h4 w⟩
theorem MW {X:Cx}{ms:List Mo}{own n:Nat}{jO:List Expr}{j:Nat}{pos:cA}{gs:List D->Env->Option Env}(hc:X.calm=true)(h:rV X ct ms own (n-1) jO gs)(hl:(cF jO X.env).length=jO.length:=by rfl)(nE:(cF jO X.env).findIdx? (·.1)=none:=by rfl):rL X ct ms own n (.Tuple jO j pos) (gT gs):=by
 obtain⟨t,pt,kt,mt,lt,qt⟩:=h
 refine⟨_,Nm (n:=jO.length) hc pt hl nE,λv σ H Q q=>?_,λv σ H Q Q' m q=>?_,λF0 B F H ρ ρ' σ d v Q rs l e w=>?_⟩
 ·obtain⟨a,xs,e,h1,h2,q⟩:=q
  exact⟨a,xs,e,h1,h2,kt _ _ _ _ q⟩
 ·obtain⟨a,xs,e,h1,h2,q⟩:=q
  exact⟨a,xs,e,h1,h2,mt _ _ _ _ _ m q⟩
 cases d with
 |tup ds=>
  have:∃a vs,v=.ref a/\jU X.K H a vs/\Pr (Al X.K ct F B (n-1)) ds vs:=by
   cases n with
   |zero=>
    have l:Dt X.K ct F (.tup ds) v:=l
    cases l with
    |tup q t=>exact⟨_,_,rfl,jU.of (rs.fh _ _ q),t.pr⟩
   |succ n=>
    rcases l with l|l
    ·cases l with
     |tup q t=>exact⟨_,_,rfl,jU.of (rs.fh _ _ q),t.pr.mono λ_ _=>Al.of⟩
    ·cases l with
     |tup q t=>exact⟨_,_,rfl,jU.of (rs.fh _ _ q),t⟩
  obtain⟨a,vs,rfl,ha,hp⟩:=this
  exact⟨a,vs,rfl,ha,hp.length.symm.trans (lt _ _ _ e),qt F0 B F H ρ ρ' σ ds vs Q rs hp e w⟩
 |_=>cases e
def fG (ρ:Env)(cap:List Nat):Env:=cap.map λi=>(ρ[i]?).join
def fZ (ms:List Mo)(cap:List Nat):List Mo:=cap.map λi=>.al (((ms[i]?).map Mo.lv).getD 0)
def md (g:D->Env->Option Env)(p:BF)(f:EF)(ρ0:Env):List D->Option (List D)
 |[]=>some []
 |d::ds=>(g d ρ0).bind λρ1=>(p ρ1).bind λb=>if b=true then(f ρ1).bind λy=>(md g p f ρ0 ds).bind λys=>some (y::ys)else md g p f ρ0 ds
def eG (fi:Env->Option (List D))(own:Nat)(cap:List Nat)(g:D->Env->Option Env)(p:BF)(f:EF):EF:=λρ=>(fi ρ).bind λds=>if ds.length<=16777216 then(md g p f (av own none++fG ρ cap) ds).bind λys=>some (.lst ys)else none
theorem SL.caps {F B H:Hp}{ms:List Mo}{ρ:Env}{σ:St}(rs:RS K ct F0 B ms F H ρ σ):∀{cap:List Nat},(∀i∈cap,i<ms.length)->SL K ct F H H (fZ ms cap) (fG ρ cap) (fu σ cap) []
 |[],_=>.nil
 |i::cap,h=>by
  have ih:=SL.caps rs (cap:=cap) λj hj=>h j (ai _ hj)
  have hi:i<ms.length:=h i ah
  have hm:ms[i]?=some ms[i]:=by simp[hi]
  show SL K ct F H H (.al (((ms[i]?).map Mo.lv).getD 0)::fZ ms cap) ((ρ[i]?).join::fG ρ cap) ((σ[i]?).join::fu σ cap) []
  cases e:(ρ[i]?).join with
  |none=>exact .no ih
  |some d=>
   obtain⟨v,hv,l⟩:=rs.get hm (yf e)
   rw[hv,hm]
   exact .al l ih
theorem SL.nones {F B H:Hp}{ms HI:List Mo}{ρ:Env}{σ:St}{fp:List af}(t:SL K ct F B H ms ρ σ fp):∀{om:List Mo},SL K ct F B H (om++ms) (av om.length none ++ ρ) (av om.length none ++ σ) fp
 |[]=>t
 |m::om=>.no (SL.nones (HI:=HI) t)
theorem Mm {X:Cx}{ms om:List Mo}{n k:Nat}{iT iter tg:Expr}{ifs:List Expr}{scope:fm}{pos:cA}{N:List aI}{own:Nat}{cap:List Nat}{fi:Env->Option (List D)}{gg:D->Env->Option Env}{p:BF}{f:EF}
  (B:jR X scope N own cap) (hc:X.calm=true) (ho:om.length=own) (iZ:∀i∈cap,i<ms.length) (hi:tw X ct ms n tg iter fi)
  (hg:∀cl C fp s₀ H₀,rL (gR X scope cl N C fp s₀ H₀) ct (om++fZ ms cap) own n tg gg) (ht:∀cl C fp s₀ H₀,uK (gR X scope cl N C fp s₀ H₀) ct (om++fZ ms cap) ifs p) (he:∀cl C fp s₀ H₀,XO (gR X scope cl N C fp s₀ H₀) ct (om++fZ ms cap) k iT f)
  :
  ∃wi g tt te,PI X tg iter wi/\fw own g/\(∀cl C fp s₀ H₀,PG (gR X scope cl N C fp s₀ H₀) tg g)/\(∀cl C fp s₀ H₀,tf (gR X scope cl N C fp s₀ H₀) ifs tt)/\(∀cl C fp s₀ H₀,PE (gR X scope cl N C fp s₀ H₀) iT te) /\
   ∀(F0 B F H:Hp) (ρ:Env) (σ:St) (d:D) (Q:VK),RS X.K ct F0 B ms F H ρ σ->eG fi own cap gg p f ρ=some d->(∀v F' H' fp,eY F H F' H'->Ow X.K ct F' H' (k+1) d v fp->fp.Nodup->(∀a∈fp,H a=none)->Q v H')->oZ wi own cap g tt te σ H Q:=by
 obtain⟨wi,pi,qi⟩:=hi
 obtain⟨Ld,pg,kg,qg⟩:=Yd (K:=X.K) (Xs:=λz:List (aI×af)×af×List af×ak×Hp=>gR X scope z.1 N z.2.1 z.2.2.1 z.2.2.2.1 z.2.2.2.2) (λ_=>rfl) (λz=>hg z.1 z.2.1 z.2.2.1 z.2.2.2.1 z.2.2.2.2)
 obtain⟨tt,pt,qt⟩:=Yc (K:=X.K) (Xs:=λz:List (aI×af)×af×List af×ak×Hp=>gR X scope z.1 N z.2.1 z.2.2.1 z.2.2.2.1 z.2.2.2.2) (λ_=>rfl) (λz=>ht z.1 z.2.1 z.2.2.1 z.2.2.2.1 z.2.2.2.2)
 obtain⟨te,pe,qe⟩:=Yb (K:=X.K) (Xs:=λz:List (aI×af)×af×List af×ak×Hp=>gR X scope z.1 N z.2.1 z.2.2.1 z.2.2.2.1 z.2.2.2.2) (λ_=>rfl) (λz=>he z.1 z.2.1 z.2.2.1 z.2.2.2.1 z.2.2.2.2)
 refine⟨wi,Ld,tt,te,pi,kg,(λcl C fp s₀ H₀=>pg (cl,C,fp,s₀,H₀)),(λcl C fp s₀ H₀=>pt (cl,C,fp,s₀,H₀)),(λcl C fp s₀ H₀=>pe (cl,C,fp,s₀,H₀)),λF0 B F H ρ σ r Q rs e w=>?_⟩
 obtain⟨ds,h1,h2⟩:=aM e
 by_cases hz:ds.length<=16777216
 case neg=>rw[if_neg hz]at h2;cases h2
 rw[if_pos hz]at h2
 obtain⟨ys,h3,h4⟩:=aM h2
 cases h4
 refine qi F0 B F H ρ σ ds _ rs h1 λJ F1 H1 x1 ok A hA=>?_
 have iV:=rs.ext x1
 refine⟨λi m us H2=>m=ds.length-i/\i<=ds.length/\us.length<=i/\H2 A=some (.lst us)/\∃F2 yd zd fp,eY F1 H1 F2 H2/\F2 A=none/\dU (Ow X.K ct F2 H2 k) yd us fp/\fp.Nodup/\(∀a∈fp,H1 a=none/\a≠A)/\md gg p f (av own none++fG ρ cap) (ds.drop i)=some zd/\yd++zd=ys,
  ⟨ds.length,rfl,cZ _,aG _,ym,F1,[],ys,[],eY.newO x1.fh hA _,x1.fh.free hA,.nil,bx,λa z=>(by cases z),h3,rfl⟩,?_⟩
 rintro i m us H2 ⟨rfl,yK,PL,Eh,F2,yd,zd,fp,x2,fA,ol,nd,hf,gG,Eu⟩
 refine⟨Eh,?_⟩
 have EE:=iV.ext x2
 obtain⟨k1,k2⟩:=ok i F2 H2 x2.ff x2.hh x2.fh
 by_cases kh:i<ds.length
 ·right
  have hd:ds[i]?=some ds[i]:=by simp[kh]
  obtain⟨go,yl⟩:=k1 _ hd
  rw[gD kh]at gG
  obtain⟨ρ1,h5,h6⟩:=aM gG
  obtain⟨b,h7,h8⟩:=aM h6
  refine⟨go,by rw[bG];omega,λx H3 y=>?_⟩
  obtain⟨F3,x3,l⟩:=yl x H3 y
  have Q7:=EE.ext x3
  have sl:=SL.nones (HI:=[]) (SL.caps Q7 iZ) (om:=om)
  rw[ho]at sl
  have Q8:RS X.K ct F3 H3 (om++fZ ms cap) F3 H3 (av own none++fG ρ cap) (av own none++fu σ cap):=⟨.refl _,.refl _,x3.fh,λ_ _ _ _ h=>h,[],sl,bx,λa z=>(by cases z)⟩
  have A3:H3 A=some (.lst us):=x3.hh _ _ Eh
  have J8:F3 A=none:=x3.nf A _ Eh nofun fA
  refine qg F3 H3 F3 H3 _ ρ1 _ _ x _ Q8 (l.mono (.refl _) (x2.trans x3).hh) h5 λσ1 r1=>?_
  refine qt F3 H3 F3 H3 ρ1 σ1 b _ r1 h7 λF4 H4 x4=>?_
  cases b with
  |false=>
   rw[if_neg aJ]at h8 ⊢
   have Li:=x3.trans x4
   refine⟨ds.length-(i+1),by omega,rfl,kh,by omega,x4.hh _ _ A3,F4,yd,zd,fp,x2.trans Li,x4.nf A _ A3 nofun J8,ol.mono λ_ _ _ _ o=>o.ext Li,nd,hf,h8,Eu⟩
  |true=>
   rw[if_pos rfl]at h8 ⊢
   obtain⟨yv,h9,O1⟩:=aM h8
   obtain⟨zs,O2,O3⟩:=aM O1
   cases O3
   refine qe F3 H3 F4 H4 ρ1 σ1 yv _ (r1.ext x4) h9 λv F5 H5 f5 x5 o5 n5 G3=>?_
   have Ip:=(x3.trans x4).trans x5
   have Lj:=x4.trans x5
   have A5:H5 A=some (.lst us):=Lj.hh _ _ A3
   have J9:F5 A=none:=Lj.nf A _ A3 nofun J8
   have A4:H4 A=some (.lst us):=x4.hh _ _ A3
   have Ke:∀a∈f5,a≠A:=λa z e=>by rw[e]at z;rw[G3 A z]at A4;cases A4
   refine⟨A5,ds.length-(i+1),by omega,rfl,kh,by rw[aR,fD];omega,ym,F5,yd++[yv],zs,fp++(f5++[]),?_,J9,?_,?_,?_,O2,by rw[ee];exact Eu⟩
   ·have ES:=x2.trans Ip
    refine⟨ES.ff,λa o h=>?_,λa o h=>?_,ES.nf⟩
    ·rw[zn (yw h hA)];exact ES.hh _ _ h
    ·rw[zn (λz=>by rw[z]at h;rw[J9]at h;cases h)];exact ES.fh _ _ h
   ·refine(ol.mono λ_ _ f Pk o=>?_).append (.cons ?_ .nil)
    ·refine(o.ext Ip).frame (.refl _) λa z=>⟨zn (hf a (Pk a z)).2,((o.ext Ip).cells a z).1⟩
    ·exact o5.frame (.refl _) λa z=>⟨zn (Ke a z),(o5.cells a z).1⟩
   ·rw[bY]
    refine aW.mpr ⟨nd,n5,λa z c hc e=>?_⟩
    subst e
    have:∃o,H2 a=some o:=let⟨o,h,_⟩:=(dU.cellsOf ol a z).2;⟨o,h⟩
    obtain⟨o,ho⟩:=this
    have:=x4.hh _ _ (x3.hh _ _ ho)
    rw[G3 a hc]at this
    cases this
   ·intro a z
    rw[bY]at z
    rcases aT.mp z with z|z
    ·exact hf a z
    ·refine⟨?_,Ke a z⟩
     have RX:=x2.trans (x3.trans x4)
     exact RX.hh.free (G3 a z)
 ·left
  refine⟨k2 (by omega),?_⟩
  have:ds.drop i=[]:=ip (by omega)
  rw[this]at gG
  cases gG
  rw[bY]at Eu
  subst Eu
  refine w _ F2 H2 (A::fp) (x1.trans x2) (.inr (.lst fA Eh ol)) (aY.mpr ⟨λz=>(hf A z).2 rfl,nd⟩) λa z=>?_
  rcases ay.mp z with rfl|z
  ·exact x1.hh.free hA
  ·exact x1.hh.free (hf a z).1
theorem Wo {X:Cx}{ms om:List Mo}{n k:Nat}{iT iter tg:Expr}{ifs:List Expr}{scope:fm}{pos:cA}{N:List aI}{own:Nat}{cap:List Nat}{fi:Env->Option (List D)}{gg:D->Env->Option Env}{p:BF}{f:EF}
  (B:jR X scope N own cap) (hc:X.calm=true) (ho:om.length=own) (iZ:∀i∈cap,i<ms.length) (hi:tw X ct ms n tg iter fi)
  (hg:∀cl C fp s₀ H₀,rL (gR X scope cl N C fp s₀ H₀) ct (om++fZ ms cap) own n tg gg) (ht:∀cl C fp s₀ H₀,uK (gR X scope cl N C fp s₀ H₀) ct (om++fZ ms cap) ifs p) (he:∀cl C fp s₀ H₀,XO (gR X scope cl N C fp s₀ H₀) ct (om++fZ ms cap) k iT f)
  (hs:∀x,cQ iter X.env x=pure x:=by intro _;rfl):XO X ct ms (k+1) (.ListComp iT [⟨tg,iter,ifs,0⟩] scope pos) (eG fi own cap gg p f):=by
 obtain⟨wi,g,tt,te,pi,kg,pg,pt,pe,q⟩:=Mm (k:=k) (pos:=pos) B hc ho iZ hi hg ht he
 exact⟨_,Vw B hc pi kg pg pt pe hs,q⟩
end
end L3
namespace L3
open PySem PySem.Spec L2
open PyProof.Rows hiding St
section
variable {X:Cx}{ct:Nat->af}{ms:List Mo}{rk n m k:Nat}{st:bI}{rest:List bI}{a b c e tg:Expr}{f g h:EF}{p q:BF}{u w:SF}{pos:cA}
def D1:D->Option (List D)
 |.lst ds=>some ds
 |_=>none
theorem Mn {d:D}{ds:List D}(h:D1 d=some ds):d=.lst ds:=by cases d<;>simp[D1]at h;subst h;rfl
def lsD (f:EF):Env->Option (List D):=λρ=>(f ρ).bind D1
theorem Jq {K:aa}{F B G:Hp}{a:af}{vs:List V}{ds:List D}(hp:Pr (Al K ct F B n) ds vs)(keep:∀F' H',bE F F'->bE B H'->bE F' H'->eJ K H' a vs):qH K ct F B n (FF K a) ds:=by
 intro i F' H' s1 s2 s3
 have hs:eJ K H' a vs:=keep F' H' s1 s2 s3
 refine⟨λd hd=>?_,λhl=>⟨vs,hs,by rw[←hp.length];exact hl⟩⟩
 obtain⟨v,hv,l⟩:=hp.get' hd
 refine⟨⟨vs,v,hs,hv⟩,λx H2 y=>?_⟩
 obtain⟨e,y⟩:=y
 subst e
 have:=y vs hs
 rw[hv]at this
 cases this
 exact⟨F',.refl s3,l.mono s1 (.refl _)⟩
theorem Dt.lst_inv {K:aa}{F:Hp}{ds:List D}{v:V}(h:Dt K ct F (.lst ds) v):∃a vs,v=.ref a/\eJ K F a vs/\Dts K ct F ds vs:=by
 cases h with
 |lst q t=>exact⟨_,_,rfl,q,t⟩
theorem uz (he:XE X ct ms 0 e f):XI X ct ms 0 tg e (lsD f):=by
 obtain⟨t,pt,qt⟩:=he
 refine⟨_,Je pt,λF0 B F H ρ σ ds R rs e w=>?_⟩
 obtain⟨d,h1,h2⟩:=aM e
 rw[Mn h2]at h1
 refine qt F0 B F H ρ σ _ _ rs h1 λv F' H' x l=>?_
 obtain⟨a,vs,rfl,ha,hp⟩:=Dt.lst_inv l
 exact⟨a,rfl,⟨vs,x.fh.seq ha⟩,w _ F' H' x (Jq (G:=H') (n:=0) (hp.pr) λF2 H2 s1 s2 s3=>s3.seq (s1.seq ha))⟩
theorem E7 (he:XE X ct ms n e f):tw X ct ms (n-1) tg e (lsD f):=by
 obtain⟨t,pt,qt⟩:=he
 refine⟨_,Je pt,λF0 B F H ρ σ ds R rs e w=>?_⟩
 obtain⟨d,h1,h2⟩:=aM e
 rw[Mn h2]at h1
 refine qt F0 B F H ρ σ _ _ rs h1 λv F' H' x l=>?_
 obtain⟨a,vs,rfl,ha,hp⟩:=l.lst x.fh
 exact⟨a,rfl,⟨vs,ha⟩,w _ F' H' x (Jq (G:=H') hp λF2 H2 s1 s2 s3=>s2.seq ha)⟩
theorem XI.cc {fi:Env->Option (List D)}(h:XI X ct ms n tg e fi):tw X ct ms n tg e fi:=by
 obtain⟨t,pt,qt⟩:=h
 refine⟨t,pt,λF0 B F H ρ σ ds R rs e w=>qt F0 B F H ρ σ ds R rs e λJ F' H' x ok=>w J F' H' x λi F2 H2 s1 s2 s3=>?_⟩
 obtain⟨k1,k2⟩:=ok i F2 H2 s1 ((rs.ext x).bh.trans s2) s3
 refine⟨λd hd=>?_,k2⟩
 obtain⟨go,yl⟩:=k1 d hd
 refine⟨go,λv H3 y=>?_⟩
 obtain⟨F3,x3,l⟩:=yl v H3 y
 exact⟨F3,x3,l.mono (.refl _) (rs.ext x).bh⟩
def kY (lo:Int)(j:Nat):List D:=(aH j).map λ(t:Nat)=>.int (lo+(t:Int))
def ie:List D->Option (List D)
 |[.int j]=>if -4611686018427387904<=j/\j<4611686018427387904 then some (kY 0 j.toNat)else none
 |_=>none
theorem XY {K:aa}{F B:Hp}{lo:Int}{j:Nat}:qH K ct F B n (DT lo j) (kY lo j):=by
 intro i F' H' s1 s2 s3
 unfold kY
 refine⟨λd hd=>?_,λhl=>(show j<=i by simpa using hl)⟩
 rw[bj]at hd
 by_cases h:i<j
 ·rw[dm h]at hd
  cases hd
  refine⟨h,λx H2 y=>?_⟩
  obtain⟨e,y⟩:=y
  subst e
  subst y
  exact⟨F',.refl s3,Al.of (.int _)⟩
 ·rw[bS (by simpa using h)]at hd
  cases hd
theorem wm {fs:Env->Option (List D)}{pp:cA}(hm:X.mg "range"=none)(ha:XA X ct ms [a] [m] fs)(hg:Gl X "range":=by rfl)(hs:aq [a] X.env=[(false,bN a X.env)]:=by rfl):XI X ct ms n tg (.Call (.Name "range" pp) [a] [] pos) (λρ=>(fs ρ).bind ie):=by
 obtain⟨t,pt,_,qt⟩:=ha
 refine⟨_,Tg hg hm pt hs,λF0 B F H ρ σ ds R rs e w=>?_⟩
 obtain⟨lT,h1,h2⟩:=aM e
 refine qt F0 B F H ρ σ _ _ rs h1 λvs F' H' x l=>?_
 cases l with
 |cons h t=>
  cases t
  rename_i d v
  cases d with
  |int j=>
   unfold ie at h2
   dsimp only at h2
   by_cases hj:-4611686018427387904<=j/\j<4611686018427387904
   ·rw[if_pos hj]at h2
    cases h2
    exact⟨j,by rw[h.int],by omega,by omega,w _ F' H' x XY⟩
   ·rw[if_neg hj]at h2;cases h2
  |_=>cases h2
def eu (i:Nat):List D->List D
 |[]=>[]
 |d::ds=>.tup [.int i,d]::eu (i+1) ds
theorem Iv:∀{ds:List D} {j i:Nat} {d:D},(eu j ds)[i]?=some d->∃x,ds[i]?=some x/\d=.tup [.int (j+i:Nat),x]
 |[],_,_,_,h=>by simp[eu]at h
 |x::ds,j,0,d,h=>by simp[eu]at h;subst h;exact⟨x,rfl,rfl⟩
 |x::ds,j,i+1,d,h=>by
  obtain⟨y,h1,h2⟩:=Iv (ds:=ds) (j:=j+1) (i:=i) (d:=d) (by simpa[eu]using h)
  exact⟨y,by simpa using h1,by rw[h2,Nat.add_assoc,Nat.add_comm 1 i]⟩
theorem LV:∀{ds:List D} {j:Nat},(eu j ds).length=ds.length
 |[],_=>rfl
 |_::ds,j=>by simp[eu,LV (ds:=ds)]
theorem Nk {K:aa}{F B:Hp}{a:af}{vs:List V}{ds:List D}(hp:Pr (Al K ct F B n) ds vs)(keep:∀F' H',bE F F'->bE B H'->bE F' H'->eJ K H' a vs):qH K ct F B (n+1) (FE K a) (eu 0 ds):=by
 intro i F' H' s1 s2 s3
 have hs:eJ K H' a vs:=keep F' H' s1 s2 s3
 refine⟨λd hd=>?_,λhl=>⟨vs,hs,by rw[←hp.length];rw[LV]at hl;exact hl⟩⟩
 obtain⟨x,hx,rfl⟩:=Iv hd
 obtain⟨v,hv,l⟩:=hp.get' hx
 refine⟨⟨vs,v,hs,hv⟩,λz H2 y=>?_⟩
 obtain⟨r,y',hr,rfl,rfl,y⟩:=y
 have:=y vs hs
 rw[hv]at this
 cases this
 refine⟨_,eY.newS s3 hr _,.inr (.tup ym (.cons (Al.of ?_) (.cons (l.mono (s1.trans (j1 (s3.free hr) _)) (.refl _)) .nil)))⟩
 rw[nO]
 exact .int _
theorem Wp {fs:Env->Option (List D)}{mH:List Expr}{kt:Nat}{pt pp:cA}(hm:X.mg "enumerate"=none)(ha:XA X ct ms [a] [0] fs)(hg:Gl X "enumerate":=by rfl)(hs:aq [a] X.env=[(false,bN a X.env)]:=by rfl) :
  XI X ct ms 1 (.Tuple mH kt pt) (.Call (.Name "enumerate" pp) [a] [] pos) (λρ=>(fs ρ).bind λds=>match ds with|[.lst xs]=>some (eu 0 xs)|_=>none):=by
 obtain⟨t,pt,_,qt⟩:=ha
 refine⟨_,MK hg hm pt hs,λF0 B F H ρ σ ds R rs e w=>?_⟩
 obtain⟨lT,h1,h2⟩:=aM e
 refine qt F0 B F H ρ σ _ _ rs h1 λvs F' H' x l=>?_
 cases l with
 |cons h t=>
  cases t
  rename_i d v
  cases d with
  |lst xs=>
   cases h2
   obtain⟨a,vs,rfl,ha,hp⟩:=Dt.lst_inv h
   exact⟨a,rfl,⟨vs,x.fh.seq ha⟩,w _ F' H' x (Nk (n:=0) hp.pr λF2 H2 s1 s2 s3=>s3.seq (s1.seq ha))⟩
  |_=>cases h2
theorem Mp {fs:Env->Option (List D)}{mH:List Expr}{kt:Nat}{pt pp:cA}(hm:X.mg "enumerate"=none)(ha:XA X ct ms [a] [n] fs)(hg:Gl X "enumerate":=by rfl)(hs:aq [a] X.env=[(false,bN a X.env)]:=by rfl) :
  tw X ct ms (n-1+1) (.Tuple mH kt pt) (.Call (.Name "enumerate" pp) [a] [] pos) (λρ=>(fs ρ).bind λds=>match ds with|[.lst xs]=>some (eu 0 xs)|_=>none):=by
 obtain⟨t,pt,_,qt⟩:=ha
 refine⟨_,MK hg hm pt hs,λF0 B F H ρ σ ds R rs e w=>?_⟩
 obtain⟨lT,h1,h2⟩:=aM e
 refine qt F0 B F H ρ σ _ _ rs h1 λvs F' H' x l=>?_
 cases l with
 |cons h t=>
  cases t
  rename_i d v
  cases d with
  |lst xs=>
   cases h2
   obtain⟨a,vs,rfl,ha,hp⟩:=h.lst x.fh
   exact⟨a,rfl,⟨vs,ha⟩,w _ F' H' x (Nk hp λF2 H2 s1 s2 s3=>s2.seq ha)⟩
  |_=>cases h2
end
end L3
namespace L3
open PySem PySem.Spec L2
open PyProof.Rows hiding St
section
variable {X:Cx}{ct:Nat->af}{ms:List Mo}{rk n m k:Nat}{st:bI}{rest:List bI}{a b c e tg:Expr}{f g h:EF}{p q:BF}{u w:SF}{pos:cA}
theorem Ow.lst_inv {K:aa}{F H:Hp}{ds:List D}{v:V}{fp:List af}(h:Ow K ct F H (k+1) (.lst ds) v fp):∃a vs fr,v=.ref a/\fp=a::fr/\F a=none/\H a=some (.lst vs)/\dU (Ow K ct F H k) ds vs fr:=by
 rcases h with⟨h,_⟩|h
 ·cases h
 ·cases h with
  |lst h1 h2 h3=>exact⟨_,_,_,rfl,rfl,h1,h2,h3⟩
theorem Ow.dK_inv {K:aa}{F H:Hp}{ks:List et}{ds:List D}{v:V}{fp:List af}(h:Ow K ct F H (k+1) (.dK ks ds) v fp):∃a vs fr,v=.ref a/\fp=a::fr/\F a=none/\H a=some (.dK (ks.zip vs))/\ks.length=vs.length/\dU (Ow K ct F H k) ds vs fr:=by
 rcases h with⟨h,_⟩|h
 ·cases h
 ·cases h with
  |dK h1 h2 h3 h4=>exact⟨_,_,_,rfl,rfl,h1,h2,h3,h4⟩
theorem Ow.dT_inv {K:aa}{F H:Hp}{ks:List (List et)}{ds:List D}{v:V}{fp:List af}(h:Ow K ct F H (k+1) (.dT ks ds) v fp):∃a vs fr,v=.ref a/\fp=a::fr/\F a=none/\H a=some (.dT (ks.zip vs))/\ks.length=vs.length/\dU (Ow K ct F H k) ds vs fr:=by
 rcases h with⟨h,_⟩|h
 ·cases h
 ·cases h with
  |dT h1 h2 h3 h4=>exact⟨_,_,_,rfl,rfl,h1,h2,h3,h4⟩
theorem RS.change {K:aa}{F0 B F H F' H':Hp}{ρ:Env}{σ:St}{i:Nat}{d':D}{v:V}{f1 fr fn:List af}{ad:af}{o:HO}(rs:RS K ct F0 B ms F H ρ σ)(hm:ms[i]?=some (.ow k))(x:eY F H F' H')
  (hσ:σ[i]?=some (some v)) (b1:∀a∈f1,B a=none) (dj:∀a∈f1,a∉fr) (cf:∀a∈fr,F a=none/\∃o,H a=some o/\iD o)
  (put:∀(F' H':Hp) (d':D) (v':V) (f':List af),bE F F'->bE B H'->bE F' H'->(∀a o,B a=some o->iD o->F0 a=none->F' a=none)->(∀a∈fr,H' a=H a/\F' a=none)->Ow K ct F' H' k d' v' f'->f'.Nodup->(∀a∈f',a∉fr)->(∀a∈f',B a=none) ->
    RS K ct F0 B ms F' H' (ρ.set i (some d')) (σ.set i (some v')))
  (Kj:ad∈f1) (GH:F' ad=none) (o':Ow K ct F' (upd H' ad o) k d' v fn) (nd:fn.Nodup) (yI:∀a∈fn,a∈f1\/H a=none):RS K ct F0 B ms F' (upd H' ad o) (ρ.set i (some d')) σ:=by
 have r:=rs.ext x
 have hB:B ad=none:=b1 ad Kj
 have res:=put F' (upd H' ad o) d' v fn x.ff (λz u h=>by rw[zn (λe=>by rw[e,hB]at h;cases h)];exact r.bh _ _ h) (λz u h=>by rw[zn (λe=>by rw[e,GH]at h;cases h)];exact x.fh _ _ h) r.nf
  (λz hz=>by
   obtain⟨hn,o,ho,nt⟩:=cf z hz
   refine⟨?_,x.nf z o ho nt hn⟩
   have ne:z≠ad:=λe=>dj ad Kj (by rw[←e];exact hz)
   rw[zn ne]
   exact(x.hh _ _ ho).trans ho.symm) o' nd
  (λz hz zr=>by
   rcases yI z hz with h|h
   ·exact dj z h zr
   ·obtain⟨_,o,ho,nt⟩:=cf z zr
    rw[h]at ho
    cases ho)
  (λz hz=>(yI z hz).elim (b1 z) λh=>rs.bh.free h)
 have e:σ.set i (some v) = σ:=by
  apply eh
  intro j
  by_cases hj:i=j
  ·subst hj
   rw[cw (by
    have:=aU.mp hσ
    exact this.1),hσ]
  ·rw[dI hj]
 rw[e]at res
 exact res
def sApp (i:Nat)(f:EF):SF:=λρ=>(eV i ρ).bind λo=>(f ρ).bind λd=>match o with
 |.lst ds=>if ds.length<16777216 then some (.nx (ρ.set i (some (.lst (ds++[d])))))else none
 |_=>none
theorem vq (i:Nat){x:aI}{p1 cY dM:cA}(hm:ms[i]?=some (.ow (k+1)))(he:XO X ct ms k e f)(hN:X.N[i]?=some x:=by rfl)(hv:mW X.env.scope x:=by first|exact Or.inl rfl|exact Or.inr (Or.inl rfl)|exact Or.inr (Or.inr rfl))(hd:(x==("__debug__":aI))=false:=by decide)
  (gG:(x==("__classdict__":aI))=false:=by decide) (nE:aq [e] X.env=(false,bN e X.env)::aq [] X.env:=by rfl)
  (qM:eP (.Name x p1) "append" X.env (bN (.Name x p1) X.env)=bN (.Name x p1) X.env:=by rfl)
  (vY:((cC dM (aq [e] X.env)).all (λx=>!x.1)&&(eQ dM (dC [] X.env)).all (λx=>x.1.isSome)
   && decide ([e].length+([]:List iq).length+(if([]:List iq).isEmpty then 0 else 1)<30))=true:=by rfl)
  (qT:(cY.endLine==dM.line)=true:=by rfl) (oo:(cC dM (aq [] X.env)).any (·.1)=false:=by rfl)
  (wH:dO (.Call (.Attribute (.Name x p1) "append" cY) [e] [] dM) none pos.line X.env=pure false:=by rfl) :
  XS X ct ms rk (.Expr (.Call (.Attribute (.Name x p1) "append" cY) [e] [] dM) pos) (sApp i f):=by
 obtain⟨t,pt,qt⟩:=he
 refine⟨_,Mz (YD PySem.F.plainAttrs_list PySem.F.slot_list_append PySem.F.type_list_append Iu (vk hN hv hd gG) (vc pt xT nE) qM vY qT nE oo) wH,λF0 B F H ρ σ o E rs e z=>?_⟩
 obtain⟨d1,d2,h1,h2,h3⟩:=dz e
 obtain⟨f1,fr,n1,b1,dj,i4,cf,put⟩:=rs.put (F':=F) (H':=H) hm
 obtain⟨v,hσ,ow⟩:=i4 d1 (yf h1)
 refine⟨v,hσ,?_⟩
 cases d1 with
 |lst ds=>
  dsimp only at h3
  by_cases hz:ds.length<16777216
  ·rw[if_pos hz]at h3
   cases h3
   obtain⟨ad,vs,oT,rfl,rfl,hF,hH,ol⟩:=ow.lst_inv
   refine⟨.inl ⟨rfl,_,eJ.of hH⟩,qt F0 B F H ρ σ d2 _ rs h2 λv2 F' H' fp x1 o2 HJ vX=>?_⟩
   have hA:H' ad=some (.lst vs):=x1.hh _ _ hH
   have fA:F' ad=none:=x1.nf ad _ hH nofun hF
   have nA:∀a∈fp,a≠ad:=λa hz e=>by rw[e]at hz;rw[vX ad hz]at hH;cases hH
   have yP:=aY.mp n1
   refine⟨ad,vs,v2,rfl,rfl,hA,by rw[←ol.length,bG];exact hz,?_⟩
   refine z σ F' _ (rs.change hm x1 hσ b1 dj cf put ah fA (.inr (.lst fA ym ((ol.mono λ_ _ f' hi o'=>?_).append (.cons (f:=fp) ?_ .nil)))) (fn:=ad::(oT++(fp++[]))) ?_ ?_)
   ·refine(o'.ext x1).frame (.refl _) λa ha=>⟨zn λe=>yP.1 (e▸hi a ha),((o'.ext x1).cells a ha).1⟩
   ·exact o2.frame (.refl _) λa ha=>⟨zn (nA a ha),(o2.cells a ha).1⟩
   ·rw[bY]
    refine aY.mpr ⟨λhz=>?_,aW.mpr ⟨yP.2,HJ,λa ha b hb e=>?_⟩⟩
    ·rcases aT.mp hz with hz|hz
     ·exact yP.1 hz
     ·exact nA ad hz rfl
    ·subst e
     obtain⟨_,o,ho,_⟩:=dU.cellsOf ol a ha
     rw[vX a hb]at ho
     cases ho
   ·intro a ha
    rw[bY]at ha
    rcases ay.mp ha with rfl|ha
    ·exact .inl ah
    ·rcases aT.mp ha with ha|ha
     ·exact .inl (ai _ ha)
     ·exact .inr (vX a ha)
  ·rw[if_neg hz]at h3;cases h3
 |_=>cases h3
def iN (ds:List D)(i:Int)(d:D):Option (List D):=(ixN ds.length i).bind λj=>some (ds.set j d)
def fH {κ:Type}[DecidableEq κ](ks:List κ)(ds:List D)(k:κ)(d:D):List κ×List D:=if ks.contains k=true then(ks,(ks.zip ds).map λp=>if p.1=k then d else p.2)else(ks++[k],ds++[d])
def gB (i:Nat)(fj f:EF):SF:=λρ=>(f ρ).bind λd=>(eV i ρ).bind λo=>(fj ρ).bind λj=>match o,j with
 |.lst ds,.int z=>(iN ds z d).bind λlT=>some (.nx (ρ.set i (some (.lst lT))))
 |_,_=>none
theorem dU.set0 {R:D->V->List af->Prop}{d:D}{v:V}(r:R d v [])(z:∀d v f,R d v f->f=[]):∀{ds:List D} {vs:List V} {fp:List af} (i:Nat),dU R ds vs fp->dU R (ds.set i d) (vs.set i v) []
 |_,_,_,_,.nil=>.nil
 |_,_,_,0,.cons h t=>by
  have:=dU.cons (f:=[]) (g:=[]) r (dU.ofPr (t.pr λd v f _ q=>by have:=z _ _ _ q;subst this;exact q))
  exact this
 |_,_,_,i+1,.cons h t=>by
  have e:=z _ _ _ h
  subst e
  exact dU.cons (f:=[]) (g:=[]) h (dU.set0 r z i t)
theorem Ow.nil0 {K:aa}{F H:Hp}{d:D}{v:V}{fp:List af}(h:Ow K ct F H 0 d v fp):fp=[]:=h.2
theorem dU.nil0 {K:aa}{F H:Hp}{ds:List D}{vs:List V}{fp:List af}(h:dU (Ow K ct F H 0) ds vs fp):fp=[]:=by
 induction h with
 |nil=>rfl
 |cons h t ih=>rw[h.nil0,ih];rfl
theorem Wq (i:Nat){x:aI}{j:Expr}{p1 ez:cA}{fj:EF}(hm:ms[i]?=some (.ow 1))(hj:XE X ct ms n j fj)(he:XE X ct ms 0 e f)(hN:X.N[i]?=some x:=by rfl)(hv:mW X.env.scope x:=by first|exact Or.inl rfl|exact Or.inr (Or.inl rfl)|exact Or.inr (Or.inr rfl))(hd:(x==("__debug__":aI))=false:=by decide)
  (gG:(x==("__classdict__":aI))=false:=by decide)
  (ha:∀v,eW (.Subscript (.Name x p1) j ez) X.env v=(do
   let ov ← dg [v] (bN (.Name x p1) X.env)
   let iv ← dg [v,ov] (bN j X.env)
   eT ez
   dg [v,ov,iv] (kc ov iv v)
   ng [v,ov,iv] []):=by intro _;rfl)
  (hs:iz [.Subscript (.Name x p1) j ez] e pos.line X.env=pure false:=by rfl) (hw:iy [.Subscript (.Name x p1) j ez] e X.env=pure none:=by rfl)
  (h1:(cF [.Subscript (.Name x p1) j ez] X.env).map (·.2)=[eW (.Subscript (.Name x p1) j ez) X.env]:=by rfl) :
  XS X ct ms rk (.Assign [.Subscript (.Name x p1) j ez] e pos) (gB i fj f):=by
 obtain⟨t,pt,qt⟩:=he
 obtain⟨tj,sE,sI⟩:=hj
 refine⟨_,Ft pt (Jk (vk hN hv hd gG) sE E5 ha) hs hw h1,λF0 B F H ρ σ o E rs e z=>?_⟩
 obtain⟨d,g1,g2⟩:=aM e
 obtain⟨d1,oR,g3,g4,g5⟩:=dz g2
 refine qt F0 B F H ρ σ d _ rs g1 λv0 F1 H1 x1 l0=>?_
 have iV:=rs.ext x1
 obtain⟨f1,fr,n1,b1,dj,i4,cf,put⟩:=iV.put (F':=F) (H':=H) hm
 obtain⟨v,hσ,ow⟩:=i4 d1 (yf g3)
 refine⟨v,hσ,sI F0 B F1 H1 ρ σ oR _ iV g4 λvj F2 H2 x2 lj=>?_⟩
 cases d1 with
 |lst ds=>
  cases oR with
  |int zi=>
   obtain⟨lT,g6,g7⟩:=aM g5
   cases g7
   obtain⟨jn,g8,g9⟩:=aM g6
   cases g9
   obtain⟨ad,vs,oT,rfl,rfl,hF,hH,ol⟩:=ow.lst_inv
   have hA:H2 ad=some (.lst vs):=x2.hh _ _ hH
   have fA:F2 ad=none:=x2.nf ad _ hH nofun hF
   have e0:=ol.nil0
   subst e0
   refine⟨ad,vs,zi,jn,rfl,lj.int,hA,by rw[←ol.length];exact g8,?_⟩
   refine z σ F2 _ (iV.change hm x2 hσ b1 dj cf put ah fA (.inr (.lst fA ym (dU.set0 ⟨Dt.mono x2.ff l0,rfl⟩ (λ_ _ _ q=>q.2) jn (ol.mono λ_ _ _ _ q=>⟨q.1.mono x2.ff,q.2⟩)))) (fn:=[ad]) (by simp) ?_)
   intro a ha
   rw[aO]at ha
   subst ha
   exact .inl ah
  |_=>cases g5
 |_=>cases g5
end
end L3
namespace L3
open PySem PySem.Spec L2
open PyProof.Rows hiding St
section
variable {X:Cx}{ct:Nat->af}{ms:List Mo}{rk n m k:Nat}{st:bI}{rest:List bI}{a b c e tg:Expr}{f g h:EF}{p q:BF}{u w:SF}{pos:cA}{K:aa}
theorem HG {aj:List (af×cN)}{σ:St}{H:Hp}{s:ak}{l:af}{xs:List V}(I:Inv X aj σ H s)(hH:Rd H l (.lst xs)):xs.length<=sizeLine/\∃(bV:List ae) (n:Nat),bQ xs bV/\xs.length=bV.length/\s.heap.get? l=some { cls:=.type "list",data:=.seq bV.toArray n }:=by
  obtain⟨z,bV,n,r,e⟩:=hH.ok I.hok
  exact⟨z,bV,n,r,r.length,e⟩
def t4 (K:aa):R2:=λx y H Q=>∃l b xs zs,x=.ref l/\y=.ref b/\eJ K H l xs/\eJ K H b zs/\xs.length+zs.length<=sizeLine/\∀p,H p=none->Q (.ref p) (upd H p (.lst (xs++zs)))
theorem VQ:fJ X (dG .Add) (t4 X.K):=by
 intro aj s σ H x y v u Q I rx ry h
 obtain⟨l,b,xs,zs,rfl,rfl,hH,hB,hz,q⟩:=h
 cases rx
 cases ry
 obtain⟨bV,r,⟨⟨cls,dd,data,sl⟩,n,e,c1,c2,c3⟩,z⟩:=I.list hH
 obtain⟨su,r2,⟨⟨Ge,D5,data2,Di⟩,n2,e2,c4,c5,c6⟩,z2⟩:=I.list hB
 simp only at c1 c3 c4 c6
 subst c1 c3 c4 c6
 have hl:=r.length
 have BC:=r2.length
 refine pV ⟨_,e,rfl⟩ ⟨_,e2,rfl⟩ noFill_list_add seq_list_add PySem.F.slot_list_add PySem.F.entry_list_add (PySem.F.args_list_add_2 _ _) (list_addW l b bV.toArray su.toArray n n2 dd D5 sl Di (by rw[aD,aD];omega)) ⟨e,e2,?_⟩
 have ea:bV.toArray++su.toArray=(bV++su).toArray:=by simp
 rw[ea]
 exact⟨.ref _,_,I.lnew (t':=s.toks) (r.append r2) (by rw[aR];omega),rfl,q _ I.fresh⟩
def C6:R2:=λx y H Q=>∃i j,x=.str i/\y=.str j/\i.length+j.length<=sizeLine/\Q (.str (i++j)) H
def xG (K:aa):R2:=λx y H Q=>nU (λi j=>.int (i+j)) x y H Q\/C6 x y H Q\/t4 K x y H Q\/t5 K x y H Q
theorem Fb:fJ X (dG .Add) (xG X.K):=fJ.or Xg (fJ.or Th (fJ.or VQ VP))
def dZ:D->D->Option D
 |.int i,.int j=>some (.int (i+j))
 |.str x,.str y=>if x.length+y.length<=16777216 then some (.str (x++y))else none
 |.lst xs,.lst ys=>if xs.length+ys.length<=16777216 then some (.lst (xs++ys))else none
 |.tup xs,.tup ys=>if xs.isEmpty=false/\ys.isEmpty=false/\xs.length+ys.length<=1000000 then some (.tup (xs++ys))else none
 |_,_=>none
theorem Pr.ow0 {F G H:Hp}{ds:List D}{vs:List V}(h:Pr (Al K ct F G 0) ds vs):dU (Ow K ct F H 0) ds vs []:=dU.ofPr (h.mono λ_ _ q=>⟨q,rfl⟩)
theorem Al.lst1 {F G:Hp}{ds:List D}{v:V}(hn:n<=1)(h:Al K ct F G n (.lst ds) v)(s:bE F G):∃a vs,v=.ref a/\eJ K G a vs/\Pr (Al K ct F G 0) ds vs:=by
 obtain⟨a,vs,e,h1,h2⟩:=h.lst s
 have:n-1=0:=by omega
 rw[this]at h2
 exact⟨a,vs,e,h1,h2⟩
theorem Al.tup1 {F G:Hp}{ds:List D}{v:V}(hn:n<=1)(h:Al K ct F G n (.tup ds) v)(s:bE F G):∃a vs,v=.ref a/\G a=some (.tup vs)/\Pr (Al K ct F G 0) ds vs:=by
 obtain⟨a,vs,e,h1,h2⟩:=h.tup s
 have:n-1=0:=by omega
 rw[this]at h2
 exact⟨a,vs,e,h1,h2⟩
theorem qw {F H:Hp}{ds:List D}{vs:List V}{Q:VK}(s:bE F H)(hp:Pr (Al K ct F H 0) ds vs)(w:∀v F' H' fp,eY F H F' H'->Ow K ct F' H' 1 (.lst ds) v fp->fp.Nodup->(∀a∈fp,H a=none)->Q v H'):∀p,H p=none->Q (.ref p) (upd H p (.lst vs)):=λp h0=>by
 obtain⟨o,nd⟩:=MT s (hp.ow0 (H:=H)) h0
 exact w _ F _ [p] (eY.newO s h0 _) o (nd bx) λa z=>by rw[aO]at z;subst z;exact h0
theorem MX (hn:n<=1)(hm:m<=1):zI K ct n m 1 (xG K) dZ:=by
 intro F H x y d1 d2 d Q s l1 l2 e w
 have ws:∀d v,d.sc=true->Dt K ct F d v->(∀v F' H' fp,eY F H F' H'->Ow K ct F' H' 1 d v fp->fp.Nodup->(∀a∈fp,H a=none)->Q v H')->Q v H:=λd v hs hd w=>w v F H [] (.refl s) (Ow.scal hd hs) bx λa z=>(by cases z)
 cases d1 with
 |int i=>
  cases d2 with
  |int j=>cases e;exact .inl ⟨i,j,l1.int,l2.int,ws _ _ rfl (.int _) w⟩
  |_=>cases e
 |str i=>
  cases d2 with
  |str j=>
   unfold dZ at e
   dsimp only at e
   by_cases hz:i.length+j.length<=16777216
   ·rw[if_pos hz]at e
    cases e
    exact .inr (.inl ⟨i,j,l1.str,l2.str,by rw[bG];exact hz,ws _ _ rfl (.str _) w⟩)
   ·rw[if_neg hz]at e;cases e
  |_=>cases e
 |lst xs=>
  cases d2 with
  |lst ys=>
   unfold dZ at e
   dsimp only at e
   by_cases hz:xs.length+ys.length<=16777216
   ·rw[if_pos hz]at e
    cases e
    obtain⟨a,vs,rfl,ha,hp⟩:=Al.lst1 hn l1 s
    obtain⟨b,us,rfl,hb,hq⟩:=Al.lst1 hm l2 s
    exact .inr (.inr (.inl ⟨a,b,vs,us,rfl,rfl,ha,hb,by rw[←hp.length,←hq.length,bG];exact hz,qw s (hp.append hq) w⟩))
   ·rw[if_neg hz]at e;cases e
  |_=>cases e
 |tup xs=>
  cases d2 with
  |tup ys=>
   unfold dZ at e
   dsimp only at e
   by_cases hz:xs.isEmpty=false/\ys.isEmpty=false/\xs.length+ys.length<=1000000
   ·rw[if_pos hz]at e
    cases e
    obtain⟨a,vs,rfl,ha,hp⟩:=Al.tup1 hn l1 s
    obtain⟨b,us,rfl,hb,hq⟩:=Al.tup1 hm l2 s
    have hl:=hp.length
    have BC:=hq.length
    have e1:vs≠[]:=λz=>by
     rw[z]at hl
     have:=mU.mp hl
     rw[this]at hz
     exact absurd hz.1 (by decide)
    have e2:us≠[]:=λz=>by
     rw[z]at BC
     have:=mU.mp BC
     rw[this]at hz
     exact absurd hz.2.1 (by decide)
    refine .inr (.inr (.inr ⟨a,b,vs,us,rfl,rfl,jU.of ha,jU.of hb,e1,by rw[←hl,←BC,bG];omega,λz=>absurd z e2,λ_ p h0=>?_⟩))
    have x2:=eY.newS s h0 (.tup (vs++us))
    exact w _ _ _ [] x2 (.inr (.tup ym (dU.ofPr ((hp.append hq).mono λ_ _ q=>⟨Dt.mono x2.ff q,rfl⟩)))) bx λa z=>(by cases z)
   ·rw[if_neg hz]at e;cases e
  |_=>cases e
 |_=>cases e
def Df:R2:=λx y H Q=>∃l k xs,x=.ref l/\y=.int k/\Rd H l (.lst xs)/\-(2 ^ 63)<=k/\k<2 ^ 63/\xs.length*k.toNat<=sizeLine /\
 ∀p,H p=none->Q (.ref p) (upd H p (.lst (av k.toNat xs).flatten))
theorem VR:fJ X (dG .Mult) Df:=by
 intro aj s σ H x y v u Q I rx ry h
 obtain⟨l,k,xs,rfl,rfl,hH,h1,h2,hz,q⟩:=h
 cases rx
 obtain⟨t,rfl⟩:=ry
 obtain⟨z,bV,n,r,hl,e⟩:=HG I hH
 have d6:bV.toArray.size*k.toNat<=sizeLine:=by rw[aD,←hl];exact hz
 have iZ:¬bV.toArray.size*k.toNat > (2 ^ 63-1)/8:=by
  have:(sizeLine:Nat)<=(2 ^ 63-1)/8:=by decide
  omega
 have G4:¬(!Builtin.List.listFitsIndex k)=true:=by
  rw[fitsIndex_both h1 h2]
  exact aJ
 have BD:¬Builtin.List.listTooLong (bV.toArray.size*k.toNat)=true:=by
  rw[rj d6]
  exact aJ
 have Hg:pf (λx1 x2=>x1++x2) #[] (av (if bV.toArray.isEmpty=true then 0 else k.toNat) bV.toArray)=(av k.toNat bV).flatten.toArray:=by
  have f0:∀m:Nat,pf (λx1 x2=>x1++x2) #[] (av m bV.toArray)=(av m bV).flatten.toArray:=λm=>by
   have:=foldl_rep bV m []
   rw[List.nil_append]at this
   exact this
  rw[f0]
  cases bV with
  |nil=>simp
  |cons a r'=>rw[if_neg (by simp)]
 refine wpAny_binaryOp_repeat_ref (T:="list") (U:="int") (by decide) ⟨_,e,rfl⟩ (λs'=>sY s' k t) noFill_list_mul F.fills_int_mul F.slot_int_rmul repeat_list F.slot_int_index.lookup
  (sX F.slot_int_rmul (sY s k t) F.entry_int_rmul (F.args_int_rmul_2 _ _) (int___rmul___int_list k t l bV.toArray n)
   ⟨e,rfl,⟨_,e,rfl⟩,sX F.slot_list_mul ⟨_,e,rfl⟩ F.entry_list_mul (F.args_list_mul_2 _ _) (AutoListH.list___mul___list_int_3 l bV.toArray n k t G4 iZ BD) ⟨e,?_⟩⟩)
 rw[Hg]
 exact⟨.ref _,_,I.lnew (t':=s.toks) (r.rep k.toNat) (by rw[Vs,Nat.mul_comm];exact hz),rfl,q _ I.fresh⟩
theorem wn:lu K ct n m k (rI lY λi j=>.int (i*j)) eO:=Wj
def lF:D->D->Option D
 |.lst xs,.int j=>if -1000000<j/\j<1000000/\xs.length<=16 then some (.lst (av j.toNat xs).flatten)else none
 |_,_=>none
theorem Jr (ha:XO X ct ms 1 a f)(hb:XE X ct ms m b g):XO X ct ms 1 (.BinOp a .Mult b pos) (e2 lF f g):=by
 obtain⟨ta,pa,qa⟩:=ha
 obtain⟨tb,pb,qb⟩:=hb
 refine⟨_,DO VR pa pb,λF0 B F H ρ σ d Q rs e w=>?_⟩
 obtain⟨d1,d2,h1,h2,h3⟩:=dz e
 refine qa F0 B F H ρ σ d1 _ rs h1 λv F1 H1 fp x1 o nd hf=>?_
 refine qb F0 B F1 H1 ρ σ d2 _ (rs.ext x1) h2 λv2 F2 H2 x2 l2=>?_
 cases d1 with
 |lst xs=>
  cases d2 with
  |int j=>
   unfold lF at h3
   dsimp only at h3
   by_cases hz:-1000000<j/\j<1000000/\xs.length<=16
   ·rw[if_pos hz]at h3
    cases h3
    obtain⟨ad,vs,fr,rfl,rfl,hF,hH,ol⟩:=(o.ext x2).lst_inv
    have hp:Pr (Al X.K ct F2 H2 0) xs vs:=ol.pr λ_ _ _ _ q=>q.1
    have x12:=x1.trans x2
    refine⟨ad,j,vs,rfl,l2.int,.inl hH,by omega,by omega,?_,qw x2.fh (hp.rep _) λv F' H' fp x o nd hf=>w v F' H' fp (x12.trans x) o nd λz hz=>x12.hh.free (hf z hz)⟩
    rw[←hp.length,bG]
    have h1:j.toNat<=1000000:=by omega
    have h2:xs.length*j.toNat<=16*1000000:=Nat.mul_le_mul hz.2.2 h1
    omega
   ·rw[if_neg hz]at h3;cases h3
  |_=>cases h3
 |_=>cases h3
def sA:D->Option D
 |.int i=>some (.int (-i))
 |_=>none
theorem Nl (ha:XE X ct ms n a f):XE X ct ms k (.UnaryOp .USub a pos) (e1 sA f):=by
 refine YH Xi (λF H x d1 d Q s l e w=>?_) ha
 cases d1 with
 |int i=>cases e;exact⟨i,l.int,w _ F H (.refl s) (Al.of (.int _))⟩
 |_=>cases e
theorem qx {x:aI}{d:D}{u:ae}(hg:Gl X x)(hm:X.mg x=some u)(hs:d.sc=true)(r:RelV d.v u)(hd:(x==("__debug__":aI))=false:=by decide):XE X ct ms n (.Name x pos) (eC d):=by
 refine⟨_,Mw hg hm r hd,λF0 B F H ρ σ d' Q rs e w=>?_⟩
 cases e
 refine w _ F H (.refl rs.fh) (Al.of ?_)
 cases d with
 |non=>exact .non
 |bl b=>exact .bl b
 |int b=>exact .int b
 |str b=>exact .str b
 |_=>cases hs
def jC:List D->Option D
 |[.lst ds]=>some (.lst ds)
 |[.tup ds]=>some (.lst ds)
 |_=>none
theorem E8 (hn:n<=1):zJ K ct [n] 1 (λxs H Q=>∃p ys,xs=[.ref p]/\(eJ K H p ys\/jU K H p ys)/\∀l,H l=none->Q (.ref l) (upd H l (.lst ys))) jC:=by
 intro F H vs ds d Q s l e w
 cases l with
 |cons h t=>
  cases t
  rename_i d1 v
  cases d1 with
  |lst xs=>
   cases e
   obtain⟨a,us,rfl,ha,hp⟩:=Al.lst1 hn h s
   exact⟨a,us,rfl,.inl ha,qw s hp w⟩
  |tup xs=>
   cases e
   obtain⟨a,us,rfl,ha,hp⟩:=Al.tup1 hn h s
   exact⟨a,us,rfl,.inr (jU.of ha),qw s hp w⟩
  |_=>cases e
abbrev PF:=Env->Option (Option Int)
def pNo:PF:=λ_=>some none
def pInt (f:EF):PF:=λρ=>(f ρ).bind λd=>match d with
 |.int i=>some (some i)
 |_=>none
def XP (X:Cx)(ct:Nat->af)(ms:List Mo)(e:Option Expr)(f:PF):Prop:=∃t,PO X e t/\∀(F0 B F H:Hp) (ρ:Env) (σ:St) (o:Option Int) (Q:Option Int->Hp->Prop),RS X.K ct F0 B ms F H ρ σ->f ρ=some o->(∀F' H',eY F H F' H'->Q o H')->t σ H Q
theorem Ye:XP X ct ms none pNo:=⟨_,VN,λF0 B F H ρ σ o Q rs e w=>by cases e;exact w F H (.refl rs.fh)⟩
theorem VS (h:XE X ct ms n e f):XP X ct ms (some e) (pInt f):=by
 obtain⟨t,pt,qt⟩:=h
 refine⟨_,VO pt,λF0 B F H ρ σ o Q rs e w=>?_⟩
 obtain⟨d,h1,h2⟩:=aM e
 refine qt F0 B F H ρ σ d _ rs h1 λv F' H' x l=>?_
 cases d with
 |int i=>cases h2;exact⟨i,l.int,w F' H' x⟩
 |_=>cases h2
def cutD (xs:List D)(lo hi:Option Int):List D:=(xs.drop (HT.sIx xs.length 0 lo)).take (HT.sIx xs.length xs.length hi-HT.sIx xs.length 0 lo)
theorem VT {R:D->V->Prop}{ds:List D}{vs:List V}{lo hi:Option Int}(h:Pr R ds vs):Pr R (cutD ds lo hi) (pH vs lo hi):=by
 unfold cutD pH
 rw[h.length]
 exact(h.drop _).take _
def oG (d:D)(lo hi:Option Int):Option D:=match d with
 |.lst xs=>some (.lst (cutD xs lo hi))
 |_=>none
theorem U2 {lo hi:Option Expr}{pl ph:PF}{p1}(hn:n<=1)(he:XE X ct ms n e f)(hl:XP X ct ms lo pl)(hh:XP X ct ms hi ph):XO X ct ms 1 (.Subscript e (.Slice lo hi none p1) pos) (λρ=>(f ρ).bind λd=>(pl ρ).bind λl=>(ph ρ).bind λh=>oG d l h):=by
 obtain⟨t,pt,qt⟩:=he
 obtain⟨t1,xD,xF⟩:=hl
 obtain⟨t2,mN,mQ⟩:=hh
 refine⟨_,Ut Vr pt xD mN,λF0 B F H ρ σ r Q rs e w=>?_⟩
 obtain⟨d,l,h1,h2,h3⟩:=dz e
 obtain⟨hh,h4,h5⟩:=aM h3
 refine qt F0 B F H ρ σ d _ rs h1 λv F1 H1 x1 l1=>?_
 refine xF F0 B F1 H1 ρ σ l _ (rs.ext x1) h2 λF2 H2 x2=>?_
 refine mQ F0 B F2 H2 ρ σ hh _ ((rs.ext x1).ext x2) h4 λF3 H3 x3=>?_
 cases d with
 |lst xs=>
  cases h5
  have kK:=x2.trans x3
  obtain⟨a,vs,rfl,ha,hp⟩:=Al.lst1 hn (l1.mono kK.ff kK.hh) kK.fh
  exact⟨a,vs,rfl,ha,qw kK.fh (VT hp) λv F' H' fp x o nd hf=>w v F' H' fp ((x1.trans kK).trans x) o nd λz hz=>(x1.trans kK).hh.free (hf z hz)⟩
 |_=>cases h5
def FJ:List D->Option D
 |[.int i]=>some (.int (if i<0 then -i else i))
 |_=>none
def ii (g:Int->Int->D):List D->Option D
 |[.int i,.int j]=>some (g i j)
 |_=>none
theorem XZ {g:Int->Int->D}{gv:Int->Int->V}(hg:∀i j F,Dt K ct F (g i j) (gv i j)):yD K ct [n,m] k (λxs H Q=>∃i j,xs=[.int i,.int j]/\Q (gv i j) H) (ii g):=by
 intro F H vs ds d Q s l e w
 cases l with
 |cons h t=>
  cases t with
  |cons h' t=>
   cases t
   rename_i d1 v d2 v2
   cases d1 with
   |int i=>
    cases d2 with
    |int j=>cases e;exact⟨i,j,by rw[h.int,h'.int],w _ F H (.refl s) (Al.of (hg i j F))⟩
    |_=>cases e
   |_=>cases e
def kG:List D->Option D:=ii λi j=>.int (if j > i then j else i)
def Cw:List D->Option D:=ii λi j=>.int (if j<i then j else i)
theorem E9:yD K ct [n,m] k (λxs H Q=>∃i j,xs=[.int i,.int j]/\Q (.int (if j > i then j else i)) H) kG:=XZ λ_ _ _=>.int _
def xJ (i:Nat)(o:D->D->Option D)(f:EF):SF:=λρ=>(eV i ρ).bind λx=>(f ρ).bind λy=>(o x y).bind λd=>some (.nx (ρ.set i (some d)))
theorem X0 {op:iO}{i:Nat}{x:aI}{pos':cA}{gi:Int->Int->Int}(ho:yF X op (Ex gi))(hm:ms[i]?=some (.ow k))(hN:X.N.Nodup)(hi:X.N[i]?=some x)(hx:Loc X.env.scope x)(he:XE X ct ms n e f)(hf:X.fn x=true\/X.env.scope.names.lookup x=some .local:=by first|exact .inl rfl|exact .inr rfl|assumption) :
  XS X ct ms rk (.AugAssign (.Name x pos') op e pos) (xJ i (i2 λi j=>.int (gi i j)) f):=by
 obtain⟨t,pt,qt⟩:=he
 refine⟨_,Xe hN hi hx pt ho hf,λF0 B F H ρ σ o E rs e z=>?_⟩
 obtain⟨d1,d2,h1,h2,h3⟩:=dz e
 obtain⟨d,h4,h5⟩:=aM h3
 cases h5
 obtain⟨v,hv,l⟩:=rs.get hm (yf h1)
 refine⟨v,hv,qt F0 B F H ρ σ d2 _ rs h2 λy F' H' x1 l2=>?_⟩
 cases d1 with
 |int i'=>
  cases d2 with
  |int j'=>
   cases h4
   exact⟨i',j',l.int,l2.int,z _ F' H' (rs.set hm x1 (Ow.scal (.int _) rfl) bx λa z=>(by cases z))⟩
  |_=>cases h4
 |_=>cases h4
def sPar (i j:Nat)(fs:Env->Option (List D)):SF:=λρ=>(fs ρ).bind λds=>match ds with
 |[x,y]=>some (.nx ((ρ.set i (some x)).set j (some y)))
 |_=>none
def sAsg (g:D->Env->Option Env)(f:EF):SF:=λρ=>(f ρ).bind λd=>(g d ρ).bind λρ'=>some (.nx ρ')
theorem X1 {gg:D->Env->Option Env}(he:XE X ct ms 0 e f)(hg:XG X ct ms 0 tg gg)(hs:iz [tg] e pos.line X.env=pure false:=by rfl)(hw:iy [tg] e X.env=pure none:=by rfl)
  (h1:(cF [tg] X.env).map (·.2)=[eW tg X.env]:=by rfl):XS X ct ms rk (.Assign [tg] e pos) (sAsg gg f):=by
 obtain⟨t,pt,qt⟩:=he
 obtain⟨t2,mN,mQ⟩:=hg
 refine⟨_,Ft pt mN hs hw h1,λF0 B F H ρ σ o E rs e z=>?_⟩
 obtain⟨d,h1,h2⟩:=aM e
 obtain⟨ρ',h3,h4⟩:=aM h2
 cases h4
 exact qt F0 B F H ρ σ d _ rs h1 λv F' H' x l=>mQ F0 B F' H' ρ ρ' σ d v _ (rs.ext x) l h3 λσ' r=>z σ' F' H' r
end
end L3
namespace L3
open PySem PySem.Spec L2
open PyProof.Rows hiding St
def gA:List Nat->List Mo->Bool
 |[],_=>true
 |n::ns,.al m::ms=>decide (n=m)&&gA ns ms
 |n::ns,.ow m::ms=>decide (n=0)&&decide (m=0)&&gA ns ms
 |_,_=>false
theorem v4:∀{pm:List Nat} {ms:List Mo},gA pm ms=true->∀(i n:Nat),pm[i]?=some n->ms[i]?=some (Mo.al n)\/(n=0/\ms[i]?=some (Mo.ow 0))
 |[],_,_,i,n,e=>by simp at e
 |x::ns,.al m::ms,h,i,n,e=>by
  simp only[gA,bO,decide_eq_true_eq]at h
  cases i with
  |zero=>simp at e;subst e;rw[h.1];exact .inl rfl
  |succ i=>simpa using v4 h.2 i n (by simpa using e)
 |x::ns,.ow m::ms,h,i,n,e=>by
  simp only[gA,bO,decide_eq_true_eq]at h
  cases i with
  |zero=>simp at e;subst e;rw[h.1.1,h.1.2];exact .inr ⟨rfl,rfl⟩
  |succ i=>simpa using v4 h.2 i n (by simpa using e)
 |_::_,[],h,_,_,_=>by simp[gA]at h
 |_::_,.px _::_,h,_,_,_=>by simp[gA]at h
 |_::_,.so _::_,h,_,_,_=>by simp[gA]at h
def tD (X:Cx)(scope:fm)(N:List aI)(own:Nat)(cap:List Nat):Bool :=
 decide (scope.kind=.function)&&scope.names.all (λx=>(decide (x.2≠.cell) || decide (scope.names.lookup x.1=some .cell))&&(decide (x.2≠.local) || decide (scope.names.lookup x.1=some .local))&&(decide (x.2≠.free) || (decide (X.env.kindOf x.1=some .cell) || decide (X.env.kindOf x.1=some .free)))) &&
 decide (N.length=own+cap.length)&&(aH cap.length).all λj=>match N[own+j]?,cap[j]? with
  |some x,some i=>decide (X.N[i]?=some x)&&decide (scope.names.lookup x=some .free)
  |_,_=>false
theorem uC {X:Cx}{scope:fm}{N:List aI}{own:Nat}{cap:List Nat}(h:tD X scope N own cap=true):jR X scope N own cap:=by
 unfold tD at h
 simp only[bO,decide_eq_true_eq,ce,Bool.or_eq_true]at h
 obtain⟨⟨⟨h1,h2⟩,h3⟩,h4⟩:=h
 refine⟨h1,λx hx hl=>((h2 x hx).1.1).elim (λz=>absurd hl z) id,λx hx hl=>((h2 x hx).1.2).elim (λz=>absurd hl z) id,λx hx hf=>((h2 x hx).2).elim (λz=>absurd hf z) id,h3,λj x hj=>?_⟩
 have G7:j<cap.length:=by
  have:=(aU.mp hj).1
  omega
 have q:=h4 j (bZ.mpr G7)
 rw[hj]at q
 have hc:cap[j]?=some cap[j]:=by simp[G7]
 rw[hc]at q
 simp only[bO,decide_eq_true_eq]at q
 exact⟨_,hc,q.1,q.2⟩
def ER:D->Option String
 |.non=>some "NoneType"
 |.bl _=>some "bool"
 |.int _=>some "int"
 |.str _=>some "str"
 |.lst _=>some "list"
 |.tup _=>some "tuple"
 |.dK _ _=>some "dict"
 |_=>none
def Lf (K:aa)(H:Hp)(v:V)(t:String):Prop:=jI K H v (.type t)\/(t = "list"/\∃a xs,v=.ref a/\eJ K H a xs)
theorem Al.ty {K:aa}{ct:Nat->af}{F H:Hp}{n:Nat}{d:D}{v:V}{t:String}(s:bE F H)(h:Al K ct F H n d v)(e:ER d=some t):Lf K H v t:=by
 cases d with
 |non=>cases e;rw[h.non];exact .inl .non
 |bl b=>cases e;rw[h.bl];exact .inl (.bl b)
 |int b=>cases e;rw[h.int];exact .inl (.int b)
 |str b=>cases e;rw[h.str];exact .inl (.str b)
 |lst xs=>
  cases e
  obtain⟨a,vs,rfl,ha,_⟩:=h.lst s
  exact .inr ⟨rfl,a,vs,rfl,ha⟩
 |tup xs=>
  cases e
  obtain⟨a,vs,rfl,ha,_⟩:=h.tup s
  exact .inl (.tup ha)
 |dK ks xs=>
  cases e
  obtain⟨a,vs,rfl,ha,_⟩:=h.dK s
  exact .inl (.dK ha)
 |_=>cases e
theorem Ug {X:Cx}:eM X (.builtin "isinstance") (λxs H Q=>∃x c t b,xs=[x,.ty c]/\Lf X.K H x t/\bv X.K (.type t) (.type c)=some b/\Q (.bl b) H):=by
 intro aj s σ H xs us Q I r h
 obtain⟨x,c,t,b,rfl,ty,e,q⟩:=h
 rcases ty with ty|⟨rfl,a,ys,rfl,hq⟩
 ·exact UX aj s σ H _ us Q I r ⟨x,c,_,b,rfl,ty,e,q⟩
 ·obtain⟨u,w',rfl,ru,oA⟩:=vals2 r
  cases(show w'=ae.type c from oA)
  cases(show u=ae.ref a from ru)
  obtain⟨bV,rv,⟨o,n,h1,h2,_⟩,_⟩:=I.list hq
  exact cr jK I.kIn ⟨o,h1,h2⟩ e (λz=>nomatch z) λtk=>⟨.bl b,H,I.tok tk,rfl,q⟩
def BR (t c:String):Bool:=t==c || (t == "bool" && c == "int")
theorem VU {K:aa}:∀t∈(["NoneType","bool","int","str","list","tuple","dict"]:List String),∀c∈(["bool","int","str","list","tuple","dict"]:List String),bv K (.type t) (.type c)=some (BR t c):=by
 intro t ht c hc
 simp only[ay,ck,or_false]at ht hc
 rcases ht with rfl|rfl|rfl|rfl|rfl|rfl|rfl<;>rcases hc with rfl|rfl|rfl|rfl|rfl|rfl<;>rfl
theorem VV {d:D}{t:String}(e:ER d=some t):t∈(["NoneType","bool","int","str","list","tuple","dict"]:List String):=by
 cases d<;>simp[ER]at e<;>subst e<;>decide
section
variable {X:Cx}{ct:Nat->af}{ms:List Mo}{rk n m k:Nat}{a b c e tg:Expr}{f g h:EF}{pos:cA}
def lA (c:String)(d:D):Option D:=(ER d).bind λt=>some (.bl (BR t c))
theorem xW {c:String}{pp p2:cA}(hc:c∈(["bool","int","str","list","tuple","dict"]:List String))(hm:X.mg "isinstance"=none)(rM:X.mg c=none)(hb:bU c=some (.type c))(he:XE X ct ms n e f)(hg:Gl X "isinstance":=by rfl)(oV:Gl X c:=by rfl)(rN:aI.ofString c≠"__name__":=by decide)(hd2:(aI.ofString c==("__debug__":aI))=false:=by decide)
  (qB:aq [e,.Name c p2] X.env=(false,bN e X.env)::aq [.Name c p2] X.env:=by rfl) (tN:aq [.Name c p2] X.env=(false,bN (.Name c p2) X.env)::aq [] X.env:=by rfl) (gb:(cC pos (aq [.Name c p2] X.env)).any (·.1)=false:=by rfl) :
  XE X ct ms k (.Call (.Name "isinstance" pp) [e,.Name c p2] [] pos) (e1 (lA c) f):=by
 obtain⟨t,pt,qt⟩:=he
 refine⟨_,II Ug hg hm j2 (vc pt (vc (VB (v:=.ty c) oV rM hb rfl rN hd2) xT tN) qB) (by decide) (by decide) qB gb,λF0 B F H ρ σ d Q rs e w=>?_⟩
 obtain⟨d1,h1,h2⟩:=aM e
 obtain⟨ty,h3,h4⟩:=aM h2
 cases h4
 exact qt F0 B F H ρ σ d1 _ rs h1 λv F' H' x l=>⟨v,c,ty,_,rfl,l.ty x.fh h3,VU _ (VV h3) _ hc,w _ F' H' x (Al.of (.bl _))⟩
end
end L3
namespace L3
open PySem PySem.Spec L2
open PyProof.Rows hiding St
def my (K:aa):Sp:=λvs H Q _=>∃(a:af) (ns:List Int),vs=[.ref a]/\eJ K H a (ns.map V.int)/\ns.length<=63/\∀H',Q (.bl true) H'
theorem Dts.ints {K:aa}{ct:Nat->af}{F:Hp}:∀ns:List Int,Dts K ct F (ns.map D.int) (ns.map V.int)
 |[]=>.nil
 |n::ns=>.cons (.int n) (Dts.ints ns)
theorem X2 {P:aX}{w:bz}{K:aa}{mg:aI->Option ae}{base:aS}{k:Nat}{f:af}{fd:aF}{ps:List aI}{ct:Nat->af}{m:List D->Option D}(Fn:cH P w K mg base eF k f fd ps (gL K ct [0] 0 m))
  (h:∀ns:List Int,ns.length<=63->m [.lst (ns.map .int)]=some (.bl true)):cH P w K mg base eF k f fd ps (my K):=by
 have to:∀vs H Q E,my K vs H Q E->gL K ct [0] 0 m vs H Q E:=by
  rintro vs H Q E ⟨a,ns,rfl,hS,hl,q⟩
  refine⟨H,[.lst (ns.map .int)],.bl true,.refl _,.cons (Dt.lst hS (Dts.ints ns)) .nil,h ns hl,λv F' H' fp x o nd hf=>?_⟩
  have hv:v=.bl true:=by
   have o:Dt K ct F' (.bl true) v/\fp=[]:=o
   cases o.1
   rfl
  subst hv
  exact q H'
 exact⟨λvs H Q E z=>Fn.len vs H Q E (to vs H Q E z),λA outer s H args us vs Q E hr e0 hb hv z=>Fn.run A outer s H args us vs Q E hr e0 hb hv (to vs H Q E z)⟩
theorem LW {g:D->Env->Option Env}{b:SF}(I:List D->Env->Prop)(all:List D)(st:∀pre d post ρ,all=pre++d::post->I pre ρ->∃ρ1 ρ2,g d ρ=some ρ1/\(b ρ1=some (.nx ρ2)\/b ρ1=some (.ct ρ2))/\I (pre++[d]) ρ2):∀(ds pre:List D) (ρ:Env),all=pre++ds->I pre ρ ->
  ∃ρ',ir g b ds ρ=some (.nx ρ')/\I all ρ'
 |[],pre,ρ,e,h=>⟨ρ,rfl,by rw[e,bY];exact h⟩
 |d::ds,pre,ρ,e,h=>by
  obtain⟨ρ1,ρ2,h1,h2,h3⟩:=st pre d ds ρ e h
  obtain⟨ρ',h4,h5⟩:=LW I all st ds (pre++[d]) ρ2 (by rw[e];simp) h3
  refine⟨ρ',?_,h5⟩
  show(g d ρ).bind _=_
  rw[h1]
  show(b ρ1).bind _=_
  rcases h2 with h2|h2<;>(rw[h2];exact h4)
theorem ET {g:D->Env->Option Env}{b:SF}(I:List D->Env->Prop){ds:List D}{ρ:Env}(h:I [] ρ)(st:∀pre d post ρ,ds=pre++d::post->I pre ρ->∃ρ1 ρ2,g d ρ=some ρ1/\(b ρ1=some (.nx ρ2)\/b ρ1=some (.ct ρ2))/\I (pre++[d]) ρ2) :
  ∃ρ',ir g b ds ρ=some (.nx ρ')/\I ds ρ':=LW I ds st ds [] ρ rfl h
theorem Nx {α:Type}{all pre post:List α}{d:α}(h:all=pre++d::post):all[pre.length]?=some d:=by subst h;simp
theorem Iw {α S:Type}{g:D->Env->Option Env}{b:SF}(enc:α->D)(st:S->Env)(f:S->α->S)(P:S->Prop):∀(xs:List α) (s:S),P s ->
  (∀s x,x∈xs->P s->∃ρ1,g (enc x) (st s)=some ρ1/\(b ρ1=some (.nx (st (f s x)))\/b ρ1=some (.ct (st (f s x))))/\P (f s x))->ir g b (xs.map enc) (st s)=some (.nx (st (xs.foldl f s)))/\P (xs.foldl f s)
 |[],s,hp,_=>⟨rfl,hp⟩
 |x::xs,s,hp,h=>by
  obtain⟨ρ1,h1,h2,h3⟩:=h s x ah hp
  have ih:=Iw enc st f P xs (f s x) h3 λs y hy=>h s y (ai _ hy)
  refine⟨?_,ih.2⟩
  show(g (enc x) (st s)).bind _=_
  rw[h1]
  show(b ρ1).bind _=_
  rcases h2 with h2|h2<;>(rw[h2];exact ih.1)
theorem LX {g:D->Env->Option Env}{b:SF}(I:Nat->Env->Prop)(lo:Int):∀(n k:Nat) (ρ:Env),I k ρ ->
  (∀j ρ,k<=j->j<k+n->I j ρ->∃ρ1 ρ2,g (.int (lo+(j:Int))) ρ=some ρ1/\(b ρ1=some (.nx ρ2)\/b ρ1=some (.ct ρ2))/\I (j+1) ρ2) ->
  ∃ρ',ir g b ((List.range' k n).map λ(t:Nat)=>D.int (lo+(t:Int))) ρ=some (.nx ρ')/\I (k+n) ρ'
 |0,k,ρ,h,_=>⟨ρ,rfl,h⟩
 |n+1,k,ρ,h,st=>by
  obtain⟨ρ1,ρ2,h1,h2,h3⟩:=st k ρ (aG _) (by omega) h
  obtain⟨ρ',h4,h5⟩:=LX I lo n (k+1) ρ2 h3 λj ρ hj hl hI=>st j ρ (by omega) (by omega) hI
  refine⟨ρ',?_,by rw[show k+(n+1)=k+1+n by omega];exact h5⟩
  rw[List.range'_succ,br]
  show(g _ ρ).bind _=_
  rw[h1]
  show(b ρ1).bind _=_
  rcases h2 with h2|h2<;>(rw[h2];exact h4)
theorem qy {g:D->Env->Option Env}{b:SF}(I:Nat->Env->Prop){lo:Int}{n:Nat}{ρ:Env}(h:I 0 ρ)
  (st:∀j ρ,j<n->I j ρ->∃ρ1 ρ2,g (.int (lo+(j:Int))) ρ=some ρ1/\(b ρ1=some (.nx ρ2)\/b ρ1=some (.ct ρ2))/\I (j+1) ρ2):∃ρ',ir g b (kY lo n) ρ=some (.nx ρ')/\I n ρ':=by
 obtain⟨ρ',h1,h2⟩:=LX (g:=g) (b:=b) I lo n 0 ρ h λj ρ _ hj hI=>st j ρ (by omega) hI
 rw[nO]at h2
 exact⟨ρ',by unfold kY;rw[List.range_eq_range'];exact h1,h2⟩
theorem Ly {c:BF}{b:SF}(I:Env->Prop)(μ:Env->Nat)(st:∀ρ,I ρ->∃t,c ρ=some t/\(t=true->∃ρ',(b ρ=some (.nx ρ')\/b ρ=some (.ct ρ'))/\I ρ'/\μ ρ' < μ ρ)) :
  ∀(n:Nat) (ρ:Env),I ρ->μ ρ<n->∃ρ',kn c b n ρ=some (.nx ρ')/\I ρ'/\c ρ'=some false
 |0,_,_,h=>absurd h (by omega)
 |n+1,ρ,hI,h=>by
  obtain⟨t,h1,h2⟩:=st ρ hI
  cases t with
  |false=>exact⟨ρ,by show(c ρ).bind _=_;rw[h1];rfl,hI,h1⟩
  |true=>
   obtain⟨ρ',h3,h4,h5⟩:=h2 rfl
   obtain⟨ρ2,h6,h7,h8⟩:=Ly I μ st n ρ' h4 (by omega)
   refine⟨ρ2,?_,h7,h8⟩
   show(c ρ).bind _=_
   rw[h1]
   show(b ρ).bind _=_
   rcases h3 with h3|h3<;>(rw[h3];exact h6)
theorem VW {n k:Nat}(h:n<2 ^ k)(hk:k<=9000):n<n6:=bo h (i7 (by decide) hk)
theorem VX {n:Nat}(h:n<1048576):n<n6:=VW (k:=20) h (by decide)
theorem zbo {i j:Int}(h1:0<j)(h2:j<4611686018427387904):d4 (.int i) (.int j)=some (.int (i/j)):=by unfold d4;simp[h1,h2]
theorem za1 {i j:Int}(h:0<j):dP (.int i) (.int j)=some (.int (i%j)):=by unfold dP;simp[h]
theorem znb {i j:Int}(h1:-18446744073709551616<j)(h2:j<18446744073709551616):eO (.int i) (.int j)=some (.int (i*j)):=by simp[eO,qX,kI,h1,h2]
theorem j9 {i j:Int}(h1:-18446744073709551616<i)(h2:i<18446744073709551616):eO (.int i) (.int j)=some (.int (i*j)):=by simp[eO,qX,kI,h1,h2]
theorem zda {i j:Int}(h1:0<=j)(h2:j<=1000000)(h3:i.natAbs<18446744073709551616):gh (.int i) (.int j)=some (.int (i ^ j.toNat)):=by simp[gh,qX,mw,h1,h2,h3]
theorem zlp {i j:Int}(h1:0<=j)(h2:j<=1000000)(h3:i.natAbs<18446744073709551616):sL (.int i) (.int j)=some (.int (i*2 ^ j.toNat)):=by simp[sL,qX,mw,h1,h2,h3]
theorem zgs {i j:Int}(h1:0<=j):pM (.int i) (.int j)=some (.int (i/2 ^ j.toNat)):=by simp[pM,qX,h1]
theorem zdb (i j:Int):dZ (.int i) (.int j)=some (.int (i+j)):=rfl
theorem U3 {xs ys:List D}(h:xs.length+ys.length<=16777216):dZ (.lst xs) (.lst ys)=some (.lst (xs++ys)):=by simp[dZ,h]
theorem zdc (i j:Int):gN (.int i) (.int j)=some (.int (i-j)):=rfl
theorem zjn (i j:Int):qC (.int i) (.int j)=some (.bl (decide (i<j))):=rfl
theorem zo8 (i j:Int):tT (.int i) (.int j)=some (.bl (decide (i<=j))):=rfl
theorem zjo (i j:Int):pI (.int i) (.int j)=some (.bl (decide (j<i))):=rfl
theorem zo9 (i j:Int):GO (.int i) (.int j)=some (.bl (decide (j<=i))):=rfl
theorem zlr (i:Int):sA (.int i)=some (.int (-i)):=rfl
theorem zdd (ds:List D):fV [.lst ds]=some (.int ds.length):=rfl
theorem zls (ds:List D):fV [.tup ds]=some (.int ds.length):=rfl
theorem zlt (i:Int):FJ [.int i]=some (.int (if i<0 then -i else i)):=rfl
theorem zeo (i j:Int):kG [.int i,.int j]=some (.int (if j > i then j else i)):=rfl
theorem zjp (i j:Int):Cw [.int i,.int j]=some (.int (if j<i then j else i)):=rfl
theorem zpa (neg:Bool)(d:D):oX neg d .non=some (.bl (if neg then !d.isN else d.isN)):=by cases d<;>rfl
theorem zrq (neg b:Bool)(d:D):oX neg d (.bl b)=some (.bl (if neg then !d.isB b else d.isB b)):=by cases d<;>rfl
theorem znc (b:Bool):D0 (.bl b)=some b:=rfl
theorem zpb (ds:List D):D1 (.lst ds)=some ds:=rfl
theorem zcf (ds:List D)(l h:Option Int):oG (.lst ds) l h=some (.lst (cutD ds l h)):=rfl
theorem EU {j:Int}(h1:-4611686018427387904<=j)(h2:j<4611686018427387904):ie [.int j]=some (kY 0 j.toNat):=by simp[ie,h1,h2]
theorem MY (ds:List D)(i:Int):eZ (.lst ds) (.int i)=atI ds i:=rfl
theorem MZ {α:Type}(enc:α->D){xs:List α}{i:Int}{j:Nat}{x:α}(hi:i=(j:Int)\/i=(j:Int)-xs.length)(h:xs[j]?=some x):atI (xs.map enc) i=some (enc x):=by
 have hj:=(aU.mp h).1
 unfold L2.atI L2.ixN
 rw[aE]
 rcases hi with rfl|rfl
 ·rw[if_pos (by omega),if_pos (by omega)]
  simp[h]
 ·rw[if_neg (by omega),if_pos (by omega)]
  have:((j:Int)-(xs.length:Int)+(xs.length:Int)).toNat=j:=by omega
  simp[this,h]
theorem Uh (xs:List D)(k:Nat):cutD xs (some (k:Int)) none=xs.drop k:=by
 unfold cutD
 rw[HT.sIx_none,HT.sIx_nat]
 rcases Nat.le_total k xs.length with h|h
 ·rw[Nat.min_eq_left h,m8 (by rw[gY];omega)]
 ·rw[Nat.min_eq_right h,m6 (aG _),m6 h]
  simp
theorem LY {α:Type}{g:D->Env->Option Env}{p:BF}{f:EF}{ρ0:Env}(enc:α->D)(q:α->Bool)(h:α->D):∀(xs:List α),(∀x∈xs,∃ρ1,g (enc x) ρ0=some ρ1/\p ρ1=some (q x)/\(q x=true->f ρ1=some (h x)))->md g p f ρ0 (xs.map enc)=some ((xs.filter q).map h)
 |[],_=>rfl
 |x::xs,H=>by
  obtain⟨ρ1,h1,h2,h3⟩:=H x ah
  have ih:=LY enc q h xs λy hy=>H y (ai _ hy)
  show(g (enc x) ρ0).bind _=_
  rw[h1]
  show(p ρ1).bind _=_
  rw[h2]
  cases hq:q x with
  |false=>
   rw[bu,if_neg aJ,gW (by rw[hq];exact aJ)]
   exact ih
  |true=>
   rw[bu,if_pos rfl,h3 hq,gX hq]
   show(md g p f ρ0 (xs.map enc)).bind _=_
   rw[ih]
   rfl
end L3
namespace L3
open PySem PySem.Spec L2
structure iC (α:Type)[DecidableEq α] where
 enc:α->D
 py:α->bM
 dep:Nat
 is:∀x,(enc x).py=some (py x)
 lay:∀x,(py x).canLay0=true
 dp:∀x,(py x).depth<=dep
 eqv:∀x y,bM.eqv (py x) (py y)=decide (x=y)
section
variable {α β γ δ ε:Type}[DecidableEq α][DecidableEq β][DecidableEq γ][DecidableEq δ][DecidableEq ε]
theorem iC.eq (E:iC α)(h:E.dep<=60){neg:Bool}(x y:α):lU neg (E.enc x) (E.enc y)=some (.bl (if neg then !decide (x=y)else decide (x=y))):=by
 have h1:mP (E.py x)=true:=by unfold mP;rw[E.lay x,decide_eq_true (bK (E.dp x) h)];rfl
 have h2:mP (E.py y)=true:=by unfold mP;rw[E.lay y,decide_eq_true (bK (E.dp y) h)];rfl
 unfold lU
 rw[E.is x,E.is y]
 simp only[bu]
 rw[if_pos ⟨h1,h2⟩,E.eqv]
def Ei:iC Int:=⟨.int,.int,0,λ_=>by simp[D.py],λ_=>rfl,λ_=>by simp[bM.depth],λx y=>by show(x==y)=_;by_cases h:x=y<;>simp[h]⟩
def Eb:iC Bool:=⟨.bl,.bool,0,λ_=>by simp[D.py],λ_=>rfl,λ_=>by simp[bM.depth],λx y=>by cases x<;>cases y<;>rfl⟩
def gM:Option Int->D
 |none=>.non
 |some i=>.int i
theorem M0 (E:iC α):∀xs:List α,D.pys (xs.map E.enc)=some (xs.map E.py)
 |[]=>by simp[D.pys]
 |x::xs=>by simp[D.pys,E.is x,M0 E xs]
theorem Lz (E:iC α):∀xs:List α,bM.canLayAll0 (xs.map E.py)=true
 |[]=>by simp[bM.canLayAll0]
 |x::xs=>by simp[bM.canLayAll0,E.lay x,Lz E xs]
theorem LA (E:iC α):∀xs:List α,bM.depthAll (xs.map E.py)<=E.dep
 |[]=>by simp[bM.depthAll]
 |x::xs=>by
  have:=LA E xs
  have:=E.dp x
  simp only[br,bM.depthAll]
  omega
theorem LB (E:iC α):∀xs ys:List α,bM.eqvAll (xs.map E.py) (ys.map E.py)=decide (xs=ys)
 |[],[]=>by simp[bM.eqvAll]
 |[],_::_=>by simp[bM.eqvAll]
 |_::_,[]=>by simp[bM.eqvAll]
 |x::xs,y::ys=>by
  simp only[br,bM.eqvAll,E.eqv,LB E xs ys]
  by_cases h:x=y<;>by_cases g:xs=ys<;>simp[h,g]
def El (E:iC α):iC (List α):=⟨λxs=>.lst (xs.map E.enc),λxs=>.list (xs.map E.py),E.dep+1,λxs=>by simp[D.py,M0],λxs=>by simp[bM.canLay0,Lz],λxs=>by have:=LA E xs;simp only[bM.depth];omega,λxs ys=>by simp only[bM.eqv,LB]⟩
def E2 (A:iC α)(B:iC β):iC (α×β):=⟨λp=>.tup [A.enc p.1,B.enc p.2],λp=>.tuple [A.py p.1,B.py p.2],max A.dep B.dep+1,λp=>by simp[D.py,D.pys,A.is,B.is],λp=>by simp[bM.canLay0,bM.canLayAll0,A.lay,B.lay],
 λp=>by have:=A.dp p.1;have:=B.dp p.2;simp only[bM.depth,bM.depthAll];omega,λp q=>by
  simp only[bM.eqv,bM.eqvAll,A.eqv,B.eqv]
  obtain⟨a,b⟩:=p
  obtain⟨c,d⟩:=q
  by_cases h:a=c<;>by_cases g:b=d<;>simp[h,g]⟩
def E3 (A:iC α)(B:iC β)(C:iC γ):iC (α×β×γ):=⟨λp=>.tup [A.enc p.1,B.enc p.2.1,C.enc p.2.2],λp=>.tuple [A.py p.1,B.py p.2.1,C.py p.2.2],max (max A.dep B.dep) C.dep+1,λp=>by simp[D.py,D.pys,A.is,B.is,C.is],λp=>by simp[bM.canLay0,bM.canLayAll0,A.lay,B.lay,C.lay],
 λp=>by have:=A.dp p.1;have:=B.dp p.2.1;have:=C.dp p.2.2;simp only[bM.depth,bM.depthAll];omega,λp q=>by
  simp only[bM.eqv,bM.eqvAll,A.eqv,B.eqv,C.eqv]
  obtain⟨a,b,c⟩:=p
  obtain⟨a',b',c'⟩:=q
  by_cases h:a=a'<;>by_cases g:b=b'<;>by_cases k:c=c'<;>simp[h,g,k]⟩
end
theorem zpc {neg:Bool}(a b:Int):lU neg (.int a) (.int b)=some (.bl (if neg then !decide (a=b)else decide (a=b))):=Ei.eq (by decide) a b
theorem zrr {neg:Bool}(a b:Bool):lU neg (.bl a) (.bl b)=some (.bl (if neg then !decide (a=b)else decide (a=b))):=Eb.eq (by decide) a b
end L3
namespace L3
open PySem PySem.Spec L2
open PyProof.Rows hiding St
section
variable {X:Cx}{ct:Nat->af}{K:aa}{n m k:Nat}
theorem IntsAre.of {ns:List Int}{us:List ae}(h:bQ (ns.map V.int) us):IntsAre us ns:=To h
theorem Ui (hc:X.calm=true):eM X (.builtin "max") (λxs H Q=>∃(a:af) (ns:List Int),xs=[.ref a]/\eJ X.K H a (ns.map V.int)/\ns≠[]/\∀M,M∈ns->(∀z∈ns,z<=M)->Q (.int M) H):=by
 intro aj s σ H xs us Q I r h
 obtain⟨a,ns,rfl,hq,mL,q⟩:=h
 obtain⟨u,rfl,ru⟩:=r.one
 cases(show u=ae.ref a from ru)
 obtain⟨bV,rv,pl,hz⟩:=I.list hq
 have hi:=IntsAre.of rv
 obtain⟨ys,e⟩:=hi.allInts.items
 have oW:ns=ys.toList.map (·.1):=by rw[←hi.numsOf,←nums_intItems,←e]
 have hsz:0<ys.size:=by
  have h3:0<ns.length:=List.length_pos_iff.mpr mL
  rw[oW,aE,bL]at h3;exact h3
 have Hd:s.heap.IsList a (intItems ys):=e▸pl.isList
 refine max_intList (I.ok.hd hc) Hd hsz λv h' tk hv hk=>?_
 obtain⟨t,rfl⟩:=intItems_at hv
 obtain⟨h1,h2⟩:=argBest_gt (numAt ys) (ys.size-1)
 refine⟨.int (numAt ys (argBest (λi j=>decide (numAt ys i > numAt ys j)) (ys.size-1))),H,I.kept (t':=tk) hk,⟨_,rfl⟩,q _ ?_ λz hz=>?_⟩
 ·rw[oW,numAt_eq];exact getD_mem (by rw[aE,bL];omega)
 ·rw[oW]at hz
  obtain⟨j,hj,rfl⟩:=mem_getD hz
  rw[aE,bL]at hj
  rw[←numAt_eq];exact h2 j (by omega)
theorem LZ:∀{bs:List Bool} {us:List ae},bQ (bs.map V.bl) us->us=bs.map ae.bool
 |[],_,.nil=>rfl
 |b::bs,_,.cons r t=>by rw[LZ t];cases(show _=ae.bool b from r);rfl
theorem L0 (hc:X.calm=true):eM X (.builtin "all") (λxs H Q=>∃(a:af) (bs:List Bool),xs=[.ref a]/\eJ X.K H a (bs.map V.bl)/\Q (.bl (bs.all id)) H):=by
 intro aj s σ H xs us Q I r h
 obtain⟨a,bs,rfl,hq,q⟩:=h
 obtain⟨u,rfl,ru⟩:=r.one
 cases(show u=ae.ref a from ru)
 obtain⟨bV,rv,pl,hz⟩:=I.list hq
 have hb:=LZ rv
 subst hb
 have hl:=pl.isList
 have kh:a<s.heap.objs.size:=by obtain⟨_,e,_⟩:=hl;exact aP e
 refine PySem.call_all_walk (wpAny_pyIter_list hl ?_)
 refine⟨s.heap.objs.size,[s.heap.objs.size,a],[s.heap.objs.size],(bs.map ae.bool).toArray.size,_,_,λi=>(bs[i]?).getD true,rfl,Walks.list (A:=X.A.in1) (I.ok.hd hc) _ a (bt kh) (bs.map ae.bool).toArray,
  ⟨⟨_,bB _ rfl,rfl,rfl⟩,hl.push _⟩,λi v s' Q' E' hP hQ=>?_,λh' tk hk=>?_⟩
 ·have hP:(bs.map ae.bool)[i]?=some v:=by simpa using hP
  rw[bj]at hP
  obtain⟨b,hb,rfl⟩:=dq.mp hP
  simp only[hb,pz]at hQ
  exact dS hQ
 ·have e:((aH (bs.map ae.bool).toArray.size).all λi=>(bs[i]?).getD true)=bs.all id:=by
   rw[aD,aE];exact PyProof.Rows.LSm.range_all bs
  rw[e]
  refine⟨.bl (bs.all id),H,I.kept (t':=tk) λb o GU=>hk b o (λhm=>?_) (aC _ GU),rfl,q⟩
  rw[aO.mp hm]at GU
  exact d9 _ (aP GU)
def iI:List D->Option (List Int)
 |[]=>some []
 |.int i::ds=>(iI ds).bind λns=>some (i::ns)
 |_=>none
theorem LC:∀{ds:List D} {ns:List Int},iI ds=some ns->ds=ns.map .int
 |[],_,e=>by cases e;rfl
 |d::ds,ns,e=>by
  cases d with
  |int i=>
   obtain⟨ms,h1,h2⟩:=aM (show(iI ds).bind _=_ from e)
   cases h2
   rw[LC h1];rfl
  |_=>cases e
theorem Pr.intV {F G:Hp}:∀{ns:List Int} {vs:List V},Pr (Al K ct F G n) (ns.map .int) vs->vs=ns.map V.int
 |[],_,.nil=>rfl
 |i::ns,_,.cons h t=>by rw[Pr.intV t,h.int];rfl
def iG:List D->Option (List Bool)
 |[]=>some []
 |.bl i::ds=>(iG ds).bind λns=>some (i::ns)
 |_=>none
theorem Lu:∀{ds:List D} {ns:List Bool},iG ds=some ns->ds=ns.map .bl
 |[],_,e=>by cases e;rfl
 |d::ds,ns,e=>by
  cases d with
  |bl i=>
   obtain⟨ms,h1,h2⟩:=aM (show(iG ds).bind _=_ from e)
   cases h2
   rw[Lu h1];rfl
  |_=>cases e
theorem Pr.blV {F G:Hp}:∀{ns:List Bool} {vs:List V},Pr (Al K ct F G n) (ns.map .bl) vs->vs=ns.map V.bl
 |[],_,.nil=>rfl
 |i::ns,_,.cons h t=>by rw[Pr.blV t,h.bl];rfl
def Cu:List Int->Option Int
 |[]=>none
 |x::xs=>some (xs.foldl max x)
theorem L1:∀(xs:List Int) (x:Int),(xs.foldl max x=x\/xs.foldl max x∈xs)/\x<=xs.foldl max x/\∀z∈xs,z<=xs.foldl max x
 |[],x=>⟨.inl rfl,Int.le_refl _,λz h=>by cases h⟩
 |y::xs,x=>by
  obtain⟨h1,h2,h3⟩:=L1 xs (max x y)
  refine⟨?_,by show x<=xs.foldl max (max x y);omega,λz hz=>?_⟩
  ·rcases h1 with h1|h1
   ·show xs.foldl max (max x y)=x\/xs.foldl max (max x y)∈y::xs
    rw[h1]
    rcases Int.le_total x y with h|h
    ·rw[Int.max_eq_right h];exact .inr ah
    ·rw[Int.max_eq_left h];exact .inl rfl
   ·exact .inr (ai _ h1)
  ·rcases ay.mp hz with rfl|hz
   ·show z<=xs.foldl max (max x z);omega
   ·exact h3 z hz
theorem U4 {ns:List Int}{M:Int}(h:Cu ns=some M):M∈ns/\∀z∈ns,z<=M:=by
 cases ns with
 |nil=>cases h
 |cons x xs=>
  cases h
  obtain⟨h1,h2,h3⟩:=L1 xs x
  refine⟨?_,λz hz=>?_⟩
  ·rcases h1 with h1|h1
   ·rw[h1];exact ah
   ·exact ai _ h1
  ·rcases ay.mp hz with rfl|hz
   ·exact h2
   ·exact h3 z hz
def RH:List D->Option D
 |[.lst ds]=>(iI ds).bind λns=>some (.int ns.sum)
 |_=>none
def sy:List D->Option D
 |[.lst ds]=>(iI ds).bind λns=>(Cu ns).bind λM=>some (.int M)
 |_=>none
def qK:List D->Option D
 |[.lst ds]=>(iG ds).bind λbs=>some (.bl (bs.all id))
 |_=>none
theorem U5 {F H:Hp}{vs:List V}{ds:List D}{ns:List Int}(s:bE F H)(l:i8 K ct F H [n] [.lst ds] vs)(e:iI ds=some ns):∃a,vs=[.ref a]/\eJ K H a (ns.map V.int):=by
 cases l with
 |cons h t=>
  cases t
  obtain⟨a,us,rfl,ha,hp⟩:=h.lst s
  have:=LC e
  subst this
  have:=hp.intV
  subst this
  exact⟨a,rfl,ha⟩
theorem WB:yD K ct [n] k (λxs H Q=>∃(a:af) (ns:List Int),xs=[.ref a]/\eJ K H a (ns.map V.int)/\ns≠[]/\∀M,M∈ns->(∀z∈ns,z<=M)->Q (.int M) H) sy:=by
 intro F H vs ds d Q s l e w
 match ds,l,e with
 |[.lst xs],l,e=>
  obtain⟨ns,h1,h2⟩:=aM (show(iI xs).bind _=_ from e)
  obtain⟨M,h3,h4⟩:=aM h2
  cases h4
  obtain⟨a,rfl,ha⟩:=U5 s l h1
  obtain⟨m1,m2⟩:=U4 h3
  refine⟨a,ns,rfl,ha,(λz=>by rw[z]at m1;cases m1),λM' h5 h6=>?_⟩
  have:M'=M:=Int.le_antisymm (m2 M' h5) (h6 M m1)
  subst this
  exact w _ F H (.refl s) (Al.of (.int _))
theorem M3:yD K ct [n] k (λxs H Q=>∃(a:af) (bs:List Bool),xs=[.ref a]/\eJ K H a (bs.map V.bl)/\Q (.bl (bs.all id)) H) qK:=by
 intro F H vs ds d Q s l e w
 match ds,l,e with
 |[.lst xs],l,e=>
  obtain⟨bs,h1,h2⟩:=aM (show(iG xs).bind _=_ from e)
  cases h2
  cases l with
  |cons h t=>
   cases t
   obtain⟨a,us,rfl,ha,hp⟩:=h.lst s
   have:=Lu h1
   subst this
   have:=hp.blV
   subst this
   exact⟨a,bs,rfl,ha,w _ F H (.refl s) (Al.of (.bl _))⟩
end
end L3
namespace L3
open PySem PySem.Spec L2
open PyProof.Rows hiding St
def nD (H:Hp)(x:af):Hp:=λb=>if b=x then none else H b
theorem IM (H:Hp)(x:af):bE (nD H x) H:=λb o h=>by
 unfold nD at h
 by_cases e:b=x
 ·rw[if_pos e]at h;cases h
 ·rw[if_neg e]at h;exact h
theorem Ny (H:Hp)(x:af):nD H x x=none:=if_pos rfl
theorem uD {H:Hp}{x b:af}(h:b≠x):nD H x b=H b:=if_neg h
def qG (K:aa)(ct:Nat->af)(cs:List Nat)(pm:List Nat)(mi:Nat->List D->Option D):Sp:=λvs H Q _=>∃(F:Hp) (c:Nat) (ds:List D) (d:D) (x dx:af) (us:List V),c∈cs/\vs=.ref x::us/\H x=some (.ins (ct c) dx [])/\F x=none/\bE F H/\i8 K ct F (nD H x) pm ds us/\mi c ds=some d /\
 ∀F' H',bE F F'->bE (nD H x) H'->bE F' H'->(∀a o,nD H x a=some o->iD o->F a=none->F' a=none)->F' x=none->Ow K ct F' H' 1 d (.ref x) [x]->Q .non H'
theorem qG.len {K:aa}{ct:Nat->af}{cs pm:List Nat}{mi:Nat->List D->Option D}{ps:List aI}(h:pm.length+1=ps.length):∀vs H Q E,qG K ct cs pm mi vs H Q E->vs.length=ps.length:=by
 rintro vs H Q E ⟨F,c,ds,d,x,dx,us,_,rfl,_,_,_,l,_⟩
 rw[az,l.length,h]
def tP (N:List aI)(b:SF)(c:Nat)(ds:List D):Option D:=(b (some (.obj c [] [])::startD N.tail ds)).bind λo=>match o with
 |.nx ρ=>(ρ[0]?).join
 |_=>none
section
variable {X:Cx}{ct:Nat->af}{ms:List Mo}{rk n m k:Nat}{a b c e tg:Expr}{f g h:EF}{u w:SF}{pos:cA}
theorem u0 {P:aX}{w:bz}{K:aa}{mg:aI->Option ae}{base:aS}{x qual:aI}{st:bI}{fa:af}{fd:aF}{N0:aI}{N ps:List aI}{kk:Nat}{cs pm:List Nat}{bf:SF}(Fn:Fun2 K x qual st fa fd)(S:bA (N0::N) ps (aV st))(wF:pm.length+1=ps.length)(yL:ms.length=N.length)(pJ:pm.length<=N.length)
  (BE:∀(i n:Nat),pm[i]?=some n->ms[i]?=some (Mo.al n)\/(n=0/\ms[i]?=some (Mo.ow 0)))
  (body:∀(x:af) (gz:ae) (A:bq) (outer:List PySem.Env) (s:ak) (H:Hp) (E:XK),dY kk (A.deeper (envOfC qual (aV st) s.heap.objs.size fa gz))->pG (lS eF P w K mg base (N0::N) qual (aV st) fa gz A outer s H E).nox ct (.so x::ms) rk (fT st) bf) :
  cH P w K mg base eF (kk+1) fa fd ps (qG K ct cs pm (tP (N0::N) bf)):=by
 refine Fn.ok S (qG.len wF) λgz A outer s H vs Q E hr h=>?_
 obtain⟨F,c,ds,d,x,dx,us,hc,rfl,hx,hF,sF,l,hm,q⟩:=h
 obtain⟨t,pt,qt⟩:=body x gz A outer s H E hr
 refine⟨t,pt,?_⟩
 obtain⟨o,h1,h2⟩:=aM hm
 have By:ds.length=us.length:=l.length'
 have PL:us.length=pm.length:=l.length
 have ow:Ow K ct F H 1 (.obj c [] []) (.ref x) [x]:=.inr (rK.obj (vs:=[]) hF hx rfl .nil)
 have Ra:bE F (nD H x):=λb o hb=>by
  rw[uD (λe=>by rw[e,hF]at hb;cases hb)]
  exact sF _ _ hb
 refine qt F (nD H x) F H (some (.obj c [] [])::startD N ds) (L2.start (N0::N) (.ref x::us)) o _ ⟨.refl _,IM H x,sF,λ_ _ _ _ h=>h,[x],?_,by simp,λa z=>by rw[aO]at z;subst z;exact Ny H _⟩ h1 ?_
 ·have e:L2.start (N0::N) (.ref x::us)=some (.ref x)::(us.map some++av (N.length-us.length) none):=by
   unfold L2.start
   simp
  rw[e]
  unfold startD
  rw[By]
  exact SL.so (fp:=[]) ow (SL.start _ l BE (by omega))
 ·cases o with
  |nx ρ=>
   intro σ F' H' r
   obtain⟨fp,sl,nd,hb⟩:=r.sl
   cases sl with
   |no _=>cases h2
   |so KP _=>
    cases h2
    exact q F' H' r.f0 r.bh r.fh r.nf (KP.cells x ah).1 KP
  |rt d'=>cases h2
  |bk ρ=>cases h2
  |ct ρ=>cases h2
end
end L3
namespace L3
open PySem PySem.Spec L2
open PyProof.Rows hiding St
theorem Mq {f:aI}{y:V}:∀{ns:List aI} {vs:List V},ns.length=vs.length->ns.contains f=false->iu f y (ns.zip vs)=(ns++[f]).zip (vs++[y])
 |[],[],_,_=>rfl
 |[],_::_,h,_=>by simp at h
 |_::_,[],h,_=>by simp at h
 |n::ns,v::vs,h,hc=>by
  rw[o8,nV]at hc
  have hn:¬n=f:=λe=>by rw[e]at hc;simp at hc
  have ih:=Mq (f:=f) (y:=y) (ns:=ns) (vs:=vs) (by simpa using h) hc.2
  show iu f y ((n,v)::ns.zip vs)=(n,v)::(ns++[f]).zip (vs++[y])
  rw[←ih]
  show(if n=f then _ else _)=_
  rw[if_neg hn]
theorem Ow.obj_inv {ct:Nat->af}{K:aa}{F H:Hp}{c k:Nat}{ns:List aI}{ds:List D}{v:V}{fp:List af}(h:Ow K ct F H (k+1) (.obj c ns ds) v fp):∃a dx vs fr,v=.ref a/\fp=a::fr/\F a=none/\H a=some (.ins (ct c) dx (ns.zip vs))/\ns.length=vs.length/\dU (Ow K ct F H k) ds vs fr:=by
 rcases h with⟨h,_⟩|h
 ·cases h
 ·cases h with
  |obj h1 h2 h3 h4=>exact⟨_,_,_,_,rfl,rfl,h1,h2,h3,h4⟩
section
variable {X:Cx}{ct:Nat->af}{ms:List Mo}{rk n m k:Nat}{a b c e tg:Expr}{f g h:EF}{u w:SF}{pos:cA}{x0:af}
def gj (cs:List Nat)(x:aI)(f:EF):SF:=λρ=>(f ρ).bind λd=>(eV 0 ρ).bind λo=>match o with
 |.obj c ns ds=>if cs.contains c=true/\ns.contains x=false/\ns.length<900 then some (.nx (ρ.set 0 (some (.obj c (ns++[x]) (ds++[d])))))else none
 |_=>none
theorem RS.self {K:aa}{F0 B F H F' H':Hp}{ρ:Env}{σ:St}{d:D}(rs:RS K ct F0 B (.so x0::ms) F H ρ σ)(hd:ρ[0]?=some (some d)):σ[0]?=some (some (.ref x0))/\Ow K ct F H 1 d (.ref x0) [x0]/\B x0=none /\
  ∀(F' H':Hp) (d':D),bE F F'->bE B H'->bE F' H'->(∀a o,B a=some o->iD o->F0 a=none->F' a=none)->(∀a o,H a=some o->a≠x0->H' a=some o)->(∀a o,H a=some o->a≠x0->iD o->F a=none->F' a=none)->Ow K ct F' H' 1 d' (.ref x0) [x0]->RS K ct F0 B (.so x0::ms) F' H' (ρ.set 0 (some d')) σ:=by
 obtain⟨fp,sl,nd,hb⟩:=rs.sl
 cases sl with
 |no _=>simp at hd
 |so ow t=>
  simp at hd
  subst hd
  refine⟨rfl,ow,hb _ ah,λF' H' d' s1 s2 s3 s4 k1 k2 o'=>⟨rs.f0.trans s1,s2,s3,s4,_,.so o' (t.frame s1 λa z=>?_),nd,hb⟩⟩
  obtain⟨hn,o,ho,nt⟩:=t.cells a z
  have ne:a≠x0:=λe=>(aY.mp nd).1 (by rw[←e];exact z)
  exact⟨(k1 a o ho ne).trans ho.symm,k2 a o ho ne nt hn⟩
theorem qd {x s:aI}{cs:List Nat}{p1 pos':cA}(hc:∀c∈cs,kB X.K (ct c)/\el X.K (ct c) x)(he:XE X ct (.so x0::ms) 0 e f)(hN:X.N[0]?=some s:=by rfl)(hv:mW X.env.scope s:=by first|exact Or.inl rfl|exact Or.inr (Or.inl rfl)|exact Or.inr (Or.inr rfl))(hd:(s==("__debug__":aI))=false:=by decide)
  (gG:(s==("__classdict__":aI))=false:=by decide) (hs:dO e (some (.Attribute (.Name s p1) x pos')) pos.line X.env=pure false:=by rfl):XS X ct (.so x0::ms) rk (.Assign [.Attribute (.Name s p1) x pos'] e pos) (gj cs x f):=by
 obtain⟨t,pt,qt⟩:=he
 refine⟨_,Xl (vk hN hv hd gG) pt hs,λF0 B F H ρ σ o E rs e z=>?_⟩
 obtain⟨d,h1,h2⟩:=aM e
 obtain⟨ob,h3,h4⟩:=aM h2
 refine qt F0 B F H ρ σ d _ rs h1 λy F1 H1 x1 l=>?_
 have iV:=rs.ext x1
 obtain⟨hσ,ow,hB,put⟩:=iV.self (F':=F) (H':=H) (yf h3)
 refine⟨_,hσ,?_⟩
 cases ob with
 |obj c ns ds=>
  dsimp only at h4
  by_cases hz:cs.contains c=true/\ns.contains x=false/\ns.length<900
  ·rw[if_pos hz]at h4
   cases h4
   obtain⟨a,dx,vs,fr,e1,e2,hF,hH,hl,ol⟩:=ow.obj_inv
   cases e1
   cases e2
   have hh:=hc c (by simpa using hz.1)
   refine⟨x0,_,dx,_,rfl,hH,hh.1,hh.2,by rw[eE,←hl,ku];omega,?_⟩
   rw[Mq hl hz.2.1]
   refine z σ F1 _ (put F1 _ _ (.refl _) (λb o h=>?_) (λb o h=>?_) iV.nf (λb o h ne=>by rw[zn ne];exact h) (λb o h ne _ hn=>hn) (.inr (rK.obj (vs:=vs++[y]) hF ym (by simp[hl]) ?_)))
   ·rw[zn (λe=>by rw[e,hB]at h;cases h)];exact iV.bh _ _ h
   ·rw[zn (λe=>by rw[e,hF]at h;cases h)];exact iV.fh _ _ h
   ·have o1:dU (Ow X.K ct F1 (upd H1 x0 (.ins (ct c) dx ((ns++[x]).zip (vs++[y])))) 0) ds vs []:=ol.mono λ_ _ _ _ q=>⟨q.1,q.2⟩
    have:=o1.append (dU.cons (f:=[]) (g:=[]) (R:=Ow X.K ct F1 (upd H1 x0 (.ins (ct c) dx ((ns++[x]).zip (vs++[y])))) 0) ⟨l,rfl⟩ .nil)
    exact this
  ·rw[if_neg hz]at h4;cases h4
 |_=>cases h4
variable {kk:Nat}{fa:af}{fd:aF}{ps:List aI}{pm cs:List Nat}{mi:Nat->List D->Option D}{x:aI}{pp:cA}
theorem Fj {c0:Nat}{es:List Expr}{ns nd:List Nat}{fs:Env->Option (List D)}{hV:List V}{kF:List D}{lw:List ae}(M:Mk X.K (ct c0) fa)(vV:c0∈cs)(Fn:cH X.prog X.w X.K X.mg X.base eF kk fa fd ps (qG X.K ct cs (ns++nd) mi))(hr:dY (kk+1) X.A)(hg:Gl X x)(hm:X.mg x=some (.ref (ct c0)))
  (hb:bJ X.K fd ps lw) (hd:bQ hV lw) (sj:∀F G,i8 X.K ct F G nd kF hV) (ha:XA X ct ms (e::es) ns fs)
  (lx:(x==("__debug__":aI))=false:=by decide) (he:aq (e::es) X.env=(false,bN e X.env)::aq es X.env:=by rfl) (gb:(cC pos (aq es X.env)).any (·.1)=false:=by rfl) :
  XO X ct ms 1 (.Call (.Name x pp) (e::es) [] pos) (λρ=>(fs ρ).bind λds=>mi c0 (ds++kF)):=by
 obtain⟨t,pt,_,qt⟩:=ha
 refine⟨_,VM M Fn hr hg hm hb hd mr pt lx he gb,λF0 B F H ρ σ r Q rs e w=>?_⟩
 obtain⟨ds,h1,h2⟩:=aM e
 refine qt F0 B F H ρ σ ds _ rs h1 λvs F1 H1 x1 l y dy hy Pf mL=>?_
 have sH:bE H1 (nD (upd (upd H1 dy (.own y)) y (.ins (ct c0) dy [])) y):=λb o h=>by
  have n1:b≠y:=yw h hy
  rw[uD n1,zn n1,zn (yw h Pf)]
  exact h
 have Rb:bE H1 (upd (upd H1 dy (.own y)) y (.ins (ct c0) dy [])):=sH.trans (IM _ _)
 refine⟨F1,c0,ds++kF,r,y,dy,vs++hV,vV,rfl,ym,x1.fh.free hy,x1.fh.trans Rb,i8.mono (.refl _) sH (i8.append (sj F1 H1) l),h2,λF' H' s1 s2 s3 s4 hn ow=>⟨rfl,?_⟩⟩
 refine w _ F' H' [y] ⟨x1.ff.trans s1,(x1.hh.trans sH).trans s2,s3,λb o h t n=>s4 b o (sH _ _ (x1.hh _ _ h)) t (x1.nf b o h t n)⟩ ow (by simp) λb z=>?_
 rw[aO]at z
 subst z
 exact x1.hh.free hy
theorem U6 {C:af}{sp:Sp}{hV:List V}{ds:List ae}{E:XK}{m:aI}{p cY:cA}{es:List Expr}{t:TA}{pl:ik Bool}{mc:ae}(Fn:cH X.prog X.w X.K X.mg X.base eF kk fa fd ps sp)(hr:dY kk X.A)(hg:Gl X x)(hm:X.mg x=some (.ref C))
  (h1:cX X.K (.ref C) "__getattribute__"=some (some (.builtin "type.__getattribute__"))) (h2:hG X.K C mc=true) (h3:hE X.K (.ref C) mc m=some (.val (.ref fa))) (hk:ap X.K (.ref fa)=true) (hb:bJ X.K fd ps ds) (hd:bQ hV ds) (hx:iE eF X E) (ha:PA X (e::es) t)
  (lx:(x==("__debug__":aI))=false:=by decide) (nE:aq (e::es) X.env=(false,bN e X.env)::aq es X.env:=by rfl) (gb:(cC pos (aq es X.env)).any (·.1)=false:=by rfl)
  (ht:bN (.Call (.Attribute (.Name x p) m cY) (e::es) [] pos) X.env=(do
   let ov ← bN (.Name x p) X.env
   eT cY.atName
   let(f,first) ← dg [ov] (fW ov m pl)
   iP pos f first (cC pos (aq (e::es) X.env)) (eQ pos (dC [] X.env))):=by rfl) :
  PE X (.Call (.Attribute (.Name x p) m cY) (e::es) [] pos) (t6 sp hV E t):=by
 intro aj s σ H Q I h
 refine eU (pl:=pl) (Fc I hg hm ?_ lx) ht
 refine PySem.W.method_cls I.kIn h1 (PySem.W.cls_value I.kIn h2 h3 rfl ?_)
 have I1:Inv X aj σ H { s with toks:=s.toks+1 }:=I.tok _
 refine fX (first:=[]) (h₀:=X.base) I.ok.mod.kin hk (de (ha pos aj _ σ H _ I1 h) λus s2 ⟨vs,H2,I2,r,q2⟩=>⟨I2.kIn,?_⟩) nE gb
 exact Fv (us:=us) (vs:=vs) Fn hr hb hd hx I2 r q2
theorem i8.flat {K:aa}{F G G':Hp}{ns:List Nat}{ds:List D}{vs:List V}(h:i8 K ct F G ns ds vs)(e:ns.all (· == 0)=true):i8 K ct F G' ns ds vs:=by
 induction h with
 |nil=>exact .nil
 |cons h t ih=>
  rw[eA,bO]at e
  cases eq_of_beq e.1
  exact .cons h (ih e.2)
def oB (cs:List Nat)(fs:Env->Option (List D))(mi:Nat->List D->Option D):SF:=λρ=>(eV 0 ρ).bind λo=>(fs ρ).bind λds=>match o with
 |.obj c [] []=>if cs.contains c=true then(mi c ds).bind λd=>some (.nx (ρ.set 0 (some d)))else none
 |_=>none
theorem M4 {C:af}{s m:aI}{p p1 dM cY:cA}{es:List Expr}{ns:List Nat}{fs:Env->Option (List D)}{pl:ik Bool}{mc:ae}(Fn:cH X.prog X.w X.K X.mg X.base eF kk fa fd ps (qG X.K ct cs ns mi))(hr:dY kk X.A)(hm:X.mg x=some (.ref C))
  (h1:cX X.K (.ref C) "__getattribute__"=some (some (.builtin "type.__getattribute__"))) (h2:hG X.K C mc=true) (h3:hE X.K (.ref C) mc m=some (.val (.ref fa))) (hk:ap X.K (.ref fa)=true) (hb:bJ X.K fd ps []) (hz:ns.all (· == 0)=true) (ha:XA X ct (.so x0::ms) es ns fs)
  (hg:Gl X x:=by rfl) (hN:X.N[0]?=some s:=by rfl) (hv:mW X.env.scope s:=by first|exact Or.inl rfl|exact Or.inr (Or.inl rfl)|exact Or.inr (Or.inr rfl)) (hd:(s==("__debug__":aI))=false:=by decide)
  (gG:(s==("__classdict__":aI))=false:=by decide) (lx:(x==("__debug__":aI))=false:=by decide) (nE:aq (.Name s p1::es) X.env=(false,bN (.Name s p1) X.env)::aq es X.env:=by rfl) (gb:(cC dM (aq es X.env)).any (·.1)=false:=by rfl)
  (ht:bN (.Call (.Attribute (.Name x p) m cY) (.Name s p1::es) [] dM) X.env=(do
   let ov ← bN (.Name x p) X.env
   eT cY.atName
   let(f,first) ← dg [ov] (fW ov m pl)
   iP dM f first (cC dM (aq (.Name s p1::es) X.env)) (eQ dM (dC [] X.env))):=by rfl)
  (wH:dO (.Call (.Attribute (.Name x p) m cY) (.Name s p1::es) [] dM) none pos.line X.env=pure false:=by rfl) :
  XS X ct (.so x0::ms) rk (.Expr (.Call (.Attribute (.Name x p) m cY) (.Name s p1::es) [] dM) pos) (oB cs fs mi):=by
 obtain⟨t,pt,_,qt⟩:=ha
 refine⟨_,Mz (U6 (E:=E0) Fn hr hg hm h1 h2 h3 hk hb .nil mr (vc (vk hN hv hd gG) pt nE) lx nE gb ht) wH,λF0 B F H ρ σ o E rs e z=>?_⟩
 obtain⟨ob,ds,g1,g2,g3⟩:=dz e
 obtain⟨hσ,ow,hB,put⟩:=rs.self (F':=F) (H':=H) (yf g1)
 refine⟨_,hσ,qt F0 B F H ρ σ ds _ rs g2 λvs F1 H1 x1 l=>?_⟩
 have iV:=rs.ext x1
 obtain⟨hσ,ow,hB,put⟩:=iV.self (F':=F) (H':=H) (yf g1)
 match ob,g3,ow with
 |.obj c [] [],g3,ow=>
  dsimp only at g3
  by_cases hc:cs.contains c=true
  ·rw[if_pos hc]at g3
   obtain⟨d,g4,g5⟩:=aM g3
   cases g5
   obtain⟨a,dx,us,fr,e1,e2,hF,hH,hl,ol⟩:=ow.obj_inv
   cases e1
   cases e2
   refine⟨F1,c,ds,d,x0,dx,vs++[],by simpa using hc,rfl,hH,hF,x1.fh,?_,g4,λF' H' s1 s2 s3 s4 hn o'=>?_⟩
   ·rw[bY];exact l.flat hz
   ·have sB:bE B (nD H1 x0):=λb o h=>by
     rw[uD (λe=>by rw[e,hB]at h;cases h)]
     exact iV.bh _ _ h
    exact z σ F' H' (put F' H' d s1 (sB.trans s2) s3 (λb o h t n=>s4 b o (sB _ _ h) t (iV.nf b o h t n)) (λb o h ne=>s2 _ _ (by rw[uD ne];exact h)) (λb o h ne t Hf=>s4 b o (by rw[uD ne];exact h) t Hf) o')
  ·rw[if_neg hc]at g3;cases g3
end
end L3
namespace L3
open PySem PySem.Spec L2
open PyProof.Rows hiding St
structure kR (K:aa)(mg:aI->Option ae)(x:aI)(st:bI)(ps:List aI)(f:af)(fd:aF):Prop where
 fn:Fun2 K x x st f fd
 mgx:mg x=some (.ref f)
 bd:bJ K fd ps []
structure Dm (K:aa)(C:af)(m qual:aI)(st:bI)(ps:List aI)(f:af)(fd:aF):Prop where
 fn:Fun2 K m qual st f fd
 me:oe K C m f
 bd:bJ K fd ps []
structure Dc (K:aa)(mg:aI->Option ae)(x:aI)(C:af):Prop where
 cl:kB K C
 mgx:mg x=some (.ref C)
 mks:dc K C=true
 kp:ap K (.ref C)=true
structure Dq (K:aa)(C:af)(m:aI)(f:af):Prop where
 sp:cX K (.ref C) "__getattribute__"=some (some (.builtin "type.__getattribute__"))
 rd:hG K C (.type "type")=true
 fc:hE K (.ref C) (.type "type") m=some (.val (.ref f))
theorem zz {K:aa}{x qual:aI}{st:bI}{f:af}{oc:ae}{od an:Option af}{wX:Array (Option ae)}{dV kV doc pm gz ct:ae}(l:K.lookup f=some ⟨oc,od,.func (fO x qual (lc st) (fT st) (aV st) dV kV doc pm an gz ct),wX⟩)
  (c:aA K gz qual=true) (k:ap K (.ref f)=true):Fun2 K x qual st f (fO x qual (lc st) (fT st) (aV st) dV kV doc pm an gz ct):=⟨⟨oc,od,dV,kV,doc,pm,an,gz,ct,wX,rfl,l,c⟩,k⟩
theorem WC {K:aa}{fd:aF}{ps:List aI}{ds:List ae}{T:af}{o:cN}{items:Array ae}{n:Nat}(hd:fd.defaults=.ref T)(ho:K.lookup T=some o)(hs:o.data=.seq items n)
  (h:∀us:List ae,(us++ds).length=ps.length->∃k,bindArgs fd ⟨us,[]⟩=seqItems? fd.defaults >>= k/\k (some items)=pure (ps.zip (us++ds))):bJ K fd ps ds:=λs us X hl=>by
 obtain⟨k,h1,h2⟩:=h us hl
 exact PySem.W.binds_K X hd ho hs h1 h2
theorem yT (m:Nat){K:aa}{fd:aF}{ps:List aI}{ds:List ae}{T:af}{o:cN}{items:Array ae}{n:Nat}(ho:K.lookup T=some o)(h:∀us:List ae,us.length=m->∃k,bindArgs fd ⟨us,[]⟩=seqItems? fd.defaults >>= k/\k (some items)=pure (ps.zip (us++ds)))(hd:fd.defaults=.ref T:=by rfl)(hs:o.data=.seq items n:=by rfl)(hm:m+ds.length=ps.length:=by rfl):bJ K fd ps ds :=
 WC hd ho hs λus hl=>h us (by rw[aR]at hl;omega)
end L3
namespace L3
open PySem PySem.Spec L2
open PyProof.Rows hiding St
def FG (x:aI):It:=⟨λi _=>∃c,x.cps[i]?=some c,λi H v H'=>H'=H/\∃c,x.cps[i]?=some c/\v=.str ⟨#[c]⟩,λi _=>x.cps[i]?=none⟩
theorem U7 {P:aX}{w:bz}{K:aa}{tg:Expr}(x:aI)(t:Tok)(it:af):Turn P w K tg (FG x) [it] it (λi h=>h.IsStrIter it (cG x) x t i) where
 mem:=by simp
 obj:=λi h st b hb=>by
  have e:b=it:=by simpa using hb
  subst e
  obtain⟨o,e,c,d⟩:=st
  exact⟨o,e,λv z=>by rw[d]at z;cases z⟩
 keep:=λi h h' st k=>by
  obtain⟨o,e,c,d⟩:=st
  exact⟨o,k it (by simp) o e,c,d⟩
 item:=by
  intro X hP hw hK hc i aj s σ H E I hf st hg
  subst hP hw hK
  obtain⟨c,hx⟩:=hg
  obtain⟨f0,f1,f2,f3,f4,f5⟩:=hf it (by simp)
  have fin:∀h':aS,h'.IsStrIter it (cG x) x t (i+1)->dH it s.heap h'->bg (aZ X.prog X.w) X.A (gx tg (.ref it) (.str ⟨#[c]⟩ s.toks)) (λ_ s2=>∃v H',Inv X aj σ H' s2/\RelV v (.str ⟨#[c]⟩ s.toks)/\(FG x).yld i H v H'/\s2.heap.IsStrIter it (cG x) x t (i+1)/\∀b∈[it],H' b=none) E { s with heap:=h',toks:=s.toks+1 }:=λh' lM sb=>by
   have I1:Inv X aj σ H { s with heap:=h',toks:=s.toks+1 }:=I.turned (t':=s.toks+1) (λb o hb e=>(sb.2 b hb).trans e) f0 f1 f3 f4 f5
   obtain⟨o,e,cc,d⟩:=id lM
   refine Jw (s:={ s with heap:=h',toks:=s.toks+1 }) e cc d ?_ ⟨.str ⟨#[c]⟩,H,I1,⟨_,rfl⟩,⟨rfl,c,hx,rfl⟩,lM,λb hb=>(hf b hb).1⟩
   unfold cG
   split<;>decide
  cases ha:x.cps.all (·<128)with
  |true=>
   have e:cG x = "str_ascii_iterator":=by unfold cG;rw[ha];rfl
   rw[e]at st fin
   exact wpAny_pyNext_ascii_item st hx λh' lM sb=>⟨_,rfl,by rw[e];exact fin h' lM sb⟩
  |false=>
   have e:cG x = "str_iterator":=by unfold cG;rw[ha];rfl
   rw[e]at st fin
   exact wpAny_pyNext_wide_item st hx λh' lM sb=>⟨_,rfl,by rw[e];exact fin h' lM sb⟩
 done:=by
  intro X hP hw hK hc i aj s σ H E I hf st hg
  subst hP hw hK
  obtain⟨f0,f1,f2,f3,f4,f5⟩:=hf it (by simp)
  cases ha:x.cps.all (·<128)with
  |true=>
   have e:cG x = "str_ascii_iterator":=by unfold cG;rw[ha];rfl
   rw[e]at st
   exact wpAny_pyNext_ascii_end (I.ok.hd hc) st hg λh' eb=>⟨rfl,I.turned (t':=s.toks) (λb o hb e=>eb b o hb e) f0 f1 f3 f4 f5⟩
  |false=>
   have e:cG x = "str_iterator":=by unfold cG;rw[ha];rfl
   rw[e]at st
   exact wpAny_pyNext_wide_end (I.ok.hd hc) st hg λh' eb=>⟨rfl,I.turned (t':=s.toks) (λb o hb e=>eb b o hb e) f0 f1 f3 f4 f5⟩
 self:=λA i s Q E st h=>by
  cases ha:x.cps.all (·<128)with
  |true=>
   have e:cG x = "str_ascii_iterator":=by unfold cG;rw[ha];rfl
   rw[e]at st
   exact wpAny_pyIter_striter_ascii st h
  |false=>
   have e:cG x = "str_iterator":=by unfold cG;rw[ha];rfl
   rw[e]at st
   exact wpAny_pyIter_striter_wide st h
def Hu (tl:TE):TI:=λσ H R=>tl σ H λx H1=>∃z,x=.str z/\R (FG z) H1
section
variable {X:Cx}{ct:Nat->af}{ms:List Mo}{rk n m k:Nat}{st:bI}{rest:List bI}{a b c e tg:Expr}{f g h:EF}{p q:BF}{u w:SF}{pos:cA}
theorem X3 {l:Expr}{tl:TE}(hl:PE X l tl):PI X tg l (Hu tl):=by
 intro aj s σ H R I h
 refine de (hl aj s σ H _ I h) λv s1 di=>?_
 obtain⟨x,H1,I1,r,z,e,q⟩:=di
 subst e
 obtain⟨t,rfl⟩:=r
 refine wpAny_pyIter_strU ?_
 refine⟨s1.heap.objs.size,[s1.heap.objs.size],_,_,H1,rfl,I1.kept (t':=s1.toks) λb o e=>aC _ e,U7 z t _,⟨_,bB _ rfl,rfl,rfl⟩,λb hb=>?_,q⟩
 have e:b=s1.heap.objs.size:=by simpa using hb
 subst e
 exact I1.fpOk (aG _) (I1.hok.fresh (aG _))
def oF (x:aI):List D:=x.cps.toList.map λc=>.str ⟨#[c]⟩
def JO:D->Option (List D)
 |.str x=>some (oF x)
 |_=>none
theorem X4 (he:XE X ct ms m e f):XI X ct ms n tg e (λρ=>(f ρ).bind JO):=by
 obtain⟨t,pt,qt⟩:=he
 refine⟨_,X3 pt,λF0 B F H ρ σ ds R rs e w=>?_⟩
 obtain⟨d,h1,h2⟩:=aM e
 refine qt F0 B F H ρ σ _ _ rs h1 λv F' H' x l=>?_
 cases d with
 |str z=>
  cases h2
  refine⟨z,l.str,w _ F' H' x λi F2 H2 s1 s2 s3=>⟨λd hd=>?_,λhl=>?_⟩⟩
  ·unfold oF at hd
   rw[bj]at hd
   obtain⟨c,hc,rfl⟩:=dq.mp hd
   have tI:z.cps[i]?=some c:=by simpa using hc
   refine⟨⟨c,tI⟩,λy H3 hy=>?_⟩
   obtain⟨rfl,c2,h3,rfl⟩:=hy
   rw[tI]at h3
   cases h3
   exact⟨F2,.refl s3,Al.of (.str _)⟩
  ·unfold oF at hl
   rw[aE,bL]at hl
   exact Array.getElem?_eq_none hl
 |_=>cases h2
theorem U8 {κ:Type}[DecidableEq κ](k:κ)(v:V):∀{ks:List κ} {vs:List V},ks.length=vs.length->putK (ks.zip vs) k v=(if ks.contains k=true then ks.zip ((ks.zip vs).map λp=>if p.1=k then v else p.2)else(ks++[k]).zip (vs++[v])):=by
 intro ks vs hl
 unfold putK
 have e:((ks.zip vs).any λkv=>decide (kv.1=k))=ks.contains k:=by
  rw[Bool.eq_iff_iff,List.any_eq_true,fC]
  constructor
  ·rintro⟨p,hp,he⟩
   have:=decide_eq_true_iff.mp he
   rw[←this]
   exact(fS hp).1
  ·intro hk
   obtain⟨i,hi,rfl⟩:=List.getElem_of_mem hk
   exact⟨(ks[i],vs[i]'(by omega)),dJ.mpr ⟨i,by simp;omega,by simp⟩,by simp⟩
 rw[e]
 by_cases h:ks.contains k=true
 ·rw[if_pos h,if_pos h]
  clear e h
  induction ks generalizing vs with
  |nil=>simp
  |cons y ks ih=>
   cases vs with
   |nil=>simp at hl
   |cons u vs=>
    simp only[eI,br,ih (by simpa using hl)]
    by_cases hy:y=k<;>simp[hy]
 ·rw[if_neg h,if_neg h,rH hl]
  rfl
end
end L3
namespace L3
open PySem PySem.Spec L2
open PyProof.Rows hiding St
section
variable {X:Cx}{ct:Nat->af}{ms:List Mo}{rk n m k:Nat}{st:bI}{rest:List bI}{a b c e tg:Expr}{f g h:EF}{p q:BF}{u w:SF}{pos:cA}
def oY (i:Nat)(fj f:EF):SF:=λρ=>(f ρ).bind λd=>(eV i ρ).bind λo=>(fj ρ).bind λj=>match o with
 |.dK ks ds=>(sv j).bind λk=>if ks.length<16777216 then some (.nx (ρ.set i (some (.dK (fH ks ds k d).1 (fH ks ds k d).2))))else none
 |.dT ks ds=>(match j with
  |.tup js=>(mn js).bind λk=>if ks.length<16777216 then some (.nx (ρ.set i (some (.dT (fH ks ds k d).1 (fH ks ds k d).2))))else none
  |_=>none)
 |_=>none
theorem Mr {κ:Type}[DecidableEq κ]{R:D->V->Prop}{d:D}{v:V}(r:R d v)(k:κ){ks:List κ}{ds:List D}{vs:List V}(hl:ks.length=vs.length)(hp:Pr R ds vs) :
  ∃us,putK (ks.zip vs) k v=(fH ks ds k d).1.zip us/\(fH ks ds k d).1.length=us.length/\Pr R (fH ks ds k d).2 us:=by
 rw[U8 k v hl]
 unfold fH
 by_cases h:ks.contains k=true
 ·rw[if_pos h,if_pos h]
  refine⟨_,rfl,by simp[hl],?_⟩
  clear h
  induction ks generalizing ds vs with
  |nil=>simp;exact .nil
  |cons y ks ih=>
   cases hp with
   |nil=>simp at hl
   |cons h t=>
    simp only[eI,br]
    refine .cons ?_ (ih (by simpa using hl) t)
    by_cases hy:y=k
    ·rw[if_pos hy,if_pos hy];exact r
    ·rw[if_neg hy,if_neg hy];exact h
 ·rw[if_neg h,if_neg h]
  exact⟨_,rfl,by simp[hl],hp.append (.cons r .nil)⟩
theorem M5 (i:Nat){x:aI}{j:Expr}{p1 ez:cA}{fj:EF}(hm:ms[i]?=some (.ow 1))(hu:X.A.units+1<gE)(hj:XE X ct ms 0 j fj)(he:XE X ct ms 0 e f)(hN:X.N[i]?=some x:=by rfl)(hv:mW X.env.scope x:=by first|exact Or.inl rfl|exact Or.inr (Or.inl rfl)|exact Or.inr (Or.inr rfl))(hd:(x==("__debug__":aI))=false:=by decide)
  (gG:(x==("__classdict__":aI))=false:=by decide) (hs:dO e (some (.Subscript (.Name x p1) j ez)) pos.line X.env=pure false:=by rfl) :
  XS X ct ms rk (.Assign [.Subscript (.Name x p1) j ez] e pos) (oY i fj f):=by
 obtain⟨t,pt,qt⟩:=he
 obtain⟨tj,sE,sI⟩:=hj
 refine⟨_,Vt hu (vk hN hv hd gG) sE pt hs,λF0 B F H ρ σ o E rs e z=>?_⟩
 obtain⟨d,g1,g2⟩:=aM e
 obtain⟨d1,oR,g3,g4,g5⟩:=dz g2
 refine qt F0 B F H ρ σ d _ rs g1 λv0 F1 H1 x1 l0=>?_
 have iV:=rs.ext x1
 obtain⟨f1,fr,n1,b1,dj,i4,cf,put⟩:=iV.put (F':=F) (H':=H) hm
 obtain⟨v,hσ,ow⟩:=i4 d1 (yf g3)
 refine⟨v,hσ,sI F0 B F1 H1 ρ σ oR _ iV g4 λvj F2 H2 x2 lj=>?_⟩
 have KI:Dt X.K ct F2 d v0:=Dt.mono x2.ff l0
 cases d1 with
 |dK ks ds=>
  dsimp only at g5
  obtain⟨key,g6,g7⟩:=aM g5
  by_cases hz:ks.length<16777216
  ·rw[if_pos hz]at g7
   cases g7
   obtain⟨ad,vs,oT,rfl,rfl,hF,hH,hl,ol⟩:=ow.dK_inv
   have hA:=x2.hh _ _ hH
   have fA:F2 ad=none:=x2.nf ad _ hH nofun hF
   have e0:=ol.nil0
   subst e0
   have hp:Pr (Dt X.K ct F2) ds vs:=ol.pr λ_ _ _ _ q=>q.1.mono x2.ff
   obtain⟨us,yM,Es,Hq⟩:=Mr KI key hl hp
   have hk:=Jp g6 lj
   subst hk
   refine⟨ad,_,rfl,ni.k hA (by rw[eE,←hl,ku,bG];exact hz),?_⟩
   rw[yM]
   refine z σ F2 _ (iV.change hm x2 hσ b1 dj cf put ah fA (.inr (.dK fA ym Es (dU.ofPr (Hq.mono λ_ _ q=>⟨q,rfl⟩)))) (fn:=[ad]) (by simp) ?_)
   intro a ha
   rw[aO]at ha
   subst ha
   exact .inl ah
  ·rw[if_neg hz]at g7;cases g7
 |dT ks ds=>
  cases oR with
  |tup js=>
   dsimp only at g5
   obtain⟨key,g6,g7⟩:=aM g5
   by_cases hz:ks.length<16777216
   ·rw[if_pos hz]at g7
    cases g7
    obtain⟨ad,vs,oT,rfl,rfl,hF,hH,hl,ol⟩:=ow.dT_inv
    have hA:=x2.hh _ _ hH
    have fA:F2 ad=none:=x2.nf ad _ hH nofun hF
    have e0:=ol.nil0
    subst e0
    have hp:Pr (Dt X.K ct F2) ds vs:=ol.pr λ_ _ _ _ q=>q.1.mono x2.ff
    obtain⟨us,yM,Es,Hq⟩:=Mr KI key hl hp
    obtain⟨bd,ws,rfl,hb,Hk⟩:=lj.tup x2.fh
    have hk:=MV g6 Hk
    subst hk
    refine⟨ad,_,rfl,ni.t hA hb (by rw[eE,←hl,ku,bG];exact hz),?_⟩
    rw[yM]
    refine z σ F2 _ (iV.change hm x2 hσ b1 dj cf put ah fA (.inr (.dT fA ym Es (dU.ofPr (Hq.mono λ_ _ q=>⟨q,rfl⟩)))) (fn:=[ad]) (by simp) ?_)
    intro a ha
    rw[aO]at ha
    subst ha
    exact .inl ah
   ·rw[if_neg hz]at g7;cases g7
  |_=>cases g5
 |_=>cases g5
def C7 (K:aa):V->V->Hp->VK->Prop:=λo i H Q=>∃p xs k v,o=.ref p/\i=.int k/\eJ K H p xs/\atI xs k=some v/\Q v H
theorem Uj:zK X (C7 X.K):=by
 intro aj s σ H o i ov iv Q I ro ri h
 obtain⟨p,xs,k,z,rfl,rfl,hq,he,q⟩:=h
 cases ro
 obtain⟨t,rfl⟩:=ri
 obtain⟨bV,r,pl,hz⟩:=I.list hq
 obtain⟨j,h1,h2,h3,h4,h5⟩:=Fg he
 obtain⟨w,ew,oA⟩:=r.get h2
 have hl:=r.length
 have hn:=iJ
 have fin:EP X aj σ Q w s:=⟨z,H,I,oA,q⟩
 by_cases h0:0<=k
 ·have hj:k.toNat=j:=by
   rw[mz h0 h5]at h1
   exact Option.some.inj h1
  exact wpAny_getItem_list pl.isList h0 (by omega) (by rw[hj];simpa using ew) fin
 ·have hj:(k+(bV.toArray.size:Int)).toNat=j:=by
   rw[lL (by omega) h4]at h1
   rw[aD,←hl]
   exact Option.some.inj h1
  exact wpAny_getItem_list_neg pl.isList (by omega) (by rw[aD]<;>omega) (by omega) (by rw[hj];simpa using ew) fin
def nH (i:Nat)(fj:EF)(gi:Int->Int->Int)(f:EF):SF:=λρ=>(eV i ρ).bind λo=>(fj ρ).bind λj=>(f ρ).bind λy=>match o,j with
 |.lst ds,.int z=>(atI ds z).bind λx=>(match x,y with
  |.int a,.int b=>(iN ds z (.int (gi a b))).bind λlT=>some (.nx (ρ.set i (some (.lst lT))))
  |_,_=>none)
 |_,_=>none
theorem M6 (i:Nat){x:aI}{op:iO}{j:Expr}{p1 ez:cA}{fj:EF}{gi:Int->Int->Int}(ho:yF X op (Ex gi))(hm:ms[i]?=some (.ow 1))(hj:XE X ct ms n j fj)(he:XE X ct ms m e f)(hN:X.N[i]?=some x:=by rfl)(hv:mW X.env.scope x:=by first|exact Or.inl rfl|exact Or.inr (Or.inl rfl)|exact Or.inr (Or.inr rfl))(hd:(x==("__debug__":aI))=false:=by decide)
  (gG:(x==("__classdict__":aI))=false:=by decide) (ha:∀ov iv new,augStore j ov iv new=(do dg [new,ov,iv] (kc ov iv new);ng [new,ov,iv] [];pure .next):=by intros;rfl) :
  XS X ct ms rk (.AugAssign (.Subscript (.Name x p1) j ez) op e pos) (nH i fj gi f):=by
 obtain⟨t,pt,qt⟩:=he
 obtain⟨tj,sE,sI⟩:=hj
 refine⟨_,VD (vk hN hv hd gG) sE Uj pt ho E5 ha,λF0 B F H ρ σ o E rs e z=>?_⟩
 obtain⟨d1,oR,g3,g4,g5⟩:=dz e
 obtain⟨d2,g6,g7⟩:=aM g5
 obtain⟨f1,fr,n1,b1,dj,i4,cf,put⟩:=rs.put (F':=F) (H':=H) hm
 obtain⟨v,hσ,ow⟩:=i4 d1 (yf g3)
 refine⟨v,hσ,sI F0 B F H ρ σ oR _ rs g4 λvj F2 H2 x2 lj=>?_⟩
 cases d1<;>try (cases g7;done)
 rename_i ds
 cases oR<;>try (cases g7;done)
 rename_i zi
 ·skip
  dsimp only at g7
  obtain⟨da,g8,g9⟩:=aM g7
  obtain⟨ad,vs,oT,rfl,rfl,hF,hH,ol⟩:=ow.lst_inv
  have hA:H2 ad=some (.lst vs):=x2.hh _ _ hH
  have hp:Pr (Al X.K ct F2 H2 0) ds vs:=ol.pr λ_ _ _ _ q=>q.1.mono x2.ff
  obtain⟨va,O8,O9⟩:=hp.atI g8
  refine⟨ad,vs,zi,va,rfl,lj.int,eJ.of hA,O8,qt F0 B F2 H2 ρ σ d2 _ (rs.ext x2) g6 λvy F3 H3 x3 ly=>?_⟩
  have kK:=x2.trans x3
  cases da<;>try (cases g9;done)
  rename_i ia
  cases d2<;>try (cases g9;done)
  rename_i ib
  ·skip
   dsimp only at g9
   obtain⟨lT,OW,OX⟩:=aM g9
   cases OX
   obtain⟨jn,OY,OZ⟩:=aM OW
   cases OZ
   have O5:H3 ad=some (.lst vs):=x3.hh _ _ hA
   have fA:F3 ad=none:=kK.nf ad _ hH nofun hF
   have e0:=ol.nil0
   subst e0
   refine⟨ia,ib,O9.int,ly.int,ad,vs,zi,jn,rfl,lj.int,O5,by rw[←ol.length];exact OY,?_⟩
   refine z σ F3 _ (rs.change hm kK hσ b1 dj cf put ah fA (.inr (.lst fA ym (dU.set0 ⟨.int _,rfl⟩ (λ_ _ _ q=>q.2) jn (ol.mono λ_ _ _ _ q=>⟨q.1.mono kK.ff,q.2⟩)))) (fn:=[ad]) (by simp) ?_)
   intro a ha
   rw[aO]at ha
   subst ha
   exact .inl ah
structure Ic (K:aa)(C:af):Prop where
 cl:kB K C
 ha:ao K (.ref C) "__class__"=some (some (.builtin "object.__class__"))
 hn:cX K (.builtin "object.__class__") "__get__"=some (some (.builtin "getset_descriptor.__get__"))
 ht:hJ K (.builtin "object.__class__")=some true
 hm:dr K C (.type "object")=some true
def qY (all sub:List Nat):D->Option D
 |.obj c _ _=>if all.contains c=true then some (.bl (sub.contains c))else none
 |_=>none
theorem ML {C:af}{x:aI}{all sub:List Nat}{pp p2:cA}(hI:∀c∈all,Ic X.K (ct c)/\bv X.K (.ref (ct c)) (.ref C)=some (sub.contains c))(hm:X.mg "isinstance"=none)(rM:X.mg x=some (.ref C))(he:XE X ct ms n e f)(hg:Gl X "isinstance":=by rfl)(oV:Gl X x:=by rfl)(hd2:(x==("__debug__":aI))=false:=by decide)
  (qB:aq [e,.Name x p2] X.env=(false,bN e X.env)::aq [.Name x p2] X.env:=by rfl) (tN:aq [.Name x p2] X.env=(false,bN (.Name x p2) X.env)::aq [] X.env:=by rfl) (gb:(cC pos (aq [.Name x p2] X.env)).any (·.1)=false:=by rfl) :
  XE X ct ms k (.Call (.Name "isinstance" pp) [e,.Name x p2] [] pos) (e1 (qY all sub) f):=by
 obtain⟨t,pt,qt⟩:=he
 refine⟨_,II T7 hg hm j2 (vc pt (vc (Mw (v:=.ref C) oV rM rfl hd2) xT tN) qB) (by decide) (by decide) qB gb,λF0 B F H ρ σ d Q rs e w=>?_⟩
 obtain⟨d1,h1,h2⟩:=aM e
 refine qt F0 B F H ρ σ d1 _ rs h1 λv F' H' x l=>?_
 cases d1 with
 |obj c ns ds=>
  unfold qY at h2
  dsimp only at h2
  by_cases hc:all.contains c=true
  ·rw[if_pos hc]at h2
   cases h2
   obtain⟨a,dx,vs,rfl,ha,_⟩:=l.obj x.fh
   obtain⟨ic,PV⟩:=hI c (by simpa using hc)
   exact⟨_,C,_,_,rfl,.ins ha ic.cl ic.ha ic.hn ic.ht ic.hm,PV,w _ F' H' x (Al.of (.bl _))⟩
  ·rw[if_neg hc]at h2;cases h2
 |_=>cases h2
end
end L3
namespace L3
open PySem PySem.Spec L2
section
variable {K:aa}{ct:Nat->af}{n m k:Nat}
end
end L3
namespace PySem
section
variable {prog:aX}{w:bz}{A:bq}{R:Result->ak->Prop}{I:af}{fp wr:List af}{n:Nat}{P:Nat->ae->Prop}{St:Nat->aS->Prop}{kw:List (aI×ae)}
end
section
variable {prog:aX}{w:bz}{A:bq}{E:ae->ak->Prop}{s:ak}
end
end PySem
namespace L3
open PySem PySem.Spec L2
section
variable {X:Cx}{ct:Nat->af}{ms:List Mo}{e b:Expr}{f g:EF}{n m k:Nat}
end
end L3
namespace L3
open PySem PySem.Spec L2
open PyProof.Rows hiding St
section
variable {X:Cx}{ct:Nat->af}{ms:List Mo}{rk n m k:Nat}{a b c e o:Expr}{f g h:EF}{pos:cA}
end
end L3
namespace L2
open PySem PyProof.Rows
theorem U9 {X:Cx}{aj:List (af×cN)}{σ:St}{H:Hp}{s:ak}{QV:VK}{use:Option (ae->ik Unit)}{Q0:ae->ak->Prop}{iT iter tg:Expr}{ifs:List Expr}{scope:fm}{pos xC:cA}{N:List aI}{own:Nat}{cap:List Nat}{wi:TI}{g:TG}{tt:TT}{te:TE}(B:jR X scope N own cap)(hc:X.calm=true)(hi:PI X tg iter wi)
    (kg:fw own g)
    (hg:∀cl C fp s₀ H₀,PG (gR X scope cl N C fp s₀ H₀) tg g) (ht:∀cl C fp s₀ H₀,tf (gR X scope cl N C fp s₀ H₀) ifs tt) (he:∀cl C fp s₀ H₀,PE (gR X scope cl N C fp s₀ H₀) iT te)
    (hs:∀x,cQ iter X.env x=pure x) (I:Inv X aj σ H s) (h:oZ wi own cap g tt te σ H QV)
    (fin:∀(D C:af) (H5:Hp) (s6:ak) (r:Flow),QV (.ref D) H5->Inv X aj σ H5 s6->jS X aj H5 C->(∃m,s6.heap.Ns C m)->nS (aZ X.prog X.w) X.A X.xe use Q0 (.ref D) C (.ok r) s6) :
    bg (aZ X.prog X.w) X.A (comprehension (.ListComp iT [⟨tg,iter,ifs,0⟩] scope pos) scope X.env xC (newList []) false (bN iter X.env) use) Q0 X.xe s:=by
  obtain⟨cl,Bw,c1,c2,_⟩:=jb (env:=X.env) scope.names [] (λx hx hf=>I.ok.has x.1 (B.free x hx hf)) (λy c e=>by simp at e)
  have qP:nQ scope X.env=pure cl:=by
    have e:nQ scope X.env=(forIn scope.names ([]:List (aI×af)) (λ(x:aI×bi) (cs:List (aI×af))=>if(x.2==bi.free)=true then do let a ← cellOf X.env x.1;pure (ForInStep.yield ((x.1,a)::cs))else pure (ForInStep.yield cs)) >>= pure:ik (List (aI×af))):=rfl
    rw[e,Bw]
    rfl
  refine wpAny_comprehension_free (use:=use) rfl hs qP B.kind B.locs (de (hi aj s σ H _ I h) λv s1 h1=>de h1 λEy s2 h2=>?_)
  obtain⟨it,fp,tn,J,H2,e,I2,T,rQ,f2,W0⟩:=h2
  subst e
  obtain⟨W,⟨m0,w0⟩,mR⟩:=W0 s2.heap.objs.size (I2.hok.fresh (aG _))
  refine wpAny_newObj_type ?_
  have I3:Inv X aj σ (upd H2 s2.heap.objs.size (.lst [])) { s2 with heap:=s2.heap.push { cls:=.type "list",data:=.seq ([]:List ae).toArray } }:=I2.lnew .nil (cZ _)
  generalize BL:({ s2 with heap:=s2.heap.push { cls:=.type "list",data:=.seq ([]:List ae).toArray } }:ak)=s3 at I3
  have k3:∀b o,s2.heap.get? b=some o->s3.heap.get? b=some o:=λb o e=>by rw[←BL];exact aC _ e
  have z3:s3.heap.objs.size=s2.heap.objs.size+1:=by rw[←BL];exact eS _ _
  have oi:∀b∈fp,b<s2.heap.objs.size:=λb hb=>by
    obtain⟨o,e,_⟩:=T.obj _ _ rQ b hb
    exact aP e
  have mL:∀b∈fp,b≠s2.heap.objs.size:=λb hb=>bt (oi b hb)
  have f3:∀b∈fp,jS X aj (upd H2 s2.heap.objs.size (.lst [])) b:=λb hb=>⟨by rw[zn (mL b hb)];exact(f2 b hb).1,(f2 b hb).2⟩
  have EO:tn 0 s3.heap:=T.keep _ _ _ rQ λb _ o e=>k3 b o e
  show bg _ _ (ka scope X.env.globals cl [] X.env.qual none .none (some X.env)) _ _ _
  refine Lo λh₁ kk wA vW=>?_
  have IB:=LS (t':=s3.toks) B I3 c1 c2 f3 (λb hb=>by rw[z3];exact dh (oi b hb)) wA kk vW
  generalize cellsFrom (s3.heap.objs.size+1) scope.names cl=cl at IB ⊢
  generalize Hm:({ s3 with heap:=h₁,toks:=s3.toks }:ak)=s4 at IB
  have DA:tn 0 s4.heap:=T.keep _ _ _ EO λb _ o e=>by rw[←Hm];exact kk b o e
  show gK (aZ X.prog X.w) X.A (.compStart (.ListComp iT [⟨tg,iter,ifs,0⟩] scope pos) 0 (.ref it) (.ref s2.heap.objs.size) (nR scope cl s3.heap.objs.size X.env))
      (nS (aZ X.prog X.w) X.A X.xe use Q0 (.ref s2.heap.objs.size) s3.heap.objs.size) s4
  have lG:∀{H':Hp},(∀b∈fp,H' b=none)->∀b∈fp,jS (gR X scope cl N s3.heap.objs.size fp s3 (upd H2 s2.heap.objs.size (.lst []))) [] H' b:=λhn b hb=>
    ⟨hn b hb,bt (by show b<s3.heap.objs.size;rw[z3];exact dh (oi b hb)),IB.ok.exfs b hb,.inl hb,λx c e=>(IB.ok.exf b hb).2 x c e,λp hp=>(nomatch hp)⟩
  have loop:gK (aZ X.prog X.w) X.A (.compLoop (.ListComp iT [⟨tg,iter,ifs,0⟩] scope pos) 0 (.ref it) (.ref s2.heap.objs.size) (nR scope cl s3.heap.objs.size X.env))
      (nS (aZ X.prog X.w) X.A X.xe use Q0 (.ref s2.heap.objs.size) s3.heap.objs.size) s4:=by
    refine Ln (λn s'=>∃i ys H',Inv (gR X scope cl N s3.heap.objs.size fp s3 (upd H2 s2.heap.objs.size (.lst []))) [] (av own none++fu σ cap) H' s'/\tn i s'.heap/\(∀b∈fp,H' b=none)/\W i n ys H') ?_ m0
      ⟨0,[],_,IB,DA,λb hb=>(f3 b hb).1,w0⟩
    rintro n s5 ⟨i,ys,H5,I5,sM,vS,w5⟩
    obtain⟨hD,p7⟩:=mR i n ys H5 w5
    rcases p7 with⟨stop,qn⟩|⟨go,kh,step⟩
    · refine de (T.done (gR X scope cl N s3.heap.objs.size fp s3 (upd H2 s2.heap.objs.size (.lst []))) rfl rfl rfl hc i [] s5 _ H5 (λ_ _=>False) I5 (lG vS) sM stop) λr s6 di=>?_
      obtain⟨hr,I6⟩:=di
      subst hr
      obtain⟨m,hm,_⟩:=id I6.loc
      refine fin s2.heap.objs.size s3.heap.objs.size H5 s6 _ qn ?_ (I3.fpOk (aG _) I6.free) ⟨m,hm⟩
      have sb:dH s3.heap.objs.size s6.heap s6.heap:=⟨rfl,λ_ _=>rfl⟩
      have U:=I6.base
      have nC:∀b o,s3.heap.get? b=some o->b≠s3.heap.objs.size:=λb o e=>bt (aP e)
      have nT:∀b o,H5 b=some o->b≠s3.heap.objs.size:=λb o e z=>by
        have q:H5 s3.heap.objs.size=none:=I6.free
        rw[z,q]at e
        cases e
      refine I3.call' (ch:=fp) I6.os ?_ (λa o e=>(I6.hok a o e).stay (λb u hb q=>sb.extBut b u ?_ q) (λ_ q=>q) λ_ _ q=>q) I6.bare (λb hb=>⟨(f3 b hb).2.2.2.1,(f3 b hb).2.1,(f3 b hb).2.2.2.2.1,(f3 b hb).2.2.2.2.2⟩)
      · exact{
          keep:=λb o e z hb he=>sb.extBut b o (nC b o e) (U.keep b o e z hb he)
          slot:=λb o e z hb he=>by
            obtain⟨sl,q⟩:=U.slot b o e z hb he
            exact⟨sl,sb.extBut b _ (nC b o e) q⟩
          free:=U.free
          there:=λb o e he=>by
            obtain⟨o',q⟩:=U.there b o e he
            exact⟨o',sb.extBut b o' (nC b o e) q⟩
          tups:=U.tups
          frzs:=U.frzs
          tbls:=U.tbls }
      · rcases hb with rfl|hb
        · exact nT _ _ e
        · exact nT _ _ hb
    · refine de (T.item (gR X scope cl N s3.heap.objs.size fp s3 (upd H2 s2.heap.objs.size (.lst []))) rfl rfl rfl hc i [] s5 _ H5 (λ_ _=>False) I5 (lG vS) sM go) λr s6 di=>?_
      obtain⟨u,hr,h6⟩:=di
      subst hr
      refine de h6 λ_ s7 di=>?_
      obtain⟨x,H7,I7,r7,y7,xK,GJ⟩:=di
      have FD:=I7.pinned (lG GJ) (T.obj _ _ xK)
      refine de (hg cl s3.heap.objs.size fp s3 _ _ s7 _ H7 x u _ FD r7 (kg _ _ _ _ (step x H7 y7))) λ_ s8 di=>?_
      obtain⟨σ8,H8,I8,q8,l8,p8⟩:=di
      have back:∀{H9:Hp} {s9:ak},Inv (gR X scope cl N s3.heap.objs.size fp s3 (upd H2 s2.heap.objs.size (.lst []))) ([]++kj fp s7.heap) σ8 H9 s9 ->
          Inv (gR X scope cl N s3.heap.objs.size fp s3 (upd H2 s2.heap.objs.size (.lst []))) [] (av own none++fu σ cap) H9 s9/\tn (i+1) s9.heap/\∀b∈fp,H9 b=none:=λ{H9 s9} I9=>by
        refine⟨(I9.unpinned).weak l8.symm (λj v e=>?_),T.keep _ _ _ xK λb hb o e=>(I9.pin (b,o) (aw _ (aw _ (vi hb e)))).1,λb hb=>?_⟩
        · by_cases hj:j<own
          · rw[bw (by rw[cR];exact hj),eL,if_pos hj]at e
            cases e
          · rw[p8 j (by omega)];exact e
        · obtain⟨o,e,d⟩:=T.obj _ _ xK b hb
          exact(I9.pin (b,o) (aw _ (aw _ (vi hb e)))).2.1
      refine de (ht cl s3.heap.objs.size fp s3 _ _ s8 σ8 H8 _ I8 q8) λok s9 di=>?_
      obtain⟨H9,I9,q9⟩:=di
      cases ok with
      |false=>
        rw[if_neg aJ]
        rw[if_neg aJ]at q9
        obtain⟨m',sk,w'⟩:=q9
        obtain⟨b1,b2,b3⟩:=back I9
        exact⟨m',sk,i+1,ys,H9,b1,b2,b3,w'⟩
      |true=>
        rw[if_pos rfl]
        rw[if_pos rfl]at q9
        refine de (he cl s3.heap.objs.size fp s3 _ _ s9 σ8 H9 _ I9 q9) λuy HV di=>?_
        obtain⟨y,zE,FB,r10,vT,m',sk,w'⟩:=di
        refine de (Iu _ HV σ8 zE (.ref s2.heap.objs.size) [y] (.ref s2.heap.objs.size) [uy] (λ_ zF=>zF=upd zE s2.heap.objs.size (.lst (ys++[y]))) FB rfl (.cons r10 .nil) ⟨_,ys,y,rfl,rfl,vT,kh,rfl⟩) λ_ Q9 di=>?_
        obtain⟨_,zF,FC,_,Gk⟩:=di
        subst Gk
        obtain⟨b1,b2,b3⟩:=back FC
        exact⟨m',sk,i+1,ys++[y],_,b1,b2,b3,w'⟩
  exact codeAny_compStart_list loop (T.self X.A 0 s4 _ _ DA loop)
theorem Tu {X:Cx}{i:Nat}{x:aI}{pos' rD:cA}{iT iter tg:Expr}{ifs:List Expr}{scope:fm}{pos:cA}{N:List aI}{own:Nat}{cap:List Nat}{wi:TI}{g:TG}{tt:TT}{te:TE}(B:jR X scope N own cap)(hc:X.calm=true)(hi:PI X tg iter wi)
  (kg:fw own g)
  (hg:∀cl C fp s₀ H₀,PG (gR X scope cl N C fp s₀ H₀) tg g) (ht:∀cl C fp s₀ H₀,tf (gR X scope cl N C fp s₀ H₀) ifs tt) (he:∀cl C fp s₀ H₀,PE (gR X scope cl N C fp s₀ H₀) iT te)
  (hN:X.N.Nodup) (tK:X.N[i]?=some x) (hx:Loc X.env.scope x) (wH:dO (.ListComp iT [⟨tg,iter,ifs,0⟩] scope pos) (some (.Name x pos')) rD.line X.env=pure true)
  (hs:∀x,cQ iter X.env x=pure x:=by intro _;rfl) (hf:X.fn x=true\/X.env.scope.names.lookup x=some .local:=by first|exact .inl rfl|exact .inr rfl|assumption) :
  PS X (.Assign [.Name x pos'] (.ListComp iT [⟨tg,iter,ifs,0⟩] scope pos) rD) (xL (oZ wi own cap g tt te) (ny i)):=by
 intro aj s σ H D I h
 rw[exec_Assign_Name_used _ _ _ _ wH]
 refine aL (kQ (aL ?_))
 show bg _ X.A (do let _ ← comprehension (.ListComp iT [⟨tg,iter,ifs,0⟩] scope pos) scope X.env _ (newList []) false (bN iter X.env) (some (eW (.Name x pos') X.env))) _ _ s
 refine aL (dW (U9 (use:=some (eW (.Name x pos') X.env)) (Q0:=λ_ s'=>∃σ' H',Inv X aj σ' H' s'/\D.nx σ' H') B hc hi kg hg ht he hs I h λDa C H5 s6 r q I6 fo hm=>?_) (λ_ s' hq=>bF (bF hq)) λ_ _ e=>e)
 show bg _ X.A (eW (.Name x pos') X.env (.ref Da)) _ _ _
 refine wpAny_assign_Name (LG (v:=.ref Da) I6 hN tK hx rfl (λs7 I7 PD=>?_) hf)
 obtain⟨m,hm⟩:=hm
 obtain⟨a,sb,ha⟩:=PD
 obtain⟨f0,f1,f2,f3,f4,f5⟩:=fo
 have mL:C≠a:=by
  rcases ha with rfl|ha
  ·exact f1
  ·exactλz=>f4 x a ha z.symm
 refine⟨m,hm.sameBut sb mL,λh' Rc=>⟨_,H5,I7.turned (t':=s7.toks) (it:=C) (λb o hb e=>Rc.extBut b o hb e) f0 f1 f3 f4 f5,q⟩⟩
end L2
namespace L3
open PySem PySem.Spec L2
open PyProof.Rows hiding St
section
variable {X:Cx}{ct:Nat->af}{ms:List Mo}{rk n m k:Nat}{a b c e o:Expr}{f g h:EF}{pos:cA}
theorem wu {om:List Mo}{iT iter tg:Expr}{ifs:List Expr}{scope:fm}{N:List aI}{own:Nat}{cap:List Nat}{fi:Env->Option (List D)}{gg:D->Env->Option Env}{p:BF}{i:Nat}{x:aI}{pos' rD:cA}
  (hm:ms[i]?=some (.ow k)) (hN:X.N.Nodup) (tK:X.N[i]?=some x) (hx:Loc X.env.scope x)
  (B:jR X scope N own cap) (hc:X.calm=true) (ho:om.length=own) (iZ:∀i∈cap,i<ms.length) (hi:tw X ct ms n tg iter fi)
  (hg:∀cl C fp s₀ H₀,rL (gR X scope cl N C fp s₀ H₀) ct (om++fZ ms cap) own n tg gg) (ht:∀cl C fp s₀ H₀,uK (gR X scope cl N C fp s₀ H₀) ct (om++fZ ms cap) ifs p) (he:∀cl C fp s₀ H₀,XO (gR X scope cl N C fp s₀ H₀) ct (om++fZ ms cap) (k-1) iT f)
  (wH:dO (.ListComp iT [⟨tg,iter,ifs,0⟩] scope pos) (some (.Name x pos')) rD.line X.env=pure true:=by rfl)
  (hs:∀x,cQ iter X.env x=pure x:=by intro _;rfl) (hf:X.fn x=true\/X.env.scope.names.lookup x=some .local:=by first|exact .inl rfl|exact .inr rfl|assumption) :
  XS X ct ms rk (.Assign [.Name x pos'] (.ListComp iT [⟨tg,iter,ifs,0⟩] scope pos) rD) (sSet i (eG fi own cap gg p f)):=by
 obtain⟨wi,g,tt,te,pi,kg,pg,pt,pe,q⟩:=Mm (k:=k-1) (pos:=pos) B hc ho iZ hi hg ht he
 refine⟨_,Tu B hc pi kg pg pt pe hN tK hx wH hs hf,λF0 B F H ρ σ o E rs e w=>?_⟩
 obtain⟨d,h1,h2⟩:=aM e
 cases h2
 cases k with
 |succ k=>exact q F0 B F H ρ σ d _ rs h1 λv F' H' fp x l nd hf=>w _ F' H' (rs.set hm x l nd hf)
 |zero=>
  refine q F0 B F H ρ σ d _ rs h1 λv F' H' fp x l nd hf=>?_
  obtain⟨F2,x2,l2⟩:=l.freeze x hf
  exact w _ F2 H' (rs.set hm x2 (Ow.zero l2) bx λa z=>by cases z)
theorem Jj {i:Nat}{x:aI}{pos':cA}(hm:ms[i]?=some (.ow k))(hN:X.N[i]?=some x:=by rfl)(hv:mW X.env.scope x:=by first|exact Or.inl rfl|exact Or.inr (Or.inl rfl)|exact Or.inr (Or.inr rfl))(hd:(x==("__debug__":aI))=false:=by decide)
  (gG:(x==("__classdict__":aI))=false:=by decide):XS X ct ms 0 (.Return (some (.Name x pos')) pos) (sRet (eV i)):=by
 refine⟨_,DI (vk hN hv hd gG),λF0 B F H ρ σ o E rs e w=>?_⟩
 obtain⟨d,h1,h2⟩:=aM e
 cases h2
 obtain⟨fp,sl,nd,hb⟩:=rs.sl
 obtain⟨f1,fr,i1,i2,i3,i4,i5⟩:=sl.put hm
 obtain⟨v,BN,l⟩:=i4 d (yf h1)
 obtain⟨F',x,l2⟩:=l.freeze (⟨rs.f0,rs.bh,rs.fh,rs.nf⟩:eY F0 B F H) (λz hz=>hb z (i1 z hz))
 exact⟨v,BN,w v F' H [] x.ff x.hh x.fh x.nf (Ow.zero l2) bx λz hz=>by cases hz⟩
theorem X5 (hu:X.A.units+1<gE)(ha:XE X ct ms n a f)(hb:XE X ct ms m b g)(hm:dB .In b=false):XT X ct ms (.Compare a [.In] [b] pos) (tb λρ=>(f ρ).bind λx=>(g ρ).bind λy=>(jV y x).bind λr=>some (.bl r.isSome)):=by
 obtain⟨ta,ZG,pa,pb,q⟩:=ha.bin hb
 refine⟨_,W6 (WX hu pa pb) hm,λF0 B F H ρ σ t Q rs e w=>?_⟩
 obtain⟨d0,h0,h9⟩:=aM e
 obtain⟨d1,d2,h1,h2,h3⟩:=dz h0
 obtain⟨r,h4,h5⟩:=aM h3
 cases h5
 cases h9
 refine q F0 B F H ρ σ d1 d2 _ rs h1 h2 λx y F' H' x1 l1 l2=>?_
 obtain⟨a,o,rfl,g,_,h⟩:=Ji (r:=r) x1.fh l2 l1 h4
 refine⟨a,o,rfl,g,?_⟩
 cases r with
 |none=>rw[h.none_of];exact⟨_,rfl,w F' H' x1⟩
 |some d=>obtain⟨u,rfl,Er⟩:=h.some_of;exact⟨_,rfl,w F' H' x1⟩
end
end L3
namespace L2
open PySem PyProof.Rows
end L2
namespace L3
open PySem PySem.Spec L2
open PyProof.Rows hiding St
section
variable {X:Cx}{ct:Nat->af}{ms:List Mo}{rk n m k:Nat}{st:bI}{rest:List bI}{a b c e tg:Expr}{f g h:EF}{p q:BF}{u w:SF}{pos:cA}
end
end L3
namespace L3
open PySem PySem.Spec L2
open PyProof.Rows hiding St
theorem dU.upd {R R':D->V->List af->Prop}{d:D}{ds:List D}{vs:List V}{fp:List af}{i:Nat}(h:dU R ds vs fp)(e:ds[i]?=some d):∃v f,vs[i]?=some v/\R d v f/\(∀a∈f,a∈fp) /\
  ∀d',R' d' v f->fp.Nodup->(∀d v f',(∀a∈f',a∈fp)->(∀a∈f',a∉f)->R d v f'->R' d v f')->dU R' (ds.set i d') vs fp:=by
 induction h generalizing i with
 |nil=>cases e
 |@cons _ _ _ _ f g h t ih=>
  cases i with
  |zero=>
   cases e
   refine⟨_,f,rfl,h,λa ha=>bp _ ha,λd' hd nd ot=>?_⟩
   rw[aW]at nd
   exact .cons hd (t.mono λd v f' hi r=>ot d v f' (λa ha=>aw _ (hi a ha)) (λa ha hf=>nd.2.2 a hf a (hi a ha) rfl) r)
  |succ i=>
   obtain⟨v,f2,h1,h2,h3,h4⟩:=ih (i:=i) e
   refine⟨v,f2,h1,h2,λa ha=>aw _ (h3 a ha),λd' hd nd ot=>?_⟩
   rw[aW]at nd
   exact .cons (ot _ _ f (λa ha=>bp _ ha) (λa ha hf=>nd.2.2 a ha a (h3 a hf) rfl) h) (h4 d' hd nd.2.1 λd v f' hi hn r=>ot d v f' (λa ha=>aw _ (hi a ha)) hn r)
section
variable {X:Cx}{ct:Nat->af}{ms:List Mo}{rk n m k:Nat}{st:bI}{rest:List bI}{a b c e tg:Expr}{f g h:EF}{p q:BF}{u w:SF}{pos:cA}
def oC (i:Nat)(fj fl f:EF):SF:=λρ=>(f ρ).bind λd=>(eV i ρ).bind λo=>(fj ρ).bind λj=>(fl ρ).bind λl=>match o,j,l with
 |.lst rs,.int y,.int z=>(ixN rs.length y).bind λy'=>(rs[y']?).bind λr=>(match r with
  |.lst ds=>(iN ds z d).bind λlT=>some (.nx (ρ.set i (some (.lst (rs.set y' (.lst lT))))))
  |_=>none)
 |_,_,_=>none
theorem UI (i:Nat){x:aI}{j l:Expr}{p1 p2 ez:cA}{fj fl:EF}(hm:ms[i]?=some (.ow 2))(hj:XE X ct ms n j fj)(hl:XE X ct ms m l fl)(hp:la j)(he:XE X ct ms 0 e f)(hN:X.N[i]?=some x:=by rfl)(hv:mW X.env.scope x:=by first|exact Or.inl rfl|exact Or.inr (Or.inl rfl)|exact Or.inr (Or.inr rfl))(hd:(x==("__debug__":aI))=false:=by decide)
  (gG:(x==("__classdict__":aI))=false:=by decide)
  (ha:∀v,eW (.Subscript (.Subscript (.Name x p1) j p2) l ez) X.env v=(do
   let ov ← dg [v] (bN (.Subscript (.Name x p1) j p2) X.env)
   let iv ← dg [v,ov] (bN l X.env)
   eT ez
   dg [v,ov,iv] (kc ov iv v)
   ng [v,ov,iv] []):=by intro _;rfl)
  (hs:iz [.Subscript (.Subscript (.Name x p1) j p2) l ez] e pos.line X.env=pure false:=by rfl) (hw:iy [.Subscript (.Subscript (.Name x p1) j p2) l ez] e X.env=pure none:=by rfl)
  (h1:(cF [.Subscript (.Subscript (.Name x p1) j p2) l ez] X.env).map (·.2)=[eW (.Subscript (.Subscript (.Name x p1) j p2) l ez) X.env]:=by rfl) :
  XS X ct ms rk (.Assign [.Subscript (.Subscript (.Name x p1) j p2) l ez] e pos) (oC i fj fl f):=by
 obtain⟨t,pt,qt⟩:=he
 obtain⟨tj,sE,sI⟩:=hj
 obtain⟨tl,QZ,Q6⟩:=hl
 refine⟨_,Ft pt (Jk (NG MH (vk hN hv hd gG) sE hp) QZ E5 ha) hs hw h1,λF0 B F H ρ σ o E rs e z=>?_⟩
 obtain⟨d,g1,g2⟩:=aM e
 obtain⟨d1,oR,g3,g4,g5⟩:=dz g2
 obtain⟨OP,g6,g7⟩:=aM g5
 refine qt F0 B F H ρ σ d _ rs g1 λv0 F1 H1 x1 l0=>?_
 have iV:=rs.ext x1
 obtain⟨f1,fr,n1,b1,dj,i4,cf,put⟩:=iV.put (F':=F) (H':=H) hm
 obtain⟨v,hσ,ow⟩:=i4 d1 (yf g3)
 refine⟨v,hσ,sI F0 B F1 H1 ρ σ oR _ iV g4 λvj F2 H2 x2 lj=>?_⟩
 cases d1 with
 |lst Zv=>
  cases oR with
  |int yi=>
   cases OP with
   |int zi=>
    obtain⟨y',k1,k2⟩:=aM g7
    obtain⟨r,k3,k4⟩:=aM k2
    cases r with
    |lst ds=>
     obtain⟨lT,k5,k6⟩:=aM k4
     cases k6
     obtain⟨jn,k8,k9⟩:=aM k5
     cases k9
     obtain⟨ad,vs,oT,rfl,rfl,hF,hH,ol⟩:=ow.lst_inv
     obtain⟨vr,f2,q1,q2,q3,q4⟩:=dU.upd (R':=Ow X.K ct F2 (upd H2 0 (.lst [])) 1) ol k3
     obtain⟨bd,us,GI,rfl,rfl,Kf,Bs,wW⟩:=q2.lst_inv
     clear q4
     have hA:H2 ad=some (.lst vs):=x2.hh _ _ hH
     refine⟨ad,vs,yi,.ref bd,rfl,lj.int,eJ.of hA,?_,?_⟩
     ·unfold atI
      rw[←ol.length,k1]
      exact q1
     ·refine Q6 F0 B F2 H2 ρ σ _ _ (iV.ext x2) g6 λvl F3 H3 x3 ll=>?_
      have kK:=x2.trans x3
      have hB:H3 bd=some (.lst us):=kK.hh _ _ Bs
      have fB:F3 bd=none:=kK.nf bd _ Bs nofun Kf
      have e0:=wW.nil0
      subst e0
      have yP:=aY.mp n1
      have Kk:bd∈oT:=q3 bd ah
      have mL:ad≠bd:=λz=>yP.1 (z▸Kk)
      refine⟨bd,us,zi,jn,rfl,ll.int,hB,by rw[←wW.length];exact k8,?_⟩
      obtain⟨ZL,YQ,K3,Q4,Zt,Q5⟩:=dU.upd (R':=Ow X.K ct F3 (upd H3 bd (.lst (us.set jn v0))) 1) ol k3
      rw[q1]at K3
      cases K3
      obtain⟨YL,ZK,OV,eb,rfl,_,Kg,HL⟩:=Q4.lst_inv
      cases eb
      have e1:=HL.nil0
      subst e1
      rw[Bs]at Kg
      cases Kg
      refine z σ F3 _ (iV.change hm kK hσ b1 dj cf put (ai _ Kk) fB (.inr (.lst (kK.nf ad _ hH nofun hF) (by rw[zn mL];exact kK.hh _ _ hH) (Q5 (.lst (ds.set jn d)) (.inr (.lst fB ym (dU.set0 ⟨Dt.mono kK.ff l0,rfl⟩ (λ_ _ _ q=>q.2) jn (wW.mono λ_ _ _ _ q=>⟨q.1.mono kK.ff,q.2⟩)))) yP.2 ?_))) (fn:=ad::oT) n1 λa ha=>.inl ha)
      intro d0 v1 f' lz GZ o'
      refine(o'.ext kK).frame (.refl _) λa' si=>⟨zn λe=>GZ a' si (by rw[e];exact ah),((o'.ext kK).cells a' si).1⟩
    |_=>cases k4
   |_=>cases g7
  |_=>cases g7
 |_=>cases g7
end
end L3
namespace L3
open PySem PySem.Spec L2
open PyProof.Rows hiding St
section
variable {K:aa}{ct:Nat->af}{F F' H B F0:Hp}
theorem SL.fz {ms:List Mo}{ρ:Env}{σ:St}{fp:List af}{i k:Nat}(h0:SL K ct F B H ms ρ σ fp)(s:bE F H):fp.Nodup->ms[i]?=some (.ow k)->∃f1:List af,(∀a∈f1,a∈fp) /\
  ∃gr,SL K ct (gC F H f1) B H (ms.set i (.ow 0)) ρ σ gr/\gr.Nodup/\∀a∈gr,a∈fp/\a∉f1:=by
 induction h0 generalizing i with
 |nil=>
  intro _ e
  simp at e
 |@no m0 o0 ms ρ σ fp t ih=>
  intro nd e
  cases i with
  |zero=>
   obtain⟨w1,w2,w3⟩:=w9 (F:=F) (H:=H) (fp:=[]) s (λa z=>by cases z)
   exact⟨[],λa z=>(by cases z),fp,.no (t.frame w1 λa z=>⟨rfl,by unfold gC;rw[if_neg (by simp)];exact(t.cells a z).1⟩),nd,λa z=>⟨z,by simp⟩⟩
  |succ i=>
   obtain⟨f1,h1,gr,q1,q2,q3⟩:=ih (i:=i) nd (by simpa using e)
   exact⟨f1,h1,gr,.no q1,q2,q3⟩
 |@al n0 d0 v0 ms ρ σ fp h t ih=>
  intro nd e
  cases i with
  |zero=>
   simp at e
  |succ i=>
   obtain⟨f1,h1,gr,q1,q2,q3⟩:=ih (i:=i) nd (by simpa using e)
   obtain⟨w1,w2,w3⟩:=w9 (F:=F) (H:=H) (fp:=f1) s (λa z=>(t.cells a (h1 a z)).1)
   exact⟨f1,h1,gr,.al (h.mono w1 (.refl _)) q1,q2,q3⟩
 |@px d0 v0 ms ρ σ fp h t ih=>
  intro nd e
  cases i with
  |zero=>
   simp at e
  |succ i=>
   obtain⟨f1,h1,gr,q1,q2,q3⟩:=ih (i:=i) nd (by simpa using e)
   obtain⟨w1,w2,w3⟩:=w9 (F:=F) (H:=H) (fp:=f1) s (λa z=>(t.cells a (h1 a z)).1)
   exact⟨f1,h1,gr,.px (h.mono w1 (.refl _)) q1,q2,q3⟩
 |@so d0 x ms ρ σ fp h t ih=>
  intro nd e
  cases i with
  |zero=>
   simp at e
  |succ i=>
   obtain⟨n1,n2⟩:=aY.mp nd
   obtain⟨f1,h1,gr,q1,q2,q3⟩:=ih (i:=i) n2 (by simpa using e)
   obtain⟨w1,w2,w3⟩:=w9 (F:=F) (H:=H) (fp:=f1) s (λa z=>(t.cells a (h1 a z)).1)
   refine⟨f1,λa z=>ai _ (h1 a z),x::gr,.so (h.frame w1 λa z=>⟨rfl,?_⟩) q1,aY.mpr ⟨λz=>n1 (q3 x z).1,q2⟩,λa z=>?_⟩
   ·rw[aO]at z
    unfold gC
    rw[if_neg λq=>n1 (z▸h1 a q)]
    exact(h.cells a (by rw[z];exact ah)).1
   ·rcases ay.mp z with z|z
    ·exact⟨z▸ah,λq=>n1 (z▸h1 a q)⟩
    ·exact⟨ai _ (q3 a z).1,(q3 a z).2⟩
 |@ow n0 d0 v0 ms ρ σ f fp h t ih=>
  intro nd e
  cases i with
  |zero=>
   obtain⟨w1,w2,w3⟩:=w9 (F:=F) (H:=H) (fp:=f) s (λa z=>(h.cells a z).1)
   obtain⟨n1,n2,n3⟩:=aW.mp nd
   refine⟨f,λa z=>bp _ z,[]++fp,.ow ⟨h.dt w1 w3,rfl⟩ (t.frame w1 λa z=>⟨rfl,?_⟩),n2,λa z=>⟨aw _ z,λq=>n3 a q a z rfl⟩⟩
   unfold gC
   rw[if_neg λq=>n3 a q a z rfl]
   exact(t.cells a z).1
  |succ i=>
   obtain⟨n1,n2,n3⟩:=aW.mp nd
   obtain⟨f1,h1,gr,q1,q2,q3⟩:=ih (i:=i) n2 (by simpa using e)
   obtain⟨w1,w2,w3⟩:=w9 (F:=F) (H:=H) (fp:=f1) s (λa z=>(t.cells a (h1 a z)).1)
   refine⟨f1,λa z=>aw _ (h1 a z),f++gr,.ow (h.frame w1 λa z=>⟨rfl,?_⟩) q1,aW.mpr ⟨n1,q2,λa z b zb=>n3 a z b (q3 b zb).1⟩,λa z=>?_⟩
   ·unfold gC
    rw[if_neg λq=>n3 a z a (h1 a q) rfl]
    exact(h.cells a z).1
   ·rcases aT.mp z with z|z
    ·exact⟨bp _ z,λq=>n3 a z a (h1 a q) rfl⟩
    ·exact⟨aw _ (q3 a z).1,(q3 a z).2⟩
theorem SL.forget (m':Mo){ms:List Mo}{ρ:Env}{σ:St}{fp:List af}(i:Nat)(h0:SL K ct F B H ms ρ σ fp):∃gr,SL K ct F B H (ms.set i m') (ρ.set i none) σ gr/\gr.Sublist fp:=by
 induction h0 generalizing i with
 |nil=>
  exact⟨[],.nil,.refl _⟩
 |@no m0 o0 ms ρ σ fp t ih=>
  cases i with
  |zero=>
   exact⟨fp,.no t,.refl _⟩
  |succ i=>
   obtain⟨gr,q1,q2⟩:=ih i
   exact⟨gr,.no q1,q2⟩
 |@al n0 d0 v0 ms ρ σ fp h t ih=>
  cases i with
  |zero=>
   exact⟨fp,.no t,.refl _⟩
  |succ i=>
   obtain⟨gr,q1,q2⟩:=ih i
   exact⟨gr,.al h q1,q2⟩
 |@px d0 v0 ms ρ σ fp h t ih=>
  cases i with
  |zero=>
   exact⟨fp,.no t,.refl _⟩
  |succ i=>
   obtain⟨gr,q1,q2⟩:=ih i
   exact⟨gr,.px h q1,q2⟩
 |@so d0 x ms ρ σ fp h t ih=>
  cases i with
  |zero=>
   exact⟨fp,.no t,List.sublist_cons_self _ _⟩
  |succ i=>
   obtain⟨gr,q1,q2⟩:=ih i
   exact⟨_,.so h q1,q2.cons₂ _⟩
 |@ow n0 d0 v0 ms ρ σ f fp h t ih=>
  cases i with
  |zero=>
   exact⟨fp,.no t,List.sublist_append_right _ _⟩
  |succ i=>
   obtain⟨gr,q1,q2⟩:=ih i
   exact⟨_,.ow h q1,(List.Sublist.refl _).append q2⟩
theorem RS.fz {ms:List Mo}{ρ:Env}{σ:St}{i k:Nat}(rs:RS K ct F0 B ms F H ρ σ)(hm:ms[i]?=some (.ow k)):∃F',RS K ct F0 B (ms.set i (.ow 0)) F' H ρ σ:=by
 obtain⟨fp,sl,nd,hb⟩:=rs.sl
 obtain⟨f1,h1,gr,q1,q2,q3⟩:=sl.fz rs.fh nd hm
 obtain⟨w1,w2,w3⟩:=w9 (F:=F) (H:=H) (fp:=f1) rs.fh (λa z=>(sl.cells a (h1 a z)).1)
 refine⟨gC F H f1,rs.f0.trans w1,rs.bh,w2,λa o ho nt hn=>?_,gr,q1,q2,λa z=>hb a (q3 a z).1⟩
 have:¬a∈f1:=λz=>by rw[hb a (h1 a z)]at ho;cases ho
 unfold gC;rw[if_neg this];exact rs.nf a o ho nt hn
theorem RS.forget {ms:List Mo}{ρ:Env}{σ:St}(m':Mo)(i:Nat)(rs:RS K ct F0 B ms F H ρ σ):RS K ct F0 B (ms.set i m') F H (ρ.set i none) σ:=by
 obtain⟨fp,sl,nd,hb⟩:=rs.sl
 obtain⟨gr,q1,q2⟩:=sl.forget m' i
 exact⟨rs.f0,rs.bh,rs.fh,rs.nf,gr,q1,q2.nodup nd,λa z=>hb a (q2.subset z)⟩
end
def rl (i:Nat):Out->Out
 |.nx ρ=>.nx (ρ.set i none)
 |.rt d=>.rt d
 |.bk ρ=>.bk (ρ.set i none)
 |.ct ρ=>.ct (ρ.set i none)
def sFz (i:Nat)(u:SF):SF:=λρ=>(u ρ).bind λo=>some (rl i o)
section
variable {X:Cx}{ct:Nat->af}{ms:List Mo}{rk k:Nat}
theorem Tv {ms:List Mo}{i k:Nat}(hm:ms[i]?=some (.ow k)):(ms.set i (.ow 0)).set i (.ow k)=ms:=by
 rw[m7]
 apply eh
 intro j
 rw[pR]
 split
 ·next h=>
  subst h
  rw[hm]
  have:=(aU.mp hm).1
  rw[if_pos this]
 ·rfl
theorem Yf {i:Nat}{t:kd->St->Hp->Prop}{w:SF}(hm:ms[i]?=some (.ow k))
  (q:∀(F0 B F H:Hp) (ρ:Env) (σ:St) (o:Out) (E:kd),RS X.K ct F0 B (ms.set i (.ow 0)) F H ρ σ->w ρ=some o->kE X.K ct F0 B (ms.set i (.ow 0)) rk E o->t E σ H)
  (F0 B F H:Hp) (ρ:Env) (σ:St) (o:Out) (E:kd) (rs:RS X.K ct F0 B ms F H ρ σ) (e:sFz i w ρ=some o) (z:kE X.K ct F0 B ms rk E o):t E σ H:=by
 obtain⟨F',r2⟩:=rs.fz hm
 obtain⟨o1,e1,e2⟩:=aM e
 refine q F0 B F' H ρ σ o1 E r2 e1 ?_
 have back:∀{ρ':Env} {σ':St} {F2 H2:Hp},RS X.K ct F0 B (ms.set i (.ow 0)) F2 H2 ρ' σ'->RS X.K ct F0 B ms F2 H2 (ρ'.set i none) σ':=λr=>by
  have:=r.forget (.ow k) i
  rw[Tv hm]at this
  exact this
 cases o1 with
 |nx ρ'=>cases e2;exactλσ' F2 H2 r=>z σ' F2 H2 (back r)
 |rt d=>cases e2;exact z
 |bk ρ'=>cases e2;exactλσ' F2 H2 r=>z σ' F2 H2 (back r)
 |ct ρ'=>cases e2;exactλσ' F2 H2 r=>z σ' F2 H2 (back r)
theorem Fz {K9:List bI}{w:SF}{i:Nat}(hm:ms[i]?=some (.ow k))(h:pG X ct (ms.set i (.ow 0)) rk K9 w):pG X ct ms rk K9 (sFz i w):=by
 obtain⟨t,pt,qt⟩:=h
 exact⟨t,pt,Yf hm qt⟩
theorem zl1 {i:Nat}{d:D}:rl i (.rt d)=.rt d:=rfl
theorem zl2 {i:Nat}{ρ:Env}:rl i (.nx ρ)=.nx (ρ.set i none):=rfl
end
end L3
namespace L3
open PySem PySem.Spec L2
open PyProof.Rows hiding St
section
variable {X:Cx}{ct:Nat->af}{ms:List Mo}{rk n m k:Nat}{a b c tg:Expr}{pos:cA}
end
end L3
namespace L2
open PySem PySem.Spec PyProof.Rows
section
variable {X:Cx}{mH:List Expr}{kt:Nat}{pt:cA}
end
end L2
namespace L3
open PySem PySem.Spec L2
open PyProof.Rows hiding St
section
variable {X:Cx}{ct:Nat->af}{ms:List Mo}{n:Nat}{a b:Expr}{pos:cA}
end
end L3
namespace L3
open PySem PySem.Spec L2
open PyProof.Rows hiding St
section
variable {K:aa}{ct:Nat->af}{n m k:Nat}
end
end L3
namespace L2
open PySem PySem.Spec PyProof.Rows
section
variable {X:Cx}{e sp:Expr}{te:TE}{tp:TO}{pos p2:cA}
end
end L2
namespace L3
open PySem PySem.Spec L2
open PyProof.Rows hiding St
section
variable {X:Cx}{ct:Nat->af}{ms:List Mo}{n m:Nat}{e sp:Expr}{f g:EF}{pos p1:cA}
end
end L3
namespace L3
open PySem PySem.Spec L2
open PyProof.Rows hiding St
def kg {α:Type}(p q:Nat)(rv:Bool)(us ws:List α):List α:=if us.length=p/\ws.length=q then us++(if rv then ws.reverse else ws)else[]
section
variable {X:Cx}{ct:Nat->af}{ms:List Mo}{rk n m k kk:Nat}{e a:Expr}{f:EF}{x:aI}{pp pos wO:cA}{fa:af}{fd:aF}{ps ks:List aI}{mf:List D->Option D}
end
end L3
namespace L3
open PySem PySem.Spec L2
open PyProof.Rows hiding St
section
variable {X:Cx}{ct:Nat->af}{ms:List Mo}{rk n m k:Nat}{st:bI}{rest:List bI}{a b c e tg:Expr}{f g h:EF}{p q:BF}{u w:SF}{pos:cA}
end
end L3
namespace L3
open PySem PySem.Spec L2
open PyProof.Rows hiding St
section
variable {X:Cx}{ct:Nat->af}{ms:List Mo}{rk n m k:Nat}{a e:Expr}{f:EF}{pos:cA}
end
end L3
namespace L3
open PySem PySem.Spec L2
open PyProof.Rows hiding St
section
variable {X:Cx}{ct:Nat->af}{ms:List Mo}{n m l k:Nat}{a b c:Expr}{f g h:EF}{pos:cA}
end
end L3
namespace L3
open PySem PySem.Spec L2
open PyProof.Rows hiding St
def tF (f:EF):EF:=λρ=>(f ρ).bind λd=>if d.sc=true then some d else none
section
variable {X:Cx}{ct:Nat->af}{ms:List Mo}{rk n m k:Nat}{a b c e tg:Expr}{f g h:EF}{pos:cA}
theorem Jz (he:XE X ct ms n e f):XO X ct ms k e (tF f):=by
 obtain⟨t,p,q⟩:=he
 refine⟨t,p,λF0 B F H ρ σ d Q r e w=>?_⟩
 obtain⟨d0,h1,h2⟩:=aM e
 by_cases hs:d0.sc=true
 ·rw[if_pos hs]at h2
  cases h2
  exact q F0 B F H ρ σ d Q r h1 λv F' H' x l=>w v F' H' [] x (Ow.scal (Al.scal l hs) hs) bx λa z=>(by cases z)
 ·rw[if_neg hs]at h2;cases h2
end
end L3
namespace L3
open PySem PySem.Spec L2
open PyProof.Rows hiding St
section
variable {X:Cx}{ct:Nat->af}{ms:List Mo}{n:Nat}{e tg:Expr}{f:EF}{pos:cA}
end
end L3
namespace L3
open PySem PySem.Spec L2
open PyProof.Rows hiding St
section
variable {X:Cx}{K:aa}{ct:Nat->af}{ms:List Mo}{n k:Nat}
end
end L3
namespace L3
open PySem PySem.Spec L2
open PyProof.Rows hiding St
def J5 (ns:List Int):List Int:=firstMet (λi=>ns.getD i 0) ns.length
section
variable {X:Cx}{ct:Nat->af}{ms:List Mo}{rk n m k:Nat}{a b c e:Expr}{f g h:EF}{pos:cA}
end
end L3
namespace L3
open PySem PySem.Spec L2
open PyProof.Rows hiding St
def ki:D->Bool
 |.lst _=>true
 |.dK _ _=>true
 |.dT _ _=>true
 |_=>false
theorem Ow.cell {K:aa}{ct:Nat->af}{F H:Hp}{d:D}{v:V}{fp:List af}(h:Ow K ct F H 1 d v fp)(hc:ki d=true):∃a,v=.ref a/\fp=[a]:=by
 cases d with
 |lst ds=>obtain⟨a,vs,fr,rfl,rfl,_,_,ol⟩:=h.lst_inv;have e0:=ol.nil0;subst e0;exact⟨_,rfl,rfl⟩
 |dK ks ds=>obtain⟨a,vs,fr,rfl,rfl,_,_,_,ol⟩:=h.dK_inv;have e0:=ol.nil0;subst e0;exact⟨_,rfl,rfl⟩
 |dT ks ds=>obtain⟨a,vs,fr,rfl,rfl,_,_,_,ol⟩:=h.dT_inv;have e0:=ol.nil0;subst e0;exact⟨_,rfl,rfl⟩
 |_=>cases hc
section
variable {K:aa}{ct:Nat->af}{F F' H H' B F0:Hp}
theorem SL.putS {x:af}{d:D}{ms:List Mo}{ρ:Env}{σ:St}{fp:List af}{i:Nat}(h0:SL K ct F B H ms ρ σ fp):fp.Nodup->ms[i]?=some (.so x)->ρ[i]?=some (some d) ->
  σ[i]?=some (some (.ref x))/\Ow K ct F H 1 d (.ref x) [x]/\x∈fp/\∀(F' H':Hp) (d':D),bE F F'->(∀a∈fp,a≠x->H' a=H a/\F' a=none)->Ow K ct F' H' 1 d' (.ref x) [x]->SL K ct F' B H' ms (ρ.set i (some d')) σ fp:=by
 induction h0 generalizing i with
 |nil=>
  intro _ e _
  simp at e
 |@no m0 o0 ms ρ σ fp t ih=>
  intro nd e e'
  cases i with
  |zero=>
   have e:=e'
   simp at e
  |succ i=>
   obtain⟨h1,h2,h3,h4⟩:=ih (i:=i) nd (by simpa using e) (by simpa using e')
   exact⟨by simpa using h1,h2,h3,λF' H' d' s k o=>.no (h4 F' H' d' s k o)⟩
 |@al n0 d0 v0 ms ρ σ fp h t ih=>
  intro nd e e'
  cases i with
  |zero=>
   simp at e
  |succ i=>
   obtain⟨h1,h2,h3,h4⟩:=ih (i:=i) nd (by simpa using e) (by simpa using e')
   exact⟨by simpa using h1,h2,h3,λF' H' d' s k o=>.al (h.mono s (.refl _)) (h4 F' H' d' s k o)⟩
 |@px d0 v0 ms ρ σ fp h t ih=>
  intro nd e e'
  cases i with
  |zero=>
   simp at e
  |succ i=>
   obtain⟨h1,h2,h3,h4⟩:=ih (i:=i) nd (by simpa using e) (by simpa using e')
   exact⟨by simpa using h1,h2,h3,λF' H' d' s k o=>.px (h.mono s (.refl _)) (h4 F' H' d' s k o)⟩
 |@so d0 y ms ρ σ Bq h t ih=>
  intro nd e e'
  cases i with
  |zero=>
   simp at e e'
   subst e
   subst e'
   obtain⟨n1,n2⟩:=aY.mp nd
   exact⟨rfl,h,ah,λF' H' d' s k o=>.so o (t.frame s λa z=>k a (ai _ z) λe=>n1 (e▸z))⟩
  |succ i=>
   obtain⟨n1,n2⟩:=aY.mp nd
   obtain⟨h1,h2,h3,h4⟩:=ih (i:=i) n2 (by simpa using e) (by simpa using e')
   refine⟨by simpa using h1,h2,ai _ h3,λF' H' d' s k o=>.so (h.frame s λa z=>?_) (h4 F' H' d' s (λa z=>k a (ai _ z)) o)⟩
   rw[aO]at z
   subst z
   exact k a ah λe=>n1 (e▸h3)
 |@ow n0 d0 v0 ms ρ σ f Bq h t ih=>
  intro nd e e'
  cases i with
  |zero=>
   simp at e
  |succ i=>
   obtain⟨n1,n2,n3⟩:=aW.mp nd
   obtain⟨h1,h2,h3,h4⟩:=ih (i:=i) n2 (by simpa using e) (by simpa using e')
   refine⟨by simpa using h1,h2,aw _ h3,λF' H' d' s k o=>.ow (h.frame s λa z=>?_) (h4 F' H' d' s (λa z=>k a (aw _ z)) o)⟩
   exact k a (bp _ z) λe=>n3 a z x h3 e
theorem RS.changeS {ms:List Mo}{ρ:Env}{σ:St}{i:Nat}{d d':D}{ad:af}{o:HO}(rs:RS K ct F0 B ms F H ρ σ)(hm:ms[i]?=some (.so ad))(hρ:ρ[i]?=some (some d))(x:eY F H F' H')(GH:F' ad=none)(o':Ow K ct F' (upd H' ad o) 1 d' (.ref ad) [ad]) :
  RS K ct F0 B ms F' (upd H' ad o) (ρ.set i (some d')) σ:=by
 have r:=rs.ext x
 obtain⟨fp,sl,nd,hb⟩:=rs.sl
 obtain⟨h1,h2,h3,h4⟩:=sl.putS nd hm hρ
 have hB:B ad=none:=hb ad h3
 refine⟨r.f0,λz u h=>?_,λz u h=>?_,r.nf,fp,h4 F' _ d' x.ff (λa z ne=>?_) o',nd,hb⟩
 ·rw[zn (λe=>by rw[e,hB]at h;cases h)];exact r.bh _ _ h
 ·rw[zn (λe=>by rw[e,GH]at h;cases h)];exact x.fh _ _ h
 ·obtain⟨hn,o,ho,nt⟩:=sl.cells a z
  rw[zn ne]
  exact⟨(x.hh _ _ ho).trans ho.symm,x.nf a o ho nt hn⟩
theorem RS.so_at {ms:List Mo}{ρ:Env}{σ:St}{i:Nat}{d:D}{ad:af}(rs:RS K ct F0 B ms F H ρ σ)(hm:ms[i]?=some (.so ad))(hρ:ρ[i]?=some (some d)):σ[i]?=some (some (.ref ad))/\Ow K ct F H 1 d (.ref ad) [ad]/\B ad=none:=by
 obtain⟨fp,sl,nd,hb⟩:=rs.sl
 obtain⟨h1,h2,h3,h4⟩:=sl.putS nd hm hρ
 exact⟨h1,h2,hb _ h3⟩
end
section
variable {X:Cx}{ct:Nat->af}{ms:List Mo}{rk n m k:Nat}{st:bI}{rest:List bI}{a b c e tg:Expr}{f g h:EF}{p q:BF}{u w:SF}{pos:cA}
theorem Ms (i:Nat){xa:af}{x:aI}{j:Expr}{p1 ez:cA}{fj:EF}(hm:ms[i]?=some (.so xa))(hj:XE X ct ms n j fj)(he:XE X ct ms 0 e f)(hN:X.N[i]?=some x:=by rfl)(hv:mW X.env.scope x:=by first|exact Or.inl rfl|exact Or.inr (Or.inl rfl)|exact Or.inr (Or.inr rfl))(hd:(x==("__debug__":aI))=false:=by decide)
  (gG:(x==("__classdict__":aI))=false:=by decide)
  (ha:∀v,eW (.Subscript (.Name x p1) j ez) X.env v=(do
   let ov ← dg [v] (bN (.Name x p1) X.env)
   let iv ← dg [v,ov] (bN j X.env)
   eT ez
   dg [v,ov,iv] (kc ov iv v)
   ng [v,ov,iv] []):=by intro _;rfl)
  (hs:iz [.Subscript (.Name x p1) j ez] e pos.line X.env=pure false:=by rfl) (hw:iy [.Subscript (.Name x p1) j ez] e X.env=pure none:=by rfl)
  (h1:(cF [.Subscript (.Name x p1) j ez] X.env).map (·.2)=[eW (.Subscript (.Name x p1) j ez) X.env]:=by rfl) :
  XS X ct ms rk (.Assign [.Subscript (.Name x p1) j ez] e pos) (gB i fj f):=by
 obtain⟨t,pt,qt⟩:=he
 obtain⟨tj,sE,sI⟩:=hj
 refine⟨_,Ft pt (Jk (vk hN hv hd gG) sE E5 ha) hs hw h1,λF0 B F H ρ σ o E rs e z=>?_⟩
 obtain⟨d,g1,g2⟩:=aM e
 obtain⟨d1,oR,g3,g4,g5⟩:=dz g2
 refine qt F0 B F H ρ σ d _ rs g1 λv0 F1 H1 x1 l0=>?_
 have iV:=rs.ext x1
 obtain⟨hσ,ow,hB⟩:=iV.so_at hm (yf g3)
 refine⟨_,hσ,sI F0 B F1 H1 ρ σ oR _ iV g4 λvj F2 H2 x2 lj=>?_⟩
 cases d1 with
 |lst ds=>
  cases oR with
  |int zi=>
   obtain⟨lT,g6,g7⟩:=aM g5
   cases g7
   obtain⟨jn,g8,g9⟩:=aM g6
   cases g9
   obtain⟨ad,vs,oT,ea,ef,hF,hH,ol⟩:=ow.lst_inv
   cases ea
   cases ef
   have hA:H2 xa=some (.lst vs):=x2.hh _ _ hH
   have fA:F2 xa=none:=x2.nf xa _ hH nofun hF
   refine⟨xa,vs,zi,jn,rfl,lj.int,hA,by rw[←ol.length];exact g8,?_⟩
   exact z σ F2 _ (iV.changeS hm (yf g3) x2 fA (.inr (.lst fA ym (dU.set0 ⟨Dt.mono x2.ff l0,rfl⟩ (λ_ _ _ q=>q.2) jn (ol.mono λ_ _ _ _ q=>⟨q.1.mono x2.ff,q.2⟩)))))
  |_=>cases g5
 |_=>cases g5
abbrev EM:=Env->Option (D×Env)
def rW (X:Cx)(ct:Nat->af)(ms:List Mo)(st:List bI)(f:EM):Prop:=∃t,oh X st t/\∀(F0 B F H:Hp) (ρ ρ':Env) (σ:St) (d:D) (E:kd),RS X.K ct F0 B ms F H ρ σ->f ρ=some (d,ρ')->(∀v σ' F' H',RS X.K ct F0 B ms F' H' ρ' σ'->Dt X.K ct F' d v->E.rt v H')->t E σ H
def ou (f:SF)(g:EM):EM:=λρ=>(f ρ).bind λo=>match o with
 |.nx ρ'=>g ρ'
 |_=>none
def wV (f:EF):EM:=λρ=>(f ρ).bind λd=>some (d,ρ)
theorem X6 (he:XE X ct ms 0 e f):rW X ct ms [.Return (some e) pos] (wV f):=by
 obtain⟨t,pt,qt⟩:=he
 refine⟨_,Fd (DI pt),λF0 B F H ρ ρ' σ d E rs e z=>?_⟩
 obtain⟨d',h1,h2⟩:=aM e
 cases h2
 exact qt F0 B F H ρ σ _ _ rs h1 λv F' H' x l=>z v σ F' H' (rs.ext x) l
theorem DF {gm:EM}(h1:XS X ct ms 0 st u)(h2:rW X ct ms rest gm):rW X ct ms (st::rest) (ou u gm):=by
 obtain⟨t,pt,qt⟩:=h1
 obtain⟨t2,mN,mQ⟩:=h2
 refine⟨_,L5 pt mN,λF0 B F H ρ ρ' σ d E rs e z=>?_⟩
 obtain⟨o1,e1,e2⟩:=aM e
 refine qt F0 B F H ρ σ o1 _ rs e1 ?_
 cases o1 with
 |nx ρ1=>exactλσ' F' H' HU=>mQ F0 B F' H' ρ1 ρ' σ' d E HU e2 z
 |rt d=>cases e2
 |bk ρ'=>cases e2
 |ct ρ'=>cases e2
end
theorem SL.app {K:aa}{ct:Nat->af}{F B H:Hp}{KJ:List Mo}{ρ2:Env}{σ2:St}{Ka:List af}(h2:SL K ct F B H KJ ρ2 σ2 Ka){ms:List Mo}{ρ:Env}{σ:St}{fp:List af}(h0:SL K ct F B H ms ρ σ fp):SL K ct F B H (ms++KJ) (ρ ++ ρ2) (σ ++ σ2) (fp++Ka):=by
 induction h0 with
 |nil=>
  exact h2
 |@no m0 o0 ms ρ σ fp t ih=>
  exact .no ih
 |@al n0 d0 v0 ms ρ σ fp h t ih=>
  exact .al h ih
 |@px d0 v0 ms ρ σ fp h t ih=>
  exact .px h ih
 |@so d0 x0 ms ρ σ Bq h t ih=>
  exact .so h ih
 |@ow n0 d0 v0 ms ρ σ f0 Bq h t ih=>
  rw[ee]
  exact .ow h ih
theorem SL.none {K:aa}{ct:Nat->af}{F B H:Hp}:∀(ms:List Mo),SL K ct F B H ms (av ms.length none) (av ms.length none) []
 |[]=>.nil
 |m::ms=>.no (SL.none ms)
theorem SL.start0 {K:aa}{ct:Nat->af}{F B H:Hp}:∀{ds:List D} {us:List V},Pr (Dt K ct F) ds us->SL K ct F B H (av ds.length (Mo.ow 0)) (ds.map some) (us.map some) []
 |_,_,.nil=>.nil
 |_,_,.cons h t=>SL.ow (f:=[]) (Ow.zero h) (SL.start0 t)
section
variable {X:Cx}{ct:Nat->af}{ms:List Mo}{rk n m k:Nat}{st:bI}{rest:List bI}{a b c e tg:Expr}{f g h:EF}{p q:BF}{u w:SF}{pos:cA}{i j:Nat}
def XM (X:Cx)(ct:Nat->af)(ms:List Mo)(e:Expr)(g:EM):Prop:=∃t,PE X e t/\∀(F0 B F H:Hp) (ρ ρ':Env) (σ:St) (d:D) (Q:VK),RS X.K ct F0 B ms F H ρ σ->g ρ=some (d,ρ')->(∀v F' H',RS X.K ct F0 B ms F' H' ρ' σ->Dt X.K ct F' d v->Q v H')->t σ H Q
theorem UJ {σ:St}{i:Nat}{v:V}(h:σ[i]?=some (some v)):σ.set i (some v) = σ:=by
 apply eh
 intro k
 rw[pR]
 by_cases e:i=k
 ·subst e
  rw[if_pos rfl]
  by_cases hl:i < σ.length
  ·rw[if_pos hl,h]
  ·rw[if_neg hl,bS (by omega)]
 ·rw[if_neg e]
variable {kk:Nat}{fa:af}{fd:aF}{ps:List aI}{mf:List D->Option D}{x:aI}{pp:cA}
theorem Nz:∀(ρ:Env) (ds:List D),aNil ρ=some ds->ds.length=0:=λρ ds e=>by cases e;rfl
theorem DG {fs:Env->Option (List D)}(h:∀(ρ:Env) (ds:List D),fs ρ=some ds->ds.length=n):∀(ρ:Env) (ds:List D),aCons f fs ρ=some ds->ds.length=n+1:=λρ ds e=>by
 obtain⟨x,xs,h1,h2,h3⟩:=dz e
 cases h3
 rw[az,h ρ xs h2]
end
end L3
namespace L2
open PySem PySem.Spec
open PyProof.Rows hiding St
section
variable {X:Cx}{pos:cA}
end
end L2
namespace L3
open PySem PySem.Spec L2
open PyProof.Rows hiding St
section
variable {X:Cx}{ct:Nat->af}{ms:List Mo}{n:Nat}{pos:cA}
end
end L3
namespace L3
open PySem PySem.Spec L2
open PyProof.Rows hiding St
section
variable {X:Cx}{ct:Nat->af}{ms:List Mo}{rk n m k i:Nat}{a b c e:Expr}{f g h:EF}{pos:cA}
end
end L3
namespace L3
open PySem PySem.Spec L2
open PyProof.Rows hiding St
section
variable {X:Cx}{ct:Nat->af}{ms:List Mo}{rk n m k:Nat}{a b c e o:Expr}{f g h:EF}{pos:cA}
end
end L3
namespace L2
open PySem PySem.Spec
open PyProof.Rows hiding St
section
variable {X:Cx}{CX:pY}{k:Nat}{f C:af}{fd:aF}{ps ks:List aI}{sp:Sp}{E:XK}{x m:aI}{p pos cY wO:cA}{e o:Expr}{es:List Expr}{kws:List iq}{te ta:TE}{t tk:TA}{nm:Option aI}
variable {g:List ae->List ae->List ae}{gV:List V->List V->List V}
end
end L2
namespace L3
open PySem PySem.Spec L2
open PyProof.Rows hiding St
section
variable {X:Cx}{ct:Nat->af}{ms:List Mo}{rk n m k kk:Nat}{e a:Expr}{f:EF}{x:aI}{pp pos wO:cA}{fa:af}{fd:aF}{ps ks:List aI}{pm cs:List Nat}{mi:Nat->List D->Option D}
end
end L3
namespace L3
open PySem PySem.Spec L2
open PyProof.Rows hiding St
section
variable {X:Cx}{ct:Nat->af}{ms:List Mo}{rk n m k i j:Nat}{a b c e:Expr}{f g h:EF}{pos:cA}
variable {kk:Nat}{fa:af}{fd:aF}{ps:List aI}{mf:List D->Option D}{x y:aI}{pp:cA}
end
end L3
namespace L3
open PySem PySem.Spec L2
open PyProof.Rows hiding St
open Classical in
open Classical in
section
variable {X:Cx}
end
section
variable {K:aa}{ct:Nat->af}{n m k:Nat}
end
section
variable {α:Type}[DecidableEq α]
end
end L3
namespace L3
open PySem PySem.Spec L2
open PyProof.Rows hiding St
section
variable {X:Cx}{ct:Nat->af}{ms:List Mo}{rk n m k:Nat}{st:bI}{rest:List bI}{a b c e tg:Expr}{f g h:EF}{p q:BF}{u w:SF}{pos:cA}{K:aa}
end
end L3
namespace L3
open PySem PySem.Spec L2
open PyProof.Rows hiding St
section
variable {X:Cx}{ct:Nat->af}{ms:List Mo}{rk n m k kk kq:Nat}{st:bI}{rest:List bI}{a b c e tg:Expr}{f g h:EF}{p q:BF}{u w:SF}{pos pp:cA}{K:aa}{x:aI}{fa:af}{fd:aF}{ps:List aI}{mf:List D->Option D}
theorem nw (h:XO X ct ms k e f):XO X ct ms 0 e f:=XE.ow (XO.sh (n:=0) h)
theorem o7 {own i:Nat}(hN:X.N.Nodup)(ho:i<own:=by decide)(hm:ms[i]?=some (.ow 0):=by rfl)(hi:X.N[i]?=some x:=by rfl)(hx:Loc X.env.scope x:=by first|exact Or.inl rfl|exact Or.inr rfl)
  (hf:X.fn x=true\/X.env.scope.names.lookup x=some .local:=by first|exact .inl rfl|exact .inr rfl|assumption):rL X ct ms own 0 (.Name x pos) (gV i):=U1 ho hm hN hi hx hf
theorem gI {i:Nat}{pos':cA}(hN:X.N.Nodup)(he:XO X ct ms k e f)(hm:ms[i]?=some (.ow k):=by rfl)(hi:X.N[i]?=some x:=by rfl)(hx:Loc X.env.scope x:=by first|exact Or.inl rfl|exact Or.inr rfl)
  (hs:dO e (some (.Name x pos')) pos.line X.env=pure false:=by rfl)
  (hf:X.fn x=true\/X.env.scope.names.lookup x=some .local:=by first|exact .inl rfl|exact .inr rfl|assumption):XS X ct ms rk (.Assign [.Name x pos'] e pos) (sSet i f):=XQ hm hN hi hx he hs hf
theorem mS {i:Nat}(hN:X.N.Nodup)(hm:ms[i]?=some (.ow 0):=by rfl)(hi:X.N[i]?=some x:=by rfl)(hx:Loc X.env.scope x:=by first|exact Or.inl rfl|exact Or.inr rfl)
  (hf:X.fn x=true\/X.env.scope.names.lookup x=some .local:=by first|exact .inl rfl|exact .inr rfl|assumption):XG X ct ms 0 (.Name x pos) (gV i):=Wi hm hN hi hx hf
theorem eo {es:List Expr}{ns:List Nat}{fs:Env->Option (List D)}(d:kR X.K X.mg x st ps fa fd)(Fn:cH X.prog X.w X.K X.mg X.base eF kk fa fd ps (gL X.K ct ns rk mf))(hr:dY kq X.A)(ha:XA X ct ms (e::es) ns fs)(pJ:kk<=kq:=by decide)(hg:Gl X x:=by rfl)
  (lx:(x==("__debug__":aI))=false:=by decide) (he:aq (e::es) X.env=(false,bN e X.env)::aq es X.env:=by rfl) (gb:(cC pos (aq es X.env)).any (·.1)=false:=by rfl) :
  XO X ct ms rk (.Call (.Name x pp) (e::es) [] pos) (λρ=>(fs ρ).bind λds=>mf (ds++[])) :=
 Wg (ns:=ns) (nd:=[]) (kF:=[]) (by rw[bY];exact Fn) (hr.mono pJ) hg d.mgx d.fn.kp d.bd .nil (λ_ _=>.nil) ha lx he gb
theorem zB {om:List Mo}{iT iter:Expr}{ifs:List Expr}{scope:fm}{N:List aI}{own:Nat}{cap:List Nat}{fi:Env->Option (List D)}{gg:D->Env->Option Env}(hi:tw X ct ms n tg iter fi)
  (hg:∀cl C fp s₀ H₀,rL (gR X scope cl N C fp s₀ H₀) ct (om++fZ ms cap) own n tg gg) (ht:∀cl C fp s₀ H₀,uK (gR X scope cl N C fp s₀ H₀) ct (om++fZ ms cap) ifs p) (he:∀cl C fp s₀ H₀,XO (gR X scope cl N C fp s₀ H₀) ct (om++fZ ms cap) k iT f)
  (B:jR X scope N own cap:=by exact uC (by rfl)) (hc:X.calm=true:=by rfl) (ho:om.length=own:=by rfl) (iZ:∀i∈cap,i<ms.length:=by decide)
  (hs:∀x,cQ iter X.env x=pure x:=by intro _;rfl):XO X ct ms (k+1) (.ListComp iT [⟨tg,iter,ifs,0⟩] scope pos) (eG fi own cap gg p f):=Wo B hc ho iZ hi hg ht he hs
theorem jN {P:aX}{w:bz}{mg:aI->Option ae}{base:aS}{qual:aI}{N:List aI}{pm:List Nat}{bf:SF}(Fn:Fun2 K x qual st fa fd)(S:bA N ps (aV st))
  (body:∀(gz:ae) (A:bq) (outer:List PySem.Env) (s:ak) (H:Hp) (E:XK),dY kk (A.deeper (envOfC qual (aV st) s.heap.objs.size fa gz))->pG (lS eF P w K mg base N qual (aV st) fa gz A outer s H E).nox ct ms rk (fT st) bf)
  (wF:pm.length=ps.length:=by rfl) (yL:ms.length=N.length:=by rfl) (pJ:ps.length<=N.length:=by decide) (BE:∀(i n:Nat),pm[i]?=some n->ms[i]?=some (Mo.al n)\/(n=0/\ms[i]?=some (Mo.ow 0)):=by exact v4 (by decide)) :
  cH P w K mg base eF (kk+1) fa fd ps (gL K ct pm rk (mOf N bf)):=lift Fn S wF yL pJ BE body
theorem cK {i:Int}{j}:XE X ct ms 0 (.Constant (.int i) j pos) (eC (.int i)):=XH
theorem rE {j}:XE X ct ms 0 (.Constant .none j pos) (eC .non):=XJ
theorem lH (ha:XE X ct ms 0 a f)(hb:XE X ct ms 0 b g):XO X ct ms 1 (.BinOp a .Add b pos) (e2 dZ f g):=NI Fb (MX (by decide) (by decide)) ha hb
theorem oH (ha:XE X ct ms 0 a f)(hb:XE X ct ms 0 b g)(hp:la b:=by exactλ_ _=>rfl):XE X ct ms 0 (.Subscript a b pos) (e2 eZ f g):=sT (n:=0) j0 j7 ha hb hp
theorem oI {fs:Env->Option (List D)}(hm:X.mg "len"=none)(ha:XA X ct ms [e] [n] fs)(hg:Gl X "len":=by rfl)(he:aq [e] X.env=(false,bN e X.env)::aq [] X.env:=by rfl)(gb:(cC pos (aq [] X.env)).any (·.1)=false:=by rfl):XE X ct ms 0 (.Call (.Name "len" pp) [e] [] pos) (eN fV fs):=v3 (k:=0) Ud Wn hg hm Nw ha (by decide) (by decide) he gb
theorem PY {P:List ae->Prop}(h:P [])(us:List ae)(e:us.length=0):P us:=by
 cases us with
 |nil=>exact h
 |cons a t=>cases e
theorem oq {P:List ae->Prop}(h:∀a1,P [a1])(us:List ae)(e:us.length=1):P us:=by
 cases us with
 |nil=>cases e
 |cons a t=>exact PY (P:=λt=>P (a::t)) (h a) t (Nat.succ.inj e)
theorem rO {P:List ae->Prop}(h:∀a1 a2,P [a1,a2])(us:List ae)(e:us.length=2):P us:=by
 cases us with
 |nil=>cases e
 |cons a t=>exact oq (P:=λt=>P (a::t)) (h a) t (Nat.succ.inj e)
theorem yN {P:List ae->Prop}(h:∀a1 a2 a3,P [a1,a2,a3])(us:List ae)(e:us.length=3):P us:=by
 cases us with
 |nil=>cases e
 |cons a t=>exact rO (P:=λt=>P (a::t)) (h a) t (Nat.succ.inj e)
theorem tS {P:List ae->Prop}(h:∀a1 a2 a3 a4,P [a1,a2,a3,a4])(us:List ae)(e:us.length=4):P us:=by
 cases us with
 |nil=>cases e
 |cons a t=>exact yN (P:=λt=>P (a::t)) (h a) t (Nat.succ.inj e)
theorem Ck {P:List ae->Prop}(h:∀a1 a2 a3 a4 a5,P [a1,a2,a3,a4,a5])(us:List ae)(e:us.length=5):P us:=by
 cases us with
 |nil=>cases e
 |cons a t=>exact tS (P:=λt=>P (a::t)) (h a) t (Nat.succ.inj e)
theorem PZ {P:List ae->Prop}(h:∀a1 a2 a3 a4 a5 a6,P [a1,a2,a3,a4,a5,a6])(us:List ae)(e:us.length=6):P us:=by
 cases us with
 |nil=>cases e
 |cons a t=>exact Ck (P:=λt=>P (a::t)) (h a) t (Nat.succ.inj e)
end
end L3
namespace L3
open PySem PySem.Spec L2
open PyProof.Rows hiding St
section
variable {K:aa}{ct:Nat->af}{F B H:Hp}
end
section
variable {X:Cx}{ct:Nat->af}{ms:List Mo}{rk n m k i j:Nat}{a b c e:Expr}{f g h:EF}{p q:BF}{pos:cA}{K:aa}
end
end L3
set_option maxHeartbeats 1000000
namespace L3
open PySem PySem.Spec L2
open PyProof.Rows hiding St
inductive FI where
 |ok (d:D)|xc (d:D)
inductive FH where
 |ok (o:Out)|xc (ρ:Env) (d:D)
abbrev JE:=Env->Option FH
section
variable (X:Cx)(G:GK)(ct:Nat->af)(ms:List Mo)(rk:Nat)
end
section
variable {X:Cx}{G:GK}{ct:Nat->af}{ms:List Mo}{rk n m k:Nat}{st:bI}{rest:List bI}{a b c e:Expr}{f g h:EF}{p q:BF}{u w:JE}{pos:cA}
end
end L3
set_option maxHeartbeats 1000000
namespace L3
open PySem PySem.Spec L2
open PyProof.Rows hiding St
section
variable {X:Cx}{G:GK}{ct:Nat->af}{ms:List Mo}{rk n m k kk:Nat}{st:bI}{rest:List bI}{a b c e:Expr}{f g h:EF}{p q:BF}{u w:JE}{pos pp:cA}{fa:af}{fd:aF}{ps:List aI}{mf:List D->Option FI}{x:aI}
end
end L3
set_option maxHeartbeats 1000000
namespace L3
open PySem PySem.Spec L2
open PyProof.Rows hiding St
section
variable {X:Cx}{G:GK}{ct:Nat->af}{ms:List Mo}{rk n m k kk:Nat}{a b c e tg:Expr}{f g h:EF}{u w:SF}{pos pp:cA}{fa:af}{fd:aF}{ps:List aI}{x:aI}
end
end L3
set_option maxHeartbeats 1000000
namespace L2
open PySem PySem.Spec PyProof.Rows
section
variable {X:Cx}
end
end L2
namespace L3
open PySem PySem.Spec L2
open PyProof.Rows hiding St
section
variable {X:Cx}{ct:Nat->af}{ms:List Mo}{n m k:Nat}{e:Expr}{f:EF}{pos:cA}
end
end L3
set_option maxHeartbeats 1000000
namespace L3
open PySem PySem.Spec L2
open PyProof.Rows hiding St
end L3
set_option maxHeartbeats 1000000
namespace L3
open PySem PySem.Spec L2
open PyProof.Rows hiding St
end L3
set_option maxHeartbeats 1000000
namespace L2
open PySem PySem.Spec PyProof.Rows
section
variable {prog:aX}{w:bz}{A:bq}{E:ae->ak->Prop}{s:ak}{z TI TO i1 i2 i3 l1 l2 l3:af}{xs ys zs:Array ae}{k1 k2 k3:Nat}
end
end L2
set_option maxHeartbeats 1000000
namespace L2
open PySem PySem.Spec PyProof.Rows
section
variable {X:Cx}{mH:List Expr}{kt:Nat}{pt:cA}
end
end L2
namespace L3
open PySem PySem.Spec L2
open PyProof.Rows hiding St
section
variable {X:Cx}{ct:Nat->af}{ms:List Mo}{n:Nat}{a b c:Expr}{pos:cA}
end
end L3
set_option maxHeartbeats 1000000
namespace L2
open PySem PySem.Spec PyProof.Rows
section
variable {X:Cx}{k:Nat}{f:af}{fd:aF}{ps:List aI}{sp:Sp}{ds:List ae}{hV:List V}{E:XK}{x:aI}{p pos:cA}{e:Expr}{es:List Expr}{t:TA}
end
end L2
namespace L3
open PySem PySem.Spec L2
open PyProof.Rows hiding St
section
variable {X:Cx}{ct:Nat->af}{ms:List Mo}{rk kk:Nat}{fa:af}{fd:aF}{ps:List aI}{mf:List D->Option D}{x:aI}{pp pos:cA}{e:Expr}
end
end L3
namespace PySem
section
variable {prog:aX}{w:bz}{A:bq}{R:Result->ak->Prop}{I:af}{fp wr:List af}{n:Nat}{P:Nat->ae->Prop}{St:Nat->aS->Prop}{kw:List (aI×ae)}
end
section
variable {prog:aX}{w:bz}{A:bq}{E:ae->ak->Prop}{s:ak}
end
end PySem
namespace L3
open PySem PySem.Spec L2
section
variable {X:Cx}{ct:Nat->af}{ms:List Mo}{e b:Expr}{f g:EF}{n m k:Nat}
end
end L3
set_option maxHeartbeats 1000000
namespace L3
open PySem PySem.Spec L2
open PyProof.Rows hiding St
section
variable {X:Cx}{ct:Nat->af}{ms:List Mo}{n:Nat}{a b c:Expr}{pos:cA}
end
end L3
set_option maxHeartbeats 1000000
namespace L3
open PySem PySem.Spec L2
open PyProof.Rows hiding St
section
variable {X:Cx}{ct:Nat->af}{ms:List Mo}{n m k:Nat}{e o:Expr}{f g:EF}{pos:cA}
end
end L3
set_option maxHeartbeats 1000000
namespace L3
open PySem PySem.Spec L2
open PyProof.Rows hiding St
theorem foldl_rep (c:Nat):∀(n:Nat) (fP:Array Nat),(av n #[c]).foldl (· ++ ·) fP=fP++Array.replicate n c
 |0,fP=>by simp
 |n+1,fP=>by
  rw[cz,bD,foldl_rep c n,oK]
  congr 1
  apply Array.toList_inj.mp
  simp[cz]
section
variable {X:Cx}{ct:Nat->af}{K:aa}{ms:List Mo}{n m k:Nat}{e o:Expr}{f g:EF}{pos:cA}
end
end L3
set_option maxHeartbeats 1000000
namespace L3
open PySem PySem.Spec L2
open PyProof.Rows hiding St
section
variable {X:Cx}{ct:Nat->af}{ms:List Mo}{rk n m k i j:Nat}{e o:Expr}{f g:EF}{pos:cA}
end
end L3
set_option maxHeartbeats 1000000
namespace L3
open PySem PySem.Spec L2
open PyProof.Rows hiding St
section
variable {X:Cx}{ct:Nat->af}{ms:List Mo}{n m k rk:Nat}{a b e o:Expr}{f g:EF}{pos:cA}
end
end L3
set_option maxHeartbeats 1000000
namespace L2
open PySem PySem.Spec PyProof.Rows
section
variable {X:Cx}{e sl sp:Expr}{te:TE}{tl tp:TO}{pos p2:cA}
end
end L2
namespace L3
open PySem PySem.Spec L2
open PyProof.Rows hiding St
section
variable {X:Cx}{ct:Nat->af}{ms:List Mo}{n m k rk:Nat}{e o:Expr}{f g:EF}{pos:cA}
end
end L3
set_option maxHeartbeats 1000000
namespace L3
open PySem PySem.Spec L2
open PyProof.Rows hiding St
section
variable {K:aa}{ct:Nat->af}{a:af}{cq:List (List et×V)}{u:HO}{F F' G H B F0:Hp}{ms:List Mo}{n rk:Nat}
end
section
variable {X:Cx}{ct:Nat->af}{ms:List Mo}{rk n:Nat}{rest:List bI}{e ty:Expr}{jO:List Expr}{j jj:Nat}{pt p1 pos:cA}{f:EF}{u:SF}{gs:List D->Env->Option Env}{gy:D->Env->Option Env}
end
end L3
set_option maxHeartbeats 1000000
namespace L3
open PySem PySem.Spec L2
open PyProof.Rows hiding St
section
variable {K:aa}{ct:Nat->af}{F H:Hp}{n:Nat}
end
end L3
set_option maxHeartbeats 1000000
namespace L3
open PySem PySem.Spec L2
open PyProof.Rows hiding St
section
variable {K:aa}{ct:Nat->af}{n:Nat}
end
end L3
set_option maxHeartbeats 4000000
namespace L3
open PySem L2
end L3
set_option maxHeartbeats 1000000
namespace L2
open PySem PySem.Spec PyProof.Rows
def rB (K:aa)(x:V)(H:Hp)(Q:VK):Prop:=∃(a:af) (qs:List (af×List V)) (π:List Nat),x=.ref a/\eJ K H a (qs.map λq=>V.ref q.1)/\(∀q∈qs,eJ K H q.1 q.2)/\qs.length<=1000/\π.length<=1000/\(∀i∈π,i<qs.length)/\TS.tsrt (qs.map λq=>(q.2.length:Int))=some π /\
 ∀p,H p=none->Q (.ref p) (upd H p (.lst (π.map λi=>V.ref (qs.getD i (0,[])).1)))
theorem LD:∀{qs:List (af×List V)} {bV:List ae},bQ (qs.map λq=>V.ref q.1) bV->bV=qs.map λq=>ae.ref q.1
 |[],_,.nil=>rfl
 |q::qs,_,.cons r t=>by cases r;rw[LD t];rfl
theorem MM (qs:List (af×List V)):∀π:List Nat,(∀i∈π,i<qs.length)->bQ (π.map λi=>V.ref (qs.getD i (0,[])).1) (π.map λi=>(qs.map λq=>ae.ref q.1).getD i ae.none)
 |[],_=>.nil
 |i::π,h=>.cons (by
   have hi:=h i ah
   show(qs.map λq=>ae.ref q.1).getD i ae.none=.ref _
   rw[aN,aN,bj,bC hi];rfl) (MM qs π λj hj=>h j (ai _ hj))
theorem UK {X:Cx}{e:Expr}{ta:TE}{p p2 pos kp:cA}(hg:Gl X "sorted")(hm:X.mg "sorted"=none)(oV:Gl X "len")(rM:X.mg "len"=none)(ha:PE X e ta)(he:aq [e] X.env=(false,bN e X.env)::aq [] X.env:=by rfl) :
  PE X (.Call (.Name "sorted" p) [e] [⟨some "key",.Name "len" p2,kp⟩] pos) (λσ H Q=>ta σ H λx H1=>rB X.K x H1 Q):=by
 intro aj s σ H Q I h
 refine eX (xS (u:=.builtin "sorted") I hg hm T8 ?_ (by decide) (by decide))
 refine PyProof.Rows.callWith_kw (de ((vc ha xT he) pos aj s σ H (λvs H1=>match vs with|[x]=>rB X.K x H1 Q|_=>False) I ?_) λus s1 ⟨vs,H1,I1,r,q⟩=>?_) (by rw[he];rfl) (by rw[he];rfl)
 ·exact h
 ·match vs,q with
  |[x],q=>
   obtain⟨u,rfl,ru⟩:=r.one
   show bg _ _ (evalAll ((do let v ← bN (.Name "len" p2) X.env;eT pos;pure v)::[])) _ _ s1
   refine wpAny_evalAll_cons (aL (xS (u:=.builtin "len") I1 oV rM Nw ?_ (by decide) (by decide)))
   refine aL (kQ (bF (wpAny_evalAll_nil ?_)))
   obtain⟨a,qs,π,rfl,hq,hl,hn,hπ,hb,ht,q⟩:=q
   cases(show u=ae.ref a from ru)
   obtain⟨bV,rv,pl,hz⟩:=I1.list hq
   have hits:=LD rv
   subst hits
   refine Tt (vs:=qs.map λq=>ae.ref q.1) pl.isList (by rw[aE];exact hn) (by rw[aE,aE]) hπ (λi v hv=>?_) ht λh' tk c keep wD=>?_
   ·rw[bj]at hv
    obtain⟨qi,h1,h2⟩:=dq.mp hv
    subst h2
    obtain⟨ts,rt,pt,tz⟩:=I1.list (hl qi (nY h1))
    refine⟨qi.1,ts.toArray,rfl,pt.isList,?_,?_⟩
    ·have:=rt.length;simp only[aD];omega
    ·rw[aN,bj,h1]
     have:=rt.length
     simp only[aD,ij,pz]
     omega
   ·refine⟨.ref _,_,I1.laid (a:=s1.heap.objs.size+1) (o:=.lst (π.map λi=>V.ref (qs.getD i (0,[])).1)) (t':=tk) (λb u hb=>keep b u hb) (fN _) ?_,rfl,q _ (I1.hok.fresh (fN _))⟩
    exact⟨by rw[aE,bG];omega,_,c,MM qs π hb,by simpa[seqObj]using wD⟩
end L2
namespace L3
open PySem PySem.Spec L2
def lB:List D->Option (List Int)
 |[]=>some []
 |.lst xs::ds=>(lB ds).bind λns=>some ((xs.length:Int)::ns)
 |_=>none
section
variable {X:Cx}{ct:Nat->af}{ms:List Mo}{e:Expr}{f:EF}
end
end L3
set_option maxHeartbeats 1000000
namespace L3
open PySem PySem.Spec L2
open PyProof.Rows hiding St
def qJ:D->D->Option D
 |.lst xs,.lst ys=>if xs.length+ys.length<=16777216 then some (.lst (xs++ys))else none
 |_,_=>none
section
variable {X:Cx}{ct:Nat->af}{ms:List Mo}{rk n k:Nat}{e c:Expr}{f:EF}{p:BF}{pos:cA}
theorem UL {i:Nat}{x:aI}{p1 p2 pos':cA}(hm:ms[i]?=some (.ow (k+1)))(hN:X.N.Nodup)(he:XO X ct ms (k+1) e f)(hi:X.N[i]?=some x:=by rfl)(hx:Loc X.env.scope x:=by first|exact Or.inl rfl|exact Or.inr rfl)
  (hv:mW X.env.scope x:=by first|exact Or.inl rfl|exact Or.inr (Or.inl rfl)|exact Or.inr (Or.inr rfl)) (hd:(x==("__debug__":aI))=false:=by decide) (gG:(x==("__classdict__":aI))=false:=by decide)
  (hs:dO (.BinOp (.Name x p1) .Add e p2) (some (.Name x pos')) pos.line X.env=pure false:=by rfl)
  (hf:X.fn x=true\/X.env.scope.names.lookup x=some .local:=by first|exact .inl rfl|exact .inr rfl|assumption):XS X ct ms rk (.Assign [.Name x pos'] (.BinOp (.Name x p1) .Add e p2) pos) (sSet i (e2 qJ (eV i) f)):=by
 obtain⟨t,pt,qt⟩:=he
 refine⟨_,Jl hN hi hx (DO Fb (vk hi hv hd gG) pt) hs hf,λF0 B F H ρ σ o E rs e w=>?_⟩
 obtain⟨d,h1,h2⟩:=aM e
 cases h2
 obtain⟨d1,d2,h3,h4,h5⟩:=dz h1
 obtain⟨f1,fr,n1,b1,dj,i4,cf,put⟩:=rs.put (F':=F) (H':=H) hm
 obtain⟨v,hσ,ow⟩:=i4 d1 (yf h3)
 refine⟨v,hσ,?_⟩
 refine qt F0 B F H ρ σ d2 _ rs h4 λy F' H' fp x1 o2 HJ vX=>?_
 have r:=rs.ext x1
 cases d1 with
 |lst xs=>
  cases d2 with
  |lst ys=>
   have h5:(if xs.length+ys.length<=16777216 then some (D.lst (xs++ys))else none)=some d:=h5
   by_cases hz:xs.length+ys.length<=16777216
   ·rw[if_pos hz]at h5
    cases h5
    obtain⟨ad,vs,oT,rfl,rfl,hF,hH,ol⟩:=ow.lst_inv
    obtain⟨bd,us,GI,rfl,rfl,Kf,Bs,wW⟩:=o2.lst_inv
    have hA:H' ad=some (.lst vs):=x1.hh _ _ hH
    refine .inr (.inr (.inl ⟨ad,bd,vs,us,rfl,rfl,eJ.of hA,eJ.of Bs,by rw[←ol.length,←wW.length,bG];omega,λq hq=>?_⟩))
    have ne:∀a o,H' a=some o->a≠q:=λa o h e=>by rw[e,hq]at h;cases h
    have c1:∀a∈oT,F' a=none/\∃o,H' a=some o:=λa ha=>by
     obtain⟨q1,o,q2,q3⟩:=dU.cellsOf ol a ha
     exact⟨x1.nf a o q2 q3 q1,o,x1.hh _ _ q2⟩
    have c2:∀a∈GI,F' a=none/\∃o,H' a=some o:=λa ha=>by
     obtain⟨q1,o,q2,q3⟩:=dU.cellsOf wW a ha
     exact⟨q1,o,q2⟩
    have fq:F' q=none:=x1.fh.free hq
    refine w _ F' _ (put F' (upd H' q (.lst (vs++us))) (.lst (xs++ys)) (.ref q) (q::(oT++GI)) x1.ff (λa o h=>?_) (λa o h=>?_) r.nf (λa ha=>?_) (.inr (.lst fq ym ((ol.mono λ_ _ f' qA o'=>?_).append (wW.mono λ_ _ f' qA o'=>?_)))) ?_ ?_ ?_)
    ·have:=r.bh _ _ h
     rw[zn (ne a o this)];exact this
    ·have:=x1.fh _ _ h
     rw[zn (ne a o this)];exact this
    ·obtain⟨q1,o,q2,q3⟩:=cf a ha
     have q4:=x1.hh _ _ q2
     exact⟨by rw[zn (ne a o q4),q4,q2],x1.nf a o q2 q3 q1⟩
    ·refine(o'.ext x1).frame (.refl _) λa ha=>?_
     obtain⟨q1,o,q2⟩:=c1 a (qA a ha)
     exact⟨zn (ne a o q2),q1⟩
    ·refine o'.frame (.refl _) λa ha=>?_
     obtain⟨q1,o,q2⟩:=c2 a (qA a ha)
     exact⟨zn (ne a o q2),q1⟩
    ·refine aY.mpr ⟨λh=>?_,aW.mpr ⟨(aY.mp n1).2,(aY.mp HJ).2,λa ha b hb e=>?_⟩⟩
     ·rcases aT.mp h with h|h
      ·obtain⟨_,o,q2⟩:=c1 q h;exact ne q o q2 rfl
      ·obtain⟨_,o,q2⟩:=c2 q h;exact ne q o q2 rfl
     ·subst e
      obtain⟨_,o,ho,_⟩:=dU.cellsOf ol a ha
      rw[vX a (ai _ hb)]at ho
      cases ho
    ·intro a ha hr
     obtain⟨_,o,ho,_⟩:=cf a hr
     rcases ay.mp ha with rfl|ha
     ·exact ne a o (x1.hh _ _ ho) rfl
     ·rcases aT.mp ha with ha|ha
      ·exact dj a (ai _ ha) hr
      ·rw[vX a (ai _ ha)]at ho;cases ho
    ·intro a ha
     rcases ay.mp ha with rfl|ha
     ·exact r.bh.free hq
     ·rcases aT.mp ha with ha|ha
      ·exact b1 a (ai _ ha)
      ·exact rs.bh.free (vX a (ai _ ha))
   ·rw[if_neg hz]at h5;cases h5
  |_=>cases h5
 |_=>cases h5
theorem dU.at {R:D->V->List af->Prop}:∀{ds:List D} {vs:List V} {fp:List af},dU R ds vs fp->∃fs:List (List af),fs.length=ds.length/\fs.flatten=fp/\∀(i:Nat) (hi:i<ds.length),R (ds.getD i .non) (vs.getD i .non) (fs.getD i [])
 |_,_,_,.nil=>⟨[],rfl,rfl,λi h=>by simp at h⟩
 |_,_,_,.cons (f:=f) (g:=g) h t=>by
  obtain⟨fs,e1,e2,e3⟩:=dU.at t
  refine⟨f::fs,by simp[e1],by rw[cB,e2],λi hi=>?_⟩
  cases i with
  |zero=>exact h
  |succ i=>exact e3 i (by simpa using hi)
theorem dU.pick {R:D->V->List af->Prop}{ds:List D}{vs:List V}{fs:List (List af)}(h:∀(i:Nat) (hi:i<ds.length),R (ds.getD i .non) (vs.getD i .non) (fs.getD i [])):∀π:List Nat,(∀i∈π,i<ds.length)->dU R (π.map λi=>ds.getD i .non) (π.map λi=>vs.getD i .non) (π.map λi=>fs.getD i []).flatten
 |[],_=>.nil
 |i::π,hi=>.cons (h i (hi i ah)) (dU.pick h π λj hj=>hi j (ai _ hj))
theorem Mt:∀{fs:List (List af)},fs.flatten.Nodup->∀{i j:Nat} {a:af},a∈fs.getD i []->a∈fs.getD j []->i=j
 |[],_,i,j,a,h,_=>by simp at h
 |f::fs,nd,i,j,a,h1,h2=>by
  rw[cB,aW]at nd
  have Kx:∀k,a∈fs.getD k []->a∈fs.flatten:=λk h=>by
   by_cases hk:k<fs.length
   ·rw[aN,bC hk]at h
    exact gZ.mpr ⟨_,kN hk,h⟩
   ·rw[aN,bS (by omega)]at h;cases h
  cases i with
  |zero=>
   cases j with
   |zero=>rfl
   |succ j=>exact absurd rfl (nd.2.2 a h1 a (Kx j h2))
  |succ i=>
   cases j with
   |zero=>exact absurd rfl (nd.2.2 a h2 a (Kx i h1))
   |succ j=>rw[Mt nd.2.1 (i:=i) (j:=j) h1 h2]
theorem IN:∀{fs:List (List af)},fs.flatten.Nodup->∀i:Nat,(fs.getD i []).Nodup
 |[],_,i=>by simp
 |f::fs,nd,i=>by
  rw[cB,aW]at nd
  cases i with
  |zero=>exact nd.1
  |succ i=>exact IN nd.2.1 i
theorem LF {fs:List (List af)}(nd:fs.flatten.Nodup):∀{π:List Nat},π.Nodup->(π.map λi=>fs.getD i []).flatten.Nodup
 |[],_=>bx
 |i::π,h=>by
  obtain⟨h1,h2⟩:=aY.mp h
  rw[br,cB,aW]
  refine⟨IN nd i,LF nd h2,λa ha b hb e=>?_⟩
  subst e
  obtain⟨g,hg,mJ⟩:=gZ.mp hb
  obtain⟨j,hj,rfl⟩:=dv.mp hg
  exact h1 (by rw[Mt nd ha mJ];exact hj)
theorem EV {fs:List (List af)}{π:List Nat}{a:af}(h:a∈(π.map λi=>fs.getD i []).flatten):a∈fs.flatten:=by
 obtain⟨g,hg,mJ⟩:=gZ.mp h
 obtain⟨j,hj,rfl⟩:=dv.mp hg
 by_cases hk:j<fs.length
 ·rw[aN,bC hk]at mJ
  exact gZ.mpr ⟨_,kN hk,mJ⟩
 ·rw[aN,bS (by omega)]at mJ;cases mJ
noncomputable def jZ:D->Option D
 |.lst ds=>(lB ds).bind λks=>(TS.tsrt ks).bind λπ=>if(ds.length<=1000/\π.length<=1000/\∀i∈π,i<ds.length)/\π.Nodup then some (.lst (π.map λi=>ds.getD i .non))else none
 |_=>none
theorem qZ {K:aa}{F H:Hp}:∀{ds:List D} {vs:List V} {ks:List Int} {fp:List af},dU (Ow K ct F H (k+1)) ds vs fp->lB ds=some ks->∃qs:List (af×List V),vs=qs.map (λq=>V.ref q.1)/\ks=qs.map (λq=>(q.2.length:Int))/\∀q∈qs,eJ K H q.1 q.2
 |[],_,_,_,.nil,e=>by cases e;exact⟨[],rfl,rfl,nofun⟩
 |d::ds,_,ks,_,.cons (v:=v) h t,e=>by
  cases d with
  |lst xs=>
   obtain⟨ns,h1,h2⟩:=aM (show(lB ds).bind _=_ from e)
   cases h2
   obtain⟨qs,e1,e2,e3⟩:=qZ t h1
   obtain⟨ad,us,fr,rfl,_,_,hH,ol⟩:=h.lst_inv
   exact⟨(ad,us)::qs,by rw[e1];rfl,by rw[e2,ol.length];rfl,λq hq=>by
    rcases ay.mp hq with rfl|hq
    ·exact eJ.of hH
    ·exact e3 q hq⟩
  |_=>cases e
theorem S5 {i:Nat}{x:aI}{pn p p2 xC kp:cA}(hm:ms[i]?=some (.ow (k+2)))(hg:Gl X "sorted")(yL:X.mg "sorted"=none)(oV:Gl X "len")(rM:X.mg "len"=none)(hN:X.N[i]?=some x:=by rfl)
  (hv:mW X.env.scope x:=by first|exact Or.inl rfl|exact Or.inr (Or.inl rfl)|exact Or.inr (Or.inr rfl)) (hd:(x==("__debug__":aI))=false:=by decide) (gG:(x==("__classdict__":aI))=false:=by decide)
  (he:aq [.Name x pn] X.env=(false,bN (.Name x pn) X.env)::aq [] X.env:=by rfl) :
  XS X ct ms (k+2) (.Return (some (.Call (.Name "sorted" p) [.Name x pn] [⟨some "key",.Name "len" p2,kp⟩] xC)) pos) (sRet (e1 jZ (eV i))):=by
 refine⟨_,DI (UK hg yL oV rM (vk hN hv hd gG) he),λF0 B F H ρ σ o E rs e w=>?_⟩
 obtain⟨d0,g1,g2⟩:=aM e
 cases g2
 obtain⟨d,h1,h2⟩:=aM g1
 obtain⟨fp,sl,nd,hb⟩:=rs.sl
 obtain⟨f1,fr,i1,i2,i3,i4,i5⟩:=sl.put hm
 obtain⟨v,BN,ow⟩:=i4 d (yf h1)
 refine⟨v,BN,?_⟩
 cases d with
 |lst ds=>
  obtain⟨ks,h3,h4⟩:=aM (show(lB ds).bind _=_ from h2)
  obtain⟨π,h5,h6⟩:=aM h4
  by_cases hz:(ds.length<=1000/\π.length<=1000/\∀i∈π,i<ds.length)/\π.Nodup
  ·rw[if_pos hz]at h6
   cases h6
   obtain⟨ad,vs,oT,rfl,rfl,hF,hH,ol⟩:=ow.lst_inv
   obtain⟨qs,rfl,rfl,hq⟩:=qZ ol h3
   obtain⟨fs,_,e2,e3⟩:=dU.at ol
   have hl:ds.length=qs.length:=by have:=ol.length;rwa[aE]at this
   have P3:=(aY.mp (i3 nd).1).2
   refine⟨ad,qs,π,rfl,eJ.of hH,hq,by omega,hz.1.2.1,λi hi=>by have:=hz.1.2.2 i hi;omega,h5,λq wG=>?_⟩
   have ne:∀a o,H a=some o->a≠q:=λa o h e=>by rw[e,wG]at h;cases h
   have fq:F q=none:=rs.fh.free wG
   have cl:∀a∈oT,F a=none/\∃o,H a=some o:=λa ha=>by
    obtain⟨q1,o,q2,q3⟩:=dU.cellsOf ol a ha
    exact⟨q1,o,q2⟩
   have vp:(π.map λi=>(qs.map λq=>V.ref q.1).getD i .non) = π.map λi=>V.ref (qs.getD i (0,[])).1:=dR λi hi=>by
    have:=hz.1.2.2 i hi
    rw[aN,aN,bj,bC (by omega)];rfl
   have op:=dU.pick (vs:=qs.map λq=>V.ref q.1) e3 π hz.1.2.2
   rw[vp]at op
   refine w _ F (upd H q (.lst (π.map λi=>V.ref (qs.getD i (0,[])).1))) (q::(π.map λi=>fs.getD i []).flatten) rs.f0 (λa o h=>?_) (λa o h=>?_) rs.nf (.inr (.lst fq ym (op.mono λ_ _ f' qA o'=>?_))) ?_ ?_
   ·have:=rs.bh _ _ h
    rw[zn (ne a o this)];exact this
   ·have:=rs.fh _ _ h
    rw[zn (ne a o this)];exact this
   ·refine o'.frame (.refl _) λa ha=>?_
    obtain⟨q1,o,q2⟩:=cl a (by rw[←e2];exact EV (qA a ha))
    exact⟨zn (ne a o q2),q1⟩
   ·refine aY.mpr ⟨λh=>?_,LF (by rw[e2];exact P3) hz.2⟩
    obtain⟨_,o,q2⟩:=cl q (by rw[←e2];exact EV h)
    exact ne q o q2 rfl
   ·intro a ha
    rcases ay.mp ha with rfl|ha
    ·exact rs.bh.free wG
    ·exact hb a (i1 a (ai _ (by rw[←e2];exact EV ha)))
  ·rw[if_neg hz]at h6;cases h6
 |_=>cases h2
def Mo.flat:Mo->Bool
 |.al _=>true
 |.ow 0=>true
 |_=>false
theorem SL.flat {K:aa}{F B B' H:Hp}{ρ:Env}{σ:St}{fp:List af}{ms:List Mo}(h:SL K ct F B H ms ρ σ fp)(s:bE B B'):(∀m∈ms,m.flat=true)->SL K ct F B' H ms ρ σ []/\fp=[]:=by
 induction h with
 |nil=>exactλ_=>⟨.nil,rfl⟩
 |no t ih=>exactλhm=>⟨.no (ih λm h=>hm m (ai _ h)).1,(ih λm h=>hm m (ai _ h)).2⟩
 |al l t ih=>exactλhm=>⟨.al (l.mono (.refl _) s) (ih λm h=>hm m (ai _ h)).1,(ih λm h=>hm m (ai _ h)).2⟩
 |px l t ih=>exactλhm=>absurd (hm _ ah) (by simp[Mo.flat])
 |so o t ih=>exactλhm=>absurd (hm _ ah) (by simp[Mo.flat])
 |@ow n d v ms ρ σ f fp o t ih=>
  intro hm
  have h0:=hm _ ah
  cases n with
  |succ n=>cases h0
  |zero=>
   obtain⟨i1,i2⟩:=ih λm h=>hm m (ai _ h)
   have e:=Ow.nil0 o
   subst e i2
   exact⟨SL.ow (f:=[]) (fp:=[]) o i1,rfl⟩
theorem RS.base {K:aa}{F0 B F1 H1 F H:Hp}{ρ:Env}{σ:St}{ms:List Mo}(Hh:∀m∈ms,m.flat=true)(r:RS K ct F0 B ms F H ρ σ)(s:bE B H1)(x:eY F1 H1 F H):RS K ct F1 H1 ms F H ρ σ:=by
 obtain⟨fp,sl,nd,hb⟩:=r.sl
 exact⟨x.ff,x.hh,x.fh,x.nf,[],(sl.flat s Hh).1,bx,nofun⟩
theorem SL.slot {K:aa}{F B H:Hp}{ρ:Env}{σ:St}{fp:List af}{ms:List Mo}(h:SL K ct F B H ms ρ σ fp):∀{i:Nat} {o:Option V},ρ[i]?=some Option.none->SL K ct F B H ms ρ (σ.set i o) fp:=by
 induction h with
 |nil=>intro i o h;cases h
 |no t ih=>
  intro i o h
  cases i with
  |zero=>exact .no t
  |succ i=>exact .no (ih h)
 |al l t ih=>
  intro i o h
  cases i with
  |zero=>cases h
  |succ i=>exact .al l (ih h)
 |px l t ih=>
  intro i o h
  cases i with
  |zero=>cases h
  |succ i=>exact .px l (ih h)
 |so q t ih=>
  intro i o h
  cases i with
  |zero=>cases h
  |succ i=>exact .so q (ih h)
 |ow q t ih=>
  intro i o h
  cases i with
  |zero=>cases h
  |succ i=>exact .ow q (ih h)
theorem RS.slot {K:aa}{F0 B F H:Hp}{ρ:Env}{σ:St}{ms:List Mo}{i:Nat}{o:Option V}(r:RS K ct F0 B ms F H ρ σ)(h:ρ[i]?=some none):RS K ct F0 B ms F H ρ (σ.set i o):=by
 obtain⟨fp,sl,nd,hb⟩:=r.sl
 exact⟨r.f0,r.bh,r.fh,r.nf,fp,sl.slot h,nd,hb⟩
def mh (i:Nat)(p:BF)(ρ:Env):List D->Option Out
 |[]=>some (.nx (ρ.set i none))
 |d::ds=>(p (ρ.set i (some d))).bind λb=>if b=true then some (.rt d)else mh i p ρ ds
def nI (i:Nat)(f:EF)(p:BF):SF:=λρ=>if i < ρ.length then(f ρ).bind λd=>match d with
 |.lst ds=>mh i p ρ ds
 |_=>none else none
theorem WD {i:Nat}{x:aI}{p1 p2 p3 p4:cA}(hm:ms[i]?=some (.al (k+1)))(Hh:∀m∈ms,m.flat=true)(hN:X.N.Nodup)(he:XO X ct ms (k+2) e f)(hc:XT X ct ms c p)(hp:cM (aZ X.prog X.w) X.A X.env X.xe)(Bw:X.calm=true)(hi:X.N[i]?=some x:=by rfl)
  (hx:Loc X.env.scope x:=by first|exact Or.inl rfl|exact Or.inr rfl) (hv:mW X.env.scope x:=by first|exact Or.inl rfl|exact Or.inr (Or.inl rfl)|exact Or.inr (Or.inr rfl)) (hd:(x==("__debug__":aI))=false:=by decide) (gG:(x==("__classdict__":aI))=false:=by decide)
  (hf:X.fn x=true\/X.env.scope.names.lookup x=some .local:=by first|exact .inl rfl|exact .inr rfl|assumption) (hs:∀x,cQ e X.env x=pure x:=by intro _;rfl) :
  XS X ct ms (k+1) (.For (.Name x p1) e [.If c [.Return (some (.Name x p2)) p3] [] p4] [] pos) (nI i f p):=by
 obtain⟨t,pt,qt⟩:=he
 obtain⟨tc,QY,qc⟩:=hc
 have same:ms.set i (.al (k+1))=ms:=by
  apply eh
  intro j
  by_cases hj:i=j
  ·subst hj
   rw[cw (aU.mp hm).1,hm]
  ·rw[dI hj]
 refine⟨_,Np hp Bw (Je pt) (Fe hN hi hx hf) (Fd (NF QY (Fd (DI (vk hi hv hd gG))) Mx)) hs,λF0 B F H ρ σ o E rs e z=>?_⟩
 unfold nI at e
 by_cases yK:i < ρ.length
 case neg=>rw[if_neg yK]at e;cases e
 rw[if_pos yK]at e
 obtain⟨d,h1,h2⟩:=aM e
 refine qt F0 B F H ρ σ d _ rs h1 λv F1 H1 fp x1 ow nd Ph=>?_
 cases d with
 |lst ds=>
  have h2:mh i p ρ ds=some o:=h2
  obtain⟨A,vs,fr,rfl,rfl,YX,GR,ol⟩:=ow.lst_inv
  have Aq:∀a∈A::fr,B a=none:=λa ha=>rs.bh.free (Ph a ha)
  have iV:=rs.ext x1
  have sB:bE B H1:=iV.bh
  have Ku:Pr (Al X.K ct F1 H1 (k+1)) ds vs:=by
   have key:∀{ds:List D} {vs:List V} {fr:List af},dU (Ow X.K ct F1 H1 (k+1)) ds vs fr->Pr (Al X.K ct F1 H1 (k+1)) ds vs:=by
    intro ds vs fr h
    induction h with
    |nil=>exact .nil
    |cons h t ih=>exact .cons (h.al x1.fh) ih
   exact key ol
  refine⟨A,rfl,⟨vs,eJ.of GR⟩,?_⟩
  have ok:=Jq (ct:=ct) (G:=H1) (a:=A) Ku λF2 H2 s1 s2 s3=>eJ.of (s2 _ _ GR)
  refine⟨λj m σ H=>m=ds.length-j/\j<=ds.length/\∃F,eY F1 H1 F H/\RS X.K ct F0 B ms F H (ρ.set i none) σ/\mh i p ρ (ds.drop j)=some o,⟨ds.length,rfl,cZ _,F1,.refl x1.fh,by have:=iV.forget (.al (k+1)) i;rwa[same]at this,h2⟩,?_⟩
  rintro j m σ H ⟨rfl,G7,F,xe,rs,e⟩
  obtain⟨k1,k2⟩:=ok j F H xe.ff xe.hh xe.fh
  by_cases kh:j<ds.length
  ·right
   have G0:ds[j]?=some ds[j]:=by simp[kh]
   obtain⟨go,yl⟩:=k1 _ G0
   rw[gD kh]at e
   obtain⟨b,h3,h4⟩:=aM e
   refine⟨go,λσ H=>j+1<=ds.length/\∃F,eY F1 H1 F H/\RS X.K ct F0 B ms F H (ρ.set i none) σ/\mh i p ρ (ds.drop (j+1))=some o,λσ' H' h=>⟨ds.length-(j+1),by omega,rfl,h⟩,λy H2 hy=>?_⟩
   obtain⟨F2,x2,l⟩:=yl y H2 hy
   have x12:=xe.trans x2
   have EE:RS X.K ct F0 B ms F2 H2 (ρ.set i none) (σ.set i (some y)):=(rs.ext x2).slot (by rw[cw yK])
   have rb:=RS.base Hh EE sB x12
   have rd:RS X.K ct F1 H1 ms F2 H2 (ρ.set i (some ds[j])) (σ.set i (some y)):=by
    obtain⟨gr,sl,P0,Pa⟩:=rb.sl
    have q:=sl.setA l hm
    rw[m7,m7]at q
    exact⟨rb.f0,rb.bh,rb.fh,rb.nf,gr,q,P0,Pa⟩
   refine qc F1 H1 F2 H2 _ _ b _ rd h3 λF3 H3 x3=>?_
   have yS:=x12.trans x3
   cases b with
   |true=>
    rw[if_pos rfl]at h4 ⊢
    cases h4
    obtain⟨w,hw,_⟩:=rd.get hm (by rw[cw yK])
    have hσ:i < σ.length:=by
     by_cases hσ:i < σ.length
     ·exact hσ
     ·rw[bS (by rw[iw];omega)]at hw;cases hw
    refine⟨y,by rw[cw hσ],?_⟩
    obtain⟨fs,_,e2,e3⟩:=dU.at ol
    have oj:=e3 j kh
    have ed:ds.getD j .non=ds[j]:=by rw[aN,G0];rfl
    have ey:vs.getD j .non=y:=by
     obtain⟨u,hu,_⟩:=Ku.get' G0
     have PN:vs[j]?=some y:=hy.2 vs (eJ.of (xe.hh _ _ GR))
     rw[aN,PN];rfl
    rw[ed,ey]at oj
    have P2:(fs.getD j []).Nodup:=IN (by rw[e2];exact(aY.mp nd).2) j
    have sub:∀a∈fs.getD j [],a∈fr:=λa ha=>by rw[←e2];exact EV (π:=[j]) (by simpa using ha)
    exact z y F3 H3 (fs.getD j []) (iV.f0.trans yS.ff) (sB.trans yS.hh) yS.fh (λa o h t n=>yS.nf a o (sB _ _ h) t (iV.nf a o h t n)) (oj.ext yS) P2 λa ha=>Aq a (ai _ (sub a ha))
   |false=>
    rw[if_neg aJ]at h4 ⊢
    exact⟨kh,F3,yS,EE.ext x3,h4⟩
  ·left
   refine⟨k2 (by omega),?_⟩
   rw[ip (by omega)]at e
   cases e
   exact z σ F H rs
 |_=>cases h2
end
end L3
set_option maxHeartbeats 1000000
namespace L3
open PySem PySem.Spec L2
open PyProof.Rows hiding St
def yC (K:aa)(ct:Nat->af)(n m:Nat)(mf:List D->Option D):Sp:=λvs H Q _=>∃(F:Hp) (ds es:List D) (us ws:List V) (d p p':D) (a:af),vs=us ++ .ref a::ws/\ds.length=n/\es.length=m/\bE F H/\Pr (Dt K ct F) ds us/\Pr (Dt K ct F) es ws/\Ow K ct F H 1 p (.ref a) [a]/\mf (ds++p::es)=some (.tup [d,p']) /\
 ∀v F' H',bE F F'->(∀x o,H x=some o->x≠a->H' x=some o)->bE F' H'->(∀x o,H x=some o->iD o->F x=none->F' x=none)->Ow K ct F' H' 1 p' (.ref a) [a]->Dt K ct F' d v->Q v H'
theorem yC.len {K:aa}{ct:Nat->af}{n m:Nat}{mf:List D->Option D}{ps:List aI}(h:n+1+m=ps.length):∀vs H Q E,yC K ct n m mf vs H Q E->vs.length=ps.length:=by
 rintro vs H Q E ⟨F,ds,es,us,ws,d,p,p',a,rfl,hn,hm,_,l,l2,_⟩
 rw[←h,←hn,←hm,l.length,l2.length,aR,az]
 omega
def wU (n:Nat)(N:List aI)(bf:EM)(ds:List D):Option D:=(bf (startD N ds)).bind λr=>(r.2[n]?).join.bind λp=>some (.tup [r.1,p])
theorem Ua {ct:Nat->af}{P:aX}{w:bz}{K:aa}{mg:aI->Option ae}{base:aS}{x qual:aI}{st:bI}{fa:af}{fd:aF}{N ps:List aI}{kk n m:Nat}{ms:List Mo}{bf:EM}(Fn:Fun2 K x qual st fa fd)(S:bA N ps (aV st))(wF:n+1+m=ps.length)(yL:n+1+m+ms.length=N.length)
  (body:∀(a:af) (gz:ae) (A:bq) (outer:List PySem.Env) (s:ak) (H:Hp) (E:XK),dY kk (A.deeper (envOfC qual (aV st) s.heap.objs.size fa gz))->rW (lS eF P w K mg base N qual (aV st) fa gz A outer s H E).nox ct (av n (Mo.ow 0) ++ .so a::(av m (Mo.ow 0)++ms)) (fT st) bf) :
  cH P w K mg base eF (kk+1) fa fd ps (yC K ct n m (wU n N bf)):=by
 refine Fn.ok S (yC.len wF) λgz A outer s H vs Q E hr h=>?_
 obtain⟨F,ds,es,us,ws,d,p,p',a,rfl,hn,sk,sF,l,l2,oa,hm,z⟩:=h
 subst hn sk
 obtain⟨t,pt,qt⟩:=body a gz A outer s H E hr
 refine⟨t,pt,?_⟩
 obtain⟨⟨d1,ρ'⟩,h1,h2⟩:=aM hm
 obtain⟨p1,h3,h4⟩:=aM h2
 cases h4
 have OU:=(oa.cells a ah).1
 have Ra:bE F (nD H a):=λy o hy=>by
  rw[uD (λe=>by rw[e,OU]at hy;cases hy)]
  exact sF _ _ hy
 refine qt F (nD H a) F H (startD N (ds++p::es)) ρ' (L2.start N (us ++ .ref a::ws)) d1 _ ⟨.refl _,IM _ _,sF,λ_ _ _ _ h=>h,[a],?_,by simp,λy hy=>?_⟩ h1 ?_
 ·have e1:startD N (ds++p::es)=ds.map some++(some p::(es.map some++av ms.length none)):=by
   unfold startD
   rw[show N.length-(ds++p::es).length=ms.length by rw[aR,az];omega]
   simp
  have e2:L2.start N (us ++ .ref a::ws)=us.map some++(some (.ref a)::(ws.map some++av ms.length none)):=by
   unfold L2.start
   rw[show N.length-(us++V.ref a::ws).length=ms.length by rw[aR,az,←l.length,←l2.length];omega]
   simp
  rw[e1,e2]
  have q2:=SL.app (SL.none (K:=K) (ct:=ct) (F:=F) (B:=nD H a) (H:=H) ms) (SL.start0 (B:=nD H a) (H:=H) l2)
  have:=SL.app (.so oa q2) (SL.start0 (B:=nD H a) (H:=H) l)
  have h7:SL K ct F (nD H a) H (av ds.length (Mo.ow 0)++Mo.so a::(av es.length (Mo.ow 0)++ms)) (ds.map some++(some p::(es.map some++av ms.length none))) (us.map some++(some (.ref a)::(ws.map some++av ms.length none))) [a]:=by simpa using this
  exact h7
 ·rw[aO.mp hy];exact Ny _ _
 ·intro v σ' F' H' r dt
  obtain⟨_,o1,_⟩:=r.so_at (i:=ds.length) (ad:=a) (by simp) (yf h3)
  refine z v F' H' r.f0 (λy o hy n1=>r.bh _ _ (by rw[uD n1];exact hy)) r.fh (λy o hy t hn=>?_) o1 dt
  by_cases ea:y=a
  ·subst ea;exact(o1.cells _ ah).1
  exact r.nf y o (by rw[uD ea];exact hy) t hn
section
variable {X:Cx}{ct:Nat->af}{ms:List Mo}{rk n m k:Nat}{st:bI}{rest:List bI}{a b c e tg:Expr}{f g h:EF}{p q:BF}{u w:SF}{pos:cA}{i j:Nat}
theorem RS.one {K:aa}{F0 B F H:Hp}{ρ:Env}{σ:St}{p:D}(rs:RS K ct F0 B ms F H ρ σ)(Em:ms[i]?=some (.ow 1))(hp:ρ[i]?=some (some p))(cp:ki p=true) :
  ∃a,σ[i]?=some (some (.ref a))/\Ow K ct F H 1 p (.ref a) [a]/\B a=none /\
   ∀(F' H':Hp) (p':D),bE F F'->(∀x o,H x=some o->x≠a->H' x=some o)->bE F' H'->(∀x o,H x=some o->iD o->F x=none->F' x=none)->Ow K ct F' H' 1 p' (.ref a) [a]->RS K ct F0 B ms F' H' (ρ.set i (some p')) σ:=by
 obtain⟨f1,fr,n1,b1,dj,i4,cf,put⟩:=rs.put (F':=F) (H':=H) Em
 obtain⟨v,hσ,ow⟩:=i4 p hp
 obtain⟨a,rfl,rfl⟩:=ow.cell cp
 refine⟨a,hσ,ow,b1 a ah,λF' H' p' s1 kH s3 nf o1=>?_⟩
 have Ba:=b1 a ah
 have r:=put F' H' p' (.ref a) [a] s1 (λy o hy=>kH y o (rs.bh _ _ hy) λe=>by rw[e,Ba]at hy;cases hy) s3 (λy o hy t hn=>nf y o (rs.bh _ _ hy) t (rs.nf y o hy t hn)) (λy hy=>by
  obtain⟨hn,o,ho,nt⟩:=cf y hy
  exact⟨(kH y o ho λe=>dj a ah (e▸hy)).trans ho.symm,nf y o ho nt hn⟩) o1 (by simp) (λy hy=>by
  rw[aO]at hy
  subst hy
  exact dj _ ah) (λy hy=>by
  rw[aO]at hy
  subst hy
  exact Ba)
 rw[UJ hσ]at r
 exact r
def DX (X:Cx)(ct:Nat->af)(ms:List Mo)(i:Nat)(es:List Expr)(f g:Env->Option (List D)):Prop:=∃t,PA X es t/\∀(F0 B F H:Hp) (ρ:Env) (σ:St) (ds es:List D) (a:af) (Q:List V->Hp->Prop),RS X.K ct F0 B ms F H ρ σ->f ρ=some ds->g ρ=some es->σ[i]?=some (some (.ref a)) ->
 (∀us ws F' H',eY F H F' H'->Pr (Dt X.K ct F') ds us->Pr (Dt X.K ct F') es ws->Q (us ++ .ref a::ws) H')->t σ H Q
def DY (X:Cx)(ct:Nat->af)(ms:List Mo)(es:List Expr)(g:Env->Option (List D)):Prop:=∃t,PA X es t/\∀(F0 B F H:Hp) (ρ:Env) (σ:St) (es:List D) (Q:List V->Hp->Prop),RS X.K ct F0 B ms F H ρ σ->g ρ=some es->(∀ws F' H',eY F H F' H'->Pr (Dt X.K ct F') es ws->Q ws H')->t σ H Q
theorem WE:DY X ct ms [] aNil:=⟨_,xT,λF0 B F H ρ σ es Q rs e z=>by cases e;exact z [] F H (.refl rs.fh) .nil⟩
theorem Mu {es:List Expr}{fs:Env->Option (List D)}(h1:XE X ct ms 0 a f)(h2:DY X ct ms es fs)(hs:aq (a::es) X.env=(false,bN a X.env)::aq es X.env:=by rfl):DY X ct ms (a::es) (aCons f fs):=by
 obtain⟨t,pt,qt⟩:=h1
 obtain⟨t2,mN,mQ⟩:=h2
 refine⟨_,vc pt mN hs,λF0 B F H ρ σ ds Q rs e z=>?_⟩
 obtain⟨d,lT,g1,g2,g3⟩:=dz e
 cases g3
 refine qt F0 B F H ρ σ d _ rs g1 λv F1 H1 x1 l=>?_
 exact mQ F0 B F1 H1 ρ σ lT _ (rs.ext x1) g2 λus F2 H2 x2 l2=>z (v::us) F2 H2 (x1.trans x2) (.cons (Dt.mono x2.ff l) l2)
theorem X7 {es:List Expr}{fs:Env->Option (List D)}{x:aI}{p1:cA}(h2:DY X ct ms es fs)(hN:X.N[i]?=some x:=by rfl)(hv:mW X.env.scope x:=by first|exact Or.inl rfl|exact Or.inr (Or.inl rfl)|exact Or.inr (Or.inr rfl))(hd:(x==("__debug__":aI))=false:=by decide)(gG:(x==("__classdict__":aI))=false:=by decide)
  (hs:aq (.Name x p1::es) X.env=(false,bN (.Name x p1) X.env)::aq es X.env:=by rfl):DX X ct ms i (.Name x p1::es) aNil fs:=by
 obtain⟨t2,mN,mQ⟩:=h2
 refine⟨_,vc (vk hN hv hd gG) mN hs,λF0 B F H ρ σ ds es a Q rs e1 e2 ha z=>?_⟩
 cases e1
 refine⟨_,ha,mQ F0 B F H ρ σ es _ rs e2 λws F' H' x l=>z [] ws F' H' x .nil l⟩
theorem IP {es:List Expr}{fs gs:Env->Option (List D)}(h1:XE X ct ms 0 a f)(h2:DX X ct ms i es fs gs)(hs:aq (a::es) X.env=(false,bN a X.env)::aq es X.env:=by rfl):DX X ct ms i (a::es) (aCons f fs) gs:=by
 obtain⟨t,pt,qt⟩:=h1
 obtain⟨t2,mN,mQ⟩:=h2
 refine⟨_,vc pt mN hs,λF0 B F H ρ σ ds es xa Q rs e1 e2 ha z=>?_⟩
 obtain⟨d,lT,g1,g2,g3⟩:=dz e1
 cases g3
 refine qt F0 B F H ρ σ d _ rs g1 λv F1 H1 x1 l=>?_
 exact mQ F0 B F1 H1 ρ σ lT es xa _ (rs.ext x1) g2 e2 ha λus ws F2 H2 x2 l2 l3=>z (v::us) ws F2 H2 (x1.trans x2) (.cons (Dt.mono x2.ff l) l2) l3
def ke (i:Nat)(fs gs:Env->Option (List D))(mf:List D->Option D):EM:=λρ=>(fs ρ).bind λds=>(gs ρ).bind λes=>(eV i ρ).bind λp=>if ki p=true then(mf (ds++p::es)).bind λr=>match r with
 |.tup [d,p']=>some (d,ρ.set i (some p'))
 |_=>none else none
variable {kk:Nat}{fa:af}{fd:aF}{ps:List aI}{mf:List D->Option D}{x:aI}{pp:cA}
theorem UM {es:List Expr}{fs gs:Env->Option (List D)}{lw:List ae}(Em:ms[i]?=some (.ow 1))(Fn:cH X.prog X.w X.K X.mg X.base eF kk fa fd ps (yC X.K ct n m mf))(hr:dY kk X.A)(hg:Gl X x)(hm:X.mg x=some (.ref fa))(hk:ap X.K (.ref fa)=true)
  (hb:bJ X.K fd ps lw) (hd:bQ [] lw) (hn:∀ρ ds,fs ρ=some ds->ds.length=n) (rN:∀ρ ds,gs ρ=some ds->ds.length=m) (ha:DX X ct ms i (e::es) fs gs)
  (lx:(x==("__debug__":aI))=false:=by decide) (he:aq (e::es) X.env=(false,bN e X.env)::aq es X.env:=by rfl) (gb:(cC pos (aq es X.env)).any (·.1)=false:=by rfl) :
  XM X ct ms (.Call (.Name x pp) (e::es) [] pos) (ke i fs gs mf):=by
 obtain⟨t,pt,qt⟩:=ha
 refine⟨_,MF Fn hr hg hm hk hb hd mr pt lx he gb,λF0 B F H ρ ρ' σ d Q rs e z=>?_⟩
 obtain⟨ds,h1,h2⟩:=aM e
 obtain⟨vR,h3,h4⟩:=aM h2
 obtain⟨p,h5,h6⟩:=aM h4
 by_cases hc:ki p=true
 ·rw[if_pos hc]at h6
  obtain⟨r,h7,h8⟩:=aM h6
  have:∃p',r=.tup [d,p']/\ρ' = ρ.set i (some p'):=by
   split at h8
   ·cases h8;exact⟨_,rfl,rfl⟩
   ·cases h8
  obtain⟨p',rfl,rfl⟩:=this
  obtain⟨a0,hσ,_⟩:=rs.one Em (yf h5) hc
  refine qt F0 B F H ρ σ ds vR a0 _ rs h1 h3 hσ λus ws F1 H1 x1 l l2=>?_
  obtain⟨a,wJ,oa,Ba,put⟩:=(rs.ext x1).one Em (yf h5) hc
  rw[hσ]at wJ
  cases wJ
  refine⟨F1,ds,vR,us,ws,d,p,p',a0,by simp,hn _ _ h1,rN _ _ h3,x1.fh,l,l2,oa,h7,λv F' H' s1 kH s3 nf o1 dt=>?_⟩
  exact z v F' H' (put F' H' p' s1 kH s3 nf o1) dt
 ·rw[if_neg hc]at h6;cases h6
def nG (i:Nat)(g:EM):SF:=λρ=>(eV i ρ).bind λd1=>(g ρ).bind λr=>(qJ d1 r.1).bind λd=>some (.nx (r.2.set i (some d)))
theorem WF {i:Nat}{x:aI}{p1 p2 pos':cA}{gm:EM}(hm:ms[i]?=some (.ow 0))(hN:X.N.Nodup)(he:XM X ct ms e gm)(hk:∀ρ d ρ',gm ρ=some (d,ρ')->ρ'[i]? = ρ[i]?)(hi:X.N[i]?=some x:=by rfl)(hx:Loc X.env.scope x:=by first|exact Or.inl rfl|exact Or.inr rfl)
  (hv:mW X.env.scope x:=by first|exact Or.inl rfl|exact Or.inr (Or.inl rfl)|exact Or.inr (Or.inr rfl)) (hd:(x==("__debug__":aI))=false:=by decide) (gG:(x==("__classdict__":aI))=false:=by decide)
  (hs:dO (.BinOp (.Name x p1) .Add e p2) (some (.Name x pos')) pos.line X.env=pure false:=by rfl)
  (hf:X.fn x=true\/X.env.scope.names.lookup x=some .local:=by first|exact .inl rfl|exact .inr rfl|assumption):XS X ct ms rk (.Assign [.Name x pos'] (.BinOp (.Name x p1) .Add e p2) pos) (nG i gm):=by
 obtain⟨t,pt,qt⟩:=he
 refine⟨_,Jl hN hi hx (DO Fb (vk hi hv hd gG) pt) hs hf,λF0 B F H ρ σ o E rs e w=>?_⟩
 obtain⟨d1,h1,h2⟩:=aM e
 obtain⟨⟨d2,ρ'⟩,h3,h4⟩:=aM h2
 obtain⟨d,h5,h6⟩:=aM h4
 cases h6
 have hq:=hk _ _ _ h3
 obtain⟨v,hσ,_⟩:=rs.get hm (yf h1)
 refine⟨v,hσ,?_⟩
 refine qt F0 B F H ρ ρ' σ d2 _ rs h3 λy F' H' r l=>?_
 obtain⟨v',wJ,l1⟩:=r.get hm (by rw[hq];exact yf h1)
 rw[hσ]at wJ
 cases wJ
 have l1:Dt X.K ct F' d1 v:=l1
 cases d1 with
 |lst xs=>
  cases d2 with
  |lst ys=>
   have h5:(if xs.length+ys.length<=16777216 then some (D.lst (xs++ys))else none)=some d:=h5
   by_cases hz:xs.length+ys.length<=16777216
   ·rw[if_pos hz]at h5
    cases h5
    obtain⟨ad,vs,rfl,hA,q1⟩:=Dt.lst_inv l1
    obtain⟨bd,us,rfl,hB,q2⟩:=Dt.lst_inv l
    refine .inr (.inr (.inl ⟨ad,bd,vs,us,rfl,rfl,r.fh.seq hA,r.fh.seq hB,by rw[←q1.pr.length,←q2.pr.length,bG];omega,?_⟩))
    refineλq0 wG=>qw (Q:=λx H1=>ny i x σ H1 E.nx) (ds:=xs++ys) r.fh (q1.pr.append q2.pr) (λv F2 H2 fp x2 o nd hf=>?_) q0 wG
    obtain⟨F3,x3,dt⟩:=o.freeze x2 hf
    exact w _ F3 H2 (r.set hm x3 (Ow.zero dt) bx λa z=>(by cases z))
   ·rw[if_neg hz]at h5;cases h5
  |_=>cases h5
 |_=>cases h5
theorem S6 {fs gs:Env->Option (List D)}(Pn:i≠j):∀(ρ:Env) (d:D) (ρ':Env),ke i fs gs mf ρ=some (d,ρ')->ρ'[j]? = ρ[j]?:=λρ d ρ' e=>by
 obtain⟨ds,h1,h2⟩:=aM e
 obtain⟨vR,h3,h4⟩:=aM h2
 obtain⟨p,h5,h6⟩:=aM h4
 by_cases hc:ki p=true
 ·rw[if_pos hc]at h6
  obtain⟨r,h7,h8⟩:=aM h6
  split at h8
  ·cases h8;rw[dI Pn]
  ·cases h8
 ·rw[if_neg hc]at h6;cases h6
end
end L3
namespace Fq
end Fq
set_option maxHeartbeats 4000000
namespace My
open PySem L2 L3
def top (i:Nat):bI:=PySem.Challenge.pw_ringbeat_k66_waits_into_one.main.body.getD i (.Pass ⟨0,0,0,0⟩)
abbrev ya:bI:=inClass (top 8) 0
abbrev yo:bI:=inClass (top 9) 0
abbrev zo:bI:=inClass (top 10) 0
abbrev zp:bI:=inClass (top 11) 0
abbrev y0:bI:=top 18
abbrev y6:bI:=top 19
abbrev xx:bI:=top 20
abbrev y8:bI:=top 21
abbrev yg:bI:=top 22
abbrev xn:bI:=top 23
abbrev zq:bI:=top 24
abbrev yp:bI:=inClass (top 27) 0
abbrev zm:bI:=inClass (top 27) 1
abbrev xo:bI:=inClass (top 27) 2
abbrev y9:bI:=inClass (top 27) 3
abbrev wg:bI:=top 29
abbrev zt:bI:=top 31
abbrev yh:bI:=inClass (top 42) 1
abbrev yb:bI:=inClass (top 42) 0
abbrev yq:bI:=top 33
abbrev zh:bI:=top 34
abbrev vt:bI:=top 35
abbrev zu:bI:=inClass (top 9) 2
abbrev zw:bI:=inClass (top 10) 2
abbrev zx:bI:=inClass (top 11) 2
abbrev xy:bI:=top 38
abbrev xz:bI:=top 39
abbrev x6:bI:=top 40
abbrev yj:bI:=top 44
abbrev xb:bI:=top 45
abbrev xf:bI:=top 46
abbrev xg:bI:=top 47
abbrev yr:bI:=top 48
abbrev xh:bI:=top 49
abbrev yt:bI:=top 50
abbrev x8:bI:=top 51
abbrev ju:bI:=top 52
theorem Sj:bA ["self","start","goal","time","behind"] ["self","start","goal","time","behind"] (aV ya):=⟨rfl,rfl,rfl,by decide +kernel,rfl,by decide +kernel,by decide +kernel⟩
theorem R9:bA ["self","start","goal","time","behind"] ["self","start","goal","time","behind"] (aV zo):=⟨rfl,rfl,rfl,by decide +kernel,rfl,by decide +kernel,by decide +kernel⟩
theorem Sa:bA ["self","start","goal","time","behind"] ["self","start","goal","time","behind"] (aV zp):=⟨rfl,rfl,rfl,by decide +kernel,rfl,by decide +kernel,by decide +kernel⟩
theorem SK:bA ["sign"] ["sign"] (aV y0):=⟨rfl,rfl,rfl,by decide +kernel,rfl,by decide +kernel,by decide +kernel⟩
theorem SM:bA ["sign"] ["sign"] (aV y6):=⟨rfl,rfl,rfl,by decide +kernel,rfl,by decide +kernel,by decide +kernel⟩
theorem Tw:bA ["word"] ["word"] (aV xx):=⟨rfl,rfl,rfl,by decide +kernel,rfl,by decide +kernel,by decide +kernel⟩
theorem u2:bA ["names","seen","name"] ["names"] (aV y8):=⟨rfl,rfl,rfl,by decide +kernel,rfl,by decide +kernel,by decide +kernel⟩
theorem Sb:bA ["number","least","most"] ["number","least","most"] (aV yg):=⟨rfl,rfl,rfl,by decide +kernel,rfl,by decide +kernel,by decide +kernel⟩
theorem jv:bA ["arrow","many","least","most"] ["arrow","many"] (aV xn):=⟨rfl,rfl,rfl,by decide +kernel,rfl,by decide +kernel,by decide +kernel⟩
theorem yk:bA ["many","arrows","within","waited","arrow","placed","done","here"] ["many","arrows"] (aV zq):=⟨rfl,rfl,rfl,by decide +kernel,rfl,by decide +kernel,by decide +kernel⟩
theorem vf:bA ["self","names","arrows","number","arrow","placed"] ["self","names","arrows"] (aV yp):=⟨rfl,rfl,rfl,by decide +kernel,rfl,by decide +kernel,by decide +kernel⟩
theorem qf:bA ["self"] ["self"] (aV zm):=⟨rfl,rfl,rfl,by decide +kernel,rfl,by decide +kernel,by decide +kernel⟩
theorem S7:bA ["self","going"] ["self","going"] (aV xo):=⟨rfl,rfl,rfl,by decide +kernel,rfl,by decide +kernel,by decide +kernel⟩
theorem zev:bA ["self"] ["self"] (aV y9):=⟨rfl,rfl,rfl,by decide +kernel,rfl,by decide +kernel,by decide +kernel⟩
theorem Ub:bA ["one","other"] ["one","other"] (aV wg):=⟨rfl,rfl,rfl,by decide +kernel,rfl,by decide +kernel,by decide +kernel⟩
theorem x9:bA ["told","greatest","going","number","amount"] ["told"] (aV zt):=⟨rfl,rfl,rfl,by decide +kernel,rfl,by decide +kernel,by decide +kernel⟩
theorem jq:bA ["self","arrow","link"] ["self","arrow"] (aV yh):=⟨rfl,rfl,rfl,by decide +kernel,rfl,by decide +kernel,by decide +kernel⟩
theorem u3:bA ["self","net","times","beat","number"] ["self","net","times","beat"] (aV yb):=⟨rfl,rfl,rfl,by decide +kernel,rfl,by decide +kernel,by decide +kernel⟩
theorem vg:bA ["table","going","left_out","links","number","arrow"] ["table","going","left_out"] (aV yq):=⟨rfl,rfl,rfl,by decide +kernel,rfl,by decide +kernel,by decide +kernel⟩
theorem yc:bA ["rows","links","put","most","start","behind","slack"] ["rows","links","put"] (aV zh):=⟨rfl,rfl,rfl,by decide +kernel,rfl,by decide +kernel,by decide +kernel⟩
theorem v8:bA ["table","rounds","puts","without","many","links","greatest","order","depth","rows","number","going","put"] ["table","rounds","puts","without"] (aV vt):=⟨rfl,rfl,rfl,by decide +kernel,rfl,by decide +kernel,by decide +kernel⟩
theorem R0:bA ["self"] ["self"] (aV zu):=⟨rfl,rfl,rfl,by decide +kernel,rfl,by decide +kernel,by decide +kernel⟩
theorem R3:bA ["self"] ["self"] (aV zw):=⟨rfl,rfl,rfl,by decide +kernel,rfl,by decide +kernel,by decide +kernel⟩
theorem R4:bA ["self"] ["self"] (aV zx):=⟨rfl,rfl,rfl,by decide +kernel,rfl,by decide +kernel,by decide +kernel⟩
theorem jf:bA ["waits","sets","wait"] ["waits"] (aV xy):=⟨rfl,rfl,rfl,by decide +kernel,rfl,by decide +kernel,by decide +kernel⟩
theorem Tx:bA ["table","puts","going","beat","without"] ["table","puts","going","beat","without"] (aV xz):=⟨rfl,rfl,rfl,by decide +kernel,rfl,by decide +kernel,by decide +kernel⟩
theorem Iq:bA ["table","puts","going","beat","waits","chosen"] ["table","puts","going","beat"] (aV x6):=⟨rfl,rfl,rfl,by decide +kernel,rfl,by decide +kernel,by decide +kernel⟩
theorem Sd:bA ["_law_script","_law_k"] ["_law_script","_law_k"] (aV yj):=⟨rfl,rfl,rfl,by decide +kernel,rfl,by decide +kernel,by decide +kernel⟩
theorem SN:bA ["_law_found"] ["_law_found"] (aV xb):=⟨rfl,rfl,rfl,by decide +kernel,rfl,by decide +kernel,by decide +kernel⟩
theorem u4:bA ["_law_cell","_law_k","_law_number"] ["_law_cell","_law_k"] (aV xf):=⟨rfl,rfl,rfl,by decide +kernel,rfl,by decide +kernel,by decide +kernel⟩
theorem SO:bA ["_law_cell"] ["_law_cell"] (aV xg):=⟨rfl,rfl,rfl,by decide +kernel,rfl,by decide +kernel,by decide +kernel⟩
theorem qh:bA ["_law_cell","_law_slack_here","_law_near"] ["_law_cell","_law_slack_here"] (aV yr):=⟨rfl,rfl,rfl,by decide +kernel,rfl,by decide +kernel,by decide +kernel⟩
theorem SQ:bA ["_law_found","_law_due"] ["_law_found","_law_due"] (aV xh):=⟨rfl,rfl,rfl,by decide +kernel,rfl,by decide +kernel,by decide +kernel⟩
theorem vh:bA ["_law_one","_law_goal","_law_cell","_law_times","_law_slack_here","_law_behind","_law_steady","_law_before","_law_back"] ["_law_one","_law_goal","_law_cell","_law_times","_law_slack_here","_law_behind"] (aV yt):=⟨rfl,rfl,rfl,by decide +kernel,rfl,by decide +kernel,by decide +kernel⟩
theorem jg:bA ["_law_one","_law_cell","_law_slack_here","_law_when","_law_amount_here","_law_shift","_law_more"] ["_law_one","_law_cell","_law_slack_here","_law_when"] (aV x8):=⟨rfl,rfl,rfl,by decide +kernel,rfl,by decide +kernel,by decide +kernel⟩
theorem wc:bA ["_law_script","_law_cell","_law_many","_law_goal","_law_beat","_law_others","_law_times","_law_arrows_here","_law_puts","_law_due","_law_k","_law_one","_law_slack_here","_law_behind","_law_put_here","_law_more","_law_net","_law_table","_law_handed","_law_found"] ["_law_script"] (aV ju):=⟨rfl,rfl,rfl,by decide +kernel,rfl,by decide +kernel,by decide +kernel⟩
set_option genInjectivity false
set_option genSizeOf false
structure zC where
 c_Arrow:af
 c_Ride:af
 c_Wait:af
 c_Back:af
 c_Net:af
 c_Table:af
 f_Arrow___init:af
 d_Arrow___init:aF
 f_Ride___init:af
 d_Ride___init:aF
 f_Wait___init:af
 d_Wait___init:aF
 f_Back___init:af
 d_Back___init:aF
 f_is_letter:af
 d_is_letter:aF
 f_is_figure:af
 d_is_figure:aF
 f_is_name:af
 d_is_name:aF
 f_are_names:af
 d_are_names:aF
 f_lies_within:af
 d_lies_within:aF
 f_is_right:af
 d_is_right:aF
 f_placed_goings:af
 d_placed_goings:aF
 f_Net___init:af
 d_Net___init:aF
 f_Net_most_behind:af
 d_Net_most_behind:aF
 f_Net_into:af
 d_Net_into:aF
 f_Net_order:af
 d_Net_order:aF
 f_latest:af
 d_latest:aF
 f_greatest_told:af
 d_greatest_told:aF
 f_Table_slack:af
 d_Table_slack:aF
 f_Table___init:af
 d_Table___init:aF
 f_links_into:af
 d_links_into:aF
 f_lateness_in_last_row:af
 d_lateness_in_last_row:aF
 f_late:af
 d_late:aF
 f_Ride_may_drop:af
 d_Ride_may_drop:aF
 f_Wait_may_drop:af
 d_Wait_may_drop:aF
 f_Back_may_drop:af
 d_Back_may_drop:aF
 f_sets_of:af
 d_sets_of:aF
 f_is_late:af
 d_is_late:aF
 f_give_up:af
 d_give_up:aF
 f_law_cell_at:af
 d_law_cell_at:aF
 f_law_whole:af
 d_law_whole:aF
 f_law_mixed:af
 d_law_mixed:aF
 f_law_slack:af
 d_law_slack:aF
 f_law_amount:af
 d_law_amount:aF
 f_law_alike:af
 d_law_alike:aF
 f_law_arrows:af
 d_law_arrows:aF
 f_law_put:af
 d_law_put:aF
 f_law:af
 d_law:aF
set_option genSizeOf true
set_option genInjectivity true
def zC.ct (a:zC):Nat->af
 |0=>a.c_Arrow
 |1=>a.c_Ride
 |2=>a.c_Wait
 |3=>a.c_Back
 |4=>a.c_Net
 |5=>a.c_Table
 |_=>0
structure Txt (K:aa)(mg:aI->Option ae)(a:zC):Prop where
 Arrow:Dc K mg "Arrow" a.c_Arrow
 Ride:Dc K mg "Ride" a.c_Ride
 Wait:Dc K mg "Wait" a.c_Wait
 Back:Dc K mg "Back" a.c_Back
 Net:Dc K mg "Net" a.c_Net
 Table:Dc K mg "Table" a.c_Table
 Arrow___init:Dm K a.c_Arrow "__init__" "Arrow.__init__" ya ["self","start","goal","time","behind"] a.f_Arrow___init a.d_Arrow___init
 tq:Dm K a.c_Ride "__init__" "Ride.__init__" yo ["self","start","goal","time"] a.f_Ride___init a.d_Ride___init
 Wait___init:Dm K a.c_Wait "__init__" "Wait.__init__" zo ["self","start","goal","time","behind"] a.f_Wait___init a.d_Wait___init
 Wait___init_d1:∃lw,True/\bQ [(V.int 0)] lw/\bJ K a.d_Wait___init ["self","start","goal","time","behind"] lw
 Back___init:Dm K a.c_Back "__init__" "Back.__init__" zp ["self","start","goal","time","behind"] a.f_Back___init a.d_Back___init
 Back___init_d1:∃lw,True/\bQ [(V.int 1)] lw/\bJ K a.d_Back___init ["self","start","goal","time","behind"] lw
 is_letter:kR K mg "is_letter" y0 ["sign"] a.f_is_letter a.d_is_letter
 is_figure:kR K mg "is_figure" y6 ["sign"] a.f_is_figure a.d_is_figure
 is_name:kR K mg "is_name" xx ["word"] a.f_is_name a.d_is_name
 are_names:kR K mg "are_names" y8 ["names"] a.f_are_names a.d_are_names
 lies_within:kR K mg "lies_within" yg ["number","least","most"] a.f_lies_within a.d_lies_within
 is_right:kR K mg "is_right" xn ["arrow","many"] a.f_is_right a.d_is_right
 placed_goings:kR K mg "placed_goings" zq ["many","arrows"] a.f_placed_goings a.d_placed_goings
 Net___init:Dm K a.c_Net "__init__" "Net.__init__" yp ["self","names","arrows"] a.f_Net___init a.d_Net___init
 Net_most_behind:Dm K a.c_Net "most_behind" "Net.most_behind" zm ["self"] a.f_Net_most_behind a.d_Net_most_behind
 Net_into:Dm K a.c_Net "into" "Net.into" xo ["self","going"] a.f_Net_into a.d_Net_into
 Net_order:Dm K a.c_Net "order" "Net.order" y9 ["self"] a.f_Net_order a.d_Net_order
 latest:kR K mg "latest" wg ["one","other"] a.f_latest a.d_latest
 greatest_told:kR K mg "greatest_told" zt ["told"] a.f_greatest_told a.d_greatest_told
 Table_slack:Dm K a.c_Table "slack" "Table.slack" yh ["self","arrow"] a.f_Table_slack a.d_Table_slack
 Table___init:Dm K a.c_Table "__init__" "Table.__init__" yb ["self","net","times","beat"] a.f_Table___init a.d_Table___init
 links_into:kR K mg "links_into" yq ["table","going","left_out"] a.f_links_into a.d_links_into
 lateness_in_last_row:kR K mg "lateness_in_last_row" zh ["rows","links","put"] a.f_lateness_in_last_row a.d_lateness_in_last_row
 late:kR K mg "late" vt ["table","rounds","puts","without"] a.f_late a.d_late
 late_d1:∃lw,True/\bQ [V.non] lw/\bJ K a.d_late ["table","rounds","puts","without"] lw
 Ride_may_drop:Dm K a.c_Ride "may_drop" "Ride.may_drop" zu ["self"] a.f_Ride_may_drop a.d_Ride_may_drop
 Wait_may_drop:Dm K a.c_Wait "may_drop" "Wait.may_drop" zw ["self"] a.f_Wait_may_drop a.d_Wait_may_drop
 Back_may_drop:Dm K a.c_Back "may_drop" "Back.may_drop" zx ["self"] a.f_Back_may_drop a.d_Back_may_drop
 sets_of:kR K mg "sets_of" xy ["waits"] a.f_sets_of a.d_sets_of
 is_late:kR K mg "is_late" xz ["table","puts","going","beat","without"] a.f_is_late a.d_is_late
 give_up:kR K mg "give_up" x6 ["table","puts","going","beat"] a.f_give_up a.d_give_up
 law_cell_at:kR K mg "_law_cell_at" yj ["_law_script","_law_k"] a.f_law_cell_at a.d_law_cell_at
 law_whole:kR K mg "_law_whole" xb ["_law_found"] a.f_law_whole a.d_law_whole
 law_mixed:kR K mg "_law_mixed" xf ["_law_cell","_law_k"] a.f_law_mixed a.d_law_mixed
 law_slack:kR K mg "_law_slack" xg ["_law_cell"] a.f_law_slack a.d_law_slack
 law_amount:kR K mg "_law_amount" yr ["_law_cell","_law_slack_here"] a.f_law_amount a.d_law_amount
 law_alike:kR K mg "_law_alike" xh ["_law_found","_law_due"] a.f_law_alike a.d_law_alike
 law_arrows:kR K mg "_law_arrows" yt ["_law_one","_law_goal","_law_cell","_law_times","_law_slack_here","_law_behind"] a.f_law_arrows a.d_law_arrows
 law_put:kR K mg "_law_put" x8 ["_law_one","_law_cell","_law_slack_here","_law_when"] a.f_law_put a.d_law_put
 law:kR K mg "law" ju ["_law_script"] a.f_law a.d_law
 q_Arrow:Dq K a.c_Arrow "__init__" a.f_Arrow___init
 fld_arrows:∀c∈([4]:List Nat),kB K (a.ct c)/\el K (a.ct c) "arrows"
 fld_beat:∀c∈([5]:List Nat),kB K (a.ct c)/\el K (a.ct c) "beat"
 fld_behind:∀c∈([0,1,2,3]:List Nat),kB K (a.ct c)/\el K (a.ct c) "behind"
 fld_goal:∀c∈([0,1,2,3]:List Nat),kB K (a.ct c)/\el K (a.ct c) "goal"
 fld_names:∀c∈([4]:List Nat),kB K (a.ct c)/\el K (a.ct c) "names"
 fld_net:∀c∈([5]:List Nat),kB K (a.ct c)/\el K (a.ct c) "net"
 fld_start:∀c∈([0,1,2,3]:List Nat),kB K (a.ct c)/\el K (a.ct c) "start"
 fld_time:∀c∈([0,1,2,3]:List Nat),kB K (a.ct c)/\el K (a.ct c) "time"
 fld_times:∀c∈([5]:List Nat),kB K (a.ct c)/\el K (a.ct c) "times"
 isi_Back:∀c∈([0,1,2,3,4,5]:List Nat),Ic K (a.ct c)/\bv K (.ref (a.ct c)) (.ref a.c_Back)=some (sV [3] c)
 isi_Ride:∀c∈([0,1,2,3,4,5]:List Nat),Ic K (a.ct c)/\bv K (.ref (a.ct c)) (.ref a.c_Ride)=some (sV [1] c)
 b_all:mg "all"=none
 b_bool:mg "bool"=none
 b_enumerate:mg "enumerate"=none
 b_int:mg "int"=none
 b_isinstance:mg "isinstance"=none
 b_len:mg "len"=none
 b_list:mg "list"=none
 b_max:mg "max"=none
 b_range:mg "range"=none
 b_sorted:mg "sorted"=none
 b_str:mg "str"=none
 g_MOST_ARROWS:∃t,mg "MOST_ARROWS"=some (.int 120 t)
 g_MOST_BEHIND:∃t,mg "MOST_BEHIND"=some (.int 4 t)
 g_MOST_NAMES:∃t,mg "MOST_NAMES"=some (.int 40 t)
 g_MOST_SIGNS:∃t,mg "MOST_SIGNS"=some (.int 8 t)
 g_MOST_TIME:∃t,mg "MOST_TIME"=some (.int 1000000000 t)
 g_MOST_WAITS:∃t,mg "MOST_WAITS"=some (.int 8 t)
noncomputable section
variable {P:aX}{w:bz}{K:aa}{mg:aI->Option ae}{base:aS}{a:zC}{ct:Nat->af}
def v9:Nat->List D->Option D:=tP ["self","start","goal","time","behind"]
  (sSeq (gj [0,1,2,3] "start" (eV 1))
  (sSeq (gj [0,1,2,3] "goal" (eV 2))
  (sSeq (gj [0,1,2,3] "time" (eV 3))
  (gj [0,1,2,3] "behind" (eV 4)))))
theorem u5 (T:Txt K mg a):cH P w K mg base eF 1 a.f_Arrow___init a.d_Arrow___init ["self","start","goal","time","behind"] (qG K a.ct [0,1,2,3] [0,0,0,0] v9):=by
 refine u0 (ms:=[.ow 0,.ow 0,.ow 0,.ow 0]) (rk:=0) T.Arrow___init.fn Sj rfl rfl (by decide) (v4 (by decide)) λx0 gz A outer s H E hr=>?_
 exact(ze (qd T.fld_start (za 1 0))
  (ze (qd T.fld_goal (za 2 0))
  (ze (qd T.fld_time (za 3 0))
  (zf (qd T.fld_behind (za 4 0))))))
def uh:Nat->List D->Option D:=tP ["self","start","goal","time","behind"]
  (oB [0,1,2,3] (aCons (eV 1) (aCons (eV 2) (aCons (eV 3) (aCons (eV 4) aNil)))) v9)
theorem Se (T:Txt K mg a):cH P w K mg base eF 2 a.f_Wait___init a.d_Wait___init ["self","start","goal","time","behind"] (qG K a.ct [2] [0,0,0,0] uh):=by
 have fY:=u5 (P:=P) (w:=w) (base:=base) T
 refine u0 (ms:=[.ow 0,.ow 0,.ow 0,.ow 0]) (rk:=0) T.Wait___init.fn R9 rfl rfl (by decide) (v4 (by decide)) λx0 gz A outer s H E hr=>?_
 exact(zf (M4 (ns:=[0,0,0,0]) fY (hr.mono (by decide)) T.Arrow.mgx T.q_Arrow.sp T.q_Arrow.rd T.q_Arrow.fc T.Arrow___init.fn.kp T.Arrow___init.bd (by decide) (zc (za 1 0) (zc (za 2 0) (zc (za 3 0) (zc (za 4 0) zg))))))
def ui:Nat->List D->Option D:=tP ["self","start","goal","time","behind"]
  (oB [0,1,2,3] (aCons (eV 1) (aCons (eV 2) (aCons (eV 3) (aCons (eV 4) aNil)))) v9)
theorem Sf (T:Txt K mg a):cH P w K mg base eF 2 a.f_Back___init a.d_Back___init ["self","start","goal","time","behind"] (qG K a.ct [3] [0,0,0,0] ui):=by
 have fY:=u5 (P:=P) (w:=w) (base:=base) T
 refine u0 (ms:=[.ow 0,.ow 0,.ow 0,.ow 0]) (rk:=0) T.Back___init.fn Sa rfl rfl (by decide) (v4 (by decide)) λx0 gz A outer s H E hr=>?_
 exact(zf (M4 (ns:=[0,0,0,0]) fY (hr.mono (by decide)) T.Arrow.mgx T.q_Arrow.sp T.q_Arrow.rd T.q_Arrow.fc T.Arrow___init.fn.kp T.Arrow___init.bd (by decide) (zc (za 1 0) (zc (za 2 0) (zc (za 3 0) (zc (za 4 0) zg))))))
def jw:List D->Option D:=mOf ["sign"]
  (sRet (eB (bAnd (tb (e2 tT (eC (.str "a")) (eV 0))) (tb (e2 tT (eV 0) (eC (.str "z")))))))
theorem SR (T:Txt K mg a):cH P w K mg base eF 1 a.f_is_letter a.d_is_letter ["sign"] (gL K a.ct [0] 0 jw):=by
 refine jN (ms:=[.ow 0]) T.is_letter.fn SK λ_ _ _ _ _ _ hr=>?_
 exact(zf (yn (XE.ow (yV (jo (k:=0) yW qv (DM (n:=0)) (za 0 0) (bX _)) (xU (k:=0) (jo (k:=0) yW qv (za 0 0) (DM (n:=0)) (bX _)))))))
def Lv:List D->Option D:=mOf ["sign"]
  (sRet (eB (bAnd (tb (e2 tT (eC (.str "0")) (eV 0))) (tb (e2 tT (eV 0) (eC (.str "9")))))))
theorem Sv (T:Txt K mg a):cH P w K mg base eF 1 a.f_is_figure a.d_is_figure ["sign"] (gL K a.ct [0] 0 Lv):=by
 refine jN (ms:=[.ow 0]) T.is_figure.fn SM λ_ _ _ _ _ _ hr=>?_
 exact(zf (yn (XE.ow (yV (jo (k:=0) yW qv (DM (n:=0)) (za 0 0) (bX _)) (xU (k:=0) (jo (k:=0) yW qv (za 0 0) (DM (n:=0)) (bX _)))))))
def S8:EF:=(eG (λρ=>((eV 0) ρ).bind JO) 1 [] (gV 0) iF (eB (bOr (tb (λρ=>((aCons (eV 0) aNil) ρ).bind λds=>jw (ds++[]))) (tb (λρ=>((aCons (eV 0) aNil) ρ).bind λds=>Lv (ds++[]))))))
def LN:List D->Option D:=mOf ["word"]
  (sSeq (sIf (bOr (bNot (tb (e1 (lA "str") (eV 0)))) (bOr (tb (e2 qC (eN fV (aCons (eV 0) aNil)) (eC (.int 1)))) (tb (e2 pI (eN fV (aCons (eV 0) aNil)) (eC (.int 8)))))) (sRet (eC (.bl false))) sSkip)
  (sRet (eB (bAnd (tb (λρ=>((aCons (e2 eZ (eV 0) (eC (.int 0))) aNil) ρ).bind λds=>jw (ds++[]))) (tb (eN qK (aCons S8 aNil)))))))
theorem Tz (T:Txt K mg a):cH P w K mg base eF 2 a.f_is_name a.d_is_name ["word"] (gL K a.ct [0] 0 LN):=by
 have kC:=SR (P:=P) (w:=w) (base:=base) T
 have nq:=Sv (P:=P) (w:=w) (base:=base) T
 refine jN (ms:=[.ow 0]) T.is_name.fn Tw λ_ _ _ _ _ _ hr=>?_
 exact(ze (wt (XW.t (rR (uu (wq (xW (k:=0) (by decide) T.b_isinstance T.b_str W2 (za 0 0)))) (rR (xm (k:=0) xZ xV (oI T.b_len (zc (za 0 0) zg)) cK (bX _)) (t9 (xm (k:=0) uE uB (oI T.b_len (zc (za 0 0) zg)) (qx (n:=0) (d:=(.int 8)) rfl T.g_MOST_SIGNS.choose_spec rfl ⟨_,rfl⟩) (bX _)))))) (zf (yn (XE.ow (qr (n:=0))))) yx)
  (zf (yn (XE.ow (yV (XO.sh (n:=0) (eo T.is_letter kC hr (zc (oH (za 0 0) cK) zg))) (xU (k:=0) (v3 (k:=0) (L0 rfl) M3 rfl T.b_all Nh (zc (XO.sh (n:=0) (zB (N:=["sign"]) (om:=[.ow 0]) (cap:=[]) (own:=1) (XI.cc (X4 (n:=0) (za 0 0))) (λ_ _ _ _ _=>(o7 (show cT (["sign"]:List aI)from by decide +kernel))) (λ_ _ _ _ _=>ux) (λ_ _ _ _ _=>(XE.ow (YI (XO.sh (n:=0) (eo T.is_letter kC hr (zc (za 0 0) zg))) (xU (k:=0) (XO.sh (n:=0) (eo T.is_figure nq hr (zc (za 0 0) zg))))))))) zg))))))))
def Sn:SF:=(sSeq (sIf (bOr (bNot (tb (λρ=>((aCons (eV 2) aNil) ρ).bind λds=>LN (ds++[])))) (tb (λρ=>((eV 2) ρ).bind λx=>((eV 1) ρ).bind λy=>(jV y x).bind λr=>some (.bl r.isSome)))) (sRet (eC (.bl false))) sSkip)
  (oY 1 (eV 2) (eC (.bl true))))
def uj:List D->Option D:=mOf ["names","seen","name"]
  (sSeq (sIf (bOr (bNot (tb (e1 (lA "list") (eV 0)))) (bOr (tb (e2 qC (eN fV (aCons (eV 0) aNil)) (eC (.int 1)))) (tb (e2 pI (eN fV (aCons (eV 0) aNil)) (eC (.int 40)))))) (sRet (eC (.bl false))) sSkip)
  (sSeq (sSet 1 (eC (.dK [] [])))
  (sSeq (sFor (lsD (eV 0)) (gV 2) Sn)
  (sRet (eC (.bl true))))))
theorem Sw (T:Txt K mg a):cH P w K mg base eF 3 a.f_are_names a.d_are_names ["names"] (gL K a.ct [0] 0 uj):=by
 have pD:=Tz (P:=P) (w:=w) (base:=base) T
 refine jN (ms:=[.ow 0,.ow 1,.ow 0]) T.are_names.fn u2 λ_ _ _ _ _ _ hr=>?_
 exact(ze (wt (XW.t (rR (uu (wq (xW (k:=0) (by decide) T.b_isinstance T.b_list ql (za 0 0)))) (rR (xm (k:=0) xZ xV (oI T.b_len (zc (za 0 0) zg)) cK (bX _)) (t9 (xm (k:=0) uE uB (oI T.b_len (zc (za 0 0) zg)) (qx (n:=0) (d:=(.int 40)) rfl T.g_MOST_NAMES.choose_spec rfl ⟨_,rfl⟩) (bX _)))))) (zf (yn (XE.ow (qr (n:=0))))) yx)
  (ze (gI u2.nd UY)
  (ze (uv (uz (za 0 0)) (mS u2.nd) (ze (wt (XW.t (rR (uu (wq (XO.sh (n:=0) (eo T.is_name pD hr (zc (za 2 0) zg))))) (t9 (X5 (DP hr) (za 2 0) (za 1 1) (by with_unfolding_all rfl))))) (zf (yn (XE.ow (qr (n:=0))))) yx)
  (zf (M5 1 rfl (DP hr) (za 2 0) (qr (n:=0))))) cM.never rfl)
  (zf (yn (XE.ow (qr (n:=0))))))))
def ye:List D->Option D:=mOf ["number","least","most"]
  (sSeq (sIf (bOr (bNot (tb (e1 (lA "int") (eV 0)))) (tb (e1 (lA "bool") (eV 0)))) (sRet (eC (.bl false))) sSkip)
  (sRet (eB (bAnd (tb (e2 tT (eV 1) (eV 0))) (tb (e2 tT (eV 0) (eV 2)))))))
theorem Sg (T:Txt K mg a):cH P w K mg base eF 1 a.f_lies_within a.d_lies_within ["number","least","most"] (gL K a.ct [0,0,0] 0 ye):=by
 refine jN (ms:=[.ow 0,.ow 0,.ow 0]) T.lies_within.fn Sb λ_ _ _ _ _ _ hr=>?_
 exact(ze (wt (XW.t (rR (uu (wq (xW (k:=0) (by decide) T.b_isinstance T.b_int Nv (za 0 0)))) (t9 (wq (xW (k:=0) (by decide) T.b_isinstance T.b_bool MJ (za 0 0)))))) (zf (yn (XE.ow (qr (n:=0))))) yx)
  (zf (yn (XE.ow (yV (jo (k:=0) yW qv (za 1 0) (za 0 0) (bX _)) (xU (k:=0) (jo (k:=0) yW qv (za 0 0) (za 2 0) (bX _))))))))
def jh:List D->Option D:=mOf ["arrow","many","least","most"]
  (sSeq (sSet 2 (eIf (tb (e1 (qY [0,1,2,3,4,5] [3]) (eV 0))) (eC (.int 1)) (eC (.int 0))))
  (sSeq (sSet 3 (eIf (tb (e1 (qY [0,1,2,3,4,5] [1]) (eV 0))) (eC (.int 0)) (eC (.int 4))))
  (sSeq (sIf (bOr (bNot (tb (λρ=>((aCons (e1 (cE [0,1,2,3] "start") (eV 0)) (aCons (eC (.int 0)) (aCons (e2 gN (eV 1) (eC (.int 1))) aNil))) ρ).bind λds=>ye (ds++[])))) (bNot (tb (λρ=>((aCons (e1 (cE [0,1,2,3] "goal") (eV 0)) (aCons (eC (.int 0)) (aCons (e2 gN (eV 1) (eC (.int 1))) aNil))) ρ).bind λds=>ye (ds++[]))))) (sRet (eC (.bl false))) sSkip)
  (sRet (eB (bAnd (tb (λρ=>((aCons (e1 (cE [0,1,2,3] "time") (eV 0)) (aCons (eC (.int 0)) (aCons (eC (.int 1000000000)) aNil))) ρ).bind λds=>ye (ds++[]))) (tb (λρ=>((aCons (e1 (cE [0,1,2,3] "behind") (eV 0)) (aCons (eV 2) (aCons (eV 3) aNil))) ρ).bind λds=>ye (ds++[])))))))))
theorem S9 (T:Txt K mg a):cH P w K mg base eF 2 a.f_is_right a.d_is_right ["arrow","many"] (gL K a.ct [0,0] 0 jh):=by
 have fE:=Sg (P:=P) (w:=w) (base:=base) T
 refine jN (ms:=[.ow 0,.ow 0,.ow 0,.ow 0]) T.is_right.fn jv λ_ _ _ _ _ _ hr=>?_
 exact(ze (gI jv.nd (XE.ow (Jx (wq (ML (k:=0) T.isi_Back T.b_isinstance T.Back.mgx (za 0 0))) cK cK)))
  (ze (gI jv.nd (XE.ow (Jx (wq (ML (k:=0) T.isi_Ride T.b_isinstance T.Ride.mgx (za 0 0))) cK (qx (n:=0) (d:=(.int 4)) rfl T.g_MOST_BEHIND.choose_spec rfl ⟨_,rfl⟩))))
  (ze (wt (XW.t (rR (uu (wq (XO.sh (n:=0) (eo T.lies_within fE hr (zc (yu (n:=0) (za 0 0) T.fld_start rfl) (zc cK (zc (zy (k:=0) vm wj (za 1 0) cK) zg))))))) (t9 (uu (wq (XO.sh (n:=0) (eo T.lies_within fE hr (zc (yu (n:=0) (za 0 0) T.fld_goal rfl) (zc cK (zc (zy (k:=0) vm wj (za 1 0) cK) zg)))))))))) (zf (yn (XE.ow (qr (n:=0))))) yx)
  (zf (yn (XE.ow (yV (XO.sh (n:=0) (eo T.lies_within fE hr (zc (yu (n:=0) (za 0 0) T.fld_time rfl) (zc cK (zc (qx (n:=0) (d:=(.int 1000000000)) rfl T.g_MOST_TIME.choose_spec rfl ⟨_,rfl⟩) zg))))) (xU (k:=0) (XO.sh (n:=0) (eo T.lies_within fE hr (zc (yu (n:=0) (za 0 0) T.fld_behind rfl) (zc (za 2 0) (zc (za 3 0) zg)))))))))))))
def xq:SF:=(sIf (tb (e2 (lU false) (e1 (cE [0,1,2,3] "start") (eV 4)) (eV 7))) (sSeq (nH 3 (e1 (cE [0,1,2,3] "goal") (eV 4)) (λi j=>i-j) (eC (.int 1)))
  (sIf (tb (e2 (lU false) (e2 eZ (eV 3) (e1 (cE [0,1,2,3] "goal") (eV 4))) (eC (.int 0)))) (sApp 5 (e1 (cE [0,1,2,3] "goal") (eV 4))) sSkip)) sSkip)
def wv:SF:=(sSeq (sSet 7 (e2 eZ (eV 5) (eV 6)))
  (sSeq (sFor (lsD (eV 2)) (gV 4) xq)
  (xJ 6 (i2 λi j=>.int (i+j)) (eC (.int 1)))))
def ub:EF:=(eG (λρ=>((aCons (eV 0) aNil) ρ).bind ie) 1 [3] (gV 0) (tb (e2 (lU false) (e2 eZ (eV 1) (eV 0)) (eC (.int 0)))) (eV 0))
def ww:SF:=(nH 3 (e1 (cE [0,1,2,3] "goal") (eV 4)) (λi j=>i+j) (eC (.int 1)))
def uc:EF:=(eG (lsD (eV 1)) 1 [] (gV 0) (tb (e2 (lU false) (e1 (cE [0,1,2,3] "behind") (eV 0)) (eC (.int 0)))) (eV 0))
def xr:List D->Option D:=mOf ["many","arrows","within","waited","arrow","placed","done","here"]
  (sSeq (sSet 2 uc)
  (sSeq (sSet 3 (e2 lF (λρ=>((aCons (eC (.int 0)) aNil) ρ).bind λds=>some (.lst ds)) (eV 0)))
  (sSeq (sFor (lsD (eV 2)) (gV 4) ww)
  (sSeq (sSet 5 ub)
  (sSeq (sSet 6 (eC (.int 0)))
  (sSeq (oE (tb (e2 qC (eV 6) (eN fV (aCons (eV 5) aNil)))) wv)
  (sRet (eV 5))))))))
theorem uw (T:Txt K mg a):cH P w K mg base eF 1 a.f_placed_goings a.d_placed_goings ["many","arrows"] (gL K a.ct [0,0] 0 xr):=by
 refine jN (ms:=[.ow 0,.ow 0,.ow 0,.ow 1,.ow 0,.ow 1,.ow 0,.ow 0]) T.placed_goings.fn yk λ_ _ _ _ _ _ hr=>?_
 exact(ze (wu (k:=0) (N:=["arrow"]) (om:=[.ow 0]) (cap:=[]) (own:=1) rfl yk.nd rfl (Or.inl rfl) (uC (by rfl)) rfl rfl (by decide) (E7 (n:=0) (za 1 0)) (λ_ _ _ _ _=>(o7 (show cT (["arrow"]:List aI)from by decide +kernel))) (λ_ _ _ _ _=>(DE (xm (k:=0) (t8 hr.u64) jp (yu (n:=0) (za 0 0) T.fld_behind rfl) cK (bX _)))) (λ_ _ _ _ _=>(XE.ow (za 0 0))))
  (ze (gI yk.nd (Jr (ve (k:=0) (zl (XE.ow cK) xj)) (za 0 0)))
  (ze (uv (uz (za 2 0)) (mS yk.nd) (zf (M6 3 Nn rfl (yu (n:=0) (za 4 0) T.fld_goal rfl) cK)) cM.never rfl)
  (ze (wu (k:=1) (N:=["going","waited"]) (om:=[.ow 0]) (cap:=[3]) (own:=1) rfl yk.nd rfl (Or.inl rfl) (uC (by rfl)) rfl rfl (by decide) (XI.cc (wm (n:=0) T.b_range (zc (za 0 0) zg))) (λ_ _ _ _ _=>(o7 (show cT (["going","waited"]:List aI)from by decide +kernel))) (λ_ _ _ _ _=>(DE (xm (k:=0) (t8 hr.u64) jp (sT (n:=1) j0 j7 (za 1 1) (za 0 0) (λ_ _=>rfl)) cK (bX _)))) (λ_ _ _ _ _=>(XE.ow (za 0 0))))
  (ze (gI yk.nd (XE.ow cK))
  (ze (U0 (xm (k:=0) xZ xV (za 6 0) (oI T.b_len (zc (za 5 1) zg)) (bX _)) (ze (gI yk.nd (XE.ow (sT (n:=1) j0 j7 (za 5 1) (za 6 0) (λ_ _=>rfl))))
  (ze (uv (uz (za 2 0)) (mS yk.nd) (zf (wt (xm (k:=0) (t8 hr.u64) jp (yu (n:=0) (za 4 0) T.fld_start rfl) (za 7 0) (bX _)) (ze (M6 3 Xf rfl (yu (n:=0) (za 4 0) T.fld_goal rfl) cK)
  (zf (wt (xm (k:=0) (t8 hr.u64) jp (sT (n:=1) j0 j7 (za 3 1) (yu (n:=0) (za 4 0) T.fld_goal rfl) (λ_ _=>rfl)) cK (bX _)) (zf (vq 5 rfl (XE.ow (yu (n:=0) (za 4 0) T.fld_goal rfl)))) yx))) yx)) cM.never rfl)
  (zf (X0 Nn rfl yk.nd rfl (Or.inl rfl) cK)))) cM.never)
  (zf (Jj (i:=5) rfl))))))))
def ua:SF:=(sIf (bNot (tb (λρ=>((aCons (eV 4) (aCons (eN fV (aCons (eV 1) aNil)) aNil)) ρ).bind λds=>jh (ds++[])))) kl sSkip)
def v5:Nat->List D->Option D:=tP ["self","names","arrows","number","arrow","placed"]
  (sSeq (sIf (bOr (bNot (tb (λρ=>((aCons (eV 1) aNil) ρ).bind λds=>uj (ds++[])))) (tb (e2 pI (eN fV (aCons (eV 2) aNil)) (eC (.int 120))))) kl sSkip)
  (sSeq (sFor (λρ=>((aCons (eV 2) aNil) ρ).bind λds=>match ds with|[.lst xs]=>some (eu 0 xs)|_=>none) (gT (gsCons (gV 3) (gsCons (gV 4) gsNil))) ua)
  (sSeq (sSet 5 (λρ=>((aCons (eN fV (aCons (eV 1) aNil)) (aCons (eV 2) aNil)) ρ).bind λds=>xr (ds++[])))
  (sSeq (sIf (tb (e2 qC (eN fV (aCons (eV 5) aNil)) (eN fV (aCons (eV 1) aNil)))) kl sSkip)
  (sSeq (gj [4] "names" (eN jC (aCons (eV 1) aNil)))
  (gj [4] "arrows" (eN jC (aCons (eV 2) aNil))))))))
theorem So (T:Txt K mg a):cH P w K mg base eF 4 a.f_Net___init a.d_Net___init ["self","names","arrows"] (qG K a.ct [4] [0,0] v5):=by
 have nk:=Sw (P:=P) (w:=w) (base:=base) T
 have n9:=S9 (P:=P) (w:=w) (base:=base) T
 have fM:=uw (P:=P) (w:=w) (base:=base) T
 refine u0 (ms:=[.ow 0,.ow 0,.ow 0,.ow 0,.ow 0]) (rk:=0) T.Net___init.fn vf rfl rfl (by decide) (v4 (by decide)) λx0 gz A outer s H E hr=>?_
 exact(ze (wt (XW.t (rR (uu (wq (XO.sh (n:=0) (eo T.are_names nk hr (zc (za 1 0) zg))))) (t9 (xm (k:=0) uE uB (oI T.b_len (zc (za 2 0) zg)) (qx (n:=0) (d:=(.int 120)) rfl T.g_MOST_ARROWS.choose_spec rfl ⟨_,rfl⟩) (bX _))))) (zf j6) yx)
  (ze (uv (Wp T.b_enumerate (zc (za 2 0) zg)) (Fx (n:=1) rfl (w6 (mS vf.nd) (w6 (mS vf.nd) Fa))) (zf (wt (uu (wq (XO.sh (n:=0) (eo T.is_right n9 hr (zc (za 4 0) (zc (oI T.b_len (zc (za 1 0) zg)) zg)))))) (zf j6) yx)) cM.never rfl)
  (ze (gI vf.nd (eo T.placed_goings fM hr (zc (oI T.b_len (zc (za 1 0) zg)) (zc (za 2 0) zg))))
  (ze (wt (xm (k:=0) xZ xV (oI T.b_len (zc (za 5 0) zg)) (oI T.b_len (zc (za 1 0) zg)) (bX _)) (zf j6) yx)
  (ze (qd T.fld_names (XO.sh (n:=0) (j4 vx (E8 (n:=0) (by decide)) rfl T.b_list ql (zc (za 1 0) zg))))
  (zf (qd T.fld_arrows (XO.sh (n:=0) (j4 vx (E8 (n:=0) (by decide)) rfl T.b_list ql (zc (za 2 0) zg))))))))))
def vv:EF:=(eG (lsD (e1 (cE [4] "arrows") (eV 0))) 1 [] (gV 0) iF (e1 (cE [0,1,2,3] "behind") (eV 0)))
def xt:List D->Option D:=mOf ["self"]
  (sRet (eN sy (aCons (e2 dZ (λρ=>((aCons (eC (.int 1)) aNil) ρ).bind λds=>some (.lst ds)) vv) aNil)))
theorem qj (T:Txt K mg a):cH P w K mg base eF 1 a.f_Net_most_behind a.d_Net_most_behind ["self"] (gL K a.ct [0] 0 xt):=by
 refine jN (ms:=[.ow 0]) T.Net_most_behind.fn qf λ_ _ _ _ _ _ hr=>?_
 exact(zf (yn (XE.ow (v3 (k:=0) (Ui rfl) WB rfl T.b_max DL (zc (XO.sh (n:=0) (lH (XO.sh (n:=0) (ve (k:=0) (zl (XE.ow cK) xj))) (XO.sh (n:=0) (zB (N:=["arrow"]) (om:=[.ow 0]) (cap:=[]) (own:=1) (E7 (n:=0) (yu (n:=0) (za 0 0) T.fld_arrows rfl)) (λ_ _ _ _ _=>(o7 (show cT (["arrow"]:List aI)from by decide +kernel))) (λ_ _ _ _ _=>ux) (λ_ _ _ _ _=>(XE.ow (yu (n:=0) (za 0 0) T.fld_behind rfl))))))) zg)))))
def u6:EF:=(eG (λρ=>((aCons (e1 (cE [4] "arrows") (eV 0)) aNil) ρ).bind λds=>match ds with|[.lst xs]=>some (eu 0 xs)|_=>none) 2 [1] (gT (gsCons (gV 0) (gsCons (gV 1) gsNil))) (tb (e2 (lU false) (e1 (cE [0,1,2,3] "goal") (eV 1)) (eV 2))) (eV 0))
def ud:List D->Option D:=mOf ["self","going"]
  (sRet u6)
theorem Ta (T:Txt K mg a):cH P w K mg base eF 1 a.f_Net_into a.d_Net_into ["self","going"] (gL K a.ct [0,0] 0 ud):=by
 refine jN (ms:=[.ow 0,.ow 0]) T.Net_into.fn S7 λ_ _ _ _ _ _ hr=>?_
 exact(zf (yn (nw (zB (N:=["number","arrow","going"]) (om:=[.ow 0,.ow 0]) (cap:=[1]) (own:=2) (Mp (n:=0) T.b_enumerate (zc (yu (n:=0) (za 0 0) T.fld_arrows rfl) zg)) (λ_ _ _ _ _=>(MW (n:=1) rfl (j8 (o7 (show cT (["number","arrow","going"]:List aI)from by decide +kernel)) (j8 (o7 (show cT (["number","arrow","going"]:List aI)from by decide +kernel)) Ml)))) (λ_ _ _ _ _=>(DE (xm (k:=0) (t8 hr.u64) jp (yu (n:=0) (za 1 0) T.fld_goal rfl) (za 2 0) (bX _)))) (λ_ _ _ _ _=>(XE.ow (za 0 0)))))))
def uk:List D->Option D:=mOf ["self"]
  (sRet (λρ=>((aCons (eN fV (aCons (e1 (cE [4] "names") (eV 0)) aNil)) (aCons (e1 (cE [4] "arrows") (eV 0)) aNil)) ρ).bind λds=>xr (ds++[])))
theorem Sx (T:Txt K mg a):cH P w K mg base eF 2 a.f_Net_order a.d_Net_order ["self"] (gL K a.ct [0] 0 uk):=by
 have fM:=uw (P:=P) (w:=w) (base:=base) T
 refine jN (ms:=[.ow 0]) T.Net_order.fn zev λ_ _ _ _ _ _ hr=>?_
 exact(zf (yn (eo T.placed_goings fM hr (zc (oI T.b_len (zc (yu (n:=0) (za 0 0) T.fld_names rfl) zg)) (zc (yu (n:=0) (za 0 0) T.fld_arrows rfl) zg)))))
def EX:List D->Option D:=mOf ["one","other"]
  (sSeq (sIf (tb (e2 (oX false) (eV 0) (eC .non))) (sRet (eV 1)) sSkip)
  (sSeq (sIf (tb (e2 (oX false) (eV 1) (eC .non))) (sRet (eV 0)) sSkip)
  (sRet (eN kG (aCons (eV 0) (aCons (eV 1) aNil))))))
theorem Uc (T:Txt K mg a):cH P w K mg base eF 1 a.f_latest a.d_latest ["one","other"] (gL K a.ct [0,0] 0 EX):=by
 refine jN (ms:=[.ow 0,.ow 0]) T.latest.fn Ub λ_ _ _ _ _ _ hr=>?_
 exact(ze (wt (xm (k:=0) DS DN (za 0 0) rE (bX _)) (zf (yn (XE.ow (za 1 0)))) yx)
  (ze (wt (xm (k:=0) DS DN (za 1 0) rE (bX _)) (zf (yn (XE.ow (za 0 0)))) yx)
  (zf (yn (XE.ow (v3 (k:=0) (jz rfl) E9 rfl T.b_max DL (zc (za 0 0) (zc (za 1 0) zg))))))))
def wx:SF:=(oY 1 (λρ=>((aCons (eV 2) (aCons (eV 3) aNil)) ρ).bind λds=>some (.tup ds)) (λρ=>((aCons (λρ=>((eV 1) ρ).bind λx=>((λρ=>((aCons (eV 2) (aCons (eV 3) aNil)) ρ).bind λds=>some (.tup ds)) ρ).bind λy=>(jV x y).bind λr=>some (r.getD .non)) (aCons (eV 4) aNil)) ρ).bind λds=>EX (ds++[])))
def wp:List D->Option D:=mOf ["told","greatest","going","number","amount"]
  (sSeq (sSet 1 (eC (.dT [] [])))
  (sSeq (sFor (lsD (eV 0)) (gT (gsCons (gV 2) (gsCons (gV 3) (gsCons (gV 4) gsNil)))) wx)
  (sRet (eV 1))))
theorem R5 (T:Txt K mg a):cH P w K mg base eF 2 a.f_greatest_told a.d_greatest_told ["told"] (gL K a.ct [0] 0 wp):=by
 have qF:=Uc (P:=P) (w:=w) (base:=base) T
 refine jN (ms:=[.ow 0,.ow 1,.ow 0,.ow 0,.ow 0]) T.greatest_told.fn x9 λ_ _ _ _ _ _ hr=>?_
 exact(ze (gI x9.nd UZ)
  (ze (uv (uz (za 0 0)) (Fx (n:=0) rfl (w6 (mS x9.nd) (w6 (mS x9.nd) (w6 (mS x9.nd) Fa)))) (zf (M5 1 rfl (DP hr) (XO.sh (n:=0) (uA (zl (XE.ow (za 2 0)) (zl (XE.ow (za 3 0)) xj)))) (XO.sh (n:=0) (eo T.latest qF hr (zc (Wl (n:=1) (DP hr) (za 1 1) (XO.sh (n:=0) (uA (zl (XE.ow (za 2 0)) (zl (XE.ow (za 3 0)) xj)))) ⟨rfl,rfl,rfl,rfl⟩) (zc (za 4 0) zg)))))) cM.never rfl)
  (zf (Jj (i:=1) rfl))))
def xv:List D->Option D:=mOf ["self","arrow","link"]
  (sSeq (sSet 2 (e2 eZ (e1 (cE [4] "arrows") (e1 (cE [5] "net") (eV 0))) (eV 1)))
  (sRet (e2 gN (e2 gN (e2 dZ (e2 eZ (e1 (cE [5] "times") (eV 0)) (e1 (cE [0,1,2,3] "goal") (eV 2))) (e2 eO (e1 (cE [5] "beat") (eV 0)) (e1 (cE [0,1,2,3] "behind") (eV 2)))) (e2 eZ (e1 (cE [5] "times") (eV 0)) (e1 (cE [0,1,2,3] "start") (eV 2)))) (e1 (cE [0,1,2,3] "time") (eV 2)))))
theorem jr (T:Txt K mg a):cH P w K mg base eF 1 a.f_Table_slack a.d_Table_slack ["self","arrow"] (gL K a.ct [1,0] 0 xv):=by
 refine jN (ms:=[.al 1,.ow 0,.ow 0]) T.Table_slack.fn jq λ_ _ _ _ _ _ hr=>?_
 exact(ze (gI jq.nd (XE.ow (oH (yu (n:=0) (yu (n:=1) (za 0 1) T.fld_net rfl) T.fld_arrows rfl) (za 1 0))))
  (zf (yn (XE.ow (zy (k:=0) vm wj (zy (k:=0) vm wj (XO.sh (n:=0) (lH (oH (yu (n:=1) (za 0 1) T.fld_times rfl) (yu (n:=0) (za 2 0) T.fld_goal rfl)) (zy (k:=0) vn wn (yu (n:=1) (za 0 1) T.fld_beat rfl) (yu (n:=0) (za 2 0) T.fld_behind rfl)))) (oH (yu (n:=1) (za 0 1) T.fld_times rfl) (yu (n:=0) (za 2 0) T.fld_start rfl))) (yu (n:=0) (za 2 0) T.fld_time rfl))))))
def vd:SF:=(sIf (tb (e2 qC (λρ=>((eV 0) ρ).bind λo=>((aCons (eV 4) aNil) ρ).bind λds=>i6 5 "slack" xv o (ds++[])) (eC (.int 0)))) kl sSkip)
def w8:Nat->List D->Option D:=tP ["self","net","times","beat","number"]
  (sSeq (gj [5] "net" (eV 1))
  (sSeq (gj [5] "times" (eN jC (aCons (eV 2) aNil)))
  (sSeq (gj [5] "beat" (eV 3))
  (sFor (λρ=>((aCons (eN fV (aCons (e1 (cE [4] "arrows") (eV 1)) aNil)) aNil) ρ).bind ie) (gV 4) vd))))
theorem Sk (T:Txt K mg a):cH P w K mg base eF 2 a.f_Table___init a.d_Table___init ["self","net","times","beat"] (qG K a.ct [5] [0,0,0] w8):=by
 have gF:=jr (P:=P) (w:=w) (base:=base) T
 refine u0 (ms:=[.ow 0,.ow 0,.ow 0,.ow 0]) (rk:=0) T.Table___init.fn u3 rfl rfl (by decide) (v4 (by decide)) λx0 gz A outer s H E hr=>?_
 exact(ze (qd T.fld_net (za 1 0))
  (ze (qd T.fld_times (XO.sh (n:=0) (j4 vx (E8 (n:=0) (by decide)) rfl T.b_list ql (zc (za 2 0) zg))))
  (ze (qd T.fld_beat (za 3 0))
  (zf (uv (wm (n:=0) T.b_range (zc (oI T.b_len (zc (yu (n:=0) (za 1 0) T.fld_arrows rfl) zg)) zg)) (mS u3.nd) (zf (wt (xm (k:=0) xZ xV (XO.sh (n:=0) (Jh (n:=1) (c0:=5) (ns:=[0]) (nd:=[]) (kF:=[]) (za 0 1) T.Table.cl T.Table_slack.me gF (hr.mono (by decide)) T.Table_slack.bd .nil (λ_ _=>.nil) (zc (za 4 0) zg))) cK (bX _)) (zf j6) yx)) cM.never rfl)))))
def xp:SF:=(sIf (tb (e2 (inD true) (eV 4) (eV 2))) (sSeq (sSet 5 (e2 eZ (e1 (cE [4] "arrows") (e1 (cE [5] "net") (eV 0))) (eV 4)))
  (sApp 3 (λρ=>((aCons (e1 (cE [0,1,2,3] "start") (eV 5)) (aCons (e1 (cE [0,1,2,3] "behind") (eV 5)) (aCons (λρ=>((eV 0) ρ).bind λo=>((aCons (eV 4) aNil) ρ).bind λds=>i6 5 "slack" xv o (ds++[])) aNil))) ρ).bind λds=>some (.tup ds)))) sSkip)
def vb:List D->Option D:=mOf ["table","going","left_out","links","number","arrow"]
  (sSeq (sSet 3 (λρ=>(aNil ρ).bind λds=>some (.lst ds)))
  (sSeq (sFor (lsD (λρ=>((e1 (cE [5] "net") (eV 0)) ρ).bind λo=>((aCons (eV 1) aNil) ρ).bind λds=>i6 4 "into" ud o (ds++[]))) (gV 4) xp)
  (sRet (eV 3))))
theorem Sq (T:Txt K mg a):cH P w K mg base eF 2 a.f_links_into a.d_links_into ["table","going","left_out"] (gL K a.ct [0,0,1] 0 vb):=by
 have n8:=Ta (P:=P) (w:=w) (base:=base) T
 have gF:=jr (P:=P) (w:=w) (base:=base) T
 refine jN (ms:=[.ow 0,.ow 0,.al 1,.ow 1,.ow 0,.ow 0]) T.links_into.fn vg λ_ _ _ _ _ _ hr=>?_
 exact(ze (gI vg.nd (ve (k:=0) xj))
  (ze (uv (uz (XO.sh (n:=0) (Jh (n:=0) (c0:=4) (ns:=[0]) (nd:=[]) (kF:=[]) (yu (n:=0) (za 0 0) T.fld_net rfl) T.Net.cl T.Net_into.me n8 (hr.mono (by decide)) T.Net_into.bd .nil (λ_ _=>.nil) (zc (za 1 0) zg)))) (mS vg.nd) (zf (wt (xm (k:=0) SG XX (za 4 0) (za 2 1) (by with_unfolding_all rfl)) (ze (gI vg.nd (XE.ow (oH (yu (n:=0) (yu (n:=0) (za 0 0) T.fld_net rfl) T.fld_arrows rfl) (za 4 0))))
  (zf (vq 3 rfl (nw (uA (zl (XE.ow (yu (n:=0) (za 5 0) T.fld_start rfl)) (zl (XE.ow (yu (n:=0) (za 5 0) T.fld_behind rfl)) (zl (Jh (n:=1) (c0:=5) (ns:=[0]) (nd:=[]) (kF:=[]) (XE.up (za 0 0) (by decide:0<=1)) T.Table.cl T.Table_slack.me gF (hr.mono (by decide)) T.Table_slack.bd .nil (λ_ _=>.nil) (zc (za 4 0) zg)) xj)))))))) yx)) cM.never rfl)
  (zf (Jj (i:=3) rfl))))
def yz:SF:=(sSet 3 (eN kG (aCons (eV 3) (aCons (e2 gN (e2 eZ (e2 eZ (eV 0) (e2 gN (e1 sA (eC (.int 1))) (eV 5))) (eV 4)) (eV 6)) aNil))))
def xl:List D->Option D:=mOf ["rows","links","put","most","start","behind","slack"]
  (sSeq (sSet 3 (eN kG (aCons (eC (.int 0)) (aCons (eV 2) aNil))))
  (sSeq (sFor (lsD (eV 1)) (gT (gsCons (gV 4) (gsCons (gV 5) (gsCons (gV 6) gsNil)))) yz)
  (sRet (eV 3))))
theorem ul (T:Txt K mg a):cH P w K mg base eF 1 a.f_lateness_in_last_row a.d_lateness_in_last_row ["rows","links","put"] (gL K a.ct [2,0,0] 0 xl):=by
 refine jN (ms:=[.al 2,.ow 0,.ow 0,.ow 0,.ow 0,.ow 0,.ow 0]) T.lateness_in_last_row.fn yc λ_ _ _ _ _ _ hr=>?_
 exact(ze (gI yc.nd (XE.ow (v3 (k:=0) (jz rfl) E9 rfl T.b_max DL (zc cK (zc (za 2 0) zg)))))
  (ze (uv (uz (za 1 0)) (Fx (n:=0) rfl (w6 (mS yc.nd) (w6 (mS yc.nd) (w6 (mS yc.nd) Fa)))) (zf (gI yc.nd (XE.ow (v3 (k:=0) (jz rfl) E9 rfl T.b_max DL (zc (za 3 0) (zc (zy (k:=0) vm wj (sT (n:=1) j0 j7 (sT (n:=2) j0 j7 (za 0 2) (zy (k:=0) vm wj (Nl (k:=0) cK) (za 5 0)) (λ_ _=>rfl)) (za 4 0) (λ_ _=>rfl)) (za 6 0)) zg)))))) cM.never rfl)
  (zf (yn (XE.ow (za 3 0))))))
def EY:SF:=(sSeq (sSet 12 (λρ=>((eV 6) ρ).bind λx=>((λρ=>((aCons (eV 11) (aCons (eV 10) aNil)) ρ).bind λds=>some (.tup ds)) ρ).bind λy=>((eC (.int 0)) ρ).bind λz=>(jV x y).bind λr=>some (r.getD z)))
  (oC 9 (e1 sA (eC (.int 1))) (eV 11) (λρ=>((aCons (eV 9) (aCons (e2 eZ (eV 5) (eV 11)) (aCons (eV 12) aNil))) ρ).bind λds=>xl (ds++[]))))
def IQ:SF:=(sSeq (sApp 9 (e2 lF (λρ=>((aCons (eC (.int 0)) aNil) ρ).bind λds=>some (.lst ds)) (eV 4)))
  (sFor (lsD (eV 7)) (gV 11) EY))
def Mv:EF:=(eG (λρ=>((aCons (eV 8) aNil) ρ).bind ie) 1 [4] (gV 0) iF (e2 lF (λρ=>((aCons (eC (.int 0)) aNil) ρ).bind λds=>some (.lst ds)) (eV 1)))
def IR:EF:=(eG (λρ=>((aCons (eV 4) aNil) ρ).bind ie) 1 [0,3] (gV 0) iF (λρ=>((aCons (eV 1) (aCons (eV 0) (aCons (eIf (tb (e2 (oX false) (eV 2) (eC .non))) (λρ=>(aNil ρ).bind λds=>some (.lst ds)) (eV 2)) aNil))) ρ).bind λds=>vb (ds++[])))
def Fs:List D->Option D:=mOf ["table","rounds","puts","without","many","links","greatest","order","depth","rows","number","going","put"]
  (sSeq (sSet 4 (eN fV (aCons (e1 (cE [4] "names") (e1 (cE [5] "net") (eV 0))) aNil)))
  (sSeq (sSet 5 IR)
  (sSeq (sSet 6 (λρ=>((aCons (eV 2) aNil) ρ).bind λds=>wp (ds++[])))
  (sSeq (sSet 7 (λρ=>((e1 (cE [5] "net") (eV 0)) ρ).bind λo=>i6 4 "order" uk o []))
  (sSeq (sSet 8 (λρ=>((e1 (cE [5] "net") (eV 0)) ρ).bind λo=>i6 4 "most_behind" xt o []))
  (sSeq (sSet 9 Mv)
  (sSeq (sFor (λρ=>((aCons (eV 1) aNil) ρ).bind ie) (gV 10) IQ)
  (sFz 9 (sRet (λρ=>((eV 9) ρ).bind λd=>((pInt (eV 8)) ρ).bind λl=>(pNo ρ).bind λh=>oG d l h))))))))))
theorem WG (T:Txt K mg a):cH P w K mg base eF 3 a.f_late a.d_late ["table","rounds","puts","without"] (gL K a.ct [0,0,0,1] 0 Fs):=by
 have mG:=Sq (P:=P) (w:=w) (base:=base) T
 have kX:=R5 (P:=P) (w:=w) (base:=base) T
 have nj:=Sx (P:=P) (w:=w) (base:=base) T
 have jT:=qj (P:=P) (w:=w) (base:=base) T
 have hR:=ul (P:=P) (w:=w) (base:=base) T
 refine jN (ms:=[.ow 0,.ow 0,.ow 0,.al 1,.ow 0,.ow 0,.ow 0,.ow 0,.ow 0,.ow 2,.ow 0,.ow 0,.ow 0]) T.late.fn v8 λ_ _ _ _ _ _ hr=>?_
 exact(ze (gI v8.nd (XE.ow (oI T.b_len (zc (yu (n:=0) (yu (n:=0) (za 0 0) T.fld_net rfl) T.fld_names rfl) zg))))
  (ze (wu (k:=0) (N:=["going","table","without"]) (om:=[.ow 0]) (cap:=[0,3]) (own:=1) rfl v8.nd rfl (Or.inl rfl) (uC (by rfl)) rfl rfl (by decide) (XI.cc (wm (n:=0) T.b_range (zc (za 4 0) zg))) (λ_ _ _ _ _=>(o7 (show cT (["going","table","without"]:List aI)from by decide +kernel))) (λ_ _ _ _ _=>ux) (λ_ _ _ _ _=>(eo T.links_into mG hr (zc (za 1 0) (zc (za 0 0) (zc (Jx (xm (k:=0) DS DN (za 2 1) rE (bX _)) (XO.sh (n:=1) (ve (k:=0) xj)) (za 2 1)) zg))))))
  (ze (gI v8.nd (eo T.greatest_told kX hr (zc (za 2 0) zg)))
  (ze (gI v8.nd (j5 (n:=0) (c0:=4) (nd:=[]) (kF:=[]) (yu (n:=0) (za 0 0) T.fld_net rfl) T.Net.cl T.Net_order.me nj (hr.mono (by decide)) T.Net_order.bd .nil (λ_ _=>.nil)))
  (ze (gI v8.nd (j5 (n:=0) (c0:=4) (nd:=[]) (kF:=[]) (yu (n:=0) (za 0 0) T.fld_net rfl) T.Net.cl T.Net_most_behind.me jT (hr.mono (by decide)) T.Net_most_behind.bd .nil (λ_ _=>.nil)))
  (ze (wu (k:=2) (N:=["number","many"]) (om:=[.ow 0]) (cap:=[4]) (own:=1) rfl v8.nd rfl (Or.inl rfl) (uC (by rfl)) rfl rfl (by decide) (XI.cc (wm (n:=0) T.b_range (zc (za 8 0) zg))) (λ_ _ _ _ _=>(o7 (show cT (["number","many"]:List aI)from by decide +kernel))) (λ_ _ _ _ _=>ux) (λ_ _ _ _ _=>(Jr (ve (k:=0) (zl (XE.ow cK) xj)) (za 1 0))))
  (ze (uv (wm (n:=0) T.b_range (zc (za 1 0) zg)) (mS v8.nd) (ze (vq 9 rfl (Jr (ve (k:=0) (zl (XE.ow cK) xj)) (za 4 0)))
  (zf (uv (uz (za 7 0)) (mS v8.nd) (ze (gI v8.nd (XE.ow (Wm (n:=0) (DP hr) (za 6 0) (XO.sh (n:=0) (uA (zl (XE.ow (za 11 0)) (zl (XE.ow (za 10 0)) xj)))) cK ⟨rfl,rfl,rfl,rfl⟩)))
  (zf (UI 9 rfl (Nl (k:=0) cK) (za 11 0) (λ_ _=>rfl) (XO.sh (n:=0) (eo T.lateness_in_last_row hR hr (zc (za 9 2) (zc (oH (za 5 0) (za 11 0)) (zc (za 12 0) zg)))))))) cM.never rfl))) cM.never rfl)
  (Fz (i:=9) rfl (zf (yn (nw (U2 (n:=0) (by decide) (za 9 0) (VS (za 8 0)) Ye))))))))))))
def u7:List D->Option D:=mOf ["self"]
  (sRet (eC (.bl false)))
theorem R6 (T:Txt K mg a):cH P w K mg base eF 1 a.f_Ride_may_drop a.d_Ride_may_drop ["self"] (gL K a.ct [0] 0 u7):=by
 refine jN (ms:=[.ow 0]) T.Ride_may_drop.fn R0 λ_ _ _ _ _ _ hr=>?_
 exact(zf (yn (XE.ow (qr (n:=0)))))
def u8:List D->Option D:=mOf ["self"]
  (sRet (eC (.bl true)))
theorem R7 (T:Txt K mg a):cH P w K mg base eF 1 a.f_Wait_may_drop a.d_Wait_may_drop ["self"] (gL K a.ct [0] 0 u8):=by
 refine jN (ms:=[.ow 0]) T.Wait_may_drop.fn R3 λ_ _ _ _ _ _ hr=>?_
 exact(zf (yn (XE.ow (qr (n:=0)))))
def u9:List D->Option D:=mOf ["self"]
  (sRet (eC (.bl false)))
theorem R8 (T:Txt K mg a):cH P w K mg base eF 1 a.f_Back_may_drop a.d_Back_may_drop ["self"] (gL K a.ct [0] 0 u9):=by
 refine jN (ms:=[.ow 0]) T.Back_may_drop.fn R4 λ_ _ _ _ _ _ hr=>?_
 exact(zf (yn (XE.ow (qr (n:=0)))))
def jx:EF:=(eG (lsD (eV 1)) 1 [2] (gV 0) iF (e2 dZ (eV 0) (λρ=>((aCons (eV 1) aNil) ρ).bind λds=>some (.lst ds))))
def wk:SF:=(sSet 1 (e2 qJ (eV 1) jx))
def vw:List D->Option D:=mOf ["waits","sets","wait"]
  (sSeq (sSet 1 (λρ=>((aCons (λρ=>(aNil ρ).bind λds=>some (.lst ds)) aNil) ρ).bind λds=>some (.lst ds)))
  (sSeq (sFor (lsD (eV 0)) (gV 2) wk)
  (sRet (e1 jZ (eV 1)))))
theorem TC (T:Txt K mg a):cH P w K mg base eF 1 a.f_sets_of a.d_sets_of ["waits"] (gL K a.ct [0] 2 vw):=by
 refine jN (ms:=[.ow 0,.ow 2,.ow 0]) T.sets_of.fn jf λ_ _ _ _ _ _ hr=>?_
 exact(ze (gI jf.nd (ve (k:=1) (zl (ve (k:=0) xj) xj)))
  (ze (uv (uz (za 0 0)) (mS jf.nd) (zf (UL (k:=1) rfl jf.nd (zB (N:=["chosen","wait"]) (om:=[.al 1]) (cap:=[2]) (own:=1) (E7 (n:=2) (za 1 2)) (λ_ _ _ _ _=>(Ue (by decide) rfl (show cT (["chosen","wait"]:List aI)from by decide +kernel) rfl (by first|exact Or.inl rfl|exact Or.inr rfl))) (λ_ _ _ _ _=>ux) (λ_ _ _ _ _=>(NI Fb (MX (n:=1) (m:=0) (by decide) (by decide)) (za 0 1) (XO.sh (n:=0) (ve (k:=0) (zl (XE.ow (za 1 0)) xj)))))))) cM.never rfl)
  (zf (S5 (k:=0) rfl rfl T.b_sorted rfl T.b_len))))
def wd:List D->Option D:=mOf ["table","puts","going","beat","without"]
  (sRet (e2 pI (e2 eZ (e2 eZ (λρ=>((aCons (eV 0) (aCons (e2 dZ (eV 3) (eC (.int 1))) (aCons (eV 1) (aCons (eV 4) aNil)))) ρ).bind λds=>Fs (ds++[])) (eV 3)) (eV 2)) (eC (.int 0))))
theorem TD (T:Txt K mg a):cH P w K mg base eF 4 a.f_is_late a.d_is_late ["table","puts","going","beat","without"] (gL K a.ct [0,0,0,0,1] 0 wd):=by
 have uG:=WG (P:=P) (w:=w) (base:=base) T
 have zD:=T.late_d1.choose_spec
 refine jN (ms:=[.ow 0,.ow 0,.ow 0,.ow 0,.al 1]) T.is_late.fn Tx λ_ _ _ _ _ _ hr=>?_
 exact(zf (yn (XE.ow (jo (k:=0) uE uB (oH (oH (XO.sh (n:=0) (eo T.late uG hr (zc (za 0 0) (zc (XO.sh (n:=0) (lH (za 3 0) cK)) (zc (za 1 0) (zc (za 4 1) zg)))))) (za 3 0)) (za 2 0)) cK (bX _)))))
def um:EF:=(eG (λρ=>((aCons (e1 (cE [4] "arrows") (e1 (cE [5] "net") (eV 0))) aNil) ρ).bind λds=>match ds with|[.lst xs]=>some (eu 0 xs)|_=>none) 2 [] (gT (gsCons (gV 0) (gsCons (gV 1) gsNil))) (tb (λρ=>((λρ=>((eV 1) ρ).bind λo=>i6 1 "may_drop" u7 o []) ρ).or ((λρ=>((λρ=>((eV 1) ρ).bind λo=>i6 2 "may_drop" u8 o []) ρ).or ((λρ=>((eV 1) ρ).bind λo=>i6 3 "may_drop" u9 o []) ρ)) ρ))) (eV 0))
def ue:List D->Option D:=mOf ["table","puts","going","beat","waits","chosen"]
  (sSeq (sSet 4 um)
  (sSeq (sIf (tb (e2 pI (eN fV (aCons (eV 4) aNil)) (eC (.int 8)))) kl sSkip)
  (sSeq (sIf (tb (λρ=>((aCons (eV 0) (aCons (eV 1) (aCons (eV 2) (aCons (eV 3) (aCons (eV 4) aNil))))) ρ).bind λds=>wd (ds++[]))) (sRet (tF (eC .non))) sSkip)
  (sSeq (nI 5 (λρ=>((aCons (eV 4) aNil) ρ).bind λds=>vw (ds++[])) (bNot (tb (λρ=>((aCons (eV 0) (aCons (eV 1) (aCons (eV 2) (aCons (eV 3) (aCons (eV 5) aNil))))) ρ).bind λds=>wd (ds++[])))))
  (sRet (tF (eC .non)))))))
theorem TH (T:Txt K mg a):cH P w K mg base eF 5 a.f_give_up a.d_give_up ["table","puts","going","beat"] (gL K a.ct [0,0,0,0] 1 ue):=by
 have kU:=R6 (P:=P) (w:=w) (base:=base) T
 have kW:=R7 (P:=P) (w:=w) (base:=base) T
 have kT:=R8 (P:=P) (w:=w) (base:=base) T
 have ma:=TD (P:=P) (w:=w) (base:=base) T
 have pF:=TC (P:=P) (w:=w) (base:=base) T
 refine jN (ms:=[.ow 0,.ow 0,.ow 0,.ow 0,.ow 0,.al 1]) T.give_up.fn Iq λ_ _ _ _ _ _ hr=>?_
 exact(ze (wu (k:=0) (N:=["number","arrow"]) (om:=[.ow 0,.ow 0]) (cap:=[]) (own:=2) rfl Iq.nd rfl (Or.inl rfl) (uC (by rfl)) rfl rfl (by decide) (Mp (n:=0) T.b_enumerate (zc (yu (n:=0) (yu (n:=0) (za 0 0) T.fld_net rfl) T.fld_arrows rfl) zg)) (λ_ _ _ _ _=>(MW (n:=1) rfl (j8 (o7 (show cT (["number","arrow"]:List aI)from by decide +kernel)) (j8 (o7 (show cT (["number","arrow"]:List aI)from by decide +kernel)) Ml)))) (λ_ _ _ _ _=>(DE (wq (XO.sh (n:=0) (NJ (j5 (n:=0) (c0:=1) (nd:=[]) (kF:=[]) (za 1 0) T.Ride.cl T.Ride_may_drop.me kU (hr.mono (by decide)) T.Ride_may_drop.bd .nil (λ_ _=>.nil)) (NJ (j5 (n:=0) (c0:=2) (nd:=[]) (kF:=[]) (za 1 0) T.Wait.cl T.Wait_may_drop.me kW (hr.mono (by decide)) T.Wait_may_drop.bd .nil (λ_ _=>.nil)) (j5 (n:=0) (c0:=3) (nd:=[]) (kF:=[]) (za 1 0) T.Back.cl T.Back_may_drop.me kT (hr.mono (by decide)) T.Back_may_drop.bd .nil (λ_ _=>.nil)))))))) (λ_ _ _ _ _=>(XE.ow (za 0 0))))
  (ze (wt (xm (k:=0) uE uB (oI T.b_len (zc (za 4 0) zg)) (qx (n:=0) (d:=(.int 8)) rfl T.g_MOST_WAITS.choose_spec rfl ⟨_,rfl⟩) (bX _)) (zf j6) yx)
  (ze (wt (wq (XO.sh (n:=0) (eo T.is_late ma hr (zc (za 0 0) (zc (za 1 0) (zc (za 2 0) (zc (za 3 0) (zc (XE.up (za 4 0) (by decide:0<=1)) zg)))))))) (zf (yn (Jz rE))) yx)
  (ze (WD (k:=0) rfl (by decide) Iq.nd (eo T.sets_of pF hr (zc (za 4 0) zg)) (uu (wq (XO.sh (n:=0) (eo T.is_late ma hr (zc (za 0 0) (zc (za 1 0) (zc (za 2 0) (zc (za 3 0) (zc (za 5 1) zg))))))))) cM.never rfl)
  (zf (yn (Jz rE)))))))
def xw:List D->Option D:=mOf ["_law_script","_law_k"]
  (sSeq (sIf (tb (e2 qC (eV 1) (eN fV (aCons (eV 0) aNil)))) (sRet (e2 eZ (eV 0) (eV 1))) sSkip)
  (sRet (eC (.int 0))))
theorem Sh (T:Txt K mg a):cH P w K mg base eF 1 a.f_law_cell_at a.d_law_cell_at ["_law_script","_law_k"] (gL K a.ct [0,0] 0 xw):=by
 refine jN (ms:=[.ow 0,.ow 0]) T.law_cell_at.fn Sd λ_ _ _ _ _ _ hr=>?_
 exact(ze (wt (xm (k:=0) xZ xV (za 1 0) (oI T.b_len (zc (za 0 0) zg)) (bX _)) (zf (yn (XE.ow (oH (za 0 0) (za 1 0))))) yx)
  (zf (yn (XE.ow cK))))
def jy:List D->Option D:=mOf ["_law_found"]
  (sRet (eB (bAnd (tb (e1 (lA "int") (eV 0))) (tb (eB (bNot (tb (e1 (lA "bool") (eV 0)))))))))
theorem Sy (T:Txt K mg a):cH P w K mg base eF 1 a.f_law_whole a.d_law_whole ["_law_found"] (gL K a.ct [0] 0 jy):=by
 refine jN (ms:=[.ow 0]) T.law_whole.fn SN λ_ _ _ _ _ _ hr=>?_
 exact(zf (yn (XE.ow (yV (xW (k:=0) (by decide) T.b_isinstance T.b_int Nv (za 0 0)) (xU (k:=0) (XN (k:=0) (xW (k:=0) (by decide) T.b_isinstance T.b_bool MJ (za 0 0))))))))
def yy:List D->Option D:=mOf ["_law_cell","_law_k","_law_number"]
  (sSeq (sIf (bAnd (tb (e2 GO (eV 0) (e2 sL (eC (.int 1)) (eC (.int 90))))) (bAnd (tb (e2 (lU false) (e2 dP (eV 0) (eC (.int 2))) (eC (.int 1)))) (tb (e2 pI (e2 pM (eV 0) (e2 dZ (eC (.int 1)) (e2 eO (eC (.int 31)) (eV 1)))) (eC (.int 0)))))) (sRet (e2 dP (e2 pM (eV 0) (e2 dZ (eC (.int 1)) (e2 eO (eC (.int 31)) (eV 1)))) (eC (.int 2147483648)))) sSkip)
  (sSeq (sSet 2 (e2 dP (e2 eO (e2 dZ (e2 dZ (eV 0) (e2 eO (eC (.int 7919)) (eV 1))) (eC (.int 1))) (eC (.int 48271))) (eC (.int 2147483647))))
  (sSeq (sSet 2 (e2 dP (e2 eO (eV 2) (e2 dZ (e2 d4 (eV 2) (eC (.int 1009))) (eC (.int 69621)))) (eC (.int 2147483647))))
  (sRet (e2 dP (e2 eO (eV 2) (e2 dZ (e2 dZ (e2 d4 (eV 2) (eC (.int 2003))) (eC (.int 39373))) (eV 1))) (eC (.int 2147483629)))))))
theorem v6 (T:Txt K mg a):cH P w K mg base eF 1 a.f_law_mixed a.d_law_mixed ["_law_cell","_law_k"] (gL K a.ct [0,0] 0 yy):=by
 refine jN (ms:=[.ow 0,.ow 0,.ow 0]) T.law_mixed.fn u4 λ_ _ _ _ _ _ hr=>?_
 exact(ze (wt (XW.t (Nj (xm (k:=0) YB XR (za 0 0) (zy (k:=0) Xh Wk cK cK) (bX _)) (Nj (xm (k:=0) (t8 hr.u64) jp (zy (k:=0) xi xk (za 0 0) cK) cK (bX _)) (Wf (xm (k:=0) uE uB (zy (k:=0) Nq MU (za 0 0) (XO.sh (n:=0) (lH cK (zy (k:=0) vn wn cK (za 1 0))))) cK (bX _)))))) (zf (yn (XE.ow (zy (k:=0) xi xk (zy (k:=0) Nq MU (za 0 0) (XO.sh (n:=0) (lH cK (zy (k:=0) vn wn cK (za 1 0))))) cK)))) yx)
  (ze (gI u4.nd (XE.ow (zy (k:=0) xi xk (zy (k:=0) vn wn (XO.sh (n:=0) (lH (XO.sh (n:=0) (lH (za 0 0) (zy (k:=0) vn wn cK (za 1 0)))) cK)) cK) cK)))
  (ze (gI u4.nd (XE.ow (zy (k:=0) xi xk (zy (k:=0) vn wn (za 2 0) (XO.sh (n:=0) (lH (zy (k:=0) we wf (za 2 0) cK) cK))) cK)))
  (zf (yn (XE.ow (zy (k:=0) xi xk (zy (k:=0) vn wn (za 2 0) (XO.sh (n:=0) (lH (XO.sh (n:=0) (lH (zy (k:=0) we wf (za 2 0) cK) cK)) (za 1 0)))) cK)))))))
def wy:List D->Option D:=mOf ["_law_cell"]
  (sRet (e2 eZ (λρ=>((aCons (eC (.int 0)) (aCons (eC (.int 1)) (aCons (e2 dP (e2 d4 (eV 0) (eC (.int 3))) (eC (.int 10))) (aCons (e2 dP (e2 d4 (eV 0) (eC (.int 3))) (e2 gh (eC (.int 10)) (eC (.int 8)))) aNil)))) ρ).bind λds=>some (.lst ds)) (e2 dP (λρ=>((aCons (eV 0) (aCons (eC (.int 1)) aNil)) ρ).bind λds=>yy (ds++[])) (eC (.int 4)))))
theorem SC (T:Txt K mg a):cH P w K mg base eF 2 a.f_law_slack a.d_law_slack ["_law_cell"] (gL K a.ct [0] 0 wy):=by
 have dX:=v6 (P:=P) (w:=w) (base:=base) T
 refine jN (ms:=[.ow 0]) T.law_slack.fn SO λ_ _ _ _ _ _ hr=>?_
 exact(zf (yn (XE.ow (oH (XO.sh (n:=0) (ve (k:=0) (zl (XE.ow cK) (zl (XE.ow cK) (zl (XE.ow (zy (k:=0) xi xk (zy (k:=0) we wf (za 0 0) cK) cK)) (zl (XE.ow (zy (k:=0) xi xk (zy (k:=0) we wf (za 0 0) cK) (zy (k:=0) jl v7 cK cK))) xj)))))) (zy (k:=0) xi xk (XO.sh (n:=0) (eo T.law_mixed dX hr (zc (za 0 0) (zc cK zg)))) cK)))))
def wb:List D->Option D:=mOf ["_law_cell","_law_slack_here","_law_near"]
  (sSeq (sSet 2 (eN kG (aCons (eC (.int 0)) (aCons (e2 gN (e2 dZ (eV 1) (e2 dP (λρ=>((aCons (eV 0) (aCons (eC (.int 2)) aNil)) ρ).bind λds=>yy (ds++[])) (eC (.int 5)))) (eC (.int 2))) aNil))))
  (sRet (e2 eZ (λρ=>((aCons (eV 2) (aCons (eV 1) (aCons (e2 dZ (eV 1) (eC (.int 1))) (aCons (e2 dZ (eV 1) (e2 dP (e2 d4 (eV 0) (eC (.int 3))) (e2 gh (eC (.int 10)) (eC (.int 9))))) aNil)))) ρ).bind λds=>some (.lst ds)) (e2 dP (λρ=>((aCons (eV 0) (aCons (eC (.int 3)) aNil)) ρ).bind λds=>yy (ds++[])) (eC (.int 4))))))
theorem Sr (T:Txt K mg a):cH P w K mg base eF 2 a.f_law_amount a.d_law_amount ["_law_cell","_law_slack_here"] (gL K a.ct [0,0] 0 wb):=by
 have dX:=v6 (P:=P) (w:=w) (base:=base) T
 refine jN (ms:=[.ow 0,.ow 0,.ow 0]) T.law_amount.fn qh λ_ _ _ _ _ _ hr=>?_
 exact(ze (gI qh.nd (XE.ow (v3 (k:=0) (jz rfl) E9 rfl T.b_max DL (zc cK (zc (zy (k:=0) vm wj (XO.sh (n:=0) (lH (za 1 0) (zy (k:=0) xi xk (XO.sh (n:=0) (eo T.law_mixed dX hr (zc (za 0 0) (zc cK zg)))) cK))) cK) zg)))))
  (zf (yn (XE.ow (oH (XO.sh (n:=0) (ve (k:=0) (zl (XE.ow (za 2 0)) (zl (XE.ow (za 1 0)) (zl (nw (lH (za 1 0) cK)) (zl (nw (lH (za 1 0) (zy (k:=0) xi xk (zy (k:=0) we wf (za 0 0) cK) (zy (k:=0) jl v7 cK cK)))) xj)))))) (zy (k:=0) xi xk (XO.sh (n:=0) (eo T.law_mixed dX hr (zc (za 0 0) (zc cK zg)))) cK))))))
def uo:EF:=(eG (lsD (eV 0)) 1 [] (gV 0) iF (λρ=>((aCons (eV 0) aNil) ρ).bind λds=>jy (ds++[])))
def wz:List D->Option D:=mOf ["_law_found","_law_due"]
  (sSeq (sIf (tb (e2 (oX false) (eV 1) (eC .non))) (sRet (e2 (oX false) (eV 0) (eC .non))) sSkip)
  (sSeq (sIf (bOr (bNot (tb (e1 (lA "list") (eV 0)))) (bNot (tb (eN qK (aCons uo aNil))))) (sRet (eC (.bl false))) sSkip)
  (sRet (e2 (lU false) (eV 0) (eV 1)))))
theorem SD (T:Txt K mg a):cH P w K mg base eF 2 a.f_law_alike a.d_law_alike ["_law_found","_law_due"] (gL K a.ct [1,1] 0 wz):=by
 have nv:=Sy (P:=P) (w:=w) (base:=base) T
 refine jN (ms:=[.al 1,.al 1]) T.law_alike.fn SQ λ_ _ _ _ _ _ hr=>?_
 exact(ze (wt (xm (k:=0) DS DN (za 1 1) rE (bX _)) (zf (yn (XE.ow (jo (k:=0) DS DN (za 0 1) rE (bX _))))) yx)
  (ze (wt (XW.t (rR (uu (wq (xW (k:=0) (by decide) T.b_isinstance T.b_list ql (za 0 1)))) (t9 (uu (wq (v3 (k:=0) (L0 rfl) M3 rfl T.b_all Nh (zc (XO.sh (n:=0) (zB (N:=["_law_number"]) (om:=[.ow 0]) (cap:=[]) (own:=1) (E7 (n:=1) (za 0 1)) (λ_ _ _ _ _=>(o7 (show cT (["_law_number"]:List aI)from by decide +kernel))) (λ_ _ _ _ _=>ux) (λ_ _ _ _ _=>(eo T.law_whole nv hr (zc (za 0 0) zg))))) zg))))))) (zf (yn (XE.ow (qr (n:=0))))) yx)
  (zf (yn (XE.ow (jo (k:=0) (t8 hr.u64) jp (za 0 1) (za 1 1) (bX _)))))))
def wl:List D->Option D:=wU 3 ["_law_one","_law_goal","_law_cell","_law_times","_law_slack_here","_law_behind","_law_steady","_law_before","_law_back"]
  (ou (sSet 6 (e2 gh (eC (.int 10)) (eC (.int 9))))
  (ou (gB 3 (eV 0) (e2 dP (e2 d4 (eV 2) (eC (.int 5))) (e2 gh (eC (.int 10)) (eC (.int 8)))))
  (ou (sSet 7 (e2 gN (e2 gN (e2 dZ (e2 eZ (eV 3) (eV 1)) (e2 eO (eV 6) (eV 5))) (e2 eZ (eV 3) (eV 0))) (eV 4)))
  (ou (gB 3 (eV 0) (e2 gN (e2 dZ (e2 eZ (eV 3) (eV 0)) (eV 7)) (e2 dP (eV 7) (e2 gh (eC (.int 10)) (eC (.int 9))))))
  (ou (sSet 8 (λρ=>((aCons (eV 0) (aCons (eV 0) (aCons (e2 gN (e2 gN (eV 6) (eC (.int 1))) (e2 dP (eV 2) (e2 gh (eC (.int 10)) (eC (.int 6))))) aNil))) ρ).bind λds=>ui 3 (ds++[(.int 1)])))
  (wV (λρ=>((aCons (eV 8) (aCons (λρ=>((aCons (eV 0) (aCons (eV 1) (aCons (e2 dP (eV 7) (e2 gh (eC (.int 10)) (eC (.int 9)))) (aCons (eV 5) aNil)))) ρ).bind λds=>uh 2 (ds++[])) aNil)) ρ).bind λds=>some (.lst ds))))))))
theorem Ss (T:Txt K mg a):cH P w K mg base eF 4 a.f_law_arrows a.d_law_arrows ["_law_one","_law_goal","_law_cell","_law_times","_law_slack_here","_law_behind"] (yC K a.ct 3 2 wl):=by
 have lQ:=Sf (P:=P) (w:=w) (base:=base) T
 have il:=T.Back___init_d1.choose_spec
 have lR:=Se (P:=P) (w:=w) (base:=base) T
 have pX:=T.Wait___init_d1.choose_spec
 refine Ua (n:=3) (m:=2) (ms:=[.ow 0,.ow 0,.ow 0]) T.law_arrows.fn vh rfl rfl λxa gz A outer s H E hr=>?_
 exact(DF (gI vh.nd (XE.ow (zy (k:=0) jl v7 cK cK)))
  (DF (Ms 3 rfl (za 0 0) (zy (k:=0) xi xk (zy (k:=0) we wf (za 2 0) cK) (zy (k:=0) jl v7 cK cK)))
  (DF (gI vh.nd (XE.ow (zy (k:=0) vm wj (zy (k:=0) vm wj (XO.sh (n:=0) (lH (sT (n:=1) j0 j7 (za 3 1) (za 1 0) (λ_ _=>rfl)) (zy (k:=0) vn wn (za 6 0) (za 5 0)))) (sT (n:=1) j0 j7 (za 3 1) (za 0 0) (λ_ _=>rfl))) (za 4 0))))
  (DF (Ms 3 rfl (za 0 0) (zy (k:=0) vm wj (XO.sh (n:=0) (lH (sT (n:=1) j0 j7 (za 3 1) (za 0 0) (λ_ _=>rfl)) (za 7 0))) (zy (k:=0) xi xk (za 7 0) (zy (k:=0) jl v7 cK cK))))
  (DF (gI vh.nd (nw (Fj (c0:=3) (kF:=[(.int 1)]) (ns:=[0,0,0]) (nd:=[0]) ⟨T.Back.mks,T.Back___init.me.at_,T.Back___init.me.fn,T.Back.kp⟩ (by decide) lQ (hr.mono (by decide)) rfl T.Back.mgx (il).2.2 (il).2.1 (λ_ _=>(.cons (Al.of (.int _)) .nil)) (zc (za 0 0) (zc (za 0 0) (zc (zy (k:=0) vm wj (zy (k:=0) vm wj (za 6 0) cK) (zy (k:=0) xi xk (za 2 0) (zy (k:=0) jl v7 cK cK))) zg))))))
  (X6 (XO.sh (n:=0) (ve (k:=0) (zl (XE.ow (za 8 0)) (zl (nw (Fj (c0:=2) (kF:=[]) (ns:=[0,0,0,0]) (nd:=[]) ⟨T.Wait.mks,T.Wait___init.me.at_,T.Wait___init.me.fn,T.Wait.kp⟩ (by decide) lR (hr.mono (by decide)) rfl T.Wait.mgx T.Wait___init.bd .nil (λ_ _=>.nil) (zc (za 0 0) (zc (za 1 0) (zc (zy (k:=0) xi xk (za 7 0) (zy (k:=0) jl v7 cK cK)) (zc (za 5 0) zg)))))) xj))))))))))
def ja:List D->Option D:=mOf ["_law_one","_law_cell","_law_slack_here","_law_when","_law_amount_here","_law_shift","_law_more"]
  (sSeq (sSet 4 (λρ=>((aCons (e2 d4 (eV 1) (eC (.int 3))) (aCons (eV 2) aNil)) ρ).bind λds=>wb (ds++[])))
  (sSeq (sSet 5 (e2 eZ (λρ=>((aCons (eC (.int 0)) (aCons (eC (.int 0)) (aCons (eC (.int 0)) (aCons (eC (.int 1)) aNil)))) ρ).bind λds=>some (.lst ds)) (e2 dP (λρ=>((aCons (eV 1) (aCons (eC (.int 5)) aNil)) ρ).bind λds=>yy (ds++[])) (eC (.int 4)))))
  (sSeq (sIf (tb (e2 qC (eV 3) (eV 5))) (sRet (λρ=>((aCons (eC .non) (aCons (eC (.bl false)) aNil)) ρ).bind λds=>some (.tup ds))) sSkip)
  (sSeq (sSet 6 (e2 pI (e2 gN (eV 4) (e2 eO (eV 5) (e2 dZ (eC (.int 1)) (e2 dP (eV 1) (e2 gh (eC (.int 10)) (eC (.int 6))))))) (eV 2)))
  (sRet (λρ=>((aCons (λρ=>((aCons (eV 0) (aCons (e2 gN (eV 3) (eV 5)) (aCons (eV 4) aNil))) ρ).bind λds=>some (.tup ds)) (aCons (eV 6) aNil)) ρ).bind λds=>some (.tup ds)))))))
theorem TJ (T:Txt K mg a):cH P w K mg base eF 3 a.f_law_put a.d_law_put ["_law_one","_law_cell","_law_slack_here","_law_when"] (gL K a.ct [0,0,0,0] 0 ja):=by
 have mE:=Sr (P:=P) (w:=w) (base:=base) T
 have dX:=v6 (P:=P) (w:=w) (base:=base) T
 refine jN (ms:=[.ow 0,.ow 0,.ow 0,.ow 0,.ow 0,.ow 0,.ow 0]) T.law_put.fn jg λ_ _ _ _ _ _ hr=>?_
 exact(ze (gI jg.nd (eo T.law_amount mE hr (zc (zy (k:=0) we wf (za 1 0) cK) (zc (za 2 0) zg))))
  (ze (gI jg.nd (XE.ow (oH (XO.sh (n:=0) (ve (k:=0) (zl (XE.ow cK) (zl (XE.ow cK) (zl (XE.ow cK) (zl (XE.ow cK) xj)))))) (zy (k:=0) xi xk (XO.sh (n:=0) (eo T.law_mixed dX hr (zc (za 1 0) (zc cK zg)))) cK))))
  (ze (wt (xm (k:=0) xZ xV (za 3 0) (za 5 0) (bX _)) (zf (yn (nw (uA (zl (XE.ow rE) (zl (XE.ow (qr (n:=0))) xj)))))) yx)
  (ze (gI jg.nd (XE.ow (jo (k:=0) uE uB (zy (k:=0) vm wj (za 4 0) (zy (k:=0) vn wn (za 5 0) (XO.sh (n:=0) (lH cK (zy (k:=0) xi xk (za 1 0) (zy (k:=0) jl v7 cK cK)))))) (za 2 0) (bX _))))
  (zf (yn (nw (uA (zl (nw (uA (zl (XE.ow (za 0 0)) (zl (XE.ow (zy (k:=0) vm wj (za 3 0) (za 5 0))) (zl (XE.ow (za 4 0)) xj))))) (zl (XE.ow (za 6 0)) xj))))))))))
def IY:EF:=(eG (λρ=>((aCons (e2 dZ (eV 2) (eC (.int 1))) aNil) ρ).bind ie) 1 [] (gV 0) iF (e2 eZ (eC (.str "abcdef")) (eV 0)))
def DH:SF:=(sSeq (sSet 11 (λρ=>((aCons (eV 0) (aCons (e2 dZ (eC (.int 1)) (eV 10)) aNil)) ρ).bind λds=>xw (ds++[])))
  (sSeq (sSet 12 (λρ=>((aCons (eV 11) aNil) ρ).bind λds=>wy (ds++[])))
  (sSeq (sSet 13 (e2 dP (λρ=>((aCons (eV 11) (aCons (eC (.int 4)) aNil)) ρ).bind λds=>yy (ds++[])) (eC (.int 3))))
  (sSeq (nG 7 (ke 6 (aCons (e2 eZ (eV 5) (eV 10)) (aCons (eV 3) (aCons (eV 11) aNil))) (aCons (eV 12) (aCons (eV 13) aNil)) wl))
  (sSeq (sAsg (gT (gsCons (gV 14) (gsCons (gV 15) gsNil))) (λρ=>((aCons (e2 eZ (eV 5) (eV 10)) (aCons (eV 11) (aCons (eV 12) (aCons (e2 gN (eV 4) (eV 13)) aNil)))) ρ).bind λds=>ja (ds++[])))
  (sSeq (sIf (tb (e2 (oX true) (eV 14) (eC .non))) (sApp 8 (eV 14)) sSkip)
  (sIf (tb (eV 15)) (sApp 9 (e2 dZ (e2 eO (eC (.int 2)) (eV 10)) (eC (.int 1)))) sSkip)))))))
def IZ:EF:=(eG (λρ=>((aCons (e2 dZ (eV 2) (eC (.int 1))) aNil) ρ).bind ie) 1 [] (gV 0) iF (eC (.int 0)))
def I0:EF:=(eG (λρ=>((aCons (e2 dZ (eV 2) (eC (.int 1))) aNil) ρ).bind ie) 1 [3] (gV 0) (tb (e2 (lU true) (eV 0) (eV 1))) (eV 0))
def JA:List D->Option D:=mOf ["_law_script","_law_cell","_law_many","_law_goal","_law_beat","_law_others","_law_times","_law_arrows_here","_law_puts","_law_due","_law_k","_law_one","_law_slack_here","_law_behind","_law_put_here","_law_more","_law_net","_law_table","_law_handed","_law_found"]
  (sSeq (sSet 1 (λρ=>((aCons (eV 0) (aCons (eC (.int 0)) aNil)) ρ).bind λds=>xw (ds++[])))
  (sSeq (sSet 2 (e2 dZ (eC (.int 1)) (e2 dP (eV 1) (eC (.int 5)))))
  (sSeq (sSet 3 (e2 dP (e2 d4 (eV 1) (eC (.int 5))) (e2 dZ (eV 2) (eC (.int 1)))))
  (sSeq (sSet 4 (e2 dP (e2 d4 (eV 1) (eC (.int 30))) (eC (.int 7))))
  (sSeq (sSet 5 I0)
  (sSeq (sSet 6 IZ)
  (sSeq (gB 6 (eV 3) (e2 eO (eC (.int 2)) (e2 gh (eC (.int 10)) (eC (.int 8)))))
  (sSeq (sSet 7 (λρ=>(aNil ρ).bind λds=>some (.lst ds)))
  (sSeq (sSet 8 (λρ=>(aNil ρ).bind λds=>some (.lst ds)))
  (sSeq (sSet 9 (λρ=>(aNil ρ).bind λds=>some (.lst ds)))
  (sSeq (sFor (λρ=>((aCons (eV 2) aNil) ρ).bind ie) (gV 10) DH)
  (sFz 6 (sSeq (sIf (tb (e2 (lU false) (e2 dP (e2 d4 (eV 1) (eC (.int 210))) (eC (.int 3))) (eC (.int 1)))) (sSeq (sApp 8 (λρ=>((aCons (eV 3) (aCons (eV 4) (aCons (e2 dP (e2 d4 (eV 1) (eC (.int 630))) (eC (.int 4))) aNil))) ρ).bind λds=>some (.tup ds)))
  (sIf (tb (e2 pI (e2 dP (e2 d4 (eV 1) (eC (.int 630))) (eC (.int 4))) (eC (.int 0)))) (sSet 9 (tF (eC .non))) sSkip)) sSkip)
  (sFz 8 (sFz 9 (sSeq (sSet 16 (λρ=>((aCons IY (aCons (eV 7) aNil)) ρ).bind λds=>v5 4 (ds++[])))
  (sSeq (sSet 17 (λρ=>((aCons (eV 16) (aCons (eV 6) (aCons (e2 gh (eC (.int 10)) (eC (.int 9))) aNil))) ρ).bind λds=>w8 5 (ds++[])))
  (sSeq (sSet 18 (eN jC (aCons (eV 8) aNil)))
  (sSeq (sSet 19 (λρ=>((aCons (eV 17) (aCons (eV 18) (aCons (eV 3) (aCons (eV 4) aNil)))) ρ).bind λds=>ue (ds++[])))
  (sSeq (sIf (bOr (bNot (tb (λρ=>((aCons (eV 19) (aCons (eV 9) aNil)) ρ).bind λds=>wz (ds++[])))) (tb (e2 (lU true) (eV 18) (eV 8)))) (sRet (eC (.bl false))) sSkip)
  (sSeq (sIf (tb (e2 (oX true) (eV 19) (eC .non))) (sApp 19 (eC (.int 0))) sSkip)
  (sRet (λρ=>((aCons (λρ=>((aCons (eV 17) (aCons (eV 18) (aCons (eV 3) (aCons (eV 4) aNil)))) ρ).bind λds=>ue (ds++[])) (aCons (eV 9) aNil)) ρ).bind λds=>wz (ds++[]))))))))))))))))))))))))
theorem X8 (T:Txt K mg a):cH P w K mg base eF 6 a.f_law a.d_law ["_law_script"] (gL K a.ct [0] 0 JA):=by
 have i9:=Sh (P:=P) (w:=w) (base:=base) T
 have nu:=SC (P:=P) (w:=w) (base:=base) T
 have dX:=v6 (P:=P) (w:=w) (base:=base) T
 have mF:=Ss (P:=P) (w:=w) (base:=base) T
 have pE:=TJ (P:=P) (w:=w) (base:=base) T
 have mD:=So (P:=P) (w:=w) (base:=base) T
 have lr:=Sk (P:=P) (w:=w) (base:=base) T
 have lZ:=TH (P:=P) (w:=w) (base:=base) T
 have kD:=SD (P:=P) (w:=w) (base:=base) T
 refine jN (ms:=[.ow 0,.ow 0,.ow 0,.ow 0,.ow 0,.ow 0,.ow 1,.ow 0,.ow 1,.ow 1,.ow 0,.ow 0,.ow 0,.ow 0,.ow 0,.ow 0,.ow 0,.ow 0,.ow 0,.ow 1]) T.law.fn wc λ_ _ _ _ _ _ hr=>?_
 exact(ze (gI wc.nd (eo T.law_cell_at i9 hr (zc (za 0 0) (zc cK zg))))
  (ze (gI wc.nd (nw (lH cK (zy (k:=0) xi xk (za 1 0) cK))))
  (ze (gI wc.nd (XE.ow (zy (k:=0) xi xk (zy (k:=0) we wf (za 1 0) cK) (XO.sh (n:=0) (lH (za 2 0) cK)))))
  (ze (gI wc.nd (XE.ow (zy (k:=0) xi xk (zy (k:=0) we wf (za 1 0) cK) cK)))
  (ze (wu (k:=0) (N:=["_law_going","_law_goal"]) (om:=[.ow 0]) (cap:=[3]) (own:=1) rfl wc.nd rfl (Or.inl rfl) (uC (by rfl)) rfl rfl (by decide) (XI.cc (wm (n:=0) T.b_range (zc (XO.sh (n:=0) (lH (za 2 0) cK)) zg))) (λ_ _ _ _ _=>(o7 (show cT (["_law_going","_law_goal"]:List aI)from by decide +kernel))) (λ_ _ _ _ _=>(DE (xm (k:=0) (Nu hr.u64) jp (za 0 0) (za 1 0) (bX _)))) (λ_ _ _ _ _=>(XE.ow (za 0 0))))
  (ze (wu (k:=1) (N:=["_law_going"]) (om:=[.ow 0]) (cap:=[]) (own:=1) rfl wc.nd rfl (Or.inl rfl) (uC (by rfl)) rfl rfl (by decide) (XI.cc (wm (n:=0) T.b_range (zc (XO.sh (n:=0) (lH (za 2 0) cK)) zg))) (λ_ _ _ _ _=>(o7 (show cT (["_law_going"]:List aI)from by decide +kernel))) (λ_ _ _ _ _=>ux) (λ_ _ _ _ _=>(XE.ow cK)))
  (ze (Wq 6 rfl (za 3 0) (zy (k:=0) vn wn cK (zy (k:=0) jl v7 cK cK)))
  (ze (gI wc.nd (nw (ve (k:=0) xj)))
  (ze (gI wc.nd (ve (k:=0) xj))
  (ze (gI wc.nd (ve (k:=0) xj))
  (ze (uv (wm (n:=0) T.b_range (zc (za 2 0) zg)) (mS wc.nd) (ze (gI wc.nd (eo T.law_cell_at i9 hr (zc (za 0 0) (zc (XO.sh (n:=0) (lH cK (za 10 0))) zg))))
  (ze (gI wc.nd (eo T.law_slack nu hr (zc (za 11 0) zg)))
  (ze (gI wc.nd (XE.ow (zy (k:=0) xi xk (XO.sh (n:=0) (eo T.law_mixed dX hr (zc (za 11 0) (zc cK zg)))) cK)))
  (ze (WF (i:=7) rfl wc.nd (UM (i:=6) rfl mF (hr.mono (by decide)) rfl T.law_arrows.mgx T.law_arrows.fn.kp T.law_arrows.bd .nil (DG (DG (DG Nz))) (DG (DG Nz)) (IP (oH (za 5 0) (za 10 0)) (IP (za 3 0) (IP (za 11 0) (X7 (i:=6) (Mu (za 12 0) (Mu (za 13 0) WE))))))) (S6 (by decide)))
  (ze (X1 (XO.sh (n:=0) (eo T.law_put pE hr (zc (oH (za 5 0) (za 10 0)) (zc (za 11 0) (zc (za 12 0) (zc (zy (k:=0) vm wj (za 4 0) (za 13 0)) zg)))))) (Fx (n:=0) rfl (w6 (mS wc.nd) (w6 (mS wc.nd) Fa))))
  (ze (wt (xm (k:=0) Mj LU (za 14 0) rE (bX _)) (zf (vq 8 rfl (XE.ow (za 14 0)))) yx)
  (zf (wt (wq (za 15 0)) (zf (vq 9 rfl (nw (lH (zy (k:=0) vn wn cK (za 10 0)) cK)))) yx)))))))) cM.never rfl)
  (Fz (i:=6) rfl (ze (wt (xm (k:=0) (t8 hr.u64) jp (zy (k:=0) xi xk (zy (k:=0) we wf (za 1 0) cK) cK) cK (bX _)) (ze (vq 8 rfl (nw (uA (zl (XE.ow (za 3 0)) (zl (XE.ow (za 4 0)) (zl (XE.ow (zy (k:=0) xi xk (zy (k:=0) we wf (za 1 0) cK) cK)) xj))))))
  (zf (wt (xm (k:=0) uE uB (zy (k:=0) xi xk (zy (k:=0) we wf (za 1 0) cK) cK) cK (bX _)) (zf (gI wc.nd (Jz rE))) yx))) yx)
  (Fz (i:=8) rfl (Fz (i:=9) rfl (ze (gI wc.nd (nw (Fj (c0:=4) (kF:=[]) (ns:=[0,0]) (nd:=[]) ⟨T.Net.mks,T.Net___init.me.at_,T.Net___init.me.fn,T.Net.kp⟩ (by decide) mD (hr.mono (by decide)) rfl T.Net.mgx T.Net___init.bd .nil (λ_ _=>.nil) (zc (XO.sh (n:=0) (zB (N:=["_law_k"]) (om:=[.ow 0]) (cap:=[]) (own:=1) (XI.cc (wm (n:=0) T.b_range (zc (XO.sh (n:=0) (lH (za 2 0) cK)) zg))) (λ_ _ _ _ _=>(o7 (show cT (["_law_k"]:List aI)from by decide +kernel))) (λ_ _ _ _ _=>ux) (λ_ _ _ _ _=>(XE.ow (oH (DM (n:=0)) (za 0 0)))))) (zc (za 7 0) zg)))))
  (ze (gI wc.nd (nw (Fj (c0:=5) (kF:=[]) (ns:=[0,0,0]) (nd:=[]) ⟨T.Table.mks,T.Table___init.me.at_,T.Table___init.me.fn,T.Table.kp⟩ (by decide) lr (hr.mono (by decide)) rfl T.Table.mgx T.Table___init.bd .nil (λ_ _=>.nil) (zc (za 16 0) (zc (za 6 0) (zc (zy (k:=0) jl v7 cK cK) zg))))))
  (ze (gI wc.nd (nw (j4 vx (E8 (n:=0) (by decide)) rfl T.b_list ql (zc (za 8 0) zg))))
  (ze (gI wc.nd (eo T.give_up lZ hr (zc (za 17 0) (zc (za 18 0) (zc (za 3 0) (zc (za 4 0) zg))))))
  (ze (wt (XW.t (rR (uu (wq (XO.sh (n:=0) (eo T.law_alike kD hr (zc (za 19 1) (zc (XE.up (za 9 0) (by decide:0<=1)) zg)))))) (t9 (xm (k:=0) (Nu hr.u64) jp (za 18 0) (za 8 0) (bX _))))) (zf (yn (XE.ow (qr (n:=0))))) yx)
  (ze (wt (xm (k:=0) Mj LU (za 19 1) rE (bX _)) (zf (vq 19 rfl (XE.ow cK))) yx)
  (zf (yn (eo T.law_alike kD hr (zc (XO.sh (n:=1) (eo T.give_up lZ hr (zc (za 17 0) (zc (za 18 0) (zc (za 3 0) (zc (za 4 0) zg)))))) (zc (XE.up (za 9 0) (by decide:0<=1)) zg))))))))))))))))))))))))))
end
local macro_rules| `(tactic|walk_at "mir")=>`(tactic|simp -implicitDefEqProofs [mOf,startD,sSeq,sIf,sSet,sRet,sRetN,sDrop,sPar,sAsg,sApp,sFor,lsD,zpb,sSkip,eV,eC,e1,e2,eN,aNil,aCons,pNo,pInt,zcf,tb,znc,bNot,bAnd,bOr,eB,eIf,gV,gT,gsCons,gsNil,zdb,zdc,zjn,zo8,zjo,zo9,zdd,zls,zlr,zlt,zpa,zrq,D.isN,D.isB,zpc,zrr,zbo,za1,j9,znb,zda,zlp,zgs,zcf,zeo,zjp,sFz,zl1,zl2, *])
def dA (n:Nat)(f:Nat->Int):List D:=(aH n).map λg=>D.int (f g)
theorem WH (n:Nat)(f:Nat->Int):(dA n f).length=n:=by simp[dA]
theorem xX {n:Nat}(f:Nat->Int){g:Nat}(h:g<n):atI (dA n f) (g:Int)=some (.int (f g)):=by
 refine jt ?_
 simp[dA,h]
theorem Fk {n:Nat}(f:Nat->Int){g:Nat}(h:g<n)(v:Int):iN (dA n f) (g:Int) (.int v)=some (dA n λx=>if x=g then v else f x):=by
 unfold iN
 have hx:ixN (dA n f).length (g:Int)=some g:=by
  unfold ixN
  rw[WH]
  rw[if_pos (by omega),if_pos (by omega)]
  simp
 rw[hx]
 simp only[bu,Option.some.injEq]
 apply gU
 ·simp[dA]
 ·intro i h1 h2
  simp[dA,kO]
  by_cases hi:g=i
  ·subst hi;simp
  ·rw[if_neg hi,if_neg (λz=>hi z.symm)]
theorem MN {i:Nat}{fj f:EF}{gi:Int->Int->Int}{ρ:L3.Env}{n g:Nat}{w:Nat->Int}{y:Int}(h1:(ρ[i]?).join=some (.lst (dA n w)))(h2:fj ρ=some (.int (g:Int)))(h3:f ρ=some (.int y))(hg:g<n) :
  nH i fj gi f ρ=some (.nx (ρ.set i (some (.lst (dA n λx=>if x=g then gi (w g) y else w x))))):=by
 unfold nH
 have:eV i ρ=some (.lst (dA n w)):=h1
 rw[this,h2,h3]
 simp only[bu,xX w hg,Fk w hg]
def aQ (p:List Nat):List D:=p.map λ(x:Nat)=>D.int (x:Int)
theorem yX {f:EF}{r:L3.Env}{n:Nat}(h:f r=some (.int (n:Int)))(hn:n<=1000000):((aCons f aNil) r).bind ie=some ((aH n).map λ(t:Nat)=>D.int (t:Int)):=by
 have e:(aCons f aNil) r=some [.int (n:Int)]:=by unfold aCons;rw[h];rfl
 rw[e,bu,EU (by omega) (by omega)]
 unfold kY
 simp
theorem yU {α:Type}{fi:L3.Env->Option (List D)}{own:Nat}{cap:List Nat}{g:D->L3.Env->Option L3.Env}{p:BF}{f:EF}{r:L3.Env}(enc:α->D)(q:α->Bool)(h:α->D)(xs:List α)(hi:fi r=some (xs.map enc))(hl:xs.length<=16777216)
  (st:∀x∈xs,∃ρ1,g (enc x) (av own none++fG r cap)=some ρ1/\p ρ1=some (q x)/\(q x=true->f ρ1=some (h x))):eG fi own cap g p f r=some (.lst ((xs.filter q).map h)):=by
 unfold eG
 rw[hi]
 simp only[bu,aE]
 rw[if_pos hl,LY enc q h xs st]
 rfl
theorem WI {n i:Nat}(h:i<n):ixN n (i:Int)=some i:=by
 unfold ixN
 rw[if_pos (by omega),if_pos (by omega)]
 simp
theorem uq {α:Type}{fi:L3.Env->Option (List D)}{own:Nat}{cap:List Nat}{g:D->L3.Env->Option L3.Env}{f:EF}{r:L3.Env}(enc:α->D)(h:α->D)(xs:List α)(hi:fi r=some (xs.map enc))(hl:xs.length<=16777216)
  (st:∀x∈xs,∃ρ1,g (enc x) (av own none++fG r cap)=some ρ1/\f ρ1=some (h x)):eG fi own cap g iF f r=some (.lst (xs.map h)):=by
 have:=yU (p:=iF) enc (λ_=>true) h xs hi hl λx hx=>by
  obtain⟨ρ1,h1,h2⟩:=st x hx
  exact⟨ρ1,h1,rfl,λ_=>h2⟩
 rw[this,List.filter_eq_self.mpr λ_ _=>rfl]
theorem IS {α:Type}(enc:α->D):∀(as:List α) (k:Nat),eu k (as.map enc)=(as.zipIdx k).map λ(p:α×Nat)=>D.tup [.int (p.2:Int),enc p.1]
 |[],_=>rfl
 |a::as,k=>by
  show _::eu (k+1) (as.map enc)=_::_
  rw[IS enc as (k+1)]
theorem Jo {α:Type}{as:List α}{p:α×Nat}(h:p∈as.zipIdx):as[p.2]?=some p.1:=lm.mp h
inductive Kd where
 |ride|wait|back
deriving DecidableEq
structure cV where
 c:Kd
 s:Nat
 g:Nat
 t:Int
 b:Nat
deriving DecidableEq
namespace Kahn
def cnt (W:List cV)(P:List Nat)(g:Nat):Nat:=W.countP λa=>decide (a.g=g/\a.s∉P)
structure Ok (W:List cV)(many:Nat)(p:List Nat):Prop where
 nd:p.Nodup
 lt:∀x∈p,x<many
 ord:∀(i x:Nat),p[i]?=some x->∀a∈W,a.g=x->a.s∈p.take i
theorem Ok.snoc {W:List cV}{many:Nat}{p:List Nat}{x:Nat}(h:Ok W many p)(hx:x∉p)(hl:x<many)(ho:∀a∈W,a.g=x->a.s∈p):Ok W many (p++[x]) where
 nd:=by
  rw[aW]
  exact⟨h.nd,by simp,λa ha b hb e=>by simp at hb;subst hb;subst e;exact hx ha⟩
 lt:=λy hy=>by
  rcases aT.mp hy with hy|hy
  ·exact h.lt y hy
  ·simp at hy;subst hy;exact hl
 ord:=λi y hy a ha e=>by
  by_cases hi:i<p.length
  ·rw[bw hi]at hy
   rw[fL (by omega)]
   exact h.ord i y hy a ha e
  ·rw[bT (by omega)]at hy
   have qA:i-p.length=0:=by
    cases hq:i-p.length with
    |zero=>rfl
    |succ k=>rw[hq]at hy;simp at hy
   rw[qA]at hy
   simp at hy
   subst hy
   have:i=p.length:=by omega
   rw[this,rF]
   ·exact ho a ha e
   ·rfl
def stp (here:Nat)(S:(Nat->Int)×List Nat)(a:cV):(Nat->Int)×List Nat :=
 if a.s=here then
  let f':Nat->Int:=λx=>if x=a.g then S.1 a.g-1 else S.1 x
  (f',if f' a.g=0 then S.2++[a.g]else S.2)
 else S
structure In (W:List cV)(many:Nat)(P:List Nat)(here:Nat)(pre:List cV)(S:(Nat->Int)×List Nat):Prop where
 ok:Ok W many S.2
 f:∀g,S.1 g=(cnt W P g:Int)-(pre.countP λa=>decide (a.g=g/\a.s=here):Nat)
 z:∀g,g<many->(g∈S.2↔S.1 g=0)
 sub:∀x,(x∈P\/x=here)->x∈S.2
theorem X9 {W pre post:List cV}{P:List Nat}{here:Nat}{a:cV}(e:W=pre++a::post)(hP:here∉P)(ha:a.s=here):(pre.countP λx=>decide (x.g=a.g/\x.s=here))+1<=cnt W P a.g:=by
 unfold cnt
 rw[e,gu,fF]
 have h1:(pre.countP λx=>decide (x.g=a.g/\x.s=here))<=pre.countP λx=>decide (x.g=a.g/\x.s∉P):=by
  apply List.countP_mono_left
  intro x _ hx
  simp at hx ⊢
  exact⟨hx.1,by rw[hx.2];exact hP⟩
 have h2:(decide (a.g=a.g/\a.s∉P))=true:=by simp[ha,hP]
 rw[h2]
 simp only[if_true]
 omega
theorem In.step {W pre post:List cV}{many:Nat}{P:List Nat}{here:Nat}{a:cV}{S:(Nat->Int)×List Nat}(h:In W many P here pre S)(e:W=pre++a::post)(hP:here∉P)(hl:a.g<many):In W many P here (pre++[a]) (stp here S a):=by
 by_cases ha:a.s=here
 ·have Pm:=X9 e hP ha
  have hf:∀g,(if g=a.g then S.1 a.g-1 else S.1 g)=(cnt W P g:Int)-((pre++[a]).countP λx=>decide (x.g=g/\x.s=here):Nat):=λg=>by
   rw[gu,nJ]
   by_cases hg:g=a.g
   ·subst hg
    rw[if_pos rfl,h.f]
    have:decide (a.g=a.g/\a.s=here)=true:=by simp[ha]
    rw[this]
    simp only[if_true]
    omega
   ·rw[if_neg hg,h.f]
    have:decide (a.g=g/\a.s=here)=false:=by simp;intro z;exact absurd z.symm hg
    rw[this]
    simp
  have mL:S.1 a.g≠0:=by rw[h.f];omega
  have BG:a.g∉S.2:=λz=>mL ((h.z a.g hl).mp z)
  by_cases h0:S.1 a.g-1=0
  ·have es:stp here S a=(λx=>if x=a.g then S.1 a.g-1 else S.1 x,S.2++[a.g]):=by unfold stp;simp[ha,h0]
   rw[es]
   refine⟨h.ok.snoc BG hl λb hb eb=>?_,hf,λg hg=>?_,λx hx=>bp _ (h.sub x hx)⟩
   ·
    refine h.sub _ (Classical.byContradiction λhc=>?_)
    have Kl:b.s∉P:=λz=>hc (.inl z)
    have p6:b.s≠here:=λz=>hc (.inr z)
    have h1:cnt W P a.g=(pre.countP λx=>decide (x.g=a.g/\x.s=here))+1:=by
     have:=h.f a.g
     omega
    have h2:(W.countP λx=>decide (x.g=a.g/\x.s=here))+(W.countP λx=>decide (x.g=a.g/\x.s∉P/\x.s≠here))<=cnt W P a.g:=by
     have:cnt W P a.g=(W.countP λx=>decide (x.g=a.g/\x.s=here))+(W.countP λx=>decide (x.g=a.g/\x.s∉P/\x.s≠here)):=by
      unfold cnt
      clear h1 hc Kl p6 eb hb h0 hf Pm e h
      induction W with
      |nil=>rfl
      |cons x W ih=>
       simp only[fF]
       rw[ih]
       by_cases q1:x.g=a.g<;>by_cases q2:x.s=here<;>by_cases q3:x.s∈P<;>simp_all<;>omega
     omega
    have h3:(pre.countP λx=>decide (x.g=a.g/\x.s=here))+1<=W.countP λx=>decide (x.g=a.g/\x.s=here):=by
     rw[e,gu,fF]
     have:decide (a.g=a.g/\a.s=here)=true:=by simp[ha]
     rw[this]
     simp only[if_true]
     omega
    have h4:0<W.countP λx=>decide (x.g=a.g/\x.s∉P/\x.s≠here):=by
     rw[List.countP_pos_iff]
     exact⟨b,hb,by simp[eb,Kl,p6]⟩
    omega
   ·rw[aT,aO]
    by_cases oV:g=a.g
    ·subst oV;simp[h0]
    ·dsimp only;rw[if_neg oV,h.z g hg];simp[oV]
  ·have es:stp here S a=(λx=>if x=a.g then S.1 a.g-1 else S.1 x,S.2):=by unfold stp;simp[ha,h0]
   rw[es]
   refine⟨h.ok,hf,λg hg=>?_,h.sub⟩
   by_cases oV:g=a.g
   ·subst oV
    dsimp only
    rw[if_pos rfl]
    exact⟨λz=>absurd z BG,λz=>absurd z h0⟩
   ·dsimp only;rw[if_neg oV];exact h.z g hg
 ·have:stp here S a=S:=by unfold stp;rw[if_neg ha]
  rw[this]
  refine⟨h.ok,λg=>?_,h.z,h.sub⟩
  rw[gu,nJ]
  have:decide (a.g=g/\a.s=here)=false:=by simp[ha]
  rw[this,h.f]
  simp
theorem In.fold {W:List cV}{many:Nat}{P:List Nat}{here:Nat}(hP:here∉P)(hl:∀a∈W,a.g<many):∀(post pre:List cV) (S:(Nat->Int)×List Nat),W=pre++post->In W many P here pre S->In W many P here W (post.foldl (stp here) S)
 |[],pre,S,e,h=>by rw[e] ;simpa using(by rw[bY]at e;subst e;exact h)
 |a::post,pre,S,e,h=>by
  have:=In.fold hP hl post (pre++[a]) (stp here S a) (by rw[e];simp) (h.step e hP (hl a (by rw[e];simp)))
  exact this
theorem UN {W:List cV}{P:List Nat}{here g:Nat}(hP:here∉P):(cnt W P g:Int)-(W.countP λa=>decide (a.g=g/\a.s=here):Nat)=cnt W (P++[here]) g:=by
 have:cnt W P g=(W.countP λa=>decide (a.g=g/\a.s=here))+cnt W (P++[here]) g:=by
  unfold cnt
  induction W with
  |nil=>rfl
  |cons x W ih=>
   simp only[fF]
   rw[ih]
   by_cases q1:x.g=g<;>by_cases q2:x.s=here<;>by_cases q3:x.s∈P<;>simp_all<;>omega
 omega
structure Wh (W:List cV)(many:Nat)(f:Nat->Int)(p:List Nat)(d:Nat):Prop where
 ok:Ok W many p
 dl:d<=p.length
 fe:∀g,f g=cnt W (p.take d) g
 z:∀g,g<many->(g∈p↔f g=0)
theorem Wh.step {W:List cV}{many:Nat}{f:Nat->Int}{p:List Nat}{d here:Nat}(h:Wh W many f p d)(hl:∀a∈W,a.g<many)(hh:p[d]?=some here) :
  Wh W many (W.foldl (stp here) (f,p)).1 (W.foldl (stp here) (f,p)).2 (d+1)/\∃q,(W.foldl (stp here) (f,p)).2=p++q:=by
 have hd:d<p.length:=(aU.mp hh).1
 have hP:here∉p.take d:=λz=>by
  obtain⟨i,hi,e⟩:=dJ.mp z
  have qA:i<d:=by rw[dw]at hi;omega
  rw[pS]at e
  have e2:p[d]=here:=by have:=aU.mp hh;exact this.2
  have:=(kL (xs:=p) (h₀:=by omega) (h₁:=hd) h.ok.nd).mp (e.trans e2.symm)
  omega
 have G2:∀(l:List cV) (S:(Nat->Int)×List Nat),∃q,(l.foldl (stp here) S).2=S.2++q:=by
  intro l
  induction l with
  |nil=>exactλS=>⟨[],by simp⟩
  |cons a l ih=>
   intro S
   obtain⟨q,hq⟩:=ih (stp here S a)
   have:∃r,(stp here S a).2=S.2++r:=by
    by_cases ha:a.s=here
    ·by_cases h0:S.1 a.g-1=0
     ·exact⟨[a.g],by unfold stp;simp[ha,h0]⟩
     ·exact⟨[],by unfold stp;simp[ha,h0]⟩
    ·exact⟨[],by unfold stp;simp[ha]⟩
   obtain⟨r,hr⟩:=this
   exact⟨r++q,by rw[bD,hq,hr,ee]⟩
 obtain⟨q,hq⟩:=G2 W (f,p)
 have I:=In.fold hP hl W [] (f,p) rfl ⟨h.ok,λg=>by show f g=_;rw[h.fe];simp,h.z,λx hx=>by
  rcases hx with hx|rfl
  ·exact iX hx
  ·exact cn.mpr ⟨d,hh⟩⟩
 have BM:(W.foldl (stp here) (f,p)).2.take (d+1)=p.take d++[here]:=by
  rw[hq]
  show(p++q).take (d+1)=_
  rw[fL (by omega),List.take_succ,hh]
  rfl
 refine⟨⟨I.ok,?_,λg=>?_,I.z⟩,q,hq⟩
 ·rw[hq]
  show d+1<=(p++q).length
  rw[aR];omega
 ·rw[I.f,BM]
  exact UN hP
theorem cnt_zero {W:List cV}{P:List Nat}{g:Nat}:cnt W P g=0↔∀a∈W,a.g=g->a.s∈P:=by
 unfold cnt
 rw[List.countP_eq_zero]
 constructor
 ·intro h a ha e
  have:=h a ha
  simp at this
  exact Classical.byContradiction λz=>z (this e)
 ·intro h a ha
  simp
  exact h a ha
theorem Wh.all {W:List cV}{many:Nat}{f:Nat->Int}{p:List Nat}(h:Wh W many f p p.length)(rank:Nat->Nat)(hr:∀a∈W,rank a.s<rank a.g)(hs:∀a∈W,a.s<many):∀g,g<many->g∈p:=by
 have:∀n g,rank g<n->g<many->g∈p:=by
  intro n
  induction n with
  |zero=>intro g h;omega
  |succ n ih=>
   intro g hg hl
   rw[h.z g hl,h.fe,List.take_length]
   have:cnt W p g=0:=cnt_zero.mpr λa ha e=>ih a.s (by have:=hr a ha;rw[e]at this;omega) (hs a ha)
   rw[this];rfl
 exactλg hl=>this (rank g+1) g (by omega) hl
theorem len_of {many:Nat}{p:List Nat}(nd:p.Nodup)(lt:∀x∈p,x<many)(all:∀g,g<many->g∈p):p.length=many:=by
 have h1:p.Perm (aH many):=by
  rw[lN nd g0]
  intro a
  rw[bZ]
  exact⟨lt a,all a⟩
 simpa using h1.length_eq
theorem len_le {many:Nat}{p:List Nat}(nd:p.Nodup)(lt:∀x∈p,x<many):p.length<=many:=by
 have h1:(p++(aH many).filter λx=>decide (x∉p)).Perm (aH many):=by
  rw[lN (by
   rw[aW]
   refine⟨nd,g0.filter _,λa ha b hb e=>?_⟩
   subst e
   simp at hb
   exact hb.2 ha) g0]
  intro a
  rw[aT,bn,bZ]
  constructor
  ·rintro(h|h)
   ·exact lt a h
   ·exact h.1
  ·intro h
   by_cases ha:a∈p
   ·exact .inl ha
   ·exact .inr ⟨h,by simpa using ha⟩
 have:=h1.length_eq
 rw[aR,df]at this
 omega
end Kahn
def Kd.n:Kd->Nat
 |.ride=>1|.wait=>2|.back=>3
def bH (a:cV):D:=.obj a.c.n ["start","goal","time","behind"] [.int a.s,.int a.g,.int a.t,.int a.b]
theorem fs (a:cV):cE [0,1,2,3] "start" (bH a)=some (.int a.s):=by obtain⟨c,_,_,_,_⟩:=a;cases c<;>rfl
theorem fg (a:cV):cE [0,1,2,3] "goal" (bH a)=some (.int a.g):=by obtain⟨c,_,_,_,_⟩:=a;cases c<;>rfl
theorem ft (a:cV):cE [0,1,2,3] "time" (bH a)=some (.int a.t):=by obtain⟨c,_,_,_,_⟩:=a;cases c<;>rfl
theorem fb (a:cV):cE [0,1,2,3] "behind" (bH a)=some (.int a.b):=by obtain⟨c,_,_,_,_⟩:=a;cases c<;>rfl
structure Right (many:Nat)(a:cV):Prop where
 s:a.s<many
 g:a.g<many
 t0:0<=a.t
 t1:a.t<=1000000000
 b:a.b<=4
 r:a.c=.ride->a.b=0
 k:a.c=.back->1<=a.b
theorem ji {n l m:Int}(h1:l<=n)(h2:n<=m):ye [.int n,.int l,.int m]=some (.bl true):=by
 unfold ye
 have q1 (i:Int):lA "int" (.int i)=some (.bl true):=rfl
 have q2 (i:Int):lA "bool" (.int i)=some (.bl false):=rfl
 walk_at "mir"
theorem isA (all sub:List Nat)(a:cV):qY all sub (bH a)=if all.contains a.c.n=true then some (.bl (sub.contains a.c.n))else none:=rfl
theorem WJ {many:Nat}{a:cV}(h:Right many a):jh [bH a,.int (many:Int)]=some (.bl true):=by
 have w1:ye [.int (a.s:Int),.int 0,.int ((many:Int)-1)]=some (.bl true):=ji (by omega) (by have:=h.s;omega)
 have w2:ye [.int (a.g:Int),.int 0,.int ((many:Int)-1)]=some (.bl true):=ji (by omega) (by have:=h.g;omega)
 have w3:ye [.int a.t,.int 0,.int 1000000000]=some (.bl true):=ji h.t0 h.t1
 have f1:=fs a
 have f2:=fg a
 have f3:=ft a
 have f4:=fb a
 have hi:=λall sub=>isA all sub a
 have hb:=h.b
 have hr:=h.r
 have hk:=h.k
 clear h
 unfold jh
 cases hc:a.c with
 |ride=>
  have w4:ye [.int (a.b:Int),.int 0,.int 0]=some (.bl true):=ji (by omega) (by have:=hr hc;omega)
  rw[hc]at hi
  clear hr hk hb
  have hn:Kd.ride.n=1:=rfl
  walk_at "mir"
 |wait=>
  have w4:ye [.int (a.b:Int),.int 0,.int 4]=some (.bl true):=ji (by omega) (by omega)
  rw[hc]at hi
  clear hr hk hb
  have hn:Kd.wait.n=2:=rfl
  walk_at "mir"
 |back=>
  have w4:ye [.int (a.b:Int),.int 1,.int 4]=some (.bl true):=ji (by have:=hk hc;omega) (by omega)
  rw[hc]at hi
  clear hr hk hb
  have hn:Kd.back.n=3:=rfl
  walk_at "mir"
def W0 (as:List cV):List cV:=as.filter λa=>decide (a.b=0)
theorem Su (as:List cV)(l:as.length<=16777216)(r:L3.Env)(h:r[1]?.join=some (.lst (as.map bH))) :
  uc r=some (.lst ((W0 as).map bH)):=by
 have e:lsD (eV 1) r=some (as.map bH):=by unfold lsD;have:eV 1 r=some (.lst (as.map bH)):=h;rw[this];rfl
 refine yU bH (λa=>decide (a.b=0)) bH as e l λa _=>⟨_,rfl,?_,λ_=>rfl⟩
 have:=fb a
 walk_at "mir"
def Ar (s:(Nat->Int)×Option D)(a:cV):(Nat->Int)×Option D:=(λx=>if x=a.g then s.1 a.g+1 else s.1 x,some (bH a))
theorem L9:∀(W:List cV) (s:(Nat->Int)×Option D) (g:Nat),(W.foldl Ar s).1 g=s.1 g+(W.countP λa=>decide (a.g=g):Nat)
 |[],s,g=>by simp
 |a::W,s,g=>by
  rw[bD,L9 W,fF]
  by_cases hg:g=a.g
  ·subst hg;simp[Ar];omega
  ·have:decide (a.g=g)=false:=by simp;exactλz=>hg z.symm
   simp[Ar,hg,this]
theorem Ma (p:List Nat)(x:Nat):aQ p++[D.int (x:Int)]=aQ (p++[x]):=by simp[aQ]
theorem WK {many:Nat}{as:List cV}{f:Nat->Int}{p:List Nat}{here d:Nat}{x4:Option D}(hm:many<=1000)(hW:∀a∈W0 as,a.s<many/\a.g<many)(h:Kahn.Wh (W0 as) many f p d)(hh:p[d]?=some here) :
  ∃x,ir (gV 4) xq ((W0 as).map bH) [some (.int (many:Int)),some (.lst (as.map bH)),some (.lst ((W0 as).map bH)),some (.lst (dA many f)),x4,some (.lst (aQ p)),some (.int (d:Int)),some (.int (here:Int))] =
   some (.nx [some (.int (many:Int)),some (.lst (as.map bH)),some (.lst ((W0 as).map bH)),some (.lst (dA many ((W0 as).foldl (Kahn.stp here) (f,p)).1)),x,some (.lst (aQ ((W0 as).foldl (Kahn.stp here) (f,p)).2)),some (.int (d:Int)),some (.int (here:Int))]):=by
 have hd:d<p.length:=(aU.mp hh).1
 have hP:here∉p.take d:=λz=>by
  obtain⟨i,hi,e⟩:=dJ.mp z
  have qA:i<d:=by rw[dw]at hi;omega
  rw[pS]at e
  have e2:p[d]=here:=(aU.mp hh).2
  have:=(kL (xs:=p) (h₀:=by omega) (h₁:=hd) h.ok.nd).mp (e.trans e2.symm)
  omega
 obtain⟨ρ',h1,x,pre,e1,e2⟩:=ET (g:=gV 4) (b:=xq) (ds:=(W0 as).map bH) (ρ:=[some (.int (many:Int)),some (.lst (as.map bH)),some (.lst ((W0 as).map bH)),some (.lst (dA many f)),x4,some (.lst (aQ p)),some (.int (d:Int)),some (.int (here:Int))])
  (λds ρ=>∃x pre,ds=pre.map bH/\(∃post,W0 as=pre++post)/\Kahn.In (W0 as) many (p.take d) here pre (pre.foldl (Kahn.stp here) (f,p))/\ρ=[some (.int (many:Int)),some (.lst (as.map bH)),some (.lst ((W0 as).map bH)),some (.lst (dA many (pre.foldl (Kahn.stp here) (f,p)).1)),x,some (.lst (aQ (pre.foldl (Kahn.stp here) (f,p)).2)),some (.int (d:Int)),some (.int (here:Int))])
  ⟨x4,[],rfl,⟨_,rfl⟩,⟨h.ok,λg=>by show f g=_;rw[h.fe];simp,h.z,λx hx=>by
   rcases hx with hx|rfl
   ·exact iX hx
   ·exact cn.mpr ⟨d,hh⟩⟩,rfl⟩ (by
  rintro ds dd post ρ e ⟨x,pre,rfl,⟨iM,e'⟩,I,rfl⟩
  rw[e',cu]at e
  have e3:=mT e
  cases iM with
  |nil=>cases e3
  |cons a iM=>
   rw[br]at e3
   cases e3
   have ha:a∈W0 as:=by rw[e'];simp
   have hl:=Kahn.len_le I.ok.nd I.ok.lt
   have I2:=I.step e' hP (hW a ha).2
   refine⟨_,_,rfl,.inl ?_,some (bH a),pre++[a],by simp,⟨iM,by rw[e'];simp⟩,by rw[gJ];exact I2,rfl⟩
   rw[gJ]
   generalize pre.foldl (Kahn.stp here) (f,p)=S at hl
   show xq _=some (.nx [_,_,_,some (.lst (dA many (Kahn.stp here S a).1)),_,some (.lst (aQ (Kahn.stp here S a).2)),_,_])
   have f1:=fs a
   have f2:=fg a
   have d6:(aQ S.2).length<16777216:=by simp[aQ];omega
   unfold xq
   by_cases hs:a.s=here
   ·have PB:((a.s:Nat):Int)=(here:Int):=by rw[hs]
    have au:=MN (i:=3) (fj:=e1 (cE [0,1,2,3] "goal") (eV 4)) (f:=eC (.int 1)) (gi:=λi j=>i-j) (ρ:=[some (.int (many:Int)),some (.lst (as.map bH)),some (.lst ((W0 as).map bH)),some (.lst (dA many S.1)),some (bH a),some (.lst (aQ S.2)),some (.int (d:Int)),some (.int (here:Int))]) (n:=many) (g:=a.g) (w:=S.1) (y:=1) rfl (by walk_at "mir") rfl (hW a ha).2
    have va:eZ (.lst (dA many λx=>if x=a.g then S.1 a.g-1 else S.1 x)) (.int (a.g:Int))=some (.int (S.1 a.g-1)):=by
     have:=xX (λx=>if x=a.g then S.1 a.g-1 else S.1 x) (hW a ha).2
     rw[if_pos rfl]at this
     exact this
    by_cases h0:S.1 a.g-1=0
    ·have es:Kahn.stp here S a=(λx=>if x=a.g then S.1 a.g-1 else S.1 x,S.2++[a.g]):=by unfold Kahn.stp;simp[hs,h0]
     rw[es,←Ma]
     rw[h0]at va
     clear I I2 e' es
     walk_at "mir"
    ·have es:Kahn.stp here S a=(λx=>if x=a.g then S.1 a.g-1 else S.1 x,S.2):=by unfold Kahn.stp;simp[hs,h0]
     rw[es]
     clear I I2 e' es
     walk_at "mir"
   ·have es:Kahn.stp here S a=S:=by unfold Kahn.stp;rw[if_neg hs]
    rw[es]
    have PB:¬((a.s:Nat):Int)=(here:Int):=by omega
    clear I I2 e' es
    walk_at "mir")
 obtain⟨⟨post,e2⟩,I,rfl⟩:=e2
 have:pre=W0 as:=by
  have:=congrArg nX e1
  rw[aE,aE]at this
  rw[e2,aR]at this
  have hp:post=[]:=kZ (by omega)
  rw[e2,hp,bY]
 rw[this]at h1
 exact⟨x,h1⟩
theorem UO {many:Nat}(as:List cV)(l:as.length<=1000)(hm:many<=1000)(hs:∀a∈as,a.s<many/\a.g<many) :
  ∃(f:Nat->Int) (p:List Nat),xr [.int (many:Int),.lst (as.map bH)]=some (.lst (aQ p))/\Kahn.Wh (W0 as) many f p p.length:=by
 have hW:∀a∈W0 as,a.s<many/\a.g<many:=λa ha=>hs a (bn.mp ha).1
 obtain⟨c1,_⟩:=Iw (g:=gV 4) (b:=ww) bH (λs:(Nat->Int)×Option D=>[some (.int (many:Int)),some (.lst (as.map bH)),some (.lst ((W0 as).map bH)),some (.lst (dA many s.1)),s.2,none,none,none])
  Ar (λ_=>True) (W0 as) (λ_=>0,none) trivial (λs a ha _=>by
   refine⟨_,rfl,.inl ?_,trivial⟩
   unfold ww
   have f2:=fg a
   rw[MN (n:=many) (g:=a.g) (w:=s.1) (y:=1) rfl (by walk_at "mir") rfl (hW a ha).2]
   rfl)
 have c2:=L9 (W0 as) (λ_=>0,none)
 generalize O6:(W0 as).foldl Ar (λ_=>0,none)=S0 at c1 c2
 obtain⟨f0,y4⟩:=S0
 dsimp only at c1 c2
 have Pv:∀r:L3.Env,r[0]?.join=some (.int (many:Int))->r[3]?.join=some (.lst (dA many f0))->ub r=some (.lst (aQ ((aH many).filter λg=>decide (f0 g=0)))):=by
  intro r h0 h3
  refine yU (λ(t:Nat)=>D.int (t:Int)) (λg=>decide (f0 g=0)) (λ(t:Nat)=>D.int (t:Int)) (aH many) (yX h0 (by omega)) (by rw[df];omega) ?_
  ·intro g hg
   refine⟨_,rfl,?_,λ_=>rfl⟩
   have hg:g<many:=bZ.mp hg
   have hv:eZ (.lst (dA many f0)) (.int (g:Int))=some (.int (f0 g)):=xX f0 hg
   have hc:fG r [3]=[some (.lst (dA many f0))]:=by unfold fG;simp[h3]
   rw[hc]
   walk_at "mir"
 generalize hq:((aH many).filter λg=>decide (f0 g=0))=p0 at Pv
 have w0:Kahn.Wh (W0 as) many f0 p0 0:=by
  have hf:∀g,f0 g=Kahn.cnt (W0 as) [] g:=λg=>by
   rw[c2 g]
   unfold Kahn.cnt
   simp
  refine⟨⟨by rw[←hq];exact g0.filter _,λx hx=>by rw[←hq,bn,bZ]at hx;exact hx.1,λi x hx a ha e=>?_⟩,by omega,hf,λg hg=>by rw[←hq,bn,bZ];simp[hg]⟩
  have wI:x∈p0:=cn.mpr ⟨i,hx⟩
  rw[←hq,bn]at wI
  have h0:f0 x=0:=by simpa using wI.2
  rw[hf]at h0
  have:=Kahn.cnt_zero.mp (by exact_mod_cast h0) a ha e
  cases this
 obtain⟨ρ',h1,⟨f,p,d,x4,x7,rfl,wh⟩,h3⟩:=Ly (c:=tb (e2 qC (eV 6) (eN fV (aCons (eV 5) aNil)))) (b:=wv)
  (λρ=>∃f p d x4 x7,ρ=[some (.int (many:Int)),some (.lst (as.map bH)),some (.lst ((W0 as).map bH)),some (.lst (dA many f)),x4,some (.lst (aQ p)),some (.int ((d:Nat):Int)),x7]/\Kahn.Wh (W0 as) many f p d)
  (λρ:L3.Env=>match ρ[6]? with|some (some (D.int i))=>(1001-i).toNat|_=>0) (by
   rintro ρ ⟨f,p,d,x4,x7,rfl,wh⟩
   have hl:(aQ p).length=p.length:=by simp[aQ]
   refine⟨decide ((d:Int)<(p.length:Int)),by walk_at "mir",λht=>?_⟩
   have hd:d<p.length:=by simpa using ht
   have hh:p[d]?=some p[d]:=by simp[hd]
   obtain⟨x,Kp⟩:=WK (x4:=x4) hm hW wh hh
   obtain⟨DB,q,_⟩:=wh.step (λa ha=>(hW a ha).2) hh
   have pJ:=Kahn.len_le DB.ok.nd DB.ok.lt
   have By:=DB.dl
   refine⟨_,.inl ?_,⟨_,_,d+1,x,some (.int (p[d]:Int)),rfl,DB⟩,?_⟩
   ·have Po:eZ (.lst (aQ p)) (.int (d:Int))=some (.int (p[d]:Int)):=jt (by simp[aQ,hd])
    have YY:i2 (λi j=>D.int (i+j)) (.int (d:Int)) (.int 1)=some (.int ((d+1:Nat):Int)):=by simp[i2]
    unfold wv xJ
    clear wh DB pJ By
    walk_at "mir"
   ·show(1001-((d+1:Nat):Int)).toNat<(1001-(d:Int)).toNat
    omega) n6 [some (.int (many:Int)),some (.lst (as.map bH)),some (.lst ((W0 as).map bH)),some (.lst (dA many f0)),y4,some (.lst (aQ p0)),some (.int ((0:Nat):Int)),none] ⟨f0,p0,0,y4,none,rfl,w0⟩ (by
   show(1001-((0:Nat):Int)).toNat<n6
   have:(1001:Nat)<n6:=VX (by decide)
   omega)
 have hd:d=p.length:=by
  have hl:(aQ p).length=p.length:=by simp[aQ]
  have h4:(tb (e2 qC (eV 6) (eN fV (aCons (eV 5) aNil)))) [some (.int (many:Int)),some (.lst (as.map bH)),some (.lst ((W0 as).map bH)),some (.lst (dA many f)),x4,some (.lst (aQ p)),some (.int (d:Int)),x7]=some (decide ((d:Int)<(p.length:Int))):=by walk_at "mir"
  rw[h4]at h3
  have:=wh.dl
  simp at h3
  omega
 subst hd
 refine⟨f,p,?_,wh⟩
 have r1:=Su as (by omega)
 have rp:lF (.lst [.int 0]) (.int (many:Int))=some (.lst (dA many λ_=>0)):=by
  unfold lF
  dsimp only
  rw[if_pos ⟨by omega,by omega,by simp⟩]
  congr 2
  unfold dA
  rw[li,df]
  simp
 rw[show(((0:Nat):Int))=0 from rfl]at h1
 unfold xr oE
 clear hs hW c2 O6 hq w0 wh h3 l hm
 walk_at "mir"
def bP (ns:List D)(as:List cV):D:=.obj 4 ["names","arrows"] [.lst ns,.lst (as.map bH)]
structure jA (many:Nat)(as:List cV):Prop where
 pos:1<=many
 le:many<=40
 len:as.length<=120
 right:∀a∈as,Right many a
 rank:∃rank:Nat->Nat,∀a∈as,a.b=0->rank a.s<rank a.g
theorem jA.placed {many:Nat}{as:List cV}(h:jA many as):∃p:List Nat,xr [.int (many:Int),.lst (as.map bH)]=some (.lst (aQ p))/\Kahn.Ok (W0 as) many p/\p.length=many/\∀g,g<many->g∈p:=by
 obtain⟨f,p,h1,h2⟩:=UO (many:=many) as (by have:=h.len;omega) (by have:=h.le;omega) (λa ha=>⟨(h.right a ha).s,(h.right a ha).g⟩)
 obtain⟨rank,hr⟩:=h.rank
 have all:=h2.all rank (λa ha=>by
  have:=bn.mp ha
  exact hr a this.1 (by simpa using this.2)) (λa ha=>(h.right a (bn.mp ha).1).s)
 exact⟨p,h1,h2.ok,Kahn.len_of h2.ok.nd h2.ok.lt all,all⟩
theorem Yg {many:Nat}{as:List cV}{ns:List D}(h:jA many as)(hn:ns.length=many)(Y3:uj [.lst ns]=some (.bl true)):v5 4 [.lst ns,.lst (as.map bH)]=some (bP ns as):=by
 obtain⟨p,hp,_,hl,_⟩:=h.placed
 have d6:=h.len
 obtain⟨ρ',h1,x3,x4,rfl⟩:=ET (g:=gT (gsCons (gV 3) (gsCons (gV 4) gsNil))) (b:=ua) (ds:=eu 0 (as.map bH)) (ρ:=[some (.obj 4 [] []),some (.lst ns),some (.lst (as.map bH)),none,none,none])
  (λ_ ρ=>∃x3 x4,ρ=[some (.obj 4 [] []),some (.lst ns),some (.lst (as.map bH)),x3,x4,none]) ⟨none,none,rfl⟩ (by
   rintro pre d post ρ e ⟨x3,x4,rfl⟩
   obtain⟨x,hx,rfl⟩:=Iv (Nx e)
   rw[bj]at hx
   obtain⟨a,ha,rfl⟩:=dq.mp hx
   have hr:=WJ (h.right a (cn.mpr ⟨_,ha⟩))
   refine⟨_,_,rfl,.inl ?_,some (.int (0+pre.length:Nat)),some (bH a),rfl⟩
   unfold ua
   rw[←hn]at hr
   clear hp hl hn d6 h
   walk_at "mir")
 have hz:(aQ p).length=many:=by simp[aQ,hl]
 have Y1:¬((as.length:Int) > 120):=by omega
 rw[←hn]at hp hz
 have l1:∀ds:List D,jC [.lst ds]=some (.lst ds):=λ_=>rfl
 have s1:gj [4] "names" (eN jC (aCons (eV 1) aNil)) [some (D.obj 4 [] []),some (.lst ns),some (.lst (as.map bH)),x3,x4,some (.lst (aQ p))]=some (.nx [some (D.obj 4 ["names"] [.lst ns]),some (.lst ns),some (.lst (as.map bH)),x3,x4,some (.lst (aQ p))]):=rfl
 have s2:gj [4] "arrows" (eN jC (aCons (eV 2) aNil)) [some (D.obj 4 ["names"] [.lst ns]),some (.lst ns),some (.lst (as.map bH)),x3,x4,some (.lst (aQ p))]=some (.nx [some (bP ns as),some (.lst ns),some (.lst (as.map bH)),x3,x4,some (.lst (aQ p))]):=rfl
 clear h d6 hl hn
 unfold v5 tP
 walk_at "mir"
abbrev T:=Option Int
def lt (m:Int):T->T
 |none=>none
 |some i=>some (i+m)
def mx:T->T->T
 |none,b=>b
 |a,none=>a
 |some i,some j=>some (if j > i then j else i)
theorem UQ (a b:T):EX [gM a,gM b]=some (gM (mx a b)):=by
 unfold EX
 cases a<;>cases b<;>simp only[gM,mx]<;>walk_at "mir"
theorem WL (a b:T):mx a b=mx b a:=by cases a<;>cases b<;>simp only[mx];congr 1;omega
theorem EZ (a b c:T):mx (mx a b) c=mx a (mx b c):=by cases a<;>cases b<;>cases c<;>simp only[mx];congr 1;omega
theorem MP (a:T):mx a a=a:=by cases a<;>simp only[mx];congr 1;omega
theorem Yh (m:Int)(a b:T):lt m (mx a b)=mx (lt m a) (lt m b):=by cases a<;>cases b<;>simp only[mx,lt];congr 1;omega
theorem LO {κ:Type}(h:κ×D->D):∀(ks:List κ) (ds:List D),ks.zip ((ks.zip ds).map h)=(ks.zip ds).map λp=>(p.1,h p)
 |[],_=>rfl
 |_::_,[]=>rfl
 |k::ks,d::ds=>by
  show(k,h (k,d))::ks.zip ((ks.zip ds).map h)=(k,h (k,d))::(ks.zip ds).map _
  rw[LO h ks ds]
theorem Va {κ:Type}[DecidableEq κ]{ks:List κ}{ds:List D}(hl:ks.length=ds.length)(k k':κ)(d:D):iH (fH ks ds k d).1 (fH ks ds k d).2 k'=if k'=k then some d else iH ks ds k':=by
 unfold fH
 by_cases hc:ks.contains k=true
 ·rw[if_pos hc]
  unfold iH
  dsimp only
  rw[LO,List.find?_map]
  by_cases hk:k'=k
  ·subst hk
   rw[if_pos rfl]
   have hm:k'∈ks:=by simpa using hc
   have:∃p∈ks.zip ds,p.1=k':=by
    obtain⟨i,hi,e⟩:=dJ.mp hm
    refine⟨(ks[i],ds[i]),?_,e⟩
    rw[dJ]
    exact⟨i,by rw[eE];omega,by simp⟩
   obtain⟨p,hp,he⟩:=this
   cases hf:(ks.zip ds).find? ((λp:κ×D=>decide (p.1=k')) ∘ λp:κ×D=>(p.1,if p.1=k' then d else p.2))with
   |none=>
    rw[pd]at hf
    have:=hf p hp
    simp[he]at this
   |some q=>
    have hq:=rG hf
    simp at hq
    simp[hq]
  ·rw[if_neg hk]
   have:((λp:κ×D=>decide (p.1=k')) ∘ λp:κ×D=>(p.1,if p.1=k then d else p.2))=λp:κ×D=>decide (p.1=k'):=rfl
   rw[this]
   cases hf:(ks.zip ds).find? λp=>decide (p.1=k')with
   |none=>rfl
   |some q=>
    have hq:=rG hf
    simp at hq
    have mL:¬q.1=k:=λz=>hk (hq▸z)
    simp[mL]
 ·rw[if_neg hc]
  unfold iH
  dsimp only
  have hz:(ks++[k]).zip (ds++[d])=ks.zip ds++[(k,d)]:=by
   rw[rH hl];rfl
  rw[hz,List.find?_append]
  by_cases hk:k'=k
  ·subst hk
   rw[if_pos rfl]
   have hn:(ks.zip ds).find? (λp=>decide (p.1=k'))=none:=by
    rw[pd]
    intro p hp
    have hm:=(fS (a:=p.1) (b:=p.2) hp).1
    have rM:¬k'∈ks:=by simpa using hc
    simp
    intro z
    exact rM (z▸hm)
   rw[hn]
   simp
  ·rw[if_neg hk]
   have:¬k=k':=λz=>hk z.symm
   cases hf:(ks.zip ds).find? (λp=>decide (p.1=k'))<;>simp[this]
theorem WM {κ:Type}[DecidableEq κ]{ks:List κ}{ds:List D}(hl:ks.length=ds.length)(k:κ)(d:D):(fH ks ds k d).1.length=(fH ks ds k d).2.length/\(fH ks ds k d).1.length<=ks.length+1:=by
 unfold fH
 by_cases hc:ks.contains k=true
 ·rw[if_pos hc];simp;omega
 ·rw[if_neg hc];simp[hl]
abbrev Fl:=Nat×Nat×Int
def bR (q:Fl):D:=.tup [.int (q.1:Int),.int (q.2.1:Int),.int q.2.2]
def fl (fs:List Fl)(g r:Nat):T:=(fs.filter λq=>decide (q.1=g/\q.2.1=r)).foldl (λw q=>mx w (some q.2.2)) none
structure jH (d:D)(n:Nat)(f:Nat->Nat->T):Prop where
 is:∃ks ds,d=.dT ks ds/\ks.length=ds.length/\ks.length<=n/\∀g r:Nat,iH ks ds [.inl (g:Int),.inl (r:Int)]=(f g r).map D.int
theorem jH.get {d:D}{n:Nat}{f:Nat->Nat->T}(h:jH d n f)(g r:Nat):((jV d (.tup [.int (g:Int),.int (r:Int)])).bind λr=>some (r.getD .non))=some (gM (f g r)):=by
 obtain⟨ks,ds,rfl,h1,h2,h3⟩:=h.is
 show some ((iH ks ds [.inl (g:Int),.inl (r:Int)]).getD .non)=_
 rw[h3]
 cases f g r<;>rfl
theorem jH.getI {d:D}{n:Nat}{f:Nat->Nat->T}(h:jH d n f)(g r:Nat)(z:D):((jV d (.tup [.int (g:Int),.int (r:Int)])).bind λr=>some (r.getD z))=some (((f g r).map D.int).getD z):=by
 obtain⟨ks,ds,rfl,h1,h2,h3⟩:=h.is
 show some ((iH ks ds [.inl (g:Int),.inl (r:Int)]).getD z)=_
 rw[h3]
theorem Ya (a:T)(t:Int):some (gM (mx a (some t)))=(mx a (some t)).map D.int:=by cases a<;>rfl
theorem Xt (fs:List Fl)(hl:fs.length<=1000):∃d,wp [.lst (fs.map bR)]=some d/\jH d 1000 (fl fs):=by
 obtain⟨ρ',h1,d,x2,x3,x4,pre,e1,rfl,hd⟩:=ET (g:=gT (gsCons (gV 2) (gsCons (gV 3) (gsCons (gV 4) gsNil)))) (b:=wx) (ds:=fs.map bR) (ρ:=[some (.lst (fs.map bR)),some (.dT [] []),none,none,none])
  (λds ρ=>∃d x2 x3 x4,∃pre:List Fl,ds=pre.map bR/\ρ=[some (.lst (fs.map bR)),some d,x2,x3,x4]/\jH d pre.length (fl pre))
  ⟨_,none,none,none,[],rfl,rfl,⟨[],[],rfl,rfl,by simp,λ_ _=>rfl⟩⟩ (by
   rintro ds dd post ρ e ⟨d,x2,x3,x4,pre,rfl,rfl,hd⟩
   obtain⟨q,hq,rfl⟩:∃q,fs[pre.length]?=some q/\bR q=dd:=by
    have:=Nx e
    rw[bj,aE]at this
    exact dq.mp this
   have d6:pre.length<fs.length:=(aU.mp hq).1
   obtain⟨g,r,t⟩:=q
   have hg:=hd.get g r
   obtain⟨ks,ds,rfl,k1,k2,k3⟩:=hd.is
   have hm:=UQ (fl pre g r) (some t)
   have kh:ks.length<16777216:=by omega
   refine⟨_,_,rfl,.inl ?_,.dT (fH ks ds [.inl (g:Int),.inl (r:Int)] (gM (mx (fl pre g r) (some t)))).1 (fH ks ds [.inl (g:Int),.inl (r:Int)] (gM (mx (fl pre g r) (some t)))).2,some (.int (g:Int)),some (.int (r:Int)),some (.int t),pre++[(g,r,t)],by simp,rfl,?_⟩
   ·have hk:mn [.int (g:Int),.int (r:Int)]=some [.inl (g:Int),.inl (r:Int)]:=rfl
    have he:gM (some t)=.int t:=rfl
    rw[he]at hm
    unfold wx oY
    generalize gM (fl pre g r)=z at hg hm
    clear k1 k2 k3 e hq hd
    walk_at "mir"
   ·obtain⟨p1,p2⟩:=WM k1 [.inl (g:Int),.inl (r:Int)] (gM (mx (fl pre g r) (some t)))
    refine⟨_,_,rfl,p1,by rw[aR,fD];omega,λg' r'=>?_⟩
    rw[Va k1]
    have hf:fl (pre++[(g,r,t)]) g' r'=if g=g'/\r=r' then mx (fl pre g' r') (some t)else fl pre g' r':=by
     unfold fl
     rw[gw,gJ]
     by_cases hc:g=g'/\r=r'
     ·rw[if_pos hc];simp[hc]
     ·rw[if_neg hc]
      have:([(g,r,t)]:List Fl).filter (λq=>decide (q.1=g'/\q.2.1=r'))=[]:=by
       rw[List.filter_eq_nil_iff]
       intro q hq
       rw[aO]at hq
       subst hq
       simpa using hc
      rw[this];rfl
    rw[hf]
    by_cases hc:g=g'/\r=r'
    ·obtain⟨rfl,rfl⟩:=hc
     rw[if_pos rfl,if_pos ⟨rfl,rfl⟩,Ya]
    ·rw[if_neg hc,if_neg ?_]
     ·exact k3 g' r'
     ·intro z
      simp at z
      exact hc ⟨by omega,by omega⟩)
 have:pre=fs:=by
  have hi:∀(a b:List Fl),a.map bR=b.map bR->a=b:=by
   intro a
   induction a with
   |nil=>intro b h;cases b with|nil=>rfl|cons _ _=>cases h
   |cons x a ih=>
    intro b h
    cases b with
    |nil=>cases h
    |cons y b=>
     simp only[br,List.cons.injEq]at h
     obtain⟨h1,h2⟩:=h
     rw[ih b h2]
     obtain⟨x1,x2,x3⟩:=x
     obtain⟨y1,y2,y3⟩:=y
     simp[bR]at h1
     obtain⟨e1,e2,e3⟩:=h1
     have e1:x1=y1:=by omega
     have e2:x2=y2:=by omega
     rw[e1,e2,e3]
  exact(hi _ _ e1).symm
 subst this
 refine⟨d,?_,?_⟩
 ·unfold wp
  walk_at "mir"
 ·obtain⟨ks,ds,a,b,c,f⟩:=hd.is
  exact⟨ks,ds,a,b,by omega,f⟩
def eK (n:Nat)(f:Nat->T):List D:=(aH n).map λg=>gM (f g)
def cy (n m:Nat)(Y:Nat->Nat->T):List D:=(aH m).map λi=>D.lst (eK n (Y i))
theorem Vb (n:Nat)(f:Nat->T):(eK n f).length=n:=by simp[eK]
theorem Iy (n m:Nat)(Y:Nat->Nat->T):(cy n m Y).length=m:=by simp[cy]
theorem MQ {n:Nat}(f:Nat->T){g:Nat}(h:g<n):atI (eK n f) (g:Int)=some (gM (f g)):=jt (by simp[eK,h])
theorem jk {n:Nat}{f f':Nat->T}(h:∀g,g<n->f g=f' g):eK n f=eK n f':=by
 unfold eK
 apply dR
 intro g hg
 rw[h g (bZ.mp hg)]
theorem Vc {n:Nat}(f:Nat->T){g:Nat}(h:g<n)(v:T):iN (eK n f) (g:Int) (gM v)=some (eK n λx=>if x=g then v else f x):=by
 unfold iN
 have hx:ixN (eK n f).length (g:Int)=some g:=by rw[Vb];exact WI h
 rw[hx]
 simp only[bu,Option.some.injEq]
 apply gU
 ·simp[eK]
 ·intro i h1 h2
  simp[eK,kO]
  by_cases hi:g=i
  ·subst hi;simp
  ·rw[if_neg hi,if_neg (λz=>hi z.symm)]
def dep (as:List cV):Nat:=as.foldl (λm a=>max m a.b) 1
theorem IT:∀(as:List cV) (m:Nat),m<=as.foldl (λm a=>max m a.b) m/\(∀a∈as,a.b<=as.foldl (λm a=>max m a.b) m)/\((∀a∈as,a.b<=4)->m<=4->as.foldl (λm a=>max m a.b) m<=4)
 |[],m=>⟨aG _,λa h=>(by cases h),λ_ h=>h⟩
 |x::as,m=>by
  obtain⟨h1,h2,h3⟩:=IT as (max m x.b)
  refine⟨by show m<=as.foldl _ (max m x.b);omega,λa ha=>?_,λh4 hm=>h3 (λa ha=>h4 a (ai _ ha)) (by have:=h4 x ah;omega)⟩
  show a.b<=as.foldl _ (max m x.b)
  rcases ay.mp ha with rfl|ha
  ·omega
  ·exact h2 a ha
theorem NA {as:List cV}{a:cV}(h:a∈as):a.b<=dep as:=(IT as 1).2.1 a h
theorem Xu {as:List cV}(h:∀a∈as,a.b<=4):dep as<=4:=(IT as 1).2.2 h (by decide)
theorem Mb {α:Type}(f:α->Int):∀xs:List α,iI (xs.map λx=>D.int (f x))=some (xs.map f)
 |[]=>rfl
 |x::xs=>by
  show(iI (xs.map λx=>D.int (f x))).bind _=_
  rw[Mb f xs];rfl
theorem MR:∀(as:List cV) (m:Nat),(as.map λa=>(a.b:Int)).foldl max (m:Int)=((as.foldl (λm a=>max m a.b) m:Nat):Int)
 |[],m=>rfl
 |x::as,m=>by
  show(as.map λa=>(a.b:Int)).foldl max (max (m:Int) (x.b:Int))=_
  rw[show max (m:Int) (x.b:Int)=((max m x.b:Nat):Int)by omega,MR as]
  rfl
theorem Mc (ns:List D)(as:List cV):cE [4] "names" (bP ns as)=some (.lst ns):=rfl
theorem LP (ns:List D)(as:List cV):cE [4] "arrows" (bP ns as)=some (.lst (as.map bH)):=rfl
theorem Xv {ns:List D}{as:List cV}(hl:as.length<=1000):xt [bP ns as]=some (.int (dep as:Int)):=by
 have q:∀r:L3.Env,r[0]?.join=some (bP ns as)->vv r=some (.lst (as.map λa=>D.int (a.b:Int))):=λr hr=>by
  have e:lsD (e1 (cE [4] "arrows") (eV 0)) r=some (as.map bH):=by
   have:eV 0 r=some (bP ns as):=hr
   unfold lsD e1
   rw[this];rfl
  exact uq bH (λa=>D.int (a.b:Int)) as e (by omega) λa _=>⟨_,rfl,by have:=fb a;walk_at "mir"⟩
 have m1:sy [.lst ([.int 1]++as.map λa=>D.int (a.b:Int))]=some (.int (dep as:Int)):=by
  unfold sy
  dsimp only
  have:iI ([.int 1]++as.map λa=>D.int (a.b:Int))=some (1::as.map λa=>(a.b:Int)):=by
   show(iI (as.map λa=>D.int (a.b:Int))).bind _=_
   rw[Mb];rfl
  rw[this]
  show some (D.int ((as.map λa=>(a.b:Int)).foldl max ((1:Nat):Int)))=_
  rw[MR];rfl
 have m2:dZ (.lst [.int 1]) (.lst (as.map λa=>D.int (a.b:Int)))=some (.lst ([.int 1]++as.map λa=>D.int (a.b:Int))):=U3 (by simp;omega)
 generalize [D.int 1]++as.map (λa=>D.int (a.b:Int))=zs at m1 m2
 unfold xt
 clear hl
 walk_at "mir"
theorem Ja {m:aI}{f:List D->Option D}{ns:List D}{as:List cV}{ds:List D}(h:(["names","arrows"]:List aI).contains m=false):i6 4 m f (bP ns as) ds=f (bP ns as::ds):=by
 show(if 4=4/\(["names","arrows"]:List aI).contains m=false then f (bP ns as::ds)else none)=_
 rw[if_pos ⟨rfl,h⟩]
theorem Vd {ns:List D}{as:List cV}(hl:as.length<=1000):i6 4 "most_behind" xt (bP ns as) []=some (.int (dep as:Int)):=by
 rw[Ja (by decide +kernel)]
 exact Xv hl
def into (as:List cV)(g:Nat):List Nat:=(as.zipIdx.filter λp=>decide (p.1.g=g)).map (·.2)
theorem Xw {ns:List D}{as:List cV}(hl:as.length<=1000)(g:Nat):ud [bP ns as,.int (g:Int)]=some (.lst (aQ (into as g))):=by
 have q:∀r:L3.Env,r[0]?.join=some (bP ns as)->r[1]?.join=some (.int (g:Int))->u6 r=some (.lst (aQ (into as g))):=λr hr Py=>by
  have e:(λρ=>((aCons (e1 (cE [4] "arrows") (eV 0)) aNil) ρ).bind λds=>match ds with|[.lst xs]=>some (eu 0 xs)|_=>none) r=some (as.zipIdx.map λp=>D.tup [.int (p.2:Int),bH p.1]):=by
   have:eV 0 r=some (bP ns as):=hr
   have e2:e1 (cE [4] "arrows") (eV 0) r=some (.lst (as.map bH)):=by unfold e1;rw[this];rfl
   show((aCons (e1 (cE [4] "arrows") (eV 0)) aNil) r).bind _=_
   unfold aCons
   rw[e2]
   show some (eu 0 (as.map bH))=_
   rw[IS bH]
  have hc:fG r [1]=[some (.int (g:Int))]:=by unfold fG;simp[Py]
  have:=yU (own:=2) (cap:=[1]) (fi:=λρ=>((aCons (e1 (cE [4] "arrows") (eV 0)) aNil) ρ).bind λds=>match ds with|[.lst xs]=>some (eu 0 xs)|_=>none) (g:=gT (gsCons (gV 0) (gsCons (gV 1) gsNil))) (p:=tb (e2 (lU false) (e1 (cE [0,1,2,3] "goal") (eV 1)) (eV 2))) (f:=eV 0) (λp:cV×Nat=>D.tup [.int (p.2:Int),bH p.1]) (λp=>decide (p.1.g=g)) (λp=>D.int (p.2:Int)) as.zipIdx e (by simp;omega) (λp _=>by
    refine⟨_,rfl,?_,λ_=>rfl⟩
    rw[hc]
    have:=fg p.1
    have hd:decide ((p.1.g:Int)=(g:Int))=decide (p.1.g=g):=by
     by_cases h:p.1.g=g
     ·simp[h]
     ·have:¬(p.1.g:Int)=(g:Int):=by omega
      simp[h,this]
    rw[←hd]
    walk_at "mir")
  rw[show u6 r=_ from this]
  unfold into aQ
  rw[cU]
  rfl
 unfold ud
 clear hl
 walk_at "mir"
def tm (as:List cV)(Y:Nat->Nat->T)(L g:Nat)(w:T):T:=(as.filter λa=>decide (a.g=g)).foldl (λw a=>mx w (lt a.t (Y (L-a.b) a.s))) w
theorem Ve {xs:List D}{n b:Nat}(hn:xs.length=n+1)(hb:b<=n):atI xs (-1-(b:Int))=xs[n-b]?:=by
 unfold atI
 have:ixN xs.length (-1-(b:Int))=some (n-b):=by
  unfold ixN
  rw[if_neg (by omega),if_pos (by omega)]
  congr 1
  omega
 rw[this];rfl
def wr (Y:Nat->Nat->T)(L:Nat)(Z:Nat->T):Nat->Nat->T:=λi g=>if i=L then Z g else Y i g
theorem IU {as:List cV}{Y Y':Nat->Nat->T}{L g:Nat}(w:T)(h:∀a∈as,a.g=g->Y (L-a.b) a.s=Y' (L-a.b) a.s):tm as Y L g w=tm as Y' L g w:=by
 unfold tm
 have h2:∀a∈as.filter (λa=>decide (a.g=g)),Y (L-a.b) a.s=Y' (L-a.b) a.s:=λa ha=>by
  have:=bn.mp ha
  exact h a this.1 (by simpa using this.2)
 generalize as.filter (λa=>decide (a.g=g))=bs at h2
 induction bs generalizing w with
 |nil=>rfl
 |cons b bs ih=>
  rw[bD,bD,h2 b ah]
  exact ih _ λa ha=>h2 a (ai _ ha)
theorem Vf {many L x:Nat}{Y:Nat->Nat->T}(hx:x<many)(v:T):(cy many (L+1) Y).set L (.lst (eK many λy=>if y=x then v else Y L y))=cy many (L+1) (wr Y L λy=>if y=x then v else Y L y):=by
 apply gU
 ·simp[cy]
 ·intro i h1 h2
  have hi:i<L+1:=by simpa[cy]using h2
  rw[kO]
  by_cases hL:L=i
  ·subst hL
   rw[if_pos rfl]
   simp only[cy,kM,jQ]
   congr 1
   exact jk λg _=>by simp[wr]
  ·rw[if_neg hL]
   have:¬i=L:=λz=>hL z.symm
   simp only[cy,kM,jQ]
   congr 1
   exact jk λg _=>by simp[wr,this]
structure Run (as:List cV)(many depth rounds:Nat)(past:Nat->Nat->T)(f:Nat->Nat->T)(Y:Nat->Nat->T):Prop where
 past:∀i,i<depth->∀g,g<many->Y i g=past i g
 rc:∀r,r<rounds->∀g,g<many->Y (depth+r) g=tm as Y (depth+r) g (f g r)
theorem Uv {many m:Nat}(Y:Nat->Nat->T)(Z:Nat->T):cy many m Y++[D.lst (eK many Z)]=cy many (m+1) (wr Y m Z):=by
 unfold cy
 rw[lq,cu]
 congr 1
 ·apply dR
  intro i hi
  have:i≠m:=by have:=bZ.mp hi;omega
  congr 1
  exact jk λg _=>by simp[wr,this]
 ·simp only[br,kb]
  congr 2
  exact jk λg _=>by simp[wr]
theorem Uw {ns:List D}{as:List cV}{many:Nat}(h:jA many as)(hn:ns.length=many):∃p:List Nat,i6 4 "order" uk (bP ns as) []=some (.lst (aQ p))/\Kahn.Ok (W0 as) many p/\p.length=many/\∀g,g<many->g∈p:=by
 obtain⟨p,h1,h2⟩:=h.placed
 refine⟨p,?_,h2⟩
 rw[Ja (by decide +kernel)]
 have f1:=Mc ns as
 have f2:=LP ns as
 rw[←hn]at h1
 unfold uk
 clear hn h h2
 walk_at "mir"
theorem Ux {many k n:Nat}(Y:Nat->Nat->T):(cy many (n+k) Y).drop n=cy many k λr g=>Y (n+r) g:=by
 apply gU
 ·simp[cy]
 ·intro i h1 h2
  simp only[cy,List.getElem_drop,kM,jQ]
def dk (net:D)(many:Nat)(pl:Nat->Int)(B:Nat):D:=.obj 5 ["net","times","beat"] [net,.lst (dA many pl),.int (B:Int)]
theorem DJ (net:D)(many:Nat)(pl:Nat->Int)(B:Nat):cE [5] "net" (dk net many pl B)=some net:=rfl
theorem Vg (net:D)(many:Nat)(pl:Nat->Int)(B:Nat):cE [5] "times" (dk net many pl B)=some (.lst (dA many pl)):=rfl
theorem WN (net:D)(many:Nat)(pl:Nat->Int)(B:Nat):cE [5] "beat" (dk net many pl B)=some (.int (B:Int)):=rfl
def lW (pl:Nat->Int)(B:Nat)(a:cV):Int:=pl a.g+(B:Int)*(a.b:Int)-pl a.s-a.t
theorem M7 {ns:List D}{as:List cV}{many B i:Nat}{pl:Nat->Int}{a:cV}(hB:B<=1000000000000)(hs:a.s<many)(hg:a.g<many)(hi:as[i]?=some a):xv [dk (bP ns as) many pl B,.int (i:Int)]=some (.int (lW pl B a)):=by
 have f1:=DJ (bP ns as) many pl B
 have f2:=Vg (bP ns as) many pl B
 have f3:=WN (bP ns as) many pl B
 have f4:cE [4] "arrows" (bP ns as)=some (.lst (as.map bH)):=rfl
 have i1:eZ (.lst (as.map bH)) (.int (i:Int))=some (bH a):=jt (by rw[bj,hi];rfl)
 have g1:=fs a
 have g2:=fg a
 have g3:=ft a
 have g4:=fb a
 have i2:eZ (.lst (dA many pl)) (.int (a.g:Int))=some (.int (pl a.g)):=xX pl hg
 have i3:eZ (.lst (dA many pl)) (.int (a.s:Int))=some (.int (pl a.s)):=xX pl hs
 have u1:eO (.int (B:Int)) (.int (a.b:Int))=some (.int ((B:Int)*(a.b:Int))):=j9 (by omega) (by omega)
 generalize dk (bP ns as) many pl B=tb at *
 unfold xv lW
 clear hi hs hg hB
 walk_at "mir"
theorem M8 {m:aI}{f:List D->Option D}{net:D}{many B:Nat}{pl:Nat->Int}{ds:List D}(h:(["net","times","beat"]:List aI).contains m=false):i6 5 m f (dk net many pl B) ds=f (dk net many pl B::ds):=by
 show(if 5=5/\(["net","times","beat"]:List aI).contains m=false then f (dk net many pl B::ds)else none)=_
 rw[if_pos ⟨rfl,h⟩]
theorem WO {ns:List D}{as:List cV}{many B:Nat}{pl:Nat->Int}(h:jA many as)(hB:B<=1000000000000)(Ho:∀a∈as,0<=lW pl B a):w8 5 [bP ns as,.lst (dA many pl),.int (B:Int)]=some (dk (bP ns as) many pl B):=by
 obtain⟨ρ',h1,x4,rfl⟩:=qy (g:=gV 4) (b:=vd) (lo:=0) (n:=as.length) (ρ:=[some (dk (bP ns as) many pl B),some (bP ns as),some (.lst (dA many pl)),some (.int (B:Int)),none])
  (λ_ ρ=>∃x4,ρ=[some (dk (bP ns as) many pl B),some (bP ns as),some (.lst (dA many pl)),some (.int (B:Int)),x4]) ⟨none,rfl⟩ (by
   rintro i ρ hi ⟨x4,rfl⟩
   have ha:as[i]?=some as[i]:=bC hi
   have hm:as[i]∈as:=kN hi
   have s1:=M7 (ns:=ns) (pl:=pl) hB (h.right _ hm).s (h.right _ hm).g ha
   have s2:=M8 (m:="slack") (f:=xv) (net:=bP ns as) (many:=many) (B:=B) (pl:=pl) (ds:=[.int (i:Int)]) (by decide +kernel)
   rw[s1]at s2
   have s3:¬lW pl B as[i]<0:=by have:=Ho _ hm;omega
   refine⟨_,_,rfl,.inl ?_,some (.int (i:Int)),rfl⟩
   rw[show(0:Int)+(i:Int)=(i:Int)by omega]
   generalize dk (bP ns as) many pl B=tb,lW pl B as[i]=v at *
   unfold vd
   clear s1 h hB Ho ha hm hi
   walk_at "mir")
 have d6:=h.len
 have r1:ie [.int (as.length:Int)]=some (kY 0 as.length):=by rw[EU (by omega) (by omega)];rfl
 have f4:cE [4] "arrows" (bP ns as)=some (.lst (as.map bH)):=rfl
 have s1:gj [5] "net" (eV 1) [some (D.obj 5 [] []),some (bP ns as),some (.lst (dA many pl)),some (.int (B:Int)),none]=some (.nx [some (D.obj 5 ["net"] [bP ns as]),some (bP ns as),some (.lst (dA many pl)),some (.int (B:Int)),none]):=rfl
 have s2:gj [5] "times" (eN jC (aCons (eV 2) aNil)) [some (D.obj 5 ["net"] [bP ns as]),some (bP ns as),some (.lst (dA many pl)),some (.int (B:Int)),none]=some (.nx [some (D.obj 5 ["net","times"] [bP ns as,.lst (dA many pl)]),some (bP ns as),some (.lst (dA many pl)),some (.int (B:Int)),none]):=rfl
 have s3:gj [5] "beat" (eV 3) [some (D.obj 5 ["net","times"] [bP ns as,.lst (dA many pl)]),some (bP ns as),some (.lst (dA many pl)),some (.int (B:Int)),none]=some (.nx [some (dk (bP ns as) many pl B),some (bP ns as),some (.lst (dA many pl)),some (.int (B:Int)),none]):=rfl
 generalize dk (bP ns as) many pl B=tb at *
 generalize bP ns as=net,dA many pl=vs at *
 unfold w8 tP
 clear h hB Ho d6
 walk_at "mir"
theorem WP (neg:Bool)(n:Nat)(out:List Nat):inD neg (.int (n:Int)) (.lst (aQ out))=some (.bl (if neg then !decide (n∈out)else decide (n∈out))):=by
 have hs:(aQ out).all D.sc=true:=by
  unfold aQ
  rw[mZ]
  exact ce.mpr λx _=>rfl
 have hi:tQ (.int (n:Int)) (aQ out)=decide (n∈out):=by
  unfold tQ aQ
  rw[List.any_map]
  induction out with
  |nil=>rfl
  |cons x out ih=>
   rw[d8,ih (by unfold aQ;rw[mZ];exact ce.mpr λx _=>rfl)]
   show(((x:Int)==(n:Int)) || decide (n∈out))=_
   by_cases h:x=n
   ·subst h;simp
   ·have h':¬(x:Int)=(n:Int):=by omega
    have h2:¬n=x:=λz=>h z.symm
    simp[h',h2]
 show(if _ then _ else _)=_
 rw[if_pos ⟨rfl,hs⟩,hi]
def lat (pl:Nat->Int)(B:Nat)(as:List cV)(out:List Nat):List cV:=(as.zipIdx.filter λp=>decide (p.2∉out)).map λp=>{ p.1 with t:=- lW pl B p.1 }
def encL (a:cV):D:=.tup [.int a.s,.int a.b,.int (-a.t)]
def lst1 (pl:Nat->Int)(B:Nat)(out:List Nat)(s:List cV×Option D×Option D)(p:cV×Nat):List cV×Option D×Option D:=if p.2∈out then(s.1,some (.int (p.2:Int)),s.2.2)else(s.1++[{ p.1 with t:=- lW pl B p.1 }],some (.int (p.2:Int)),some (bH p.1))
theorem L7 (pl:Nat->Int)(B:Nat)(out:List Nat):∀(ps:List (cV×Nat)) (s:List cV×Option D×Option D),(ps.foldl (lst1 pl B out) s).1=s.1++(ps.filter λp=>decide (p.2∉out)).map λp=>{ p.1 with t:=- lW pl B p.1 }
 |[],s=>by simp
 |p::ps,s=>by
  rw[bD,L7 pl B out ps]
  unfold lst1
  by_cases h:p.2∈out
  ·rw[if_pos h];simp[h]
  ·rw[if_neg h];simp[h]
theorem Vh (pl:Nat->Int)(B:Nat)(as:List cV)(out:List Nat)(g:Nat):((as.zipIdx.filter λp=>decide (p.1.g=g)).filter λp=>decide (p.2∉out)).map (λp=>({ p.1 with t:=- lW pl B p.1 }:cV))=(lat pl B as out).filter λa=>decide (a.g=g):=by
 unfold lat
 rw[List.filter_map,o9,o9]
 congr 1
 apply pQ
 intro p _
 show(decide _&&decide _)=(decide _&&decide _)
 rw[Bool.and_comm]
theorem WQ {ns:List D}{as:List cV}{many B:Nat}{pl:Nat->Int}(h:jA many as)(hB:B<=1000000000000)(g:Nat)(out:List Nat):vb [dk (bP ns as) many pl B,.int (g:Int),.lst (aQ out)]=some (.lst (((lat pl B as out).filter λa=>decide (a.g=g)).map encL)):=by
 have d6:=h.len
 have hn:aQ (into as g)=(as.zipIdx.filter (λp=>decide (p.1.g=g))).map λp=>D.int (p.2:Int):=by unfold into aQ;rw[cU];rfl
 have BI:∀p∈as.zipIdx.filter (λp=>decide (p.1.g=g)),as[p.2]?=some p.1:=λp hp=>Jo (bn.mp hp).1
 have gb:(as.zipIdx.filter (λp=>decide (p.1.g=g))).length<=120:=bK (nK _ _) (by rw[pj];exact d6)
 have p7:=Vh pl B as out g
 generalize as.zipIdx.filter (λp=>decide (p.1.g=g))=ps at *
 have in1:=Xw (ns:=ns) (as:=as) (by omega) g
 have Hw:=Ja (m:="into") (f:=ud) (ns:=ns) (as:=as) (ds:=[.int (g:Int)]) (by decide +kernel)
 rw[in1]at Hw
 have main:∀(qs:List (cV×Nat)) (s:List cV×Option D×Option D),(∀p∈qs,as[p.2]?=some p.1)->s.1.length+qs.length<=120 ->
   ∃y4 y5,ir (gV 4) xp (qs.map λp=>D.int (p.2:Int)) [some (dk (bP ns as) many pl B),some (.int (g:Int)),some (.lst (aQ out)),some (.lst (s.1.map encL)),s.2.1,s.2.2]=some (.nx [some (dk (bP ns as) many pl B),some (.int (g:Int)),some (.lst (aQ out)),some (.lst ((qs.foldl (lst1 pl B out) s).1.map encL)),y4,y5]):=by
  intro qs
  induction qs with
  |nil=>exactλs _ _=>⟨s.2.1,s.2.2,rfl⟩
  |cons p qs ih=>
   intro s hq hl
   obtain⟨y4,y5,hy⟩:=ih (lst1 pl B out s p) (λq sr=>hq q (ai _ sr)) (by
    unfold lst1
    rw[az]at hl
    split
    ·dsimp only;omega
    ·dsimp only;rw[aR,fD];omega)
   refine⟨y4,y5,?_⟩
   rw[bD,br]
   have hp:=hq p ah
   have hm:p.1∈as:=cn.mpr ⟨_,hp⟩
   have step:xp [some (dk (bP ns as) many pl B),some (.int (g:Int)),some (.lst (aQ out)),some (.lst (s.1.map encL)),some (.int (p.2:Int)),s.2.2]=some (.nx [some (dk (bP ns as) many pl B),some (.int (g:Int)),some (.lst (aQ out)),some (.lst ((lst1 pl B out s p).1.map encL)),(lst1 pl B out s p).2.1,(lst1 pl B out s p).2.2]):=by
    have n1:=WP true p.2 out
    have f1:=DJ (bP ns as) many pl B
    have f4:cE [4] "arrows" (bP ns as)=some (.lst (as.map bH)):=rfl
    have i1:eZ (.lst (as.map bH)) (.int (p.2:Int))=some (bH p.1):=jt (by rw[bj,hp];rfl)
    have g1:=fs p.1
    have g4:=fb p.1
    have s1:=M7 (ns:=ns) (pl:=pl) hB (h.right _ hm).s (h.right _ hm).g hp
    have s2:=M8 (m:="slack") (f:=xv) (net:=bP ns as) (many:=many) (B:=B) (pl:=pl) (ds:=[.int (p.2:Int)]) (by decide +kernel)
    rw[s1]at s2
    have hz:s.1.length<16777216:=by rw[az]at hl;omega
    unfold lst1
    by_cases ho:p.2∈out
    ·rw[if_pos ho]
     dsimp only
     rw[decide_eq_true ho]at n1
     generalize dk (bP ns as) many pl B=tb,aQ out=os at *
     unfold xp
     clear ih hy hq hl hp hm s1 h hB p7 BI gb in1 Hw d6 hn ho
     walk_at "mir"
    ·rw[if_neg ho]
     dsimp only
     rw[decide_eq_false ho]at n1
     rw[cu]
     have e1:[({ p.1 with t:=- lW pl B p.1 }:cV)].map encL=[.tup [.int p.1.s,.int p.1.b,.int (lW pl B p.1)]]:=by
      show[D.tup [_,_,_]]=_
      rw[Int.neg_neg]
     rw[e1]
     generalize dk (bP ns as) many pl B=tb,aQ out=os,lW pl B p.1=v at *
     unfold xp
     clear ih hy hq hl hp hm s1 h hB p7 BI gb in1 Hw d6 hn ho e1
     walk_at "mir"
   show((gV 4) (.int (p.2:Int)) _).bind _=_
   show(xp [some (dk (bP ns as) many pl B),some (.int (g:Int)),some (.lst (aQ out)),some (.lst (s.1.map encL)),some (.int (p.2:Int)),s.2.2]).bind _=_
   rw[step]
   exact hy
 obtain⟨y4,y5,hf⟩:=main ps ([],none,none) BI (by simpa using gb)
 rw[L7]at hf
 rw[show(([]:List cV)++(ps.filter λp=>decide (p.2∉out)).map λp=>({ p.1 with t:=- lW pl B p.1 }:cV))=_ from p7,←hn]at hf
 have f1:=DJ (bP ns as) many pl B
 generalize dk (bP ns as) many pl B=tb at *
 generalize bP ns as=net,((lat pl B as out).filter λa=>decide (a.g=g)).map encL=zs,aQ (into as g)=ms,aQ out=os at *
 unfold vb
 clear main p7 BI gb in1 d6 hn h hB
 replace hf:ir (gV 4) xp ms [some tb,some (.int (g:Int)),some (.lst os),some (.lst []),none,none]=_:=hf
 walk_at "mir"
def sx (Y:Nat->Nat->T)(L:Nat)(s:T×Option D×Option D×Option D)(a:cV):T×Option D×Option D×Option D:=(mx s.1 (lt a.t (Y (L-a.b) a.s)),some (.int (a.s:Int)),some (.int (a.b:Int)),some (.int (-a.t)))
theorem Iz (Y:Nat->Nat->T)(L:Nat):∀(bs:List cV) (s:T×Option D×Option D×Option D),(bs.foldl (sx Y L) s).1=bs.foldl (λw a=>mx w (lt a.t (Y (L-a.b) a.s))) s.1
 |[],s=>rfl
 |b::bs,s=>by rw[bD,Iz Y L bs];rfl
theorem NH (w v:Int):∃u,mx (some w) (some v)=some u/\kG [.int w,.int v]=some (.int u):=⟨_,rfl,by rw[zeo]⟩
theorem TK {many L:Nat}{Y:Nat->Nat->T}(hS:∀i,i<=L->∀g,g<many->∃y,Y i g=some y){bs:List cV}(hb:∀a∈bs,a.b<=L/\a.s<many)(put:Int) :
  ∃v,bs.foldl (λw a=>mx w (lt a.t (Y (L-a.b) a.s))) (mx (some 0) (some put))=some v/\xl [.lst (cy many (L+1) Y),.lst (bs.map encL),.int put]=some (.int v):=by
 obtain⟨w0,Hr,Et⟩:=NH 0 put
 obtain⟨e1,e2⟩:=Iw (g:=gT (gsCons (gV 4) (gsCons (gV 5) (gsCons (gV 6) gsNil)))) (b:=yz) encL (λs:T×Option D×Option D×Option D=>[some (.lst (cy many (L+1) Y)),some (.lst (bs.map encL)),some (.int put),some (gM s.1),s.2.1,s.2.2.1,s.2.2.2])
  (sx Y L) (λs=>∃w,s.1=some w) bs (some w0,none,none,none) ⟨w0,rfl⟩ (λs a ha hs=>by
   obtain⟨w,hw⟩:=hs
   obtain⟨h1,h2⟩:=hb a ha
   obtain⟨y,hy⟩:=hS (L-a.b) (by omega) a.s h2
   obtain⟨u,yM,Es⟩:=NH w (y+a.t)
   have i2:eZ (.lst (cy many (L+1) Y)) (.int (-1-(a.b:Int)))=some (.lst (eK many (Y (L-a.b)))):=by
    show atI _ _=_
    rw[Ve (n:=L) (by rw[Iy]) h1]
    unfold cy
    rw[bj,dm (by omega)]
    rfl
   have i3:eZ (.lst (eK many (Y (L-a.b)))) (.int (a.s:Int))=some (.int y):=by
    have:=MQ (Y (L-a.b)) h2
    rw[hy]at this
    exact this
   have e:mx s.1 (lt a.t (Y (L-a.b) a.s))=some u:=by rw[hw,hy];exact yM
   refine⟨_,rfl,.inl ?_,u,e⟩
   unfold sx
   rw[e,hw]
   have o1:∀i,gM (some i)=.int i:=λ_=>rfl
   have o2:y - -a.t=y+a.t:=by omega
   unfold yz
   generalize cy many (L+1) Y=rs,bs.map encL=ls at *
   clear Hr Et hw h1 h2 hy yM e hS hb ha
   walk_at "mir")
 rw[Iz]at e2
 obtain⟨v,hv⟩:=e2
 have e3:=Iz Y L bs (some w0,none,none,none)
 rw[hv]at e3
 generalize bs.foldl (sx Y L) (some w0,none,none,none)=S at e1 e3
 refine⟨v,by rw[Hr];exact hv,?_⟩
 rw[e3]at e1
 have o1:∀i,gM (some i)=.int i:=λ_=>rfl
 replace e1:ir (gT (gsCons (gV 4) (gsCons (gV 5) (gsCons (gV 6) gsNil)))) yz (bs.map encL) [some (.lst (cy many (L+1) Y)),some (.lst (bs.map encL)),some (.int put),some (.int w0),none,none,none]=some (.nx [some (.lst (cy many (L+1) Y)),some (.lst (bs.map encL)),some (.int put),some (.int v),S.2.1,S.2.2.1,S.2.2.2]):=e1
 generalize cy many (L+1) Y=rs,bs.map encL=ls at *
 unfold xl
 clear hS hb hv e3 Hr
 walk_at "mir"
theorem HQ (o:T):∃p:Int,((o.map D.int).getD (.int 0))=.int p/\mx (some 0) (some p)=mx (some 0) o:=by
 cases o with
 |none=>exact⟨0,rfl,by show some _=some _;congr 1⟩
 |some v=>exact⟨v,rfl,rfl⟩
theorem Fm {pl:Nat->Int}{B:Nat}{as:List cV}{out:List Nat}{a:cV}(h:a∈lat pl B as out):∃b∈as,a.s=b.s/\a.g=b.g/\a.b=b.b/\a.t =-lW pl B b:=by
 obtain⟨p,hp,rfl⟩:=dv.mp h
 exact⟨p.1,cn.mpr ⟨_,Jo (bn.mp hp).1⟩,rfl,rfl,rfl,rfl⟩
theorem Xx {tb puts wo:Option D}{as bs:List cV}{many L r rounds dp:Nat}{Y:Nat->Nat->T}{f:Nat->Nat->T}{d:D}{n:Nat}{x11 x12:Option D}{p:List Nat}(hd:jH d n f)(hS:∀i,i<=L->∀g,g<many->∃y,Y i g=some y)(hb:∀a∈bs,a.b<=L/\a.s<many)(lz:∀a∈bs,a.b=0->∃c∈as,c.s=a.s/\c.g=a.g/\c.b=0)(ok:Kahn.Ok (W0 as) many p)
  (Cp:D) (vZ:∀g,g<many->eZ Cp (.int (g:Int))=some (.lst ((bs.filter λa=>decide (a.g=g)).map encL))) :
  ∃(Z:Nat->T) (y11 y12:Option D),ir (gV 11) EY (aQ p) [tb,some (.int (rounds:Int)),puts,wo,some (.int (many:Int)),some Cp,some d,some (.lst (aQ p)),some (.int (dp:Int)),some (.lst (cy many (L+1) Y)),some (.int (r:Int)),x11,x12] =
   some (.nx [tb,some (.int (rounds:Int)),puts,wo,some (.int (many:Int)),some Cp,some d,some (.lst (aQ p)),some (.int (dp:Int)),some (.lst (cy many (L+1) (wr Y L Z))),some (.int (r:Int)),y11,y12])/\(∀g,g<many->∃z,Z g=some z)/\∀g∈p,Z g=tm bs (wr Y L Z) L g (mx (some 0) (f g r)):=by
 obtain⟨ρ',h1,pre,Z,y11,y12,e1,⟨post,e2⟩,tH,hZ,rfl⟩:=ET (g:=gV 11) (b:=EY) (ds:=aQ p) (ρ:=[tb,some (.int (rounds:Int)),puts,wo,some (.int (many:Int)),some Cp,some d,some (.lst (aQ p)),some (.int (dp:Int)),some (.lst (cy many (L+1) Y)),some (.int (r:Int)),x11,x12])
  (λds ρ=>∃(pre:List Nat) (Z:Nat->T) (y11 y12:Option D),ds=aQ pre/\(∃post,p=pre++post)/\(∀g,g<many->∃z,Z g=some z)/\(∀g∈pre,Z g=tm bs (wr Y L Z) L g (mx (some 0) (f g r)))/\ρ=[tb,some (.int (rounds:Int)),puts,wo,some (.int (many:Int)),some Cp,some d,some (.lst (aQ p)),some (.int (dp:Int)),some (.lst (cy many (L+1) (wr Y L Z))),some (.int (r:Int)),y11,y12])
  ⟨[],Y L,x11,x12,rfl,⟨p,rfl⟩,λg hg=>hS L (aG _) g hg,λg hg=>(by cases hg),by
   have:wr Y L (Y L)=Y:=by
    funext i g
    unfold wr
    by_cases h:i=L
    ·rw[if_pos h,h]
    ·rw[if_neg h]
   rw[this]⟩ (by
  rintro ds dd post ρ e ⟨pre,Z,y11,y12,rfl,⟨iM,e'⟩,tH,hZ,rfl⟩
  have e3:aQ iM=dd::post:=by
   have:aQ p=aQ pre++aQ iM:=by rw[e'];simp[aQ]
   rw[this]at e
   exact mT e
  cases iM with
  |nil=>cases e3
  |cons x iM=>
   have sj:dd=.int (x:Int):=by
    have:aQ (x::iM)=.int (x:Int)::aQ iM:=rfl
    rw[this]at e3
    cases e3
    rfl
   subst sj
   have hx:x∈p:=by rw[e'];simp
   have Ht:=ok.lt x hx
   have BH:p[pre.length]?=some x:=by rw[e'];simp
   have qW:∀a∈bs,a.b=0->a.g=x->a.s∈pre:=λa ha h0 hg=>by
    obtain⟨c,hc,c1,c2,c3⟩:=lz a ha h0
    have:=ok.ord pre.length x BH c (bn.mpr ⟨hc,by simpa using c3⟩) (c2.trans hg)
    rw[e',rF]at this
    ·rw[←c1];exact this
    ·rfl
   have En:x∉pre:=λz=>by
    have:=ok.nd
    rw[e',aW]at this
    exact this.2.2 x z x ah rfl
   have qR:∀g∈pre,∀a∈bs,a.b=0->a.g=g->a.s≠x:=λg hg a ha h0 mJ z=>by
    obtain⟨c,hc,c1,c2,c3⟩:=lz a ha h0
    obtain⟨i,hi,ei⟩:=dJ.mp hg
    have Ep:p[i]?=some g:=by rw[e',bw hi];simp[hi,ei]
    have:=ok.ord i g Ep c (bn.mpr ⟨hc,by simpa using c3⟩) (c2.trans mJ)
    rw[e',fL (by omega),c1]at this
    exact En (z▸iX this)
   have Bt:∀i,i<=L->∀g,g<many->∃y,wr Y L Z i g=some y:=λi hi g hg=>by
    unfold wr
    by_cases h:i=L
    ·rw[if_pos h];exact tH g hg
    ·rw[if_neg h];exact hS i hi g hg
   have G5:=hd.getI x r (.int 0)
   obtain⟨pt,sq,Ep⟩:=HQ (f x r)
   rw[sq]at G5
   have vZ:=vZ x Ht
   obtain⟨v,hv,Kv⟩:=TK Bt (bs:=bs.filter λa=>decide (a.g=x)) (λa ha=>hb a (bn.mp ha).1) pt
   rw[Ep]at hv
   have key:∀g,(∀a∈bs,a.g=g->a.b=0->a.s≠x)->∀(v w:T),tm bs (wr Y L λy=>if y=x then v else Z y) L g w=tm bs (wr Y L Z) L g w:=λg hg v w=>by
    refine IU w λa ha mJ=>?_
    unfold wr
    by_cases hL:L-a.b=L
    ·rw[if_pos hL,if_pos hL]
     dsimp only
     rw[if_neg ?_]
     by_cases h0:a.b=0
     ·exact hg a ha mJ h0
     ·have:=(hb a ha).1
      omega
    ·rw[if_neg hL,if_neg hL]
   have hv:tm bs (wr Y L Z) L x (mx (some 0) (f x r))=some v:=hv
   refine⟨_,_,rfl,.inl ?_,pre++[x],λy=>if y=x then some v else Z y,some (.int (x:Int)),some (.int pt),(Ma pre x).symm▸rfl,⟨iM,by rw[e'];simp⟩,λg hg=>?_,?_,rfl⟩
   ·have BK:=Vf (many:=many) (L:=L) (x:=x) (Y:=wr Y L Z) Ht (some v)
    have hY:(wr (wr Y L Z) L λy=>if y=x then some v else wr Y L Z L y)=wr Y L λy=>if y=x then some v else Z y:=by
     funext i g
     unfold wr
     by_cases h:i=L<;>simp[h]
    have PH:iN (eK many (wr Y L Z L)) (x:Int) (.int v)=some (eK many λy=>if y=x then some v else wr Y L Z L y):=Vc _ Ht (some v)
    rw[hY]at BK
    have Po:ixN (cy many (L+1) (wr Y L Z)).length (-1)=some L:=by
     rw[Iy]
     unfold ixN
     rw[if_neg (by omega),if_pos (by omega)]
     congr 1
     omega
    have Pz:(cy many (L+1) (wr Y L Z))[L]?=some (.lst (eK many (wr Y L Z L))):=by
     unfold cy
     rw[bj,dm (by omega)]
     rfl
    unfold EY oC
    clear key qR qW En BH hx hv e e' e3 hZ tH ok hb hd hS Bt lz sq Ep hY
    walk_at "mir"
   ·by_cases h:g=x
    ·exact⟨v,by dsimp only;rw[if_pos h]⟩
    ·obtain⟨z,hz⟩:=tH g hg
     exact⟨z,by dsimp only;rw[if_neg h,hz]⟩
   ·intro g hg
    rcases aT.mp hg with hg|hg
    ·have mL:g≠x:=λz=>En (z▸hg)
     dsimp only
     rw[if_neg mL,key g (λa ha mJ h0=>qR g hg a ha h0 mJ)]
     exact hZ g hg
    ·rw[aO]at hg
     subst hg
     dsimp only
     rw[if_pos rfl,key g (λa ha mJ h0 z=>En (z▸qW a ha h0 mJ)),hv])
 have pK:pre=p:=by
  have hl:=congrArg nX e1
  simp[aQ]at hl
  rw[e2,aR]at hl
  have:post=[]:=kZ (by omega)
  rw[e2,this,bY]
 subst pK
 exact⟨Z,y11,y12,h1,tH,hZ⟩
inductive uJ:D->List Nat->Prop
 |no:uJ .non []
 |some (out:List Nat):uJ (.lst (aQ out)) out
theorem Xy {ns:List D}{as:List cV}{many rounds B:Nat}{pl:Nat->Int}{wo:D}{out:List Nat}{puts:List Fl}(h:jA many as)(hn:ns.length=many)(hr:rounds<=1000)(hB:B<=1000000000000)(hw:uJ wo out)(gb:puts.length<=1000) :
  ∃Y,Fs [dk (bP ns as) many pl B,.int (rounds:Int),.lst (puts.map bR),wo]=some (.lst (cy many rounds λr g=>Y (dep as+r) g))/\Run (lat pl B as out) many (dep as) rounds (λ_ _=>some 0) (λg r=>mx (some 0) (fl puts g r)) Y/\∀i,i<dep as+rounds->∀g,g<many->∃y,Y i g=some y:=by
 obtain⟨p,hp,ok,qU,nB⟩:=Uw h hn
 have d6:=h.len
 have pJ:=h.le
 have qQ:=Xu λa ha=>(h.right a ha).b
 have mo:=Vd (ns:=ns) (as:=as) (by omega)
 obtain⟨d,Ek,hd2⟩:=Xt puts gb
 have vU:∀a∈lat pl B as out,a.b<=dep as/\a.s<many:=λa ha=>by
  obtain⟨b,hb,b1,b2,b3,b4⟩:=Fm ha
  exact⟨by rw[b3];exact NA hb,by rw[b1];exact(h.right b hb).s⟩
 have lz:∀a∈lat pl B as out,a.b=0->∃c∈as,c.s=a.s/\c.g=a.g/\c.b=0:=λa ha h0=>by
  obtain⟨b,hb,b1,b2,b3,b4⟩:=Fm ha
  exact⟨b,hb,b1.symm,b2.symm,by omega⟩
 have tl:=λg=>WQ (ns:=ns) (pl:=pl) h hB g out
 have q2:∀r:L3.Env,r[0]?.join=some (dk (bP ns as) many pl B)->r[3]?.join=some wo->r[4]?.join=some (.int (many:Int))->IR r=some (.lst ((aH many).map λg=>D.lst (((lat pl B as out).filter λa=>decide (a.g=g)).map encL))):=λr h0 h3 h4=>by
  unfold IR
  refine uq (r:=r) (own:=1) (cap:=[0,3]) (g:=gV 0) (fi:=λρ=>((aCons (eV 4) aNil) ρ).bind ie) (f:=λρ=>((aCons (eV 1) (aCons (eV 0) (aCons (eIf (tb (e2 (oX false) (eV 2) (eC .non))) (λρ=>(aNil ρ).bind λds=>some (.lst ds)) (eV 2)) aNil))) ρ).bind λds=>vb (ds++[])) (λ(t:Nat)=>D.int (t:Int)) (λ(g:Nat)=>D.lst (((lat pl B as out).filter λa=>decide (a.g=g)).map encL)) (aH many) (yX h4 (by omega)) (by rw[df];omega) λg hg=>⟨_,rfl,?_⟩
  have iZ:fG r [0,3]=[some (dk (bP ns as) many pl B),some wo]:=by unfold fG;simp[h0,h3]
  rw[iZ]
  have t1:=tl g
  generalize dk (bP ns as) many pl B=tb,((lat pl B as out).filter λa=>decide (a.g=g)).map encL=zs at *
  cases hw with
  |no=>
   have e0:aQ []=[]:=rfl
   rw[e0]at t1
   clear iZ h0 h3 h4 hg tl lz vU hd2 Ek qQ pJ d6 nB qU ok hp h hn hr hB mo
   walk_at "mir"
  |some out=>
   clear iZ h0 h3 h4 hg tl lz vU hd2 Ek qQ pJ d6 nB qU ok hp h hn hr hB mo
   walk_at "mir"
 have q1:∀r:L3.Env,r[4]?.join=some (.int (many:Int))->r[8]?.join=some (.int (dep as:Int))->Mv r=some (.lst (cy many (dep as) λ_ _=>some 0)):=λr h4 h8=>by
  refine uq (λ(t:Nat)=>D.int (t:Int)) (λ_=>D.lst (eK many λ_=>some 0)) (aH (dep as)) (yX h8 (by omega)) (by rw[df];omega) λg _=>⟨_,rfl,?_⟩
  have iZ:fG r [4]=[some (.int (many:Int))]:=by unfold fG;simp[h4]
  rw[iZ]
  have rp:lF (.lst [.int 0]) (.int (many:Int))=some (.lst (eK many λ_=>some 0)):=by
   unfold lF
   dsimp only
   rw[if_pos ⟨by omega,by omega,by simp⟩]
   congr 2
   unfold eK
   rw[li,df]
   simp[gM]
  clear iZ h4 h8 q2 tl lz vU hd2 Ek qQ pJ d6 nB qU ok hp h hn hr hB mo
  walk_at "mir"
 have vZ:∀g,g<many->eZ (.lst ((aH many).map λg=>D.lst (((lat pl B as out).filter λa=>decide (a.g=g)).map encL))) (.int (g:Int))=some (.lst (((lat pl B as out).filter λa=>decide (a.g=g)).map encL)):=λg hg=>jt (by simp[hg])
 generalize (D.lst ((aH many).map λg=>D.lst (((lat pl B as out).filter λa=>decide (a.g=g)).map encL)))=LK at q2 vZ
 obtain⟨ρ',h1,Y,y10,y11,y12,rfl,run,hS⟩:=qy (g:=gV 10) (b:=IQ) (lo:=0) (n:=rounds) (ρ:=[some (dk (bP ns as) many pl B),some (.int (rounds:Int)),some (.lst (puts.map bR)),some wo,some (.int (many:Int)),some LK,some d,some (.lst (aQ p)),some (.int (dep as:Int)),some (.lst (cy many (dep as) λ_ _=>some 0)),none,none,none])
  (λr ρ=>∃Y y10 y11 y12,ρ=[some (dk (bP ns as) many pl B),some (.int (rounds:Int)),some (.lst (puts.map bR)),some wo,some (.int (many:Int)),some LK,some d,some (.lst (aQ p)),some (.int (dep as:Int)),some (.lst (cy many (dep as+r) Y)),y10,y11,y12]/\Run (lat pl B as out) many (dep as) r (λ_ _=>some 0) (λg r=>mx (some 0) (fl puts g r)) Y/\∀i,i<dep as+r->∀g,g<many->∃y,Y i g=some y)
  ⟨λ_ _=>some 0,none,none,none,rfl,⟨λ_ _ _ _=>rfl,λr hr=>by omega⟩,λi hi g hg=>⟨0,rfl⟩⟩ (by
   rintro r ρ Px ⟨Y,y10,y11,y12,rfl,run,hS⟩
   obtain⟨Z,RY,RZ,hz,tH,hZ⟩:=Xx (tb:=some (dk (bP ns as) many pl B)) (puts:=some (.lst (puts.map bR))) (wo:=some wo) (as:=as) (bs:=lat pl B as out) (many:=many) (L:=dep as+r) (r:=r) (rounds:=rounds) (dp:=dep as) (Y:=wr Y (dep as+r) λ_=>some 0) (x11:=y11) (x12:=y12) (p:=p) hd2
    (λi hi g hg=>by
     unfold wr
     by_cases he:i=dep as+r
     ·rw[if_pos he];exact⟨0,rfl⟩
     ·rw[if_neg he];exact hS i (by omega) g hg)
    (λa ha=>⟨by have:=(vU a ha).1;omega,(vU a ha).2⟩) lz ok LK vZ
   have Et:wr (wr Y (dep as+r) λ_=>some 0) (dep as+r) Z=wr Y (dep as+r) Z:=by
    funext i g
    unfold wr
    by_cases hi:i=dep as+r<;>simp[hi]
   rw[Et]at hz hZ
   refine⟨_,_,rfl,.inl ?_,wr Y (dep as+r) Z,some (.int (r:Int)),RY,RZ,rfl,⟨?_,?_⟩,?_⟩
   ·have e0:(0:Int)+(r:Int)=(r:Int):=by omega
    have rp:lF (.lst [.int 0]) (.int (many:Int))=some (.lst (eK many λ_=>some 0)):=by
     unfold lF
     dsimp only
     rw[if_pos ⟨by omega,by omega,by simp⟩]
     congr 2
     unfold eK
     rw[li,df]
     simp[gM]
    have BC:(cy many (dep as+r) Y).length<16777216:=by rw[Iy];omega
    have Y6:=Uv (many:=many) (m:=dep as+r) Y λ_=>some 0
    rw[e0]
    generalize dk (bP ns as) many pl B=tb,puts.map bR=gH at *
    unfold IQ
    clear hZ tH Et vZ q1 q2 tl lz vU run hS nB ok hp h hn Ek hd2 d6 pJ qQ hr Px qU hw hB mo
    walk_at "mir"
    rfl
   ·intro i hi g hg
    unfold wr
    rw[if_neg (by omega)]
    exact run.past i hi g hg
   ·intro r2 Y4 g hg
    by_cases he:r2=r
    ·subst he
     have:wr Y (dep as+r2) Z (dep as+r2) g=Z g:=by simp[wr]
     rw[this]
     exact hZ g (nB g hg)
    ·have h3:wr Y (dep as+r) Z (dep as+r2) g=Y (dep as+r2) g:=by unfold wr;rw[if_neg (by omega)]
     rw[h3,run.rc r2 (by omega) g hg]
     refine IU _ λa _ _=>?_
     unfold wr
     rw[if_neg (by omega)]
   ·intro i hi g hg
    unfold wr
    by_cases he:i=dep as+r
    ·rw[if_pos he];exact tH g hg
    ·rw[if_neg he];exact hS i (by omega) g hg)
 refine⟨Y,?_,run,hS⟩
 have r1:ie [.int (rounds:Int)]=some (kY 0 rounds):=by rw[EU (by omega) (by omega)];rfl
 have k2:=q2 [some (dk (bP ns as) many pl B),some (.int (rounds:Int)),some (.lst (puts.map bR)),some wo,some (.int (many:Int)),none,none,none,none,none,none,none,none] rfl rfl rfl
 have k1:=q1 [some (dk (bP ns as) many pl B),some (.int (rounds:Int)),some (.lst (puts.map bR)),some wo,some (.int (many:Int)),some LK,some d,some (.lst (aQ p)),some (.int (dep as:Int)),none,none,none,none] rfl rfl
 have e3:cutD (cy many (dep as+rounds) Y) (some (dep as:Int)) none=cy many rounds λr g=>Y (dep as+r) g:=by rw[Uh _ (dep as),Ux]
 have f1:=DJ (bP ns as) many pl B
 have f2:=Mc ns as
 have l1:fV [.lst ns]=some (.int (many:Int)):=by rw[zdd,hn]
 generalize dk (bP ns as) many pl B=tb at *
 generalize bP ns as=net,puts.map bR=gH,(cy many rounds λr g=>Y (dep as+r) g)=res,(cy many (dep as) λ_ _=>some 0)=Zu,cy many (dep as+rounds) Y=iV at *
 unfold Fs
 clear vZ q1 q2 tl lz vU run hS nB ok h hn hd2 d6 pJ qQ hr qU hw hB gb
 walk_at "mir"
theorem WR {many m:Nat}{Y:Nat->Nat->T}{i g:Nat}(hi:i<m)(hg:g<many):eZ (.lst (cy many m Y)) (.int (i:Int))=some (.lst (eK many (Y i)))/\eZ (.lst (eK many (Y i))) (.int (g:Int))=some (gM (Y i g)) :=
 ⟨jt (by unfold cy;rw[bj,dm hi];rfl),MQ _ hg⟩
def DC (as:List cV):List Nat:=(as.zipIdx.filter λp=>decide (p.1.c=.wait)).map (·.2)
theorem WS {ns:List D}{as:List cV}{many B:Nat}{pl:Nat->Int}(hl:as.length<=1000)(r:L3.Env)(h:r[0]?.join=some (dk (bP ns as) many pl B)):um r=some (.lst (aQ (DC as))):=by
 have f1:=DJ (bP ns as) many pl B
 have f2:=LP ns as
 have e0:(λρ=>((aCons (e1 (cE [4] "arrows") (e1 (cE [5] "net") (eV 0))) aNil) ρ).bind λds=>match ds with|[.lst xs]=>some (eu 0 xs)|_=>none) r=some (as.zipIdx.map λp=>D.tup [.int (p.2:Int),bH p.1]):=by
  have e:eV 0 r=some (dk (bP ns as) many pl B):=h
  show((aCons (e1 (cE [4] "arrows") (e1 (cE [5] "net") (eV 0))) aNil) r).bind _=_
  have:(aCons (e1 (cE [4] "arrows") (e1 (cE [5] "net") (eV 0))) aNil) r=some [.lst (as.map bH)]:=by
   generalize dk (bP ns as) many pl B=tb at *
   generalize bP ns as=nd at *
   unfold aCons e1 aNil
   rw[e]
   simp[f1,f2]
  rw[this]
  show some (eu 0 (as.map bH))=_
  rw[IS]
 unfold aQ DC
 rw[cU]
 refine yU (λp:cV×Nat=>D.tup [.int (p.2:Int),bH p.1]) (λp=>decide (p.1.c=.wait)) _ as.zipIdx e0 (by rw[pj];omega) λp _=>⟨[some (.int (p.2:Int)),some (bH p.1)],rfl,?_,λ_=>rfl⟩
 obtain⟨⟨c,s,g,t,b⟩,i⟩:=p
 cases c<;>rfl
theorem Vi {ns:List D}{as:List cV}{many B going beat:Nat}{pl:Nat->Int}{puts:List Fl}(h:jA many as)(hn:ns.length=many)(hb:beat<=900)(hB:B<=1000000000000)(hg:going<many)(gb:puts.length<=1000)(out:List Nat) :
  ∃Y,Run (lat pl B as out) many (dep as) (beat+1) (λ_ _=>some 0) (λg r=>mx (some 0) (fl puts g r)) Y/\∃y:Int,Y (dep as+beat) going=some y/\wd [dk (bP ns as) many pl B,.lst (puts.map bR),.int (going:Int),.int (beat:Int),.lst (aQ out)]=some (.bl (decide (y > 0))):=by
 obtain⟨Y,l1,run,hS⟩:=Xy (ns:=ns) (pl:=pl) (rounds:=beat+1) (puts:=puts) h hn (by omega) hB (.some out) gb
 obtain⟨y,hy⟩:=hS (dep as+beat) (by omega) going hg
 refine⟨Y,run,y,hy,?_⟩
 obtain⟨i1,i2⟩:=WR (many:=many) (m:=beat+1) (Y:=λr g=>Y (dep as+r) g) (i:=beat) (by omega) hg
 replace i2:eZ (.lst (eK many λg=>Y (dep as+beat) g)) (.int (going:Int))=some (.int y):=by rw[i2,hy];rfl
 have e1:((beat+1:Nat):Int)=(beat:Int)+1:=by omega
 rw[e1]at l1
 replace i1:eZ (.lst (cy many (beat+1) λr g=>Y (dep as+r) g)) (.int (beat:Int))=some (.lst (eK many λg=>Y (dep as+beat) g)):=i1
 generalize dk (bP ns as) many pl B=tb,puts.map bR=gH,cy many (beat+1) (λr g=>Y (dep as+r) g)=rs,eK many (λg=>Y (dep as+beat) g)=vs,aQ out=no at *
 unfold wd
 clear run hS hy h hn hb hB hg gb e1
 walk_at "mir"
def sK (ws:List Nat):List (List Nat):=ws.foldl (λS w=>S++S.map (·++[w])) [[]]
theorem WT (ws:List Nat):∀S:List (List Nat),(ws.foldl (λS w=>S++S.map (·++[w])) S).length=2 ^ ws.length*S.length:=by
 induction ws with
 |nil=>intro S;simp
 |cons w ws ih=>
  intro S
  rw[bD,ih,aR,aE,az,nN]
  rw[←Nat.two_mul,mV]
def mX:Nat->List Int->List Int
 |0,l=>l
 |n+1,l=>mX n (l++l.map (·+1))
theorem WU (ws:List Nat):∀S:List (List Nat),(ws.foldl (λS w=>S++S.map (·++[w])) S).map (λx=>(x.length:Int))=mX ws.length (S.map λx=>(x.length:Int)):=by
 induction ws with
 |nil=>intro S;rfl
 |cons w ws ih=>
  intro S
  rw[bD,ih,az]
  show mX _ _=mX ws.length (S.map (λx=>(x.length:Int))++(S.map λx=>(x.length:Int)).map (·+1))
  refine congrArg (mX ws.length) ?_
  rw[cu,cU,cU]
  congr 1
  exact dR λx _=>by show((x++[w]).length:Int)=(x.length:Int)+1;simp
theorem Uy (S:List (List Nat)):lB (S.map λx=>D.lst (aQ x))=some (S.map λx=>(x.length:Int)):=by
 induction S with
 |nil=>rfl
 |cons x S ih=>
  show(lB (S.map λx=>D.lst (aQ x))).bind _=_
  rw[ih]
  simp[aQ]
theorem Xz (ws:List Nat):∀(S:List (List Nat)) (W:D) (y2:Option D),2 ^ ws.length*S.length<=1000->(∀x∈S,x.length+ws.length<=1000)->∃z2,ir (gV 2) wk (aQ ws) [some W,some (.lst (S.map λx=>D.lst (aQ x))),y2]=some (.nx [some W,some (.lst ((ws.foldl (λS w=>S++S.map (·++[w])) S).map λx=>D.lst (aQ x))),z2]):=by
 induction ws with
 |nil=>intro S W y2 _ _;exact⟨y2,rfl⟩
 |cons w ws ih=>
  intro S W y2 hS hx
  rw[az,nN,mV]at hS
  have hp:1<=2 ^ ws.length:=Nat.one_le_two_pow
  have Bt:2*S.length<=1000:=bK (Nat.le_mul_of_pos_left _ hp) hS
  obtain⟨z2,h2⟩:=ih (S++S.map (·++[w])) W (some (.int (w:Int))) (by rw[aR,aE,show S.length+S.length=2*S.length by omega];exact hS) (λx wI=>by
   rcases aT.mp wI with h|h
   ·have:=hx x h;rw[az]at this;omega
   ·obtain⟨y,hy,rfl⟩:=dv.mp h
    have:=hx y hy
    rw[az]at this
    simp;omega)
  refine⟨z2,?_⟩
  have q:jx [some W,some (.lst (S.map λx=>D.lst (aQ x))),some (.int (w:Int))]=some (.lst ((S.map (·++[w])).map λx=>D.lst (aQ x))):=by
   rw[cU]
   refine uq (λx:List Nat=>D.lst (aQ x)) _ S rfl (by omega) λx wI=>⟨[some (.lst (aQ x)),some (.int (w:Int))],rfl,?_⟩
   have ad:dZ (.lst (aQ x)) (.lst [.int (w:Int)])=some (.lst (aQ (x++[w]))):=by
    have:=hx x wI
    rw[az]at this
    show(if _ then some (D.lst _)else none)=_
    rw[if_pos (by simp[aQ];omega)]
    simp[aQ]
   show _=some (D.lst (aQ (x++[w])))
   generalize aQ (x++[w])=R,aQ x=X at *
   clear h2 ih hx wI hS hp Bt
   walk_at "mir"
  have ad:qJ (.lst (S.map λx=>D.lst (aQ x))) (.lst ((S.map (·++[w])).map λx=>D.lst (aQ x)))=some (.lst ((S++S.map (·++[w])).map λx=>D.lst (aQ x))):=by
   show(if _ then some (D.lst _)else none)=_
   rw[if_pos (by simp;omega),cu]
  rw[bD,←h2]
  have st:wk [some W,some (.lst (S.map λx=>D.lst (aQ x))),some (.int (w:Int))]=some (.nx [some W,some (.lst ((S++S.map (·++[w])).map λx=>D.lst (aQ x))),some (.int (w:Int))]):=by
   generalize (S++S.map (·++[w])).map (λx=>D.lst (aQ x))=R at *
   generalize (S.map (·++[w])).map (λx=>D.lst (aQ x))=R2,S.map (λx=>D.lst (aQ x))=R1 at *
   unfold wk
   generalize jx=Q at *
   clear h2 ih hx hS hp Bt
   walk_at "mir"
  show(gV 2 (D.int (w:Int)) _).bind _=_
  show(wk [some W,some (.lst (S.map λx=>D.lst (aQ x))),some (.int (w:Int))]).bind _=_
  rw[st];rfl
def yR (n i:Nat):Int:=if i<n then Int.ofNat (i%2+i/2%2+i/4%2+i/8%2+i/16%2)else 0
theorem M9:∀(n:Nat) (l:List Int),(mX n l).length=2 ^ n*l.length
 |0,l=>by simp[mX]
 |n+1,l=>by
  show(mX n (l++l.map (·+1))).length=_
  rw[M9 n,aR,aE,nN,←Nat.two_mul,mV]
def wZ (n:Nat)(l:List Int):Bool:=(aH l.length).all λi=>decide (l.getD i 0=yR n i)
theorem WV:wZ 2 (mX 1 [0])=true/\wZ 4 (mX 2 [0])=true/\wZ 8 (mX 3 [0])=true/\wZ 16 (mX 4 [0])=true/\wZ 32 (mX 5 [0])=true:=by decide +kernel
theorem XB {n:Nat}{l:List Int}(h:wZ n l=true)(hl:l.length=n):(λi=>l.getD i 0)=yR n:=by
 funext i
 by_cases hi:i<n
 ·have:=ce.mp h i (bZ.mpr (by omega))
  exact of_decide_eq_true this
 ·unfold yR
  rw[if_neg hi,aN,bS (by omega)];rfl
def jD (n:Nat):List Nat:=(aH n).map λk=>2*k+1
def dE (n:Nat)(p:Nat->Bool):List Nat:=((aH n).filter p).map λk=>2*k+1
def b5 (b0 b1 b2 b3 b4:Bool):Nat->Bool
 |0=>b0
 |1=>b1
 |2=>b2
 |3=>b3
 |4=>b4
 |_=>false
def has (OQ x:List Nat):Bool:=OQ.all λi=>x.contains i
def km (n:Nat)(π:List Nat):List (List Nat):=π.map λi=>(sK (jD n)).getD i []
def oS (n:Nat)(L:List (List Nat)):Bool:=[true,false].all λb0=>[true,false].all λb1=>[true,false].all λb2=>[true,false].all λb3=>[true,false].all λb4=>L.find? (has (dE n (b5 b0 b1 b2 b3 b4)))==some (dE n (b5 b0 b1 b2 b3 b4))
def nz (n:Nat)(π:List Nat):Bool:=(π.length==2 ^ n)&&(π.all λi=>decide (i<2 ^ n))&&decide π.Nodup&&((km n π).all λx=>x.all λi=>i%2==1)&&oS n (km n π)
noncomputable def tE (n:Nat):Bool:=match L2.TS.tsort (2 ^ n) (yR (2 ^ n))with
 |some π=>L2.TS.frc (π.map L2.TS.Ix.mk) λρ=>nz n (ρ.map L2.TS.Ix.n)
 |none=>false
theorem FZ:tE 1=true:=by decide +kernel
theorem Ga:tE 2=true:=by decide +kernel
theorem Gb:tE 3=true:=by decide +kernel
theorem Gc:tE 4=true:=by decide +kernel
theorem Gd:tE 5=true:=by decide +kernel
theorem Wr {n:Nat}(h:tE n=true):∃π,L2.TS.tsort (2 ^ n) (yR (2 ^ n))=some π/\nz n π=true:=by
 unfold tE at h
 cases e:L2.TS.tsort (2 ^ n) (yR (2 ^ n))with
 |none=>rw[e]at h;cases h
 |some π=>
  rw[e]at h
  dsimp only at h
  rw[L2.TS.frc_eq,cU]at h
  have:(L2.TS.Ix.n ∘ L2.TS.Ix.mk)=id:=rfl
  rw[this,List.map_id]at h
  exact⟨π,rfl,h⟩
theorem all2 {p:Bool->Bool}(h:[true,false].all p=true)(b:Bool):p b=true:=by
 have:=ce.mp h b (by cases b<;>decide)
 exact this
theorem Vj {n:Nat}(hn:n<=5){L:List (List Nat)}(h:oS n L=true)(p:Nat->Bool):L.find? (has (dE n p))=some (dE n p):=by
 have e:dE n p=dE n (b5 (p 0) (p 1) (p 2) (p 3) (p 4)):=by
  unfold dE
  congr 1
  refine pQ λk hk=>?_
  have hk:=bZ.mp hk
  have:k=0\/k=1\/k=2\/k=3\/k=4:=by omega
  rcases this with rfl|rfl|rfl|rfl|rfl<;>rfl
 rw[e]
 have:=all2 (all2 (all2 (all2 (all2 h (p 0)) (p 1)) (p 2)) (p 3)) (p 4)
 exact eq_of_beq this
theorem Uz {n:Nat}(h1:1<=n)(h5:n<=5):∃π,L2.TS.tsrt (mX n [0])=some π/\nz n π=true:=by
 have big:∀m N,2<=N->2 ^ m=N->wZ N (mX m [0])=true->tE m=true->∃π,L2.TS.tsrt (mX m [0])=some π/\nz m π=true:=by
  intro m N h2 hN h3 h4
  have hl:(mX m [0]).length=N:=by rw[M9,←hN];simp
  obtain⟨π,e,s⟩:=Wr h4
  refine⟨π,?_,s⟩
  unfold L2.TS.tsrt
  rw[if_neg (by omega),hl,XB h3 hl,←hN,e]
 obtain⟨p1,p2,p3,p4,p5⟩:=WV
 have:n=1\/n=2\/n=3\/n=4\/n=5:=by omega
 rcases this with rfl|rfl|rfl|rfl|rfl
 ·exact big 1 2 (by decide) rfl p1 FZ
 ·exact big 2 4 (by decide) rfl p2 Ga
 ·exact big 3 8 (by decide) rfl p3 Gb
 ·exact big 4 16 (by decide) rfl p4 Gc
 ·exact big 5 32 (by decide) rfl p5 Gd
theorem XC {n:Nat}(h1:1<=n)(h5:n<=5):∃L:List (List Nat),vw [.lst (aQ (jD n))]=some (.lst (L.map λx=>D.lst (aQ x)))/\(∀x∈L,∀i∈x,i%2=1)/\∀p,L.find? (has (dE n p))=some (dE n p):=by
 obtain⟨π,e,s⟩:=Uz h1 h5
 unfold nz at s
 simp only[bO]at s
 obtain⟨⟨⟨⟨s1,s2⟩,s3⟩,s4⟩,s5⟩:=s
 have s1:π.length=2 ^ n:=eq_of_beq s1
 have s2:∀i∈π,i<2 ^ n:=λi hi=>of_decide_eq_true (ce.mp s2 i hi)
 have s3:π.Nodup:=of_decide_eq_true s3
 refine⟨km n π,?_,λx hx i hi=>eq_of_beq (ce.mp (ce.mp s4 x hx) i hi),Vj h5 s5⟩
 have ol:(jD n).length=n:=by unfold jD;simp
 have hp:2 ^ n<=32:=i7 (show 0<2 by decide) h5
 obtain⟨z2,g⟩:=Xz (jD n) [[]] (.lst (aQ (jD n))) none (by rw[ol];simp;omega) (λx hx=>by
  rw[aO.mp hx,ol]
  simp;omega)
 have sl:(sK (jD n)).length=2 ^ n:=by unfold sK;rw[WT,ol];simp
 have so:jZ (.lst ((sK (jD n)).map λx=>D.lst (aQ x)))=some (.lst ((km n π).map λx=>D.lst (aQ x))):=by
  unfold jZ
  dsimp only
  rw[Uy,bu]
  have:(sK (jD n)).map (λx=>(x.length:Int))=mX n [0]:=by
   have:=WU (jD n) [[]]
   rw[ol]at this
   exact this
  rw[this,e,bu,if_pos ⟨⟨by rw[aE,sl];omega,by rw[s1];omega,λi hi=>by rw[aE,sl];exact s2 i hi⟩,s3⟩]
  congr 2
  unfold km
  rw[cU]
  refine dR λi hi=>?_
  have hi:=s2 i hi
  show((sK (jD n)).map λx=>D.lst (aQ x)).getD i .non=D.lst (aQ ((sK (jD n)).getD i []))
  rw[aN,aN,bj,bC (by omega)];rfl
 have g:ir (gV 2) wk (aQ (jD n)) [some (.lst (aQ (jD n))),some (.lst [.lst []]),none]=some (.nx [some (.lst (aQ (jD n))),some (.lst ((sK (jD n)).map λx=>D.lst (aQ x))),z2]):=g
 generalize (km n π).map (λx=>D.lst (aQ x))=R,(sK (jD n)).map (λx=>D.lst (aQ x))=S,aQ (jD n)=W at *
 clear s1 s2 s3 s4 s5 e sl hp h1 h5 ol
 unfold vw
 generalize wk=B at *
 walk_at "mir"
theorem Ws {i:Nat}{p:BF}{ρ:L3.Env}(c:List Nat->Bool):∀L:List (List Nat),(∀x∈L,p (ρ.set i (some (.lst (aQ x))))=some (c x))->mh i p ρ (L.map λx=>D.lst (aQ x))=match L.find? c with
  |some x=>some (.rt (.lst (aQ x)))
  |none=>some (.nx (ρ.set i none)):=by
 intro L
 induction L with
 |nil=>intro _;rfl
 |cons x L ih=>
  intro h
  show(p (ρ.set i (some (.lst (aQ x))))).bind _=_
  rw[h x ah,bu]
  cases e:c x with
  |true=>rw[List.find?_cons_of_pos e];rfl
  |false=>rw[List.find?_cons_of_neg (by rw[e];decide)];exact ih λy hy=>h y (ai _ hy)
theorem Wt (n:Nat)(p:Nat->Bool):has (dE n p) (jD n)=true:=by
 refine ce.mpr λi hi=>?_
 obtain⟨k,hk,rfl⟩:=dv.mp hi
 exact fC.mpr (dv.mpr ⟨k,(bn.mp hk).1,rfl⟩)
theorem Yk {ns:List D}{as:List cV}{many B n:Nat}{going beat:Int}{pl:Nat->Int}{puts:List Fl}{p:Nat->Bool}{gl:Bool}(hl:as.length<=1000)(hw:DC as=jD n)(h1:1<=n)(h5:n<=5)
  (H:∀out:List Nat,(∀i∈out,i%2=1)->wd [dk (bP ns as) many pl B,.lst (puts.map bR),.int going,.int beat,.lst (aQ out)]=some (.bl (gl || !(has (dE n p) out)))) :
  ue [dk (bP ns as) many pl B,.lst (puts.map bR),.int going,.int beat]=some (if gl=true then .non else .lst (aQ (dE n p))):=by
 have q:=WS (ns:=ns) (as:=as) (many:=many) (B:=B) (pl:=pl) hl [some (dk (bP ns as) many pl B),some (.lst (puts.map bR)),some (.int going),some (.int beat),none,none] rfl
 rw[hw]at q
 obtain⟨L,so,od,fi⟩:=XC h1 h5
 have ln:fV [.lst (aQ (jD n))]=some (.int (n:Int)):=by rw[zdd];simp[aQ,jD]
 have c8:¬(n:Int) > 8:=by omega
 have sc (r:L3.Env):tF (eC .non) r=some .non:=rfl
 have he:=H (jD n) (λi hi=>by obtain⟨k,_,rfl⟩:=dv.mp hi;omega)
 rw[Wt]at he
 cases gl with
 |true=>
  rw[if_pos rfl]
  generalize dk (bP ns as) many pl B=TB,puts.map bR=gH,aQ (jD n)=W at *
  clear H fi od so hw h1 h5
  unfold ue
  generalize um=Q at *
  walk_at "mir"
 |false=>
  rw[if_neg (by decide)]
  have fd:=Ws (i:=5) (p:=bNot (tb (λρ=>((aCons (eV 0) (aCons (eV 1) (aCons (eV 2) (aCons (eV 3) (aCons (eV 5) aNil))))) ρ).bind λds=>wd (ds++[])))) (ρ:=[some (dk (bP ns as) many pl B),some (.lst (puts.map bR)),some (.int going),some (.int beat),some (.lst (aQ (jD n))),none]) (has (dE n p)) L (λx hx=>by
   have:=H x (od x hx)
   show bNot _ [some (dk (bP ns as) many pl B),some (.lst (puts.map bR)),some (.int going),some (.int beat),some (.lst (aQ (jD n))),some (.lst (aQ x))]=_
   generalize dk (bP ns as) many pl B=TB,puts.map bR=gH,aQ (jD n)=W,aQ x=X,has (dE n p) x=bb at *
   clear H fi od so hw h1 h5 q he
   cases bb<;>walk_at "mir")
  rw[fi p]at fd
  dsimp only at fd
  have sf:nI 5 (λρ=>((aCons (eV 4) aNil) ρ).bind λds=>vw (ds++[])) (bNot (tb (λρ=>((aCons (eV 0) (aCons (eV 1) (aCons (eV 2) (aCons (eV 3) (aCons (eV 5) aNil))))) ρ).bind λds=>wd (ds++[])))) [some (dk (bP ns as) many pl B),some (.lst (puts.map bR)),some (.int going),some (.int beat),some (.lst (aQ (jD n))),none]=some (.rt (.lst (aQ (dE n p)))):=by
   show(vw [.lst (aQ (jD n))]).bind _=_
   rw[so]
   exact fd
  generalize dk (bP ns as) many pl B=TB,puts.map bR=gH,aQ (jD n)=W,aQ (dE n p)=DU at *
  clear H fi od so hw h1 h5 fd
  unfold ue
  generalize um=Q,(nI 5 (λρ=>((aCons (eV 4) aNil) ρ).bind λds=>vw (ds++[])) (bNot (tb (λρ=>((aCons (eV 0) (aCons (eV 1) (aCons (eV 2) (aCons (eV 3) (aCons (eV 5) aNil))))) ρ).bind λds=>wd (ds++[])))))=YK at *
  walk_at "mir"
theorem Wu (xs:List Fl)(w:T):xs.foldl (λw q=>mx w (some q.2.2)) w=mx w (xs.foldl (λw q=>mx w (some q.2.2)) none):=by
 induction xs generalizing w with
 |nil=>show w=mx w none;cases w<;>rfl
 |cons x xs ih=>
  rw[bD,bD,ih,ih (mx none (some x.2.2)),EZ]
  rfl
theorem Yl (fs Eg:List Fl)(g r:Nat):fl (fs++Eg) g r=mx (fl fs g r) (fl Eg g r):=by
 unfold fl
 rw[gw,gJ,Wu]
theorem Run.uniq {bs:List cV}{many depth rounds:Nat}{past tY f f' Y Y':Nat->Nat->T}(hs:∀a∈bs,a.s<many/\a.b<=depth)(qV:∃rank:Nat->Nat,∀a∈bs,a.b=0->rank a.s<rank a.g)(h1:Run bs many depth rounds past f Y)(h2:Run bs many depth rounds tY f' Y')(hp:∀i,i<depth->∀g,g<many->past i g=tY i g)(hf:∀r,r<rounds->∀g,g<many->f g r=f' g r) :
  ∀i,i<depth+rounds->∀g,g<many->Y i g=Y' i g:=by
 obtain⟨rank,BJ⟩:=qV
 have main:∀n,∀i,i<depth+rounds->i<n->∀k g,g<many->rank g<k->Y i g=Y' i g:=by
  intro n
  induction n with
  |zero=>intro i _ hi;omega
  |succ n ih=>
   intro i hi Kp k
   induction k with
   |zero=>intro g _ hk;omega
   |succ k Hv=>
    intro g hg hk
    by_cases hd:i<depth
    ·rw[h1.past i hd g hg,h2.past i hd g hg,hp i hd g hg]
    ·obtain⟨r,rfl⟩:∃r,i=depth+r:=⟨i-depth,by omega⟩
     rw[h1.rc r (by omega) g hg,h2.rc r (by omega) g hg,hf r (by omega) g hg]
     refine IU _ λa ha mJ=>?_
     obtain⟨qB,tN⟩:=hs a ha
     by_cases hb:a.b=0
     ·rw[hb,Nat.sub_zero]
      exact Hv a.s qB (by have:=BJ a ha hb;rw[mJ]at this;omega)
     ·exact ih (depth+r-a.b) (by omega) (by omega) (rank a.s+1) a.s qB (by omega)
 exactλi hi g hg=>main (i+1) i hi (by omega) (rank g+1) g hg (by omega)
def hX (a b:T):Prop:=mx a b=b
theorem Vk (a:T):hX a a:=MP a
theorem Md (a:T):hX none a:=by cases a<;>rfl
theorem IV {i j:Int}(h:i<=j):hX (some i) (some j):=by
 show some (if j > i then j else i)=some j
 refine congrArg some ?_
 split<;>omega
theorem Js {i j:Int}(h:hX (some i) (some j)):i<=j:=by
 have h:some (if j > i then j else i)=some j:=h
 simp only[Option.some.injEq]at h
 split at h<;>omega
theorem uf {a b c:T}(h1:hX a b)(h2:hX b c):hX a c:=by
 unfold hX
 rw[←show mx b c=c from h2,←EZ,show mx a b=b from h1]
theorem NB (m:Int){a b:T}(h:hX a b):hX (lt m a) (lt m b):=by
 unfold hX
 rw[←Yh,show mx a b=b from h]
theorem Na (q:Fl)(fs:List Fl)(g r:Nat):fl (q::fs) g r=mx (if q.1=g/\q.2.1=r then some q.2.2 else none) (fl fs g r):=by
 rw[show q::fs=[q]++fs from rfl,Yl]
 congr 1
 unfold fl
 by_cases h:q.1=g/\q.2.1=r
 ·rw[if_pos h,gX (by simpa using h)];rfl
 ·rw[if_neg h,gW (by simpa using h)];rfl
theorem Ym {pl:Nat->Int}{B many:Nat}{as:List cV}{out:List Nat}(h:jA many as):(∀a∈lat pl B as out,a.s<many/\a.b<=dep as)/\∃rank:Nat->Nat,∀a∈lat pl B as out,a.b=0->rank a.s<rank a.g:=by
 refine⟨λa ha=>?_,?_⟩
 ·obtain⟨b,hb,b1,b2,b3,b4⟩:=Fm ha
  exact⟨by rw[b1];exact(h.right b hb).s,by rw[b3];exact NA hb⟩
 ·obtain⟨rank,BJ⟩:=h.rank
  refine⟨rank,λa ha h0=>?_⟩
  obtain⟨b,hb,b1,b2,b3,b4⟩:=Fm ha
  rw[b1,b2]
  exact BJ b hb (by omega)
theorem Jb (a b:T):hX a (mx a b):=by unfold hX;rw[←EZ,MP]
theorem Fo (a b:T):hX b (mx a b):=by rw[WL];exact Jb b a
theorem Jc {a b x:T}(h1:hX a x)(h2:hX b x):hX (mx a b) x:=by
 unfold hX
 rw[EZ,show mx b x=x from h2,show mx a x=x from h1]
theorem Nb (F:cV->T){x:T}:∀(cs:List cV) (w:T),hX w x->(∀a∈cs,hX (F a) x)->hX (cs.foldl (λw a=>mx w (F a)) w) x
 |[],_,h,_=>h
 |c::cs,w,h,hc=>Nb F cs _ (Jc h (hc c ah)) λa ha=>hc a (ai _ ha)
theorem IW (F:cV->T){x:T}:∀(cs:List cV) (w:T),(hX x w\/∃a∈cs,hX x (F a))->hX x (cs.foldl (λw a=>mx w (F a)) w)
 |[],w,h=>by
  rcases h with h|⟨a,ha,_⟩
  ·exact h
  ·cases ha
 |c::cs,w,h=>by
  refine IW F cs _ ?_
  rcases h with h|⟨a,ha,h⟩
  ·exact .inl (uf h (Jb _ _))
  ·rcases ay.mp ha with rfl|ha
   ·exact .inl (uf h (Fo _ _))
   ·exact .inr ⟨a,ha,h⟩
theorem Run.ub2 {bs:List cV}{many depth rounds:Nat}{f Y:Nat->Nat->T}(hs:∀a∈bs,a.s<many/\a.b<=depth)(qV:∃rank:Nat->Nat,∀a∈bs,a.b=0->rank a.s<rank a.g)(h1:Run bs many depth rounds (λ_ _=>some 0) f Y)(U:Nat->Nat->Int)(hf:∀r,r<rounds->∀g,g<many->hX (f g r) (some (U r g)))
  (hU:∀a∈bs,∀r,r<rounds->(if a.b<=r then U (r-a.b) a.s else 0)+a.t<=U r a.g):∀r,r<rounds->∀g,g<many->hX (Y (depth+r) g) (some (U r g)):=by
 obtain⟨rank,BJ⟩:=qV
 have main:∀n,∀r,r<rounds->r<n->∀k g,g<many->rank g<k->hX (Y (depth+r) g) (some (U r g)):=by
  intro n
  induction n with
  |zero=>intro r _ hi;omega
  |succ n ih=>
   intro r hr Kp k
   induction k with
   |zero=>intro g _ hk;omega
   |succ k Hv=>
    intro g hg hk
    rw[h1.rc r hr g hg]
    refine Nb (λa=>lt a.t (Y (depth+r-a.b) a.s)) _ _ (hf r hr g hg) λa ha=>?_
    have si:=bn.mp ha
    have mJ:a.g=g:=by simpa using si.2
    obtain⟨qB,tN⟩:=hs a si.1
    have PK:hX (Y (depth+r-a.b) a.s) (some (if a.b<=r then U (r-a.b) a.s else 0)):=by
     by_cases hb:a.b<=r
     ·rw[if_pos hb,show depth+r-a.b=depth+(r-a.b)by omega]
      by_cases h0:a.b=0
      ·have e:r-a.b=r:=by omega
       rw[e]
       exact Hv a.s qB (by have:=BJ a si.1 h0;rw[mJ]at this;omega)
      ·exact ih (r-a.b) (by omega) (by omega) (rank a.s+1) a.s qB (by omega)
     ·rw[if_neg hb,h1.past _ (by omega) _ qB]
      exact Vk _
    refine uf (NB a.t PK) (IV ?_)
    have:=hU a si.1 r hr
    rw[mJ]at this
    exact this
 exactλr hr g hg=>main (r+1) r hr (by omega) (rank g+1) g hg (by omega)
theorem Run.lb2 {bs:List cV}{many depth rounds:Nat}{f Y:Nat->Nat->T}{past:Nat->Nat->T}(h1:Run bs many depth rounds past f Y){a:cV}(ha:a∈bs)(hg:a.g<many){r:Nat}{v:Int}(hr:r+a.b<rounds)(hv:hX (some v) (Y (depth+r) a.s)):hX (some (v+a.t)) (Y (depth+(r+a.b)) a.g):=by
 rw[h1.rc (r+a.b) hr a.g hg]
 refine IW (λc=>lt c.t (Y (depth+(r+a.b)-c.b) c.s)) _ _ (.inr ⟨a,bn.mpr ⟨ha,by simp⟩,?_⟩)
 show hX (some (v+a.t)) (lt a.t (Y (depth+(r+a.b)-a.b) a.s))
 rw[show depth+(r+a.b)-a.b=depth+r by omega]
 exact NB a.t hv
theorem Run.lf {bs:List cV}{many depth rounds:Nat}{f Y:Nat->Nat->T}{past:Nat->Nat->T}(h1:Run bs many depth rounds past f Y){g r:Nat}{v:T}(hg:g<many)(hr:r<rounds)(hv:hX v (f g r)):hX v (Y (depth+r) g):=by
 rw[h1.rc r hr g hg]
 exact IW (λc=>lt c.t (Y (depth+r-c.b) c.s)) _ _ (.inl hv)
theorem Yn {g r:Nat}{v:Int}:∀fs:List Fl,(∀q∈fs,q.1=g->q.2.1=r->q.2.2<=v)->hX (fl fs g r) (some v):=by
 intro fs
 induction fs with
 |nil=>intro _;exact Md _
 |cons q fs ih=>
  intro h
  rw[Na]
  refine Jc ?_ (ih λx hx=>h x (ai _ hx))
  by_cases e:q.1=g/\q.2.1=r
  ·rw[if_pos e];exact IV (h q ah e.1 e.2)
  ·rw[if_neg e];exact Md _
theorem NC {g r:Nat}{q:Fl}:∀fs:List Fl,q∈fs->q.1=g->q.2.1=r->hX (some q.2.2) (fl fs g r):=by
 intro fs
 induction fs with
 |nil=>intro h;cases h
 |cons x fs ih=>
  intro h e1 e2
  rw[Na]
  rcases ay.mp h with rfl|h
  ·rw[if_pos ⟨e1,e2⟩];exact Jb _ _
  ·exact uf (ih h e1 e2) (Fo _ _)
theorem Vl {pl:Nat->Int}{B:Nat}{as:List cV}{out:List Nat}{a:cV}(h:a∈lat pl B as out):∃i b,as[i]?=some b/\i∉out/\a = { b with t:=- lW pl B b }:=by
 obtain⟨p,hp,rfl⟩:=dv.mp h
 have:=bn.mp hp
 exact⟨p.2,p.1,Jo this.1,of_decide_eq_true this.2,rfl⟩
theorem Nc {pl:Nat->Int}{B:Nat}{as:List cV}{out:List Nat}{i:Nat}{b:cV}(h:as[i]?=some b)(ho:i∉out):({ b with t:=- lW pl B b }:cV)∈lat pl B as out :=
 dv.mpr ⟨(b,i),bn.mpr ⟨lm.mpr h,decide_eq_true ho⟩,rfl⟩
structure Cs where
 t:Int
 s:Int
 b:Nat
 e:Int
 am:Int
 sh:Nat
structure jG (k:Cs):Prop where
 t0:0<=k.t
 t1:k.t<100000000
 s0:0<=k.s
 s1:k.s<100000000
 b:k.b<=2
 e0:1<=k.e
 e1:k.e<=1000000
 a0:0<=k.am
 a1:k.am<=10000000000
 sh:k.sh<=1
def dQ (goal k:Nat):Nat:=if k<goal then k else k+1
def o3 (goal g:Nat):Nat:=if g<goal then g else g-1
theorem xY (goal k:Nat):dQ goal k≠goal:=by unfold dQ;split<;>omega
theorem Fp (goal k:Nat):o3 goal (dQ goal k)=k:=by
 unfold o3 dQ
 by_cases h:k<goal
 ·rw[if_pos h,if_pos h]
 ·rw[if_neg h,if_neg (by omega)];omega
theorem yY {goal k n:Nat}(h:k<n):dQ goal k<n+1:=by unfold dQ;split<;>omega
def oQ (goal:Nat)(K:Nat->Cs)(k:Nat):cV:=⟨.back,dQ goal k,dQ goal k,1000000000-(K k).e,1⟩
def o6 (goal:Nat)(K:Nat->Cs)(k:Nat):cV:=⟨.wait,dQ goal k,goal,200000000-(K k).t-(K k).s,(K k).b⟩
def dL (goal:Nat)(K:Nat->Cs):Nat->List cV
 |0=>[]
 |n+1=>dL goal K n++[oQ goal K n,o6 goal K n]
def xE (goal beat:Nat)(K:Nat->Cs)(k:Nat):List Fl:=if beat<(K k).b+(K k).sh then[]else[(dQ goal k,beat-(K k).b-(K k).sh,(K k).am)]
def gH (goal beat:Nat)(K:Nat->Cs):Nat->List Fl
 |0=>[]
 |n+1=>gH goal beat K n++xE goal beat K n
def cS (beat:Nat)(K:Nat->Cs)(k:Nat):Bool:=decide (¬beat<(K k).b+(K k).sh/\(K k).am-(K k).sh*(K k).e > (K k).s)
def gS (goal n:Nat)(K:Nat->Cs)(g:Nat):Int:=if g=goal then 200000000 else if o3 goal g<n then(K (o3 goal g)).t+1000000000*((K (o3 goal g)).b:Int)else 0
theorem ur (goal:Nat)(K:Nat->Cs):∀n,(dL goal K n).length=2*n
 |0=>rfl
 |n+1=>by
  show(dL goal K n++_).length=_
  rw[aR,ur goal K n];simp;omega
theorem Jd {goal:Nat}{K:Nat->Cs}:∀{n k:Nat},k<n->(dL goal K n)[2*k]?=some (oQ goal K k)/\(dL goal K n)[2*k+1]?=some (o6 goal K k)
 |n+1,k,h=>by
  have hl:=ur goal K n
  by_cases e:k<n
  ·obtain⟨h1,h2⟩:=Jd (goal:=goal) (K:=K) e
   exact⟨by show(dL goal K n++_)[_]?=_;rw[bw (by omega)];exact h1,by show(dL goal K n++_)[_]?=_;rw[bw (by omega)];exact h2⟩
  ·have:k=n:=by omega
   subst this
   constructor
   ·show(dL goal K k++_)[_]?=_
    rw[bT (by omega),hl,Nat.sub_self];rfl
   ·show(dL goal K k++_)[_]?=_
    rw[bT (by omega),hl,m9];rfl
theorem E4 {goal:Nat}{K:Nat->Cs}{n i:Nat}{a:cV}(h:(dL goal K n)[i]?=some a):∃k,k<n/\(i=2*k/\a=oQ goal K k\/i=2*k+1/\a=o6 goal K k):=by
 have hi:i<2*n:=by
  rw[←ur goal K n]
  exact(aU.mp h).1
 obtain⟨h1,h2⟩:=Jd (goal:=goal) (K:=K) (show i/2<n by omega)
 refine⟨i/2,by omega,?_⟩
 by_cases e:i%2=0
 ·have q:2*(i/2)=i:=by omega
  rw[q,h]at h1
  exact .inl ⟨q.symm,Option.some.inj h1⟩
 ·have q:2*(i/2)+1=i:=by omega
  rw[q,h]at h2
  exact .inr ⟨q.symm,Option.some.inj h2⟩
theorem Me (goal:Nat)(K:Nat->Cs):∀n,DC (dL goal K n)=jD n
 |0=>rfl
 |n+1=>by
  have ih:=Me goal K n
  unfold DC jD at ih ⊢
  show((dL goal K n++[oQ goal K n,o6 goal K n]).zipIdx.filter _).map _=_
  rw[List.zipIdx_append,gw,cu,ih,lq,cu,ur]
  congr 1
  show(([(oQ goal K n,0+2*n),(o6 goal K n,0+2*n+1)]:List (cV×Nat)).filter _).map _=_
  simp[oQ,o6]
theorem Mf (goal n:Nat)(K:Nat->Cs):gS goal n K goal=200000000:=if_pos rfl
theorem Nd {goal n k:Nat}{K:Nat->Cs}(h:k<n):gS goal n K (dQ goal k)=(K k).t+1000000000*((K k).b:Int):=by
 unfold gS
 rw[if_neg (xY goal k),Fp,if_pos h]
theorem Jt {goal n k:Nat}{K:Nat->Cs}:lW (gS goal n K) 1000000000 (oQ goal K k)=(K k).e:=by
 unfold lW oQ
 simp only
 omega
theorem Ju {goal n k:Nat}{K:Nat->Cs}(h:k<n):lW (gS goal n K) 1000000000 (o6 goal K k)=(K k).s:=by
 unfold lW o6
 simp only
 rw[Mf,Nd h]
 omega
theorem Nf {goal beat:Nat}{K:Nat->Cs}{q:Fl}:∀{n:Nat},q∈gH goal beat K n->∃k,k<n/\¬beat<(K k).b+(K k).sh/\q=(dQ goal k,beat-(K k).b-(K k).sh,(K k).am)
 |n+1,h=>by
  rcases aT.mp h with h|h
  ·obtain⟨k,hk,e⟩:=Nf h
   exact⟨k,by omega,e⟩
  ·unfold xE at h
   by_cases c:beat<(K n).b+(K n).sh
   ·rw[if_pos c]at h;cases h
   ·rw[if_neg c]at h
    exact⟨n,by omega,c,aO.mp h⟩
theorem ND {goal beat:Nat}{K:Nat->Cs}:∀{n k:Nat},k<n->¬beat<(K k).b+(K k).sh->(dQ goal k,beat-(K k).b-(K k).sh,(K k).am)∈gH goal beat K n
 |n+1,k,h,c=>by
  by_cases e:k<n
  ·exact aT.mpr (.inl (ND e c))
  ·have:k=n:=by omega
   subst this
   refine aT.mpr (.inr ?_)
   unfold xE
   rw[if_neg c];exact aO.mpr rfl
theorem mM {goal n:Nat}{K:Nat->Cs}(h1:1<=n)(h5:n<=5)(hg:goal<n+1)(hK:∀k,jG (K k)):jA (n+1) (dL goal K n):=by
 refine⟨by omega,by omega,by rw[ur];omega,λa ha=>?_,λg=>if g=goal then 1 else 0,λa ha h0=>?_⟩
 ·obtain⟨i,hi⟩:=cn.mp ha
  obtain⟨k,hk,⟨_,rfl⟩|⟨_,rfl⟩⟩:=E4 hi
  ·have c:=hK k
   have e0:=c.e0
   have e1:=c.e1
   exact⟨yY hk,yY hk,by show 0<=1000000000-(K k).e;omega,by show 1000000000-(K k).e<=1000000000;omega,by show 1<=4;decide,nofun,λ_=>aG _⟩
  ·have c:=hK k
   have t0:=c.t0
   have t1:=c.t1
   have s0:=c.s0
   have s1:=c.s1
   have b:=c.b
   exact⟨yY hk,hg,by show 0<=200000000-(K k).t-(K k).s;omega,by show 200000000-(K k).t-(K k).s<=1000000000;omega,by show(K k).b<=4;omega,nofun,nofun⟩
 ·obtain⟨i,hi⟩:=cn.mp ha
  obtain⟨k,hk,⟨_,rfl⟩|⟨_,rfl⟩⟩:=E4 hi
  ·cases h0
  ·show(if dQ goal k=goal then 1 else 0)<(if goal=goal then 1 else 0)
   rw[if_neg (xY goal k),if_pos rfl];decide
theorem Dj {goal n:Nat}{K:Nat->Cs}(hK:∀k,jG (K k)):∀a∈dL goal K n,0<=lW (gS goal n K) 1000000000 a:=λa ha=>by
 obtain⟨i,hi⟩:=cn.mp ha
 obtain⟨k,hk,⟨_,rfl⟩|⟨_,rfl⟩⟩:=E4 hi
 ·rw[Jt];have:=(hK k).e0;omega
 ·rw[Ju hk];exact(hK k).s0
def fQ (c:Cs)(beat r:Nat):Int:=if beat<c.b+c.sh then 0 else if r<beat-c.b-c.sh then 0 else if r=beat-c.b then max 0 (c.am-c.sh*c.e)else c.am
theorem rC {c:Cs}(h:jG c):((c.sh:Int)*c.e=0/\c.sh=0)\/((c.sh:Int)*c.e=c.e/\c.sh=1):=by
 have:=h.sh
 have:c.sh=0\/c.sh=1:=by omega
 rcases this with e|e<;>rw[e]
 ·exact .inl ⟨by simp,rfl⟩
 ·exact .inr ⟨by simp,rfl⟩
theorem rT {c:Cs}(h:jG c)(beat r:Nat):0<=fQ c beat r/\fQ c beat r<=10000000000:=by
 unfold fQ
 have a0:=h.a0
 have a1:=h.a1
 have e0:=h.e0
 have se:=rC h
 generalize (c.sh:Int)*c.e=x at *
 by_cases c1:beat<c.b+c.sh
 ·rw[if_pos c1];omega
 rw[if_neg c1]
 by_cases c2:r<beat-c.b-c.sh
 ·rw[if_pos c2];omega
 rw[if_neg c2]
 by_cases c3:r=beat-c.b
 ·rw[if_pos c3];omega
 ·rw[if_neg c3];omega
theorem Yi {c:Cs}(h:jG c){beat:Nat}(hb:¬beat<c.b+c.sh):c.am<=fQ c beat (beat-c.b-c.sh):=by
 unfold fQ
 have a0:=h.a0
 have se:=rC h
 generalize (c.sh:Int)*c.e=x at *
 rw[if_neg hb,if_neg (by omega)]
 by_cases c3:beat-c.b-c.sh=beat-c.b
 ·rw[if_pos c3];omega
 ·rw[if_neg c3];omega
theorem Yo {c:Cs}(h:jG c)(beat r:Nat):(if 1<=r then fQ c beat (r-1)else 0) + -c.e<=fQ c beat r:=by
 have bd:=rT h beat r
 have e0:=h.e0
 by_cases h1:1<=r
 ·rw[if_pos h1]
  have OO:=rT h beat (r-1)
  unfold fQ at *
  have a0:=h.a0
  have se:=rC h
  generalize (c.sh:Int)*c.e=x at *
  by_cases c1:beat<c.b+c.sh
  ·rw[if_pos c1,if_pos c1];omega
  rw[if_neg c1]at bd OO ⊢
  rw[if_neg c1]
  by_cases c2:r-1<beat-c.b-c.sh
  ·rw[if_pos c2];omega
  ·rw[if_neg c2,if_neg (show¬r<beat-c.b-c.sh by omega)]
   by_cases c3:r=beat-c.b
   ·rw[if_neg (show¬r-1=beat-c.b by omega),if_pos c3];omega
   ·rw[if_neg c3]
    by_cases c4:r-1=beat-c.b
    ·rw[if_pos c4];omega
    ·rw[if_neg c4];omega
 ·rw[if_neg h1];omega
theorem Yp {K:Nat->Cs}{k beat:Nat}(h:jG (K k))(hm:cS beat K k=false):(if(K k).b<=beat then fQ (K k) beat (beat-(K k).b)else 0) + -(K k).s<=0:=by
 have s0:=h.s0
 have hm:¬(¬beat<(K k).b+(K k).sh/\(K k).am-(K k).sh*(K k).e > (K k).s):=of_decide_eq_false hm
 by_cases h1:(K k).b<=beat
 ·rw[if_pos h1]
  unfold fQ
  have se:=rC h
  generalize ((K k).sh:Int)*(K k).e=x at *
  by_cases c1:beat<(K k).b+(K k).sh
  ·rw[if_pos c1];omega
  ·rw[if_neg c1,if_neg (by omega),if_pos rfl]
   have:¬(K k).am-x > (K k).s:=λz=>hm ⟨c1,z⟩
   omega
 ·rw[if_neg h1];omega
theorem Ng {n:Nat}{p:Nat->Bool}{out:List Nat}:has (dE n p) out=true↔∀k,k<n->p k=true->2*k+1∈out:=by
 constructor
 ·intro h k hk hp
  exact fC.mp (ce.mp h (2*k+1) (dv.mpr ⟨k,bn.mpr ⟨bZ.mpr hk,hp⟩,rfl⟩))
 ·intro h
  refine ce.mpr λi hi=>?_
  obtain⟨k,hk,rfl⟩:=dv.mp hi
  have:=bn.mp hk
  exact fC.mpr (h k (bZ.mp this.1) this.2)
section
variable {goal n beat:Nat}{K:Nat->Cs}
theorem Co {Y:Nat->Nat->T}{gq:List Fl}{out:List Nat}{y:Int}(h1:1<=n)(h5:n<=5)(hg:goal<n+1)(hK:∀k,jG (K k))(run:Run (lat (gS goal n K) 1000000000 (dL goal K n) out) (n+1) (dep (dL goal K n)) (beat+1) (λ_ _=>some 0) (λg r=>mx (some 0) (fl (gH goal beat K n++gq) g r)) Y)(hy:Y (dep (dL goal K n)+beat) goal=some y)
  (hq:∀q∈gq,q.1=goal/\q.2.1=beat/\q.2.2<=0) (hn:∀k,k<n->cS beat K k=true->2*k+1∈out):y<=0:=by
 have ok:=mM h1 h5 hg hK
 have hs:=Ym (pl:=gS goal n K) (B:=1000000000) (out:=out) ok
 have:=run.ub2 hs.1 hs.2 (λr g=>if g=goal then(if r=beat then 0 else 100000000000)else fQ (K (o3 goal g)) beat r) (λr hr g Y0=>by
  have nn:0<=if g=goal then(if r=beat then(0:Int)else 100000000000)else fQ (K (o3 goal g)) beat r:=by
   by_cases c1:g=goal
   ·rw[if_pos c1]
    by_cases c2:r=beat
    ·rw[if_pos c2];exact Int.le_refl _
    ·rw[if_neg c2];decide
   ·rw[if_neg c1];exact(rT (hK _) beat r).1
  refine Jc (IV nn) (Yn _ λq sr e1 e2=>?_)
  rcases aT.mp sr with h|h
  ·obtain⟨k,hk,hb,rfl⟩:=Nf h
   subst e1;subst e2
   show(K k).am<=if dQ goal k=goal then _ else fQ (K (o3 goal (dQ goal k))) beat (beat-(K k).b-(K k).sh)
   rw[if_neg (xY goal k),Fp]
   exact Yi (hK k) hb
  ·obtain⟨z1,z2,z3⟩:=hq q h
   exact Int.le_trans z3 nn) (λa ha r hr=>by
  obtain⟨i,b,hi,ho,rfl⟩:=Vl ha
  obtain⟨k,hk,⟨rfl,rfl⟩|⟨rfl,rfl⟩⟩:=E4 hi
  ·rw[Jt]
   show(if 1<=r then(if dQ goal k=goal then _ else fQ (K (o3 goal (dQ goal k))) beat (r-1))else 0) + -(K k).e<=if dQ goal k=goal then _ else fQ (K (o3 goal (dQ goal k))) beat r
   rw[if_neg (xY goal k),if_neg (xY goal k),Fp]
   exact Yo (hK k) beat r
  ·rw[Ju hk]
   show(if(K k).b<=r then(if dQ goal k=goal then _ else fQ (K (o3 goal (dQ goal k))) beat (r-(K k).b))else 0) + -(K k).s<=if goal=goal then(if r=beat then 0 else 100000000000)else _
   rw[if_neg (xY goal k),Fp,if_pos rfl]
   by_cases c2:r=beat
   ·subst c2
    rw[if_pos rfl]
    refine Yp (hK k) ?_
    cases e:cS r K k with
    |false=>rfl
    |true=>exact absurd (hn k hk e) ho
   ·rw[if_neg c2]
    have s0:=(hK k).s0
    have:=rT (hK k) beat (r-(K k).b)
    by_cases c3:(K k).b<=r
    ·rw[if_pos c3];omega
    ·rw[if_neg c3];omega) beat (by omega) goal hg
 rw[hy,if_pos rfl,if_pos rfl]at this
 exact Js this
theorem Cm {Y:Nat->Nat->T}{gq:List Fl}{out:List Nat}{y:Int}{k:Nat}(h1:1<=n)(h5:n<=5)(hg:goal<n+1)(hK:∀k,jG (K k))(run:Run (lat (gS goal n K) 1000000000 (dL goal K n) out) (n+1) (dep (dL goal K n)) (beat+1) (λ_ _=>some 0) (λg r=>mx (some 0) (fl (gH goal beat K n++gq) g r)) Y)(hy:Y (dep (dL goal K n)+beat) goal=some y)
  (ho:∀i∈out,i%2=1) (hk:k<n) (hm:cS beat K k=true) (hn:2*k+1∉out):y > 0:=by
 obtain⟨m1,m2⟩:=of_decide_eq_true hm
 obtain⟨a1,a2⟩:=Jd (goal:=goal) (K:=K) hk
 have l1:=Nc (pl:=gS goal n K) (B:=1000000000) (out:=out) a1 (λz=>by have:=ho _ z;omega)
 have l2:=Nc (pl:=gS goal n K) (B:=1000000000) (out:=out) a2 hn
 rw[Jt]at l1
 rw[Ju hk]at l2
 have p0:hX (some (K k).am) (Y (dep (dL goal K n)+(beat-(K k).b-(K k).sh)) (dQ goal k)):=run.lf (yY hk) (by omega) (uf (NC (g:=dQ goal k) (r:=beat-(K k).b-(K k).sh) _ (aT.mpr (.inl (ND (goal:=goal) hk m1))) rfl rfl) (Fo _ _))
 have p1:hX (some ((K k).am-(K k).sh*(K k).e)) (Y (dep (dL goal K n)+(beat-(K k).b)) (dQ goal k)):=by
  rcases rC (hK k)with⟨x1,x2⟩|⟨x1,x2⟩
  ·rw[x1,Int.sub_zero]
   rw[x2,Nat.sub_zero]at p0
   exact p0
  ·rw[x1]
   have:=run.lb2 l1 (yY hk) (r:=beat-(K k).b-(K k).sh) (v:=(K k).am) (by show beat-(K k).b-(K k).sh+1<beat+1;omega) p0
   have this:hX (some ((K k).am + -(K k).e)) (Y (dep (dL goal K n)+(beat-(K k).b-(K k).sh+1)) (dQ goal k)):=this
   rw[show beat-(K k).b-(K k).sh+1=beat-(K k).b by omega]at this
   rw[Int.sub_eq_add_neg]
   exact this
 have p2:=run.lb2 l2 hg (r:=beat-(K k).b) (v:=(K k).am-(K k).sh*(K k).e) (by show beat-(K k).b+(K k).b<beat+1;omega) p1
 have p2:hX (some ((K k).am-(K k).sh*(K k).e + -(K k).s)) (Y (dep (dL goal K n)+(beat-(K k).b+(K k).b)) goal):=p2
 rw[show beat-(K k).b+(K k).b=beat by omega,hy]at p2
 have:=Js p2
 omega
theorem Vm {ns:List D}{gq:List Fl}{gl:Bool}(h1:1<=n)(h5:n<=5)(hg:goal<n+1)(hb:beat<=900)(hK:∀k,jG (K k))(oW:ns.length=n+1)(gb:(gH goal beat K n++gq).length<=1000)
  (wG:gl=false->∀q∈gq,q.1=goal/\q.2.1=beat/\q.2.2<=0) (Pw:gl=true->∃v:Int,(goal,beat,v)∈gq/\0<v) (out:List Nat) (ho:∀i∈out,i%2=1) :
  wd [dk (bP ns (dL goal K n)) (n+1) (gS goal n K) 1000000000,.lst ((gH goal beat K n++gq).map bR),.int (goal:Int),.int (beat:Int),.lst (aQ out)]=some (.bl (gl || !(has (dE n (cS beat K)) out))):=by
 obtain⟨Y,run,y,hy,e⟩:=Vi (ns:=ns) (pl:=gS goal n K) (B:=1000000000) (puts:=gH goal beat K n++gq) (mM h1 h5 hg hK) oW hb (by decide) hg gb out
 rw[e]
 refine congrArg (λb=>some (D.bl b)) ?_
 clear e
 cases gl with
 |true=>
  obtain⟨v,hv,hp⟩:=Pw rfl
  have:=run.lf hg (by omega:beat<beat+1) (uf (NC (g:=goal) (r:=beat) (gH goal beat K n++gq) (aT.mpr (.inr hv)) rfl rfl) (Fo (some 0) _))
  rw[hy]at this
  have:v<=y:=Js this
  rw[Bool.true_or]
  exact decide_eq_true (by omega)
 |false=>
  rw[sU]
  cases c:has (dE n (cS beat K)) out with
  |true=>
   have:=Co h1 h5 hg hK run hy (wG rfl) (Ng.mp c)
   exact decide_eq_false (by omega)
  |false=>
   have:∃k,k<n/\cS beat K k=true/\2*k+1∉out:=by
    refine Classical.byContradiction λno=>?_
    have:has (dE n (cS beat K)) out=true:=Ng.mpr λk hk hp=>Classical.byContradiction λz=>no ⟨k,hk,hp,z⟩
    rw[c]at this;cases this
   obtain⟨k,hk,hp,hn⟩:=this
   exact decide_eq_true (Cm h1 h5 hg hK run hy ho hk hp hn)
end
theorem Jv (ns:List Int)(i:Int)(hi:0<=i):∃c,xw [.lst (ns.map .int),.int i]=some (.int c):=by
 obtain⟨k,rfl⟩:∃k:Nat,i=k:=⟨i.toNat,by omega⟩
 unfold xw
 by_cases h:k<ns.length
 ·refine⟨ns[k],?_⟩
  have:eZ (.lst (ns.map .int)) (.int (k:Int))=some (.int ns[k]):=MZ D.int (.inl rfl) (by simp[h])
  walk_at "mir"
 ·refine⟨0,?_⟩
  walk_at "mir"
theorem DD (c:Int){k:Int}(h0:0<=k)(h1:k<=1000000):∃r:Nat,yy [.int c,.int k]=some (.int (r:Int))/\r<2147483648:=by
 have m0:eO (.int 31) (.int k)=some (.int (31*k)):=j9 (by decide) (by decide)
 have s0:pM (.int c) (.int (1+31*k))=some (.int (c/2 ^ (1+31*k).toNat)):=zgs (by omega)
 have fin:∀z:Int,∀m:Int,0<m->m<=2147483648->∃r:Nat,(some (D.int (z%m)):Option D)=some (.int (r:Int))/\r<2147483648:=λz m hm rM=>by
  have a1:=lI z (by omega:m≠0)
  have a2:=pP z hm
  exact⟨(z%m).toNat,by rw[jJ a1],by omega⟩
 generalize hn:(c+7919*k+1)*48271%2147483647=n1
 have b1:0<=n1/\n1<2147483647:=by omega
 have m1:eO (.int 7919) (.int k)=some (.int (7919*k)):=j9 (by decide) (by decide)
 have m2:eO (.int (c+7919*k+1)) (.int 48271)=some (.int ((c+7919*k+1)*48271)):=znb (by decide) (by decide)
 have m3:eO (.int n1) (.int (n1/1009+69621))=some (.int (n1*(n1/1009+69621))):=j9 (by omega) (by omega)
 generalize rN:n1*(n1/1009+69621)%2147483647=n2
 have b2:0<=n2/\n2<2147483647:=by omega
 have m4:eO (.int n2) (.int (n2/2003+39373+k))=some (.int (n2*(n2/2003+39373+k))):=j9 (by omega) (by omega)
 unfold yy
 by_cases hr:(1237940039285380274899124224:Int)<=c
 ·by_cases p6:¬c%2=1
  ·obtain⟨r,e1,e2⟩:=fin (n2*(n2/2003+39373+k)) 2147483629 (by decide) (by decide)
   refine⟨r,?_,e2⟩
   rw[←e1]
   clear e1 e2 fin b1 b2 h0 h1 s0
   walk_at "mir"
  replace p6:c%2=1:=Classical.byContradiction p6
  by_cases hs:c/2 ^ (1+31*k).toNat > 0
  ·obtain⟨r,e1,e2⟩:=fin (c/2 ^ (1+31*k).toNat) 2147483648 (by decide) (by decide)
   refine⟨r,?_,e2⟩
   rw[←e1]
   generalize c/2 ^ (1+31*k).toNat=q at s0 hs
   clear e1 e2 fin hn rN b1 b2 h0 h1
   walk_at "mir"
  ·obtain⟨r,e1,e2⟩:=fin (n2*(n2/2003+39373+k)) 2147483629 (by decide) (by decide)
   refine⟨r,?_,e2⟩
   rw[←e1]
   generalize c/2 ^ (1+31*k).toNat=q at s0 hs
   clear e1 e2 fin b1 b2 h0 h1
   walk_at "mir"
 ·obtain⟨r,e1,e2⟩:=fin (n2*(n2/2003+39373+k)) 2147483629 (by decide) (by decide)
  refine⟨r,?_,e2⟩
  rw[←e1]
  clear e1 e2 fin b1 b2 h0 h1 s0
  walk_at "mir"
theorem Hz {w x y v:Int}(z:Nat)(P:Int->Prop)(h0:P w)(h1:P x)(h2:P y)(h3:P v):∃s:Int,eZ (.lst [.int w,.int x,.int y,.int v]) (.int ((z:Int)%4))=some (.int s)/\P s:=by
 have:(z:Int)%4=0\/(z:Int)%4=1\/(z:Int)%4=2\/(z:Int)%4=3:=by omega
 rcases this with e|e|e|e<;>rw[e]
 ·exact⟨_,rfl,h0⟩
 ·exact⟨_,rfl,h1⟩
 ·exact⟨_,rfl,h2⟩
 ·exact⟨_,rfl,h3⟩
theorem Vn (c:Int):∃s:Int,wy [.int c]=some (.int s)/\0<=s/\s<100000000:=by
 obtain⟨z,m1,_⟩:=DD c (k:=1) (by decide) (by decide)
 obtain⟨s,hs,h1⟩:=Hz (w:=0) (x:=1) (y:=c/3%10) (v:=c/3%100000000) z (λs=>0<=s/\s<100000000) (by omega) (by omega) (by omega) (by omega)
 refine⟨s,?_,h1⟩
 clear h1
 unfold wy
 walk_at "mir"
theorem UA (c:Int){s:Int}(h0:0<=s)(h1:s<100000000):∃a:Int,wb [.int c,.int s]=some (.int a)/\0<=a/\a<=10000000000:=by
 obtain⟨z,m1,_⟩:=DD c (k:=2) (by decide) (by decide)
 obtain⟨z3,m3,_⟩:=DD c (k:=3) (by decide) (by decide)
 obtain⟨nr,hn⟩:∃nr:Int,nr=if s+(z:Int)%5-2 > 0 then s+(z:Int)%5-2 else 0:=⟨_,rfl⟩
 have mm:kG [.int 0,.int (s+(z:Int)%5-2)]=some (.int nr):=by rw[hn];rfl
 have Ps:0<=nr/\nr<=10000000000:=by
  rw[hn]
  by_cases q:s+(z:Int)%5-2 > 0
  ·rw[if_pos q];omega
  ·rw[if_neg q];omega
 obtain⟨a,ha,h2⟩:=Hz (w:=nr) (x:=s) (y:=s+1) (v:=s+c/3%1000000000) z3 (λs=>0<=s/\s<=10000000000) (by omega) (by omega) (by omega) (by omega)
 refine⟨a,?_,h2⟩
 clear h2 Ps h0 h1 hn
 unfold wb
 simp -implicitDefEqProofs [mOf,startD,sSeq,sSet,sRet,eV,eC,e1,e2,eN,aNil,aCons,zdb,zdc,zbo,za1,zda,m1,m3,mm,ha]
theorem Dx (c:Int):∃k:Cs,jG k/\k.t=c/5%100000000/\k.e=1+c%1000000/\wy [.int c]=some (.int k.s)/\(∃z:Nat,yy [.int c,.int 4]=some (.int (z:Int))/\(z:Int)%3=(k.b:Int))/\wb [.int (c/3),.int k.s]=some (.int k.am)/\∃z:Nat,yy [.int c,.int 5]=some (.int (z:Int))/\eZ (.lst [.int 0,.int 0,.int 0,.int 1]) (.int ((z:Int)%4))=some (.int (k.sh:Int)):=by
 obtain⟨s,hs,s0,s1⟩:=Vn c
 obtain⟨am,ha,a0,a1⟩:=UA (c/3) s0 s1
 obtain⟨z4,m4,_⟩:=DD c (k:=4) (by decide) (by decide)
 obtain⟨z5,m5,_⟩:=DD c (k:=5) (by decide) (by decide)
 obtain⟨sh,Hn,b1⟩:=Hz (w:=0) (x:=0) (y:=0) (v:=1) z5 (λs=>0<=s/\s<=1) (by omega) (by omega) (by omega) (by omega)
 refine⟨⟨c/5%100000000,s,((z4:Int)%3).toNat,1+c%1000000,am,sh.toNat⟩,⟨by show 0<=c/5%100000000;omega,by show c/5%100000000<100000000;omega,s0,s1,by show((z4:Int)%3).toNat<=2;omega,by show 1<=1+c%1000000;omega,by show 1+c%1000000<=1000000;omega,a0,a1,by show sh.toNat<=1;omega⟩,rfl,rfl,hs,⟨z4,m4,by show(z4:Int)%3=(((z4:Int)%3).toNat:Int);omega⟩,ha,z5,m5,?_⟩
 rw[Hn]
 show some (D.int sh)=some (D.int (sh.toNat:Int))
 rw[jJ b1.1]
def mI (goal beat:Nat)(c:Cs)(o:Nat):D:=if beat<c.b+c.sh then .non else bR (o,beat-c.b-c.sh,c.am)
theorem Yq {c:Int}{k:Cs}{K:Nat->Cs}{i goal beat:Nat}(hk:K i=k)(ok:jG k)(he:k.e=1+c%1000000)(ha:wb [.int (c/3),.int k.s]=some (.int k.am))(hs:∃z:Nat,yy [.int c,.int 5]=some (.int (z:Int))/\eZ (.lst [.int 0,.int 0,.int 0,.int 1]) (.int ((z:Int)%4))=some (.int (k.sh:Int)))(o:Nat) :
  ja [.int (o:Int),.int c,.int k.s,.int ((beat:Int)-(k.b:Int))]=some (.tup [mI goal beat k o,.bl (cS beat K i)]):=by
 obtain⟨z,m5,ix⟩:=hs
 have sh:=ok.sh
 have ml:eO (.int (k.sh:Int)) (.int (1+c%1000000))=some (.int ((k.sh:Int)*(1+c%1000000))):=j9 (by omega) (by omega)
 unfold mI cS
 rw[hk]
 by_cases q:beat<k.b+k.sh
 ·have q':(beat:Int)-(k.b:Int)<(k.sh:Int):=by omega
  rw[if_pos q,decide_eq_false (λz=>z.1 q)]
  clear hk ok he sh
  unfold ja
  walk_at "mir"
 ·have q':¬(beat:Int)-(k.b:Int)<(k.sh:Int):=by omega
  rw[if_neg q]
  have e1:bR (o,beat-k.b-k.sh,k.am)=.tup [.int (o:Int),.int ((beat:Int)-(k.b:Int)-(k.sh:Int)),.int k.am]:=by
   show D.tup [.int (o:Int),.int ((beat-k.b-k.sh:Nat):Int),.int k.am]=_
   rw[show((beat-k.b-k.sh:Nat):Int)=(beat:Int)-(k.b:Int)-(k.sh:Int)by omega]
  have e2:decide (¬beat<k.b+k.sh/\k.am-k.sh*k.e > k.s)=decide (k.am-(k.sh:Int)*(1+c%1000000) > k.s):=by
   rw[he]
   by_cases w:k.am-(k.sh:Int)*(1+c%1000000) > k.s
   ·rw[decide_eq_true w,decide_eq_true ⟨q,w⟩]
   ·rw[decide_eq_false w,decide_eq_false (λz=>w z.2)]
  rw[e1,e2]
  have gt:pI (.int (k.am-(k.sh:Int)*(1+c%1000000))) (.int k.s)=some (.bl (decide (k.am-(k.sh:Int)*(1+c%1000000) > k.s))):=zjo _ _
  have lt':qC (.int ((beat:Int)-(k.b:Int))) (.int (k.sh:Int))=some (.bl false):=by rw[zjn,decide_eq_false q']
  generalize decide (k.am-(k.sh:Int)*(1+c%1000000) > k.s)=G at *
  generalize (k.sh:Int)*(1+c%1000000)=SE at *
  clear hk ok he sh e1 e2 q q'
  unfold ja
  simp -implicitDefEqProofs [mOf,startD,sSeq,sIf,sSkip,tb,znc,sSet,sRet,eV,eC,e1,e2,eN,aNil,aCons,zdb,zdc,zbo,za1,zda,m5,ix,ml,gt,lt',ha]
theorem UB {c:Int}{K:Nat->Cs}{i goal n:Nat}{pl:Nat->Int}(hi:i<n)(hg:goal<n+1)(ok:jG (K i))(ht:(K i).t=c/5%100000000)(he:(K i).e=1+c%1000000)(hp:pl goal=200000000) :
  wl [.int (dQ goal i:Nat),.int (goal:Int),.int c,.lst (dA (n+1) pl),.int (K i).s,.int ((K i).b:Int)]=some (.tup [.lst [bH (oQ goal K i),bH (o6 goal K i)],.lst (dA (n+1) λg=>if g=dQ goal i then(K i).t+1000000000*((K i).b:Int)else pl g)]):=by
 have ho:dQ goal i<n+1:=yY hi
 have mL:=xY goal i
 have t0:=ok.t0
 have t1:=ok.t1
 have s0:=ok.s0
 have s1:=ok.s1
 have b2:=ok.b
 obtain⟨nF,sq⟩:∃nF:Nat->Int,nF=λg=>if g=dQ goal i then(K i).t else pl g:=⟨_,rfl⟩
 have EG:iN (dA (n+1) pl) ((dQ goal i:Nat):Int) (.int (c/5%100000000))=some (dA (n+1) nF):=by rw[Fk pl ho,sq,ht]
 have i1:eZ (.lst (dA (n+1) nF)) (.int (goal:Int))=some (.int 200000000):=by
  rw[MY,xX nF hg,sq]
  dsimp only
  rw[if_neg (λz=>mL z.symm),hp]
 have i2:eZ (.lst (dA (n+1) nF)) (.int ((dQ goal i:Nat):Int))=some (.int (K i).t):=by
  rw[MY,xX nF ho,sq]
  dsimp only
  rw[if_pos rfl]
 have ml:eO (.int 1000000000) (.int ((K i).b:Int))=some (.int (1000000000*((K i).b:Int))):=j9 (by decide) (by omega)
 obtain⟨bf,Bu⟩:∃bf:Int,bf=200000000+1000000000*((K i).b:Int)-(K i).t-(K i).s:=⟨_,rfl⟩
 have bm:bf%1000000000=200000000-(K i).t-(K i).s:=by omega
 have EH:iN (dA (n+1) nF) ((dQ goal i:Nat):Int) (.int ((K i).t+bf-(200000000-(K i).t-(K i).s)))=some (dA (n+1) λg=>if g=dQ goal i then(K i).t+1000000000*((K i).b:Int)else pl g):=by
  rw[Fk nF ho,sq]
  have:(K i).t+bf-(200000000-(K i).t-(K i).s)=(K i).t+1000000000*((K i).b:Int):=by omega
  rw[this]
  congr 2
  funext g
  by_cases q:g=dQ goal i
  ·rw[if_pos q,if_pos q]
  ·rw[if_neg q,if_neg q];exact if_neg q
 have r3:ui 3 [.int ((dQ goal i:Nat):Int),.int ((dQ goal i:Nat):Int),.int (999999999-c%1000000),.int 1]=some (bH (oQ goal K i)):=by
  have:(999999999-c%1000000:Int)=1000000000-(K i).e:=by omega
  rw[this];rfl
 have r2:uh 2 [.int ((dQ goal i:Nat):Int),.int (goal:Int),.int (200000000-(K i).t-(K i).s),.int ((K i).b:Int)]=some (bH (o6 goal K i)):=rfl
 have p1:∀r:L3.Env,r[0]?.join=some (.int ((dQ goal i:Nat):Int))->r[2]?.join=some (.int c)->r[3]?.join=some (.lst (dA (n+1) pl))->gB 3 (eV 0) (e2 dP (e2 d4 (eV 2) (eC (.int 5))) (e2 gh (eC (.int 10)) (eC (.int 8)))) r=some (.nx (r.set 3 (some (.lst (dA (n+1) nF))))):=λr h0 h2 h3=>by
  have:(e2 dP (e2 d4 (eV 2) (eC (.int 5))) (e2 gh (eC (.int 10)) (eC (.int 8)))) r=some (.int (c/5%100000000)):=by
   clear EG i1 i2 ml bm EH r3 r2
   walk_at "mir"
  unfold gB
  rw[this]
  have e3:eV 3 r=some (.lst (dA (n+1) pl)):=h3
  have e0:eV 0 r=some (.int ((dQ goal i:Nat):Int)):=h0
  rw[bu,e3,bu,e0,bu]
  dsimp only
  rw[EG];rfl
 have p2:∀r:L3.Env,r[0]?.join=some (.int ((dQ goal i:Nat):Int))->r[7]?.join=some (.int bf)->r[3]?.join=some (.lst (dA (n+1) nF))->gB 3 (eV 0) (e2 gN (e2 dZ (e2 eZ (eV 3) (eV 0)) (eV 7)) (e2 dP (eV 7) (e2 gh (eC (.int 10)) (eC (.int 9))))) r=some (.nx (r.set 3 (some (.lst (dA (n+1) λg=>if g=dQ goal i then(K i).t+1000000000*((K i).b:Int)else pl g))))):=λr h0 h7 h3=>by
  have:(e2 gN (e2 dZ (e2 eZ (eV 3) (eV 0)) (eV 7)) (e2 dP (eV 7) (e2 gh (eC (.int 10)) (eC (.int 9))))) r=some (.int ((K i).t+bf-(200000000-(K i).t-(K i).s))):=by
   generalize dA (n+1) nF=V1 at *
   clear EG i1 ml EH r3 r2 p1 sq Bu
   walk_at "mir"
  unfold gB
  rw[this]
  have e3:eV 3 r=some (.lst (dA (n+1) nF)):=h3
  have e0:eV 0 r=some (.int ((dQ goal i:Nat):Int)):=h0
  rw[bu,e3,bu,e0,bu]
  dsimp only
  rw[EH];rfl
 generalize (dA (n+1) λg=>if g=dQ goal i then(K i).t+1000000000*((K i).b:Int)else pl g)=V2,bH (oQ goal K i)=EB,bH (o6 goal K i)=EW at *
 unfold wl
 generalize gB 3 (eV 0) (e2 dP (e2 d4 (eV 2) (eC (.int 5))) (e2 gh (eC (.int 10)) (eC (.int 8))))=S1,gB 3 (eV 0) (e2 gN (e2 dZ (e2 eZ (eV 3) (eV 0)) (eV 7)) (e2 dP (eV 7) (e2 gh (eC (.int 10)) (eC (.int 9)))))=S2 at *
 replace p1:=p1 [some (.int ((dQ goal i:Nat):Int)),some (.int (goal:Int)),some (.int c),some (.lst (dA (n+1) pl)),some (.int (K i).s),some (.int ((K i).b:Int)),some (.int 1000000000),none,none] rfl rfl rfl
 replace p2:=p2 [some (.int ((dQ goal i:Nat):Int)),some (.int (goal:Int)),some (.int c),some (.lst (dA (n+1) nF)),some (.int (K i).s),some (.int ((K i).b:Int)),some (.int 1000000000),some (.int bf),none] rfl rfl rfl
 have p1:S1 [some (.int ((dQ goal i:Nat):Int)),some (.int (goal:Int)),some (.int c),some (.lst (dA (n+1) pl)),some (.int (K i).s),some (.int ((K i).b:Int)),some (.int 1000000000),none,none]=some (.nx [some (.int ((dQ goal i:Nat):Int)),some (.int (goal:Int)),some (.int c),some (.lst (dA (n+1) nF)),some (.int (K i).s),some (.int ((K i).b:Int)),some (.int 1000000000),none,none]):=p1
 have p2:S2 [some (.int ((dQ goal i:Nat):Int)),some (.int (goal:Int)),some (.int c),some (.lst (dA (n+1) nF)),some (.int (K i).s),some (.int ((K i).b:Int)),some (.int 1000000000),some (.int bf),none]=some (.nx [some (.int ((dQ goal i:Nat):Int)),some (.int (goal:Int)),some (.int c),some (.lst V2),some (.int (K i).s),some (.int ((K i).b:Int)),some (.int 1000000000),some (.int bf),none]):=p2
 generalize dA (n+1) nF=V1 at *
 generalize dA (n+1) pl=V0 at *
 rw[←bm]at r2
 generalize ((dQ goal i:Nat):Int)=O,(K i).s=s,(K i).t=t,((K i).b:Int)=b at *
 clear EG EH sq t0 t1 s0 s1 b2 ho mL hi hg he hp bm ht ok
 unfold wU ou wV
 have YZ:200000000+1000000000*b-t-s=bf:=Bu.symm
 clear Bu
 walk_at "mir"
theorem L8 {α:Type}(f:α->Bool):∀xs:List α,iG (xs.map λx=>D.bl (f x))=some (xs.map f)
 |[]=>rfl
 |x::xs=>by
  show(iG (xs.map λx=>D.bl (f x))).bind _=_
  rw[L8 f xs]
  rfl
theorem all_map {α:Type}(f:α->Bool)(xs:List α):qK [.lst (xs.map λx=>D.bl (f x))]=some (.bl (xs.all f)):=by
 show(iG _).bind _=_
 rw[L8]
 show some (D.bl ((xs.map f).all id))=_
 rw[mZ]
 rfl
def sR (q:Fl):Int×Int×Int:=(q.1,q.2.1,q.2.2)
theorem Wv (neg:Bool)(puts:List Fl):lU neg (.lst (puts.map bR)) (.lst (puts.map bR))=some (.bl (!neg)):=by
 have:=(El (E3 Ei Ei Ei)).eq (by decide) (neg:=neg) (puts.map sR) (puts.map sR)
 have e:(El (E3 Ei Ei Ei)).enc (puts.map sR)=.lst (puts.map bR):=by
  show D.lst ((puts.map sR).map (E3 Ei Ei Ei).enc)=_
  rw[cU];rfl
 rw[e,decide_eq_true rfl]at this
 rw[this]
 cases neg<;>rfl
theorem Vo (neg:Bool)(A B:List Nat):lU neg (.lst (aQ A)) (.lst (aQ B))=some (.bl (if neg then !decide (A=B)else decide (A=B))):=by
 have:=(El Ei).eq (by decide) (neg:=neg) (A.map λ(x:Nat)=>(x:Int)) (B.map λ(x:Nat)=>(x:Int))
 have e:∀w:List Nat,(El Ei).enc (w.map λ(x:Nat)=>(x:Int))=.lst (aQ w):=λw=>by
  show D.lst ((w.map λ(x:Nat)=>(x:Int)).map D.int)=_
  rw[cU];rfl
 rw[e,e]at this
 have hd:decide ((A.map λ(x:Nat)=>(x:Int))=B.map λ(x:Nat)=>(x:Int))=decide (A=B):=decide_eq_decide.mpr (List.map_inj_right (λx y h=>by omega))
 rw[hd]at this
 exact this
def wR (k:Nat):aI:=⟨#[97+k]⟩
def rP (n:Nat):List D:=(aH n).map λ(k:Nat)=>D.str (wR k)
def Ky:Option D->Bool
 |some (.bl true)=>true
 |_=>false
theorem Yr {x:Option D}(h:Ky x=true):x=some (.bl true):=by
 unfold Ky at h
 split at h
 ·rfl
 ·cases h
theorem Yj {n:Nat}(h1:1<=n)(h2:n<=6):uj [.lst (rP n)]=some (.bl true):=by
 have:n=1\/n=2\/n=3\/n=4\/n=5\/n=6:=by omega
 rcases this with rfl|rfl|rfl|rfl|rfl|rfl<;>exact Yr (by decide +kernel)
def Hx (x:Option D)(c:aI):Bool:=match x with
 |some (.str a)=>decide (a=c)
 |_=>false
theorem Ys {x:Option D}{c:aI}(h:Hx x c=true):x=some (.str c):=by
 unfold Hx at h
 split at h
 ·rw[of_decide_eq_true h]
 ·cases h
theorem UC (k:Nat):jy [.int (k:Int)]=some (.bl true):=rfl
theorem UD:wz [.non,.non]=some (.bl true):=rfl
theorem UE {x:List Nat}(hx:x.length<=1000):wz [.lst (aQ x),.lst (aQ x)]=some (.bl true):=by
 have q:uo [some (.lst (aQ x)),some (.lst (aQ x))]=some (.lst (x.map λ_=>D.bl true)):=by
  refine uq (λ(t:Nat)=>D.int (t:Int)) _ x rfl (by omega) λk hk=>⟨[some (.int (k:Int))],rfl,?_⟩
  exact UC k
 have al:qK [.lst (x.map λ_=>D.bl true)]=some (.bl true):=by
  have:=all_map (λ_:Nat=>true) x
  rw[ce.mpr (λ_ _=>rfl)]at this
  exact this
 have e:=Vo false x x
 have e:lU false (.lst (aQ x)) (.lst (aQ x))=some (.bl true):=by rw[e];simp
 have i1:lA "list" (.lst (aQ x))=some (.bl true):=rfl
 have i2:oX false (.lst (aQ x)) .non=some (.bl false):=rfl
 generalize (x.map λ_=>D.bl true)=L,aQ x=X at *
 clear hx
 unfold wz
 generalize uo=Q at *
 walk_at "mir"
theorem HM:∀n,n<6->∀goal,goal<n+1->(aH (n+1)).filter (λg=>decide (g≠goal))=(aH n).map (dQ goal):=by decide +kernel
theorem UF (n:Nat)(p:Nat->Bool):dE (n+1) p=dE n p++if p n=true then[2*n+1]else[]:=by
 unfold dE
 rw[lq,gw,cu]
 congr 1
 cases e:p n<;>simp[e]
theorem IX (n:Nat)(p:Nat->Bool):(dE n p).length<=n:=by
 unfold dE
 rw[aE]
 exact bK (nK _ _) (by simp)
theorem Fi (goal beat:Nat)(K:Nat->Cs):∀n,(gH goal beat K n).length<=n
 |0=>aG _
 |n+1=>by
  show(gH goal beat K n++_).length<=_
  rw[aR]
  have:=Fi goal beat K n
  have:(xE goal beat K n).length<=1:=by unfold xE;split<;>simp
  omega
theorem Vp {goal j:Nat}{K:Nat->Cs}(g:Nat):(if g=dQ goal j then(K j).t+1000000000*((K j).b:Int)else gS goal j K g)=gS goal (j+1) K g:=by
 by_cases q:g=dQ goal j
 ·rw[if_pos q,q,Nd (fI j)]
 ·rw[if_neg q]
  unfold gS
  by_cases c:g=goal
  ·rw[if_pos c,if_pos c]
  ·rw[if_neg c,if_neg c]
   have:o3 goal g≠j:=λz=>by
    refine q ?_
    rw[←z]
    unfold dQ o3
    by_cases h:g<goal
    ·rw[if_pos h,if_pos h]
    ·rw[if_neg h,if_neg (by omega)];omega
   by_cases d:o3 goal g<j
   ·rw[if_pos d,if_pos (by omega)]
   ·rw[if_neg d,if_neg (by omega)]
structure JC (cell:Nat->Int)(K:Nat->Cs)(k:Nat):Prop where
 ok:jG (K k)
 t:(K k).t=cell k/5%100000000
 e:(K k).e=1+cell k%1000000
 s:wy [.int (cell k)]=some (.int (K k).s)
 b:∃z:Nat,yy [.int (cell k),.int 4]=some (.int (z:Int))/\(z:Int)%3=((K k).b:Int)
 am:wb [.int (cell k/3),.int (K k).s]=some (.int (K k).am)
 sh:∃z:Nat,yy [.int (cell k),.int 5]=some (.int (z:Int))/\eZ (.lst [.int 0,.int 0,.int 0,.int 1]) (.int ((z:Int)%4))=some (.int ((K k).sh:Int))
theorem Yt {ns:List Int}{cell:Nat->Int}{K:Nat->Cs}{n goal beat:Nat}(hc:∀k:Nat,xw [.lst (ns.map .int),.int (1+(k:Int))]=some (.int (cell k)))(hK:∀k,JC cell K k)(h5:n<=5)(hg:goal<n+1)(c:Int) :
  ∃y10 y11 y12 y13 y14 y15:Option D,ir (gV 10) DH (kY 0 n) [some (.lst (ns.map .int)),some (.int c),some (.int (n:Int)),some (.int (goal:Int)),some (.int (beat:Int)),some (.lst (aQ ((aH n).map (dQ goal)))),some (.lst (dA (n+1) (gS goal 0 K))),some (.lst []),some (.lst []),some (.lst []),none,none,none,none,none,none,none,none,none,none] =
   some (.nx [some (.lst (ns.map .int)),some (.int c),some (.int (n:Int)),some (.int (goal:Int)),some (.int (beat:Int)),some (.lst (aQ ((aH n).map (dQ goal)))),some (.lst (dA (n+1) (gS goal n K))),some (.lst ((dL goal K n).map bH)),some (.lst ((gH goal beat K n).map bR)),some (.lst (aQ (dE n (cS beat K)))),y10,y11,y12,y13,y14,y15,none,none,none,none]):=by
 obtain⟨ρ',h1,y10,y11,y12,y13,y14,y15,rfl⟩:=qy (g:=gV 10) (b:=DH) (lo:=0) (n:=n) (ρ:=[some (.lst (ns.map .int)),some (.int c),some (.int (n:Int)),some (.int (goal:Int)),some (.int (beat:Int)),some (.lst (aQ ((aH n).map (dQ goal)))),some (.lst (dA (n+1) (gS goal 0 K))),some (.lst []),some (.lst []),some (.lst []),none,none,none,none,none,none,none,none,none,none])
  (λk ρ=>∃(y10 y11 y12 y13 y14 y15:Option D),ρ=[some (.lst (ns.map .int)),some (.int c),some (.int (n:Int)),some (.int (goal:Int)),some (.int (beat:Int)),some (.lst (aQ ((aH n).map (dQ goal)))),some (.lst (dA (n+1) (gS goal k K))),some (.lst ((dL goal K k).map bH)),some (.lst ((gH goal beat K k).map bR)),some (.lst (aQ (dE k (cS beat K)))),y10,y11,y12,y13,y14,y15,none,none,none,none])
  ⟨none,none,none,none,none,none,rfl⟩ (by
   rintro j ρ hj ⟨y10,y11,y12,y13,y14,y15,rfl⟩
   have d:=hK j
   obtain⟨z4,m4,hb⟩:=d.b
   have hs:=d.s
   have cj:=hc j
   have io:eZ (.lst (aQ ((aH n).map (dQ goal)))) (.int (j:Int))=some (.int ((dQ goal j:Nat):Int)):=by
    refine MZ (λ(t:Nat)=>D.int (t:Int)) (.inl rfl) ?_
    rw[bj,dm hj];rfl
   have ar:=UB (c:=cell j) (pl:=gS goal j K) hj hg d.ok d.t d.e (Mf goal j K)
   have ev:dA (n+1) (λg=>if g=dQ goal j then(K j).t+1000000000*((K j).b:Int)else gS goal j K g)=dA (n+1) (gS goal (j+1) K):=by
    congr 1
    funext g
    exact Vp g
   rw[ev]at ar
   have pu:=Yq (c:=cell j) (K:=K) (i:=j) (goal:=goal) (beat:=beat) rfl d.ok d.e d.am d.sh (dQ goal j)
   have ad:qJ (.lst ((dL goal K j).map bH)) (.lst [bH (oQ goal K j),bH (o6 goal K j)])=some (.lst ((dL goal K (j+1)).map bH)):=by
    show(if _ then some (D.lst _)else none)=_
    rw[if_pos (by rw[aE,ur];simp;omega)]
    show _=some (D.lst ((dL goal K j++[oQ goal K j,o6 goal K j]).map bH))
    rw[cu];rfl
   have l1:((gH goal beat K j).map bR).length<16777216:=by rw[aE];have:=Fi goal beat K j;omega
   have l2:(aQ (dE j (cS beat K))).length<16777216:=by have:=IX j (cS beat K);unfold aQ;rw[aE];omega
   have m2:eO (.int 2) (.int (j:Int))=some (.int (2*(j:Int))):=j9 (by decide) (by decide)
   have st:nG 7 (ke 6 (aCons (e2 eZ (eV 5) (eV 10)) (aCons (eV 3) (aCons (eV 11) aNil))) (aCons (eV 12) (aCons (eV 13) aNil)) wl) [some (.lst (ns.map .int)),some (.int c),some (.int (n:Int)),some (.int (goal:Int)),some (.int (beat:Int)),some (.lst (aQ ((aH n).map (dQ goal)))),some (.lst (dA (n+1) (gS goal j K))),some (.lst ((dL goal K j).map bH)),some (.lst ((gH goal beat K j).map bR)),some (.lst (aQ (dE j (cS beat K)))),some (.int (j:Int)),some (.int (cell j)),some (.int (K j).s),some (.int ((K j).b:Int)),y14,y15,none,none,none,none] =
     some (.nx [some (.lst (ns.map .int)),some (.int c),some (.int (n:Int)),some (.int (goal:Int)),some (.int (beat:Int)),some (.lst (aQ ((aH n).map (dQ goal)))),some (.lst (dA (n+1) (gS goal (j+1) K))),some (.lst ((dL goal K (j+1)).map bH)),some (.lst ((gH goal beat K j).map bR)),some (.lst (aQ (dE j (cS beat K)))),some (.int (j:Int)),some (.int (cell j)),some (.int (K j).s),some (.int ((K j).b:Int)),y14,y15,none,none,none,none]):=by
    have ic:ki (.lst (dA (n+1) (gS goal j K)))=true:=rfl
    generalize (dL goal K (j+1)).map bH=A1,(dL goal K j).map bH=A0,dA (n+1) (gS goal (j+1) K)=V1,dA (n+1) (gS goal j K)=V0,aQ ((aH n).map (dQ goal))=O,((dQ goal j:Nat):Int)=o,bH (oQ goal K j)=EB,bH (o6 goal K j)=EW at *
    clear pu d hs cj hc m4 hb ev l1 l2 m2 hK hj hg h5
    unfold nG ke
    walk_at "mir"
   rw[Int.zero_add]
   have e9:aQ (dE (j+1) (cS beat K))=aQ (dE j (cS beat K))++if cS beat K j=true then[.int (2*(j:Int)+1)]else[]:=by
    rw[UF]
    unfold aQ
    rw[cu]
    congr 1
    cases cS beat K j<;>rfl
   have e8:(gH goal beat K (j+1)).map bR=(gH goal beat K j).map bR++if beat<(K j).b+(K j).sh then[]else[mI goal beat (K j) (dQ goal j)]:=by
    show(gH goal beat K j++xE goal beat K j).map bR=_
    rw[cu]
    congr 1
    unfold xE mI
    by_cases q:beat<(K j).b+(K j).sh
    ·rw[if_pos q,if_pos q];rfl
    ·rw[if_neg q,if_neg q,if_neg q];rfl
   have fq:(beat<(K j).b+(K j).sh/\mI goal beat (K j) (dQ goal j)=.non)\/(¬beat<(K j).b+(K j).sh/\∃ds,mI goal beat (K j) (dQ goal j)=.tup ds):=by
    unfold mI
    by_cases q:beat<(K j).b+(K j).sh
    ·exact .inl ⟨q,if_pos q⟩
    ·rw[if_neg q];exact .inr ⟨q,_,rfl⟩
   refine⟨_,[some (.lst (ns.map .int)),some (.int c),some (.int (n:Int)),some (.int (goal:Int)),some (.int (beat:Int)),some (.lst (aQ ((aH n).map (dQ goal)))),some (.lst (dA (n+1) (gS goal (j+1) K))),some (.lst ((dL goal K (j+1)).map bH)),some (.lst ((gH goal beat K (j+1)).map bR)),some (.lst (aQ (dE (j+1) (cS beat K)))),some (.int (j:Int)),some (.int (cell j)),some (.int (K j).s),some (.int ((K j).b:Int)),some (mI goal beat (K j) (dQ goal j)),some (.bl (cS beat K j)),none,none,none,none],rfl,.inl ?_,_,_,_,_,_,_,rfl⟩
   rw[e8,e9]
   generalize (dL goal K (j+1)).map bH=A1,(dL goal K j).map bH=A0,dA (n+1) (gS goal (j+1) K)=V1,dA (n+1) (gS goal j K)=V0,aQ ((aH n).map (dQ goal))=O,((dQ goal j:Nat):Int)=o,aQ (dE j (cS beat K))=DU,(gH goal beat K j).map bR=PT,cS beat K j=MO,mI goal beat (K j) (dQ goal j)=FS,(K j).s=s,D.lst (ns.map .int)=S0 at *
   unfold DH
   generalize nG 7 (ke 6 (aCons (e2 eZ (eV 5) (eV 10)) (aCons (eV 3) (aCons (eV 11) aNil))) (aCons (eV 12) (aCons (eV 13) aNil)) wl)=SA at *
   rw[←hb]at st pu ⊢
   clear ar ad ev e8 e9 d hc hK hj hg h5 hb
   rcases fq with⟨q,rfl⟩|⟨q,ds,rfl⟩
   ·rw[if_pos q]
    clear q
    cases MO with
    |false=>walk_at "mir"
    |true=>walk_at "mir"
   ·rw[if_neg q]
    clear q
    cases MO with
    |false=>walk_at "mir"
    |true=>walk_at "mir")
 exact⟨y10,y11,y12,y13,y14,y15,h1⟩
theorem HA:∀l,l<6->Hx (eZ (.str "abcdef") (.int ((l:Nat):Int))) (wR l)=true:=by decide +kernel
theorem UG {goal beat n:Nat}{K:Nat->Cs}{S0 V A O:D}{c:Int}{y2 y10 y11 y12 y13 y14 y15:Option D}(hp:(gH goal beat K n).length<=100) :
  ∃(gq:List Fl) (gl:Bool),(sIf (tb (e2 (lU false) (e2 dP (e2 d4 (eV 1) (eC (.int 210))) (eC (.int 3))) (eC (.int 1)))) (sSeq (sApp 8 (λρ=>((aCons (eV 3) (aCons (eV 4) (aCons (e2 dP (e2 d4 (eV 1) (eC (.int 630))) (eC (.int 4))) aNil))) ρ).bind λds=>some (.tup ds)))
  (sIf (tb (e2 pI (e2 dP (e2 d4 (eV 1) (eC (.int 630))) (eC (.int 4))) (eC (.int 0)))) (sSet 9 (tF (eC .non))) sSkip)) sSkip) [some S0,some (.int c),y2,some (.int (goal:Int)),some (.int (beat:Int)),some O,some V,some A,some (.lst ((gH goal beat K n).map bR)),some (.lst (aQ (dE n (cS beat K)))),y10,y11,y12,y13,y14,y15,none,none,none,none] =
   some (.nx [some S0,some (.int c),y2,some (.int (goal:Int)),some (.int (beat:Int)),some O,some V,some A,some (.lst ((gH goal beat K n++gq).map bR)),some (if gl=true then .non else .lst (aQ (dE n (cS beat K)))),y10,y11,y12,y13,y14,y15,none,none,none,none])/\gq.length<=1 /\
   (gl=false->∀q∈gq,q.1=goal/\q.2.1=beat/\q.2.2<=0)/\(gl=true->∃v:Int,(goal,beat,v)∈gq/\0<v):=by
 have l1:((gH goal beat K n).map bR).length<16777216:=by rw[aE];omega
 have sc (r:L3.Env):tF (eC .non) r=some .non:=rfl
 by_cases h1:c/210%3=1
 ·have e8:∀v:Int,(gH goal beat K n++[(goal,beat,v)]).map bR=(gH goal beat K n).map bR++[.tup [.int (goal:Int),.int (beat:Int),.int v]]:=λv=>by rw[cu];rfl
  by_cases h2:c/630%4 > 0
  ·refine⟨[(goal,beat,c/630%4)],true,?_,aG _,nofun,λ_=>⟨_,aO.mpr rfl,h2⟩⟩
   rw[e8,if_pos rfl]
   generalize (gH goal beat K n).map bR=PT,aQ (dE n (cS beat K))=DU at *
   clear e8
   walk_at "mir"
  ·refine⟨[(goal,beat,c/630%4)],false,?_,aG _,λ_ q hq=>?_,nofun⟩
   ·rw[e8,if_neg (by decide)]
    generalize (gH goal beat K n).map bR=PT,aQ (dE n (cS beat K))=DU at *
    clear e8
    walk_at "mir"
   ·rw[aO.mp hq]
    exact⟨rfl,rfl,by show c/630%4<=0;omega⟩
 ·refine⟨[],false,?_,by decide,λ_ q hq=>(by cases hq),nofun⟩
  rw[bY,if_neg (by decide)]
  generalize (gH goal beat K n).map bR=PT,aQ (dE n (cS beat K))=DU at *
  walk_at "mir"
theorem Vq (ns:List Int)(_:ns.length<=63):JA [.lst (ns.map .int)]=some (.bl true):=by
 obtain⟨c,c0⟩:=Jv ns 0 (by decide)
 obtain⟨n,hn,h1,h5⟩:∃m:Nat,1+c%5=(m:Int)/\1<=m/\m<=5:=⟨(1+c%5).toNat,by omega,by omega,by omega⟩
 obtain⟨goal,p7,hg⟩:∃g:Nat,dP (.int (c/5)) (.int ((n:Int)+1))=some (.int (g:Int))/\g<n+1:=by
  refine⟨(c/5%((n:Int)+1)).toNat,?_,?_⟩
  ·rw[za1 (by omega),jJ (lI _ (by omega))]
  ·have:=pP (c/5) (show(0:Int)<(n:Int)+1 by omega)
   have:=lI (c/5) (show(n:Int)+1≠0 by omega)
   omega
 obtain⟨beat,qN,Pb⟩:∃b:Nat,c/30%7=(b:Int)/\b<=6:=⟨(c/30%7).toNat,by omega,by omega⟩
 obtain⟨cell,hc⟩:∃cell:Nat->Int,∀k:Nat,xw [.lst (ns.map .int),.int (1+(k:Int))]=some (.int (cell k)):=⟨λk=>(Jv ns (1+(k:Int)) (by omega)).choose,λk=>(Jv ns (1+(k:Int)) (by omega)).choose_spec⟩
 obtain⟨K,hK⟩:∃K:Nat->Cs,∀k,JC cell K k:=⟨λk=>(Dx (cell k)).choose,λk=>by
  obtain⟨a1,a2,a3,a4,a5,a6,a7⟩:=(Dx (cell k)).choose_spec
  exact⟨a1,a2,a3,a4,a5,a6,a7⟩⟩
 have Ej:∀k,jG (K k):=λk=>(hK k).ok
 obtain⟨y10,y11,y12,y13,y14,y15,lp⟩:=Yt (beat:=beat) hc hK h5 hg c
 obtain⟨gq,gl,gp,O0,q0,q1⟩:=UG (goal:=goal) (beat:=beat) (n:=n) (K:=K) (S0:=.lst (ns.map .int)) (V:=.lst (dA (n+1) (gS goal n K))) (A:=.lst ((dL goal K n).map bH)) (O:=.lst (aQ ((aH n).map (dQ goal)))) (c:=c) (y2:=some (.int (n:Int))) (y10:=y10) (y11:=y11) (y12:=y12) (y13:=y13) (y14:=y14) (y15:=y15) (by have:=Fi goal beat K n;omega)
 have KQ:(gH goal beat K n++gq).length<=1000:=by rw[aR];have:=Fi goal beat K n;omega
 have ok:=mM h1 h5 hg Ej
 have sl:=Dj (goal:=goal) (n:=n) Ej
 have nl:(rP (n+1)).length=n+1:=by unfold rP;rw[aE,df]
 have nt:=Yg (ns:=rP (n+1)) ok nl (Yj (by omega) (by omega))
 have tbl:=WO (ns:=rP (n+1)) (B:=1000000000) (pl:=gS goal n K) ok (by decide) sl
 have gv:=Yk (ns:=rP (n+1)) (as:=dL goal K n) (many:=n+1) (B:=1000000000) (going:=(goal:Int)) (beat:=(beat:Int)) (pl:=gS goal n K) (puts:=gH goal beat K n++gq) (by rw[ur];omega) (Me goal K n) h1 h5 (Vm h1 h5 hg (by omega) Ej nl KQ q0 q1)
 have rg:ie [.int (n:Int)]=some (kY 0 n):=by rw[EU (by omega) (by omega)];simp
 have qo:∀r:L3.Env,r[2]?.join=some (.int (n:Int))->r[3]?.join=some (.int (goal:Int))->I0 r=some (.lst (aQ ((aH n).map (dQ goal)))):=λr hr Hl=>by
  have e:((aCons (e2 dZ (eV 2) (eC (.int 1))) aNil) r).bind ie=some ((aH (n+1)).map λ(t:Nat)=>D.int (t:Int)):=yX (by
   show(r[2]?.join.bind _)=_
   rw[hr];rfl) (by omega)
  have GW:fG r [3]=[some (.int (goal:Int))]:=by unfold fG;simp[Hl]
  rw[←HM n (by omega) goal hg]
  refine yU (λ(t:Nat)=>D.int (t:Int)) (λg=>decide (g≠goal)) _ (aH (n+1)) e (by simp;omega) λk _=>⟨[some (.int (k:Int)),some (.int (goal:Int))],by rw[GW];rfl,?_,λ_=>rfl⟩
  by_cases q:k=goal
  ·subst q
   rw[decide_eq_false (by simp)]
   clear c0 hn p7 qN lp gp nt tbl gv rg e GW hr Hl
   walk_at "mir"
  ·have q':¬(k:Int)=(goal:Int):=by omega
   rw[decide_eq_true q]
   clear c0 hn p7 qN lp gp nt tbl gv rg e GW hr Hl
   walk_at "mir"
 have qz:∀r:L3.Env,r[2]?.join=some (.int (n:Int))->IZ r=some (.lst (dA (n+1) λ_=>0)):=λr hr=>by
  refine uq (λ(t:Nat)=>D.int (t:Int)) _ (aH (n+1)) (yX (by
   show(r[2]?.join.bind _)=_
   rw[hr];rfl) (by omega)) (by simp;omega) λk hk=>⟨[some (.int (k:Int))],rfl,rfl⟩
 have qn:∀r:L3.Env,r[2]?.join=some (.int (n:Int))->IY r=some (.lst (rP (n+1))):=λr hr=>by
  refine uq (λ(t:Nat)=>D.int (t:Int)) _ (aH (n+1)) (yX (by
   show(r[2]?.join.bind _)=_
   rw[hr];rfl) (by omega)) (by simp;omega) λk hk=>⟨[some (.int (k:Int))],rfl,?_⟩
  have:=Ys (HA k (by have:=bZ.mp hk;omega))
  generalize wR k=L at *
  clear c0 hn p7 qN lp gp nt tbl gv rg hk hr qo qz
  walk_at "mir"
 have qo:=qo [some (.lst (ns.map .int)),some (.int c),some (.int (n:Int)),some (.int (goal:Int)),some (.int (beat:Int)),none,none,none,none,none,none,none,none,none,none,none,none,none,none,none] rfl rfl
 have qz:=qz [some (.lst (ns.map .int)),some (.int c),some (.int (n:Int)),some (.int (goal:Int)),some (.int (beat:Int)),some (.lst (aQ ((aH n).map (dQ goal)))),none,none,none,none,none,none,none,none,none,none,none,none,none,none] rfl
 have qn:=qn [some (.lst (ns.map .int)),some (.int c),some (.int (n:Int)),some (.int (goal:Int)),some (.int (beat:Int)),some (.lst (aQ ((aH n).map (dQ goal)))),some (.lst (dA (n+1) (gS goal n K))),some (.lst ((dL goal K n).map bH)),some (.lst ((gH goal beat K n++gq).map bR)),some (if gl=true then .non else .lst (aQ (dE n (cS beat K)))),y10,y11,y12,y13,y14,y15,none,none,none,none] rfl
 have pu:gB 6 (eV 3) (e2 eO (eC (.int 2)) (e2 gh (eC (.int 10)) (eC (.int 8)))) [some (.lst (ns.map .int)),some (.int c),some (.int (n:Int)),some (.int (goal:Int)),some (.int (beat:Int)),some (.lst (aQ ((aH n).map (dQ goal)))),some (.lst (dA (n+1) λ_=>0)),none,none,none,none,none,none,none,none,none,none,none,none,none]=some (.nx [some (.lst (ns.map .int)),some (.int c),some (.int (n:Int)),some (.int (goal:Int)),some (.int (beat:Int)),some (.lst (aQ ((aH n).map (dQ goal)))),some (.lst (dA (n+1) (gS goal 0 K))),none,none,none,none,none,none,none,none,none,none,none,none,none]):=by
  have OR:dA (n+1) (λg=>if g=goal then 200000000 else 0)=dA (n+1) (gS goal 0 K):=by
   congr 1
  have OS:(e2 eO (eC (.int 2)) (e2 gh (eC (.int 10)) (eC (.int 8)))) [some (.lst (ns.map .int)),some (.int c),some (.int (n:Int)),some (.int (goal:Int)),some (.int (beat:Int)),some (.lst (aQ ((aH n).map (dQ goal)))),some (.lst (dA (n+1) λ_=>0)),none,none,none,none,none,none,none,none,none,none,none,none,none]=some (.int 200000000):=rfl
  unfold gB
  rw[OS,bu]
  show(iN (dA (n+1) λ_=>0) (goal:Int) (.int 200000000)).bind _=_
  rw[Fk _ hg,OR];rfl
 have ls:jC [.lst ((gH goal beat K n++gq).map bR)]=some (.lst ((gH goal beat K n++gq).map bR)):=rfl
 have eq:=Wv true (gH goal beat K n++gq)
 have ld:(aQ (dE n (cS beat K))).length<16777216:=by have:=IX n (cS beat K);unfold aQ;rw[aE];omega
 have al:=UE (x:=dE n (cS beat K)) (by have:=IX n (cS beat K);omega)
 have an:=UD
 have p9:gh (.int 10) (.int 9)=some (.int 1000000000):=rfl
 have ii:oX true (.lst (aQ (dE n (cS beat K)))) .non=some (.bl true):=rfl
 rw[show((1000000000:Nat):Int)=1000000000 from rfl]at tbl
 generalize dk (bP (rP (n+1)) (dL goal K n)) (n+1) (gS goal n K) 1000000000=TB at *
 generalize bP (rP (n+1)) (dL goal K n)=NT at *
 generalize rP (n+1)=NM,dA (n+1) (gS goal n K)=V1,dA (n+1) (gS goal 0 K)=V0,(dA (n+1) λ_=>0)=VZ,(dL goal K n).map bH=AS,(gH goal beat K n++gq).map bR=PS,aQ (dE n (cS beat K))=DU,aQ ((aH n).map (dQ goal))=OT,D.lst (ns.map .int)=S0,kY 0 n=UP at *
 clear hc hK Ej ok sl nl KQ q0 q1 O0 hg h1 h5 Pb
 unfold JA
 generalize (sIf (tb (e2 (lU false) (e2 dP (e2 d4 (eV 1) (eC (.int 210))) (eC (.int 3))) (eC (.int 1)))) (sSeq (sApp 8 (λρ=>((aCons (eV 3) (aCons (eV 4) (aCons (e2 dP (e2 d4 (eV 1) (eC (.int 630))) (eC (.int 4))) aNil))) ρ).bind λds=>some (.tup ds)))
  (sIf (tb (e2 pI (e2 dP (e2 d4 (eV 1) (eC (.int 630))) (eC (.int 4))) (eC (.int 0)))) (sSet 9 (tF (eC .non))) sSkip)) sSkip)=SI at *
 generalize gB 6 (eV 3) (e2 eO (eC (.int 2)) (e2 gh (eC (.int 10)) (eC (.int 8))))=SP,DH=B1,IY=Q1,IZ=Q2,I0=Q3 at *
 cases gl with
 |true=>
  rw[if_pos rfl]at gp gv qn
  walk_at "mir"
 |false=>
  rw[if_neg (by decide)]at gp gv qn
  walk_at "mir"
section
variable {P:aX}{w:bz}{K:aa}{mg:aI->Option ae}{base:aS}{a:zC}
theorem Yu (T:Txt K mg a):cH P w K mg base eF 6 a.f_law a.d_law ["_law_script"] (my K):=X2 (X8 T) Vq
end
abbrev cO (x q:aI)(s:bI):=fO x q (lc s) (fT s) (aV s)
theorem all_mk {l:kx}{w:bz}{K:aa}{h:aS}{mg:aI->Option ae}(X:K.In h)(G:h.Ns ax mg)(Pj:mg "law"=some (.ref fa))
  
  (aC_Arrow:aB K ax "Arrow"=some (some (.ref c_Arrow))) (pg_Arrow:cI K c_Arrow aI.empty=true) (hd_Arrow:cx K c_Arrow=true) (po_Arrow:cW K c_Arrow=true) (sa_Arrow:ao K (.ref c_Arrow) "__setattr__"=some (some (.builtin "object.__setattr__"))) (mk_Arrow:dc K c_Arrow=true) (kc_Arrow:ap K (.ref c_Arrow)=true)
  (aC_Ride:aB K ax "Ride"=some (some (.ref c_Ride))) (pg_Ride:cI K c_Ride aI.empty=true) (hd_Ride:cx K c_Ride=true) (po_Ride:cW K c_Ride=true) (sa_Ride:ao K (.ref c_Ride) "__setattr__"=some (some (.builtin "object.__setattr__"))) (mk_Ride:dc K c_Ride=true) (kc_Ride:ap K (.ref c_Ride)=true)
  (aC_Wait:aB K ax "Wait"=some (some (.ref c_Wait))) (pg_Wait:cI K c_Wait aI.empty=true) (hd_Wait:cx K c_Wait=true) (po_Wait:cW K c_Wait=true) (sa_Wait:ao K (.ref c_Wait) "__setattr__"=some (some (.builtin "object.__setattr__"))) (mk_Wait:dc K c_Wait=true) (kc_Wait:ap K (.ref c_Wait)=true)
  (aC_Back:aB K ax "Back"=some (some (.ref c_Back))) (pg_Back:cI K c_Back aI.empty=true) (hd_Back:cx K c_Back=true) (po_Back:cW K c_Back=true) (sa_Back:ao K (.ref c_Back) "__setattr__"=some (some (.builtin "object.__setattr__"))) (mk_Back:dc K c_Back=true) (kc_Back:ap K (.ref c_Back)=true)
  (aC_Net:aB K ax "Net"=some (some (.ref c_Net))) (pg_Net:cI K c_Net aI.empty=true) (hd_Net:cx K c_Net=true) (po_Net:cW K c_Net=true) (sa_Net:ao K (.ref c_Net) "__setattr__"=some (some (.builtin "object.__setattr__"))) (mk_Net:dc K c_Net=true) (kc_Net:ap K (.ref c_Net)=true)
  (aC_Table:aB K ax "Table"=some (some (.ref c_Table))) (pg_Table:cI K c_Table aI.empty=true) (hd_Table:cx K c_Table=true) (po_Table:cW K c_Table=true) (sa_Table:ao K (.ref c_Table) "__setattr__"=some (some (.builtin "object.__setattr__"))) (mk_Table:dc K c_Table=true) (kc_Table:ap K (.ref c_Table)=true)
  (a0:ao K (.ref c_Arrow) "__init__"=some (some (.ref f0))) (i0:cm K (.ref f0)=true)
  (l0:K.lookup f0=some ⟨Y9,Zj,.func (cO "__init__" "Arrow.__init__" ya .none Kz JX KR JG FQ JP),Zw⟩) (c0:aA K FQ "Arrow.__init__"=true) (k0:ap K (.ref f0)=true)
  (a1:ao K (.ref c_Ride) "__init__"=some (some (.ref f1))) (i1:cm K (.ref f1)=true)
  (l1:K.lookup f1=some ⟨Za,Zk,.func (cO "__init__" "Ride.__init__" yo .none KA JY KS JH FR JQ),Zx⟩) (c1:aA K FR "Ride.__init__"=true) (k1:ap K (.ref f1)=true)
  (a2:ao K (.ref c_Wait) "__init__"=some (some (.ref f2))) (i2:cm K (.ref f2)=true)
  (l2:K.lookup f2=some ⟨Zb,Zl,.func (cO "__init__" "Wait.__init__" zo (.ref EK) HB Gi HN FM D2 Gf),Di⟩) (c2:aA K D2 "Wait.__init__"=true) (k2:ap K (.ref f2)=true)
  (t2:K.lookup EK=some ⟨ZH,RP,.seq #[.int 0 Dy] ZJ,RT⟩)
  (a3:ao K (.ref c_Back) "__init__"=some (some (.ref f3))) (i3:cm K (.ref f3)=true)
  (l3:K.lookup f3=some ⟨Zc,Zm,.func (cO "__init__" "Back.__init__" zp (.ref EL) HC Gj HP FN D3 Gg),Zy⟩) (c3:aA K D3 "Back.__init__"=true) (k3:ap K (.ref f3)=true)
  (t3:K.lookup EL=some ⟨ZI,RQ,.seq #[.int 1 Dz] EO,RU⟩)
  (a4:aB K ax "is_letter"=some (some (.ref f4)))
  (l4:K.lookup f4=some ⟨Zd,Zn,.func (cO "is_letter" "is_letter" y0 .none KB JZ KU JI FT JR),Zz⟩) (c4:aA K FT "is_letter"=true) (k4:ap K (.ref f4)=true)
  (a5:aB K ax "is_figure"=some (some (.ref f5)))
  (l5:K.lookup f5=some ⟨Ze,Zo,.func (cO "is_figure" "is_figure" y6 .none KC J0 KW JJ FU JS),ZA⟩) (c5:aA K FU "is_figure"=true) (k5:ap K (.ref f5)=true)
  (a6:aB K ax "is_name"=some (some (.ref f6)))
  (l6:K.lookup f6=some ⟨Zf,Zp,.func (cO "is_name" "is_name" xx .none KD J1 KY JK FV JT),ZC⟩) (c6:aA K FV "is_name"=true) (k6:ap K (.ref f6)=true)
  (a7:aB K ax "are_names"=some (some (.ref f7)))
  (l7:K.lookup f7=some ⟨Zg,Zq,.func (cO "are_names" "are_names" y8 .none KF J2 KZ JL FW JU),ZD⟩) (c7:aA K FW "are_names"=true) (k7:ap K (.ref f7)=true)
  (a8:aB K ax "lies_within"=some (some (.ref f8)))
  (l8:K.lookup f8=some ⟨Zh,Zr,.func (cO "lies_within" "lies_within" yg .none KG J3 K0 JM FX JV),ZE⟩) (c8:aA K FX "lies_within"=true) (k8:ap K (.ref f8)=true)
  (a9:aB K ax "is_right"=some (some (.ref f9)))
  (l9:K.lookup f9=some ⟨Zi,Zs,.func (cO "is_right" "is_right" xn .none KH J4 K1 JN FY JW),ZF⟩) (c9:aA K FY "is_right"=true) (k9:ap K (.ref f9)=true)
  (a10:aB K ax "placed_goings"=some (some (.ref Gn)))
  (l10:K.lookup Gn=some ⟨P4,Qv,.func (cO "placed_goings" "placed_goings" zq .none BS AU CF zN uO As),Rf⟩) (c10:aA K uO "placed_goings"=true) (k10:ap K (.ref Gn)=true)
  (a11:ao K (.ref c_Net) "__init__"=some (some (.ref D6))) (i11:cm K (.ref D6)=true)
  (l11:K.lookup D6=some ⟨P5,Qw,.func (cO "__init__" "Net.__init__" yp .none BU AV CG zO uP Au),Rg⟩) (c11:aA K uP "Net.__init__"=true) (k11:ap K (.ref D6)=true)
  (a12:ao K (.ref c_Net) "most_behind"=some (some (.ref D7))) (i12:cm K (.ref D7)=true)
  (l12:K.lookup D7=some ⟨P6,Qx,.func (cO "most_behind" "Net.most_behind" zm .none BV AW CH zP uQ Av),Rh⟩) (c12:aA K uQ "Net.most_behind"=true) (k12:ap K (.ref D7)=true)
  (a13:ao K (.ref c_Net) "into"=some (some (.ref D8))) (i13:cm K (.ref D8)=true)
  (l13:K.lookup D8=some ⟨P7,Qy,.func (cO "into" "Net.into" xo .none BW AX CI zQ uR Aw),Ri⟩) (c13:aA K uR "Net.into"=true) (k13:ap K (.ref D8)=true)
  (a14:ao K (.ref c_Net) "order"=some (some (.ref D9))) (i14:cm K (.ref D9)=true)
  (l14:K.lookup D9=some ⟨P8,Qz,.func (cO "order" "Net.order" y9 .none BX AY CJ zR uS Ax),Rj⟩) (c14:aA K uS "Net.order"=true) (k14:ap K (.ref D9)=true)
  (a15:aB K ax "latest"=some (some (.ref Gp)))
  (l15:K.lookup Gp=some ⟨P9,QA,.func (cO "latest" "latest" wg .none BY AZ CK zS uT Ay),Rk⟩) (c15:aA K uT "latest"=true) (k15:ap K (.ref Gp)=true)
  (a16:aB K ax "greatest_told"=some (some (.ref Gq)))
  (l16:K.lookup Gq=some ⟨Qa,QB,.func (cO "greatest_told" "greatest_told" zt .none BZ A6 CL zT uU Az),Rl⟩) (c16:aA K uU "greatest_told"=true) (k16:ap K (.ref Gq)=true)
  (a17:ao K (.ref c_Table) "slack"=some (some (.ref Ea))) (i17:cm K (.ref Ea)=true)
  (l17:K.lookup Ea=some ⟨Qb,QC,.func (cO "slack" "Table.slack" yh .none B0 A7 CM zU uV AA),Rm⟩) (c17:aA K uV "Table.slack"=true) (k17:ap K (.ref Ea)=true)
  (a18:ao K (.ref c_Table) "__init__"=some (some (.ref Ec))) (i18:cm K (.ref Ec)=true)
  (l18:K.lookup Ec=some ⟨Qc,QD,.func (cO "__init__" "Table.__init__" yb .none B2 A8 CN zV uW AB),Rn⟩) (c18:aA K uW "Table.__init__"=true) (k18:ap K (.ref Ec)=true)
  (a19:aB K ax "links_into"=some (some (.ref Gr)))
  (l19:K.lookup Gr=some ⟨Qd,QE,.func (cO "links_into" "links_into" yq .none B3 A9 CO zW uX AC),Ro⟩) (c19:aA K uX "links_into"=true) (k19:ap K (.ref Gr)=true)
  (a20:aB K ax "lateness_in_last_row"=some (some (.ref Gs)))
  (l20:K.lookup Gs=some ⟨Qe,QF,.func (cO "lateness_in_last_row" "lateness_in_last_row" zh .none B4 Bb CP zX uY AD),Rp⟩) (c20:aA K uY "lateness_in_last_row"=true) (k20:ap K (.ref Gs)=true)
  (a21:aB K ax "late"=some (some (.ref Gu)))
  (l21:K.lookup Gu=some ⟨Qf,QG,.func (cO "late" "late" vt (.ref sP) wL vP xA uL rY vN),Rq⟩) (c21:aA K rY "late"=true) (k21:ap K (.ref Gu)=true)
  (t21:K.lookup sP=some ⟨RN,Lc,.seq #[.none] RR,Le⟩)
  (a22:ao K (.ref c_Ride) "may_drop"=some (some (.ref Ed))) (i22:cm K (.ref Ed)=true)
  (l22:K.lookup Ed=some ⟨Qg,QH,.func (cO "may_drop" "Ride.may_drop" zu .none B5 Bc CQ zY uZ AE),Rr⟩) (c22:aA K uZ "Ride.may_drop"=true) (k22:ap K (.ref Ed)=true)
  (a23:ao K (.ref c_Wait) "may_drop"=some (some (.ref Ee))) (i23:cm K (.ref Ee)=true)
  (l23:K.lookup Ee=some ⟨Qh,QI,.func (cO "may_drop" "Wait.may_drop" zw .none B6 Bd CS zZ vA AF),Rt⟩) (c23:aA K vA "Wait.may_drop"=true) (k23:ap K (.ref Ee)=true)
  (a24:ao K (.ref c_Back) "may_drop"=some (some (.ref Ef))) (i24:cm K (.ref Ef)=true)
  (l24:K.lookup Ef=some ⟨Qi,QJ,.func (cO "may_drop" "Back.may_drop" zx .none B7 Be CT Aa vB AG),Ru⟩) (c24:aA K vB "Back.may_drop"=true) (k24:ap K (.ref Ef)=true)
  (a25:aB K ax "sets_of"=some (some (.ref Gv)))
  (l25:K.lookup Gv=some ⟨Qj,QK,.func (cO "sets_of" "sets_of" xy .none B8 Bf CU Ab vC AH),Rv⟩) (c25:aA K vC "sets_of"=true) (k25:ap K (.ref Gv)=true)
  (a26:aB K ax "is_late"=some (some (.ref Gw)))
  (l26:K.lookup Gw=some ⟨Qk,QL,.func (cO "is_late" "is_late" xz .none B9 Bg CV Ac vD AI),Rw⟩) (c26:aA K vD "is_late"=true) (k26:ap K (.ref Gw)=true)
  (a27:aB K ax "give_up"=some (some (.ref Gx)))
  (l27:K.lookup Gx=some ⟨Ql,QM,.func (cO "give_up" "give_up" x6 .none Ca Bh CW Ad vE AJ),Rx⟩) (c27:aA K vE "give_up"=true) (k27:ap K (.ref Gx)=true)
  (a28:aB K ax "_law_cell_at"=some (some (.ref Gy)))
  (l28:K.lookup Gy=some ⟨Qm,QN,.func (cO "_law_cell_at" "_law_cell_at" yj .none Cb Bi CY Ae vF AK),Ry⟩) (c28:aA K vF "_law_cell_at"=true) (k28:ap K (.ref Gy)=true)
  (a29:aB K ax "_law_whole"=some (some (.ref Gz)))
  (l29:K.lookup Gz=some ⟨Qn,QO,.func (cO "_law_whole" "_law_whole" xb .none Cc Bj CZ Af vG AL),Rz⟩) (c29:aA K vG "_law_whole"=true) (k29:ap K (.ref Gz)=true)
  (a30:aB K ax "_law_mixed"=some (some (.ref GA)))
  (l30:K.lookup GA=some ⟨Qo,QP,.func (cO "_law_mixed" "_law_mixed" xf .none Cd Bk C0 Ag vH AM),RA⟩) (c30:aA K vH "_law_mixed"=true) (k30:ap K (.ref GA)=true)
  (a31:aB K ax "_law_slack"=some (some (.ref GB)))
  (l31:K.lookup GB=some ⟨Qp,QQ,.func (cO "_law_slack" "_law_slack" xg .none Ce Bl C1 Ah vI AN),RB⟩) (c31:aA K vI "_law_slack"=true) (k31:ap K (.ref GB)=true)
  (a32:aB K ax "_law_amount"=some (some (.ref GC)))
  (l32:K.lookup GC=some ⟨Qq,QR,.func (cO "_law_amount" "_law_amount" yr .none Cf Bm C2 Ai vJ AO),RC⟩) (c32:aA K vJ "_law_amount"=true) (k32:ap K (.ref GC)=true)
  (a33:aB K ax "_law_alike"=some (some (.ref GD)))
  (l33:K.lookup GD=some ⟨Qr,QS,.func (cO "_law_alike" "_law_alike" xh .none Cg Bn C3 Aj vK AQ),RD⟩) (c33:aA K vK "_law_alike"=true) (k33:ap K (.ref GD)=true)
  (a34:aB K ax "_law_arrows"=some (some (.ref GF)))
  (l34:K.lookup GF=some ⟨Qs,QT,.func (cO "_law_arrows" "_law_arrows" yt .none Ci Bo C4 Ak vL AR),RE⟩) (c34:aA K vL "_law_arrows"=true) (k34:ap K (.ref GF)=true)
  (a35:aB K ax "_law_put"=some (some (.ref GG)))
  (l35:K.lookup GG=some ⟨Qt,QU,.func (cO "_law_put" "_law_put" x8 .none Cj Bp C5 Am vM AT),RF⟩) (c35:aA K vM "_law_put"=true) (k35:ap K (.ref GG)=true)
  (a36:aB K ax "law"=some (some (.ref J7)))
  (l36:K.lookup J7=some ⟨Qu,QW,.func (cO "law" "law" ju .none wM vQ xB uM rZ vO),RG⟩) (c36:aA K rZ "law"=true) (k36:ap K (.ref J7)=true)
  (qs_Arrow:cX K (.ref c_Arrow) "__getattribute__"=some (some (.builtin "type.__getattribute__"))) (qr_Arrow:hG K c_Arrow (.type "type")=true) (qf_Arrow:hE K (.ref c_Arrow) (.type "type") "__init__"=some (.val (.ref f0)))
  (n_Net_arrows:ao K (.ref c_Net) "arrows"=some none)
  (n_Table_beat:ao K (.ref c_Table) "beat"=some none)
  (n_Arrow_behind:ao K (.ref c_Arrow) "behind"=some none)
  (n_Ride_behind:ao K (.ref c_Ride) "behind"=some none)
  (n_Wait_behind:ao K (.ref c_Wait) "behind"=some none)
  (n_Back_behind:ao K (.ref c_Back) "behind"=some none)
  (n_Arrow_goal:ao K (.ref c_Arrow) "goal"=some none)
  (n_Ride_goal:ao K (.ref c_Ride) "goal"=some none)
  (n_Wait_goal:ao K (.ref c_Wait) "goal"=some none)
  (n_Back_goal:ao K (.ref c_Back) "goal"=some none)
  (n_Net_names:ao K (.ref c_Net) "names"=some none)
  (n_Table_net:ao K (.ref c_Table) "net"=some none)
  (n_Arrow_start:ao K (.ref c_Arrow) "start"=some none)
  (n_Ride_start:ao K (.ref c_Ride) "start"=some none)
  (n_Wait_start:ao K (.ref c_Wait) "start"=some none)
  (n_Back_start:ao K (.ref c_Back) "start"=some none)
  (n_Arrow_time:ao K (.ref c_Arrow) "time"=some none)
  (n_Ride_time:ao K (.ref c_Ride) "time"=some none)
  (n_Wait_time:ao K (.ref c_Wait) "time"=some none)
  (n_Back_time:ao K (.ref c_Back) "time"=some none)
  (n_Table_times:ao K (.ref c_Table) "times"=some none)
  (ign:cX K (.builtin "object.__class__") "__get__"=some (some (.builtin "getset_descriptor.__get__"))) (igt:hJ K (.builtin "object.__class__")=some true)
  (iga_Arrow:ao K (.ref c_Arrow) "__class__"=some (some (.builtin "object.__class__"))) (igm_Arrow:dr K c_Arrow (.type "object")=some true)
  (kit_Arrow_Back:bv K (.ref c_Arrow) (.ref c_Back)=some false)
  (kit_Arrow_Ride:bv K (.ref c_Arrow) (.ref c_Ride)=some false)
  (iga_Ride:ao K (.ref c_Ride) "__class__"=some (some (.builtin "object.__class__"))) (igm_Ride:dr K c_Ride (.type "object")=some true)
  (kit_Ride_Back:bv K (.ref c_Ride) (.ref c_Back)=some false)
  (kit_Ride_Ride:bv K (.ref c_Ride) (.ref c_Ride)=some true)
  (iga_Wait:ao K (.ref c_Wait) "__class__"=some (some (.builtin "object.__class__"))) (igm_Wait:dr K c_Wait (.type "object")=some true)
  (kit_Wait_Back:bv K (.ref c_Wait) (.ref c_Back)=some false)
  (kit_Wait_Ride:bv K (.ref c_Wait) (.ref c_Ride)=some false)
  (iga_Back:ao K (.ref c_Back) "__class__"=some (some (.builtin "object.__class__"))) (igm_Back:dr K c_Back (.type "object")=some true)
  (kit_Back_Back:bv K (.ref c_Back) (.ref c_Back)=some true)
  (kit_Back_Ride:bv K (.ref c_Back) (.ref c_Ride)=some false)
  (iga_Net:ao K (.ref c_Net) "__class__"=some (some (.builtin "object.__class__"))) (igm_Net:dr K c_Net (.type "object")=some true)
  (kit_Net_Back:bv K (.ref c_Net) (.ref c_Back)=some false)
  (kit_Net_Ride:bv K (.ref c_Net) (.ref c_Ride)=some false)
  (iga_Table:ao K (.ref c_Table) "__class__"=some (some (.builtin "object.__class__"))) (igm_Table:dr K c_Table (.type "object")=some true)
  (kit_Table_Back:bv K (.ref c_Table) (.ref c_Back)=some false)
  (kit_Table_Ride:bv K (.ref c_Table) (.ref c_Ride)=some false)
  (z0:aB K ax "all"=some none)
  (z1:aB K ax "bool"=some none)
  (z2:aB K ax "enumerate"=some none)
  (z3:aB K ax "int"=some none)
  (z4:aB K ax "isinstance"=some none)
  (z5:aB K ax "len"=some none)
  (z6:aB K ax "list"=some none)
  (z7:aB K ax "max"=some none)
  (z8:aB K ax "range"=some none)
  (z9:aB K ax "sorted"=some none)
  (z10:aB K ax "str"=some none)
  (gc0:aB K ax "MOST_ARROWS"=some (some (.int 120 YR)))
  (gc1:aB K ax "MOST_BEHIND"=some (some (.int 4 YS)))
  (gc2:aB K ax "MOST_NAMES"=some (some (.int 40 YT)))
  (gc3:aB K ax "MOST_SIGNS"=some (some (.int 8 YU)))
  (gc4:aB K ax "MOST_TIME"=some (some (.int 1000000000 YV)))
  (gc5:aB K ax "MOST_WAITS"=some (some (.int 8 YW))) :
  ∃fd:aF,(∀(s:ak) (v:ae),nc s fd ⟨[v],[]⟩ [("_law_script",v)])/\∀base:aS,K.In base->base.Ns ax mg->cH l.prog w K mg base eF 6 fa fd ["_law_script"] (my K):=by
 have e:=Pj.symm.trans (aK X G a36)
 cases e
 have F0:=zz (st:=ya) l0 c0 k0
 have b0:bJ K (cO "__init__" "Arrow.__init__" ya .none Kz JX KR JG FQ JP) ["self","start","goal","time","behind"] []:=.all (Ck λ_ _ _ _ _=>rfl)
 have F1:=zz (st:=yo) l1 c1 k1
 have b1:bJ K (cO "__init__" "Ride.__init__" yo .none KA JY KS JH FR JQ) ["self","start","goal","time"] []:=.all (tS λ_ _ _ _=>rfl)
 have F2:=zz (st:=zo) l2 c2 k2
 have b2:bJ K (cO "__init__" "Wait.__init__" zo (.ref EK) HB Gi HN FM D2 Gf) ["self","start","goal","time","behind"] []:=yT 5 t2 (Ck λ_ _ _ _ _=>⟨_,rfl,rfl⟩)
 have FO:bJ K (cO "__init__" "Wait.__init__" zo (.ref EK) HB Gi HN FM D2 Gf) ["self","start","goal","time","behind"] [.int 0 Dy]:=yT 4 t2 (tS λ_ _ _ _=>⟨_,rfl,rfl⟩)
 have F3:=zz (st:=zp) l3 c3 k3
 have b3:bJ K (cO "__init__" "Back.__init__" zp (.ref EL) HC Gj HP FN D3 Gg) ["self","start","goal","time","behind"] []:=yT 5 t3 (Ck λ_ _ _ _ _=>⟨_,rfl,rfl⟩)
 have FP:bJ K (cO "__init__" "Back.__init__" zp (.ref EL) HC Gj HP FN D3 Gg) ["self","start","goal","time","behind"] [.int 1 Dz]:=yT 4 t3 (tS λ_ _ _ _=>⟨_,rfl,rfl⟩)
 have F4:=zz (st:=y0) l4 c4 k4
 have b4:bJ K (cO "is_letter" "is_letter" y0 .none KB JZ KU JI FT JR) ["sign"] []:=.all (oq λ_=>rfl)
 have F5:=zz (st:=y6) l5 c5 k5
 have b5:bJ K (cO "is_figure" "is_figure" y6 .none KC J0 KW JJ FU JS) ["sign"] []:=.all (oq λ_=>rfl)
 have F6:=zz (st:=xx) l6 c6 k6
 have b6:bJ K (cO "is_name" "is_name" xx .none KD J1 KY JK FV JT) ["word"] []:=.all (oq λ_=>rfl)
 have F7:=zz (st:=y8) l7 c7 k7
 have b7:bJ K (cO "are_names" "are_names" y8 .none KF J2 KZ JL FW JU) ["names"] []:=.all (oq λ_=>rfl)
 have F8:=zz (st:=yg) l8 c8 k8
 have b8:bJ K (cO "lies_within" "lies_within" yg .none KG J3 K0 JM FX JV) ["number","least","most"] []:=.all (yN λ_ _ _=>rfl)
 have F9:=zz (st:=xn) l9 c9 k9
 have b9:bJ K (cO "is_right" "is_right" xn .none KH J4 K1 JN FY JW) ["arrow","many"] []:=.all (rO λ_ _=>rfl)
 have NK:=zz (st:=zq) l10 c10 k10
 have Oi:bJ K (cO "placed_goings" "placed_goings" zq .none BS AU CF zN uO As) ["many","arrows"] []:=.all (rO λ_ _=>rfl)
 have NL:=zz (st:=yp) l11 c11 k11
 have Oj:bJ K (cO "__init__" "Net.__init__" yp .none BU AV CG zO uP Au) ["self","names","arrows"] []:=.all (yN λ_ _ _=>rfl)
 have NN:=zz (st:=zm) l12 c12 k12
 have Ol:bJ K (cO "most_behind" "Net.most_behind" zm .none BV AW CH zP uQ Av) ["self"] []:=.all (oq λ_=>rfl)
 have NO:=zz (st:=xo) l13 c13 k13
 have Om:bJ K (cO "into" "Net.into" xo .none BW AX CI zQ uR Aw) ["self","going"] []:=.all (rO λ_ _=>rfl)
 have NP:=zz (st:=y9) l14 c14 k14
 have On:bJ K (cO "order" "Net.order" y9 .none BX AY CJ zR uS Ax) ["self"] []:=.all (oq λ_=>rfl)
 have NQ:=zz (st:=wg) l15 c15 k15
 have Oo:bJ K (cO "latest" "latest" wg .none BY AZ CK zS uT Ay) ["one","other"] []:=.all (rO λ_ _=>rfl)
 have NR:=zz (st:=zt) l16 c16 k16
 have Oq:bJ K (cO "greatest_told" "greatest_told" zt .none BZ A6 CL zT uU Az) ["told"] []:=.all (oq λ_=>rfl)
 have NS:=zz (st:=yh) l17 c17 k17
 have Ot:bJ K (cO "slack" "Table.slack" yh .none B0 A7 CM zU uV AA) ["self","arrow"] []:=.all (rO λ_ _=>rfl)
 have NU:=zz (st:=yb) l18 c18 k18
 have Ou:bJ K (cO "__init__" "Table.__init__" yb .none B2 A8 CN zV uW AB) ["self","net","times","beat"] []:=.all (tS λ_ _ _ _=>rfl)
 have NV:=zz (st:=yq) l19 c19 k19
 have Ov:bJ K (cO "links_into" "links_into" yq .none B3 A9 CO zW uX AC) ["table","going","left_out"] []:=.all (yN λ_ _ _=>rfl)
 have NW:=zz (st:=zh) l20 c20 k20
 have Ox:bJ K (cO "lateness_in_last_row" "lateness_in_last_row" zh .none B4 Bb CP zX uY AD) ["rows","links","put"] []:=.all (yN λ_ _ _=>rfl)
 have NX:=zz (st:=vt) l21 c21 k21
 have Oy:bJ K (cO "late" "late" vt (.ref sP) wL vP xA uL rY vN) ["table","rounds","puts","without"] []:=yT 4 t21 (tS λ_ _ _ _=>⟨_,rfl,rfl⟩)
 have An:bJ K (cO "late" "late" vt (.ref sP) wL vP xA uL rY vN) ["table","rounds","puts","without"] [.none]:=yT 3 t21 (yN λ_ _ _=>⟨_,rfl,rfl⟩)
 have NY:=zz (st:=zu) l22 c22 k22
 have Oz:bJ K (cO "may_drop" "Ride.may_drop" zu .none B5 Bc CQ zY uZ AE) ["self"] []:=.all (oq λ_=>rfl)
 have NZ:=zz (st:=zw) l23 c23 k23
 have OA:bJ K (cO "may_drop" "Wait.may_drop" zw .none B6 Bd CS zZ vA AF) ["self"] []:=.all (oq λ_=>rfl)
 have N1:=zz (st:=zx) l24 c24 k24
 have OB:bJ K (cO "may_drop" "Back.may_drop" zx .none B7 Be CT Aa vB AG) ["self"] []:=.all (oq λ_=>rfl)
 have N2:=zz (st:=xy) l25 c25 k25
 have OC:bJ K (cO "sets_of" "sets_of" xy .none B8 Bf CU Ab vC AH) ["waits"] []:=.all (oq λ_=>rfl)
 have N3:=zz (st:=xz) l26 c26 k26
 have OD:bJ K (cO "is_late" "is_late" xz .none B9 Bg CV Ac vD AI) ["table","puts","going","beat","without"] []:=.all (Ck λ_ _ _ _ _=>rfl)
 have N4:=zz (st:=x6) l27 c27 k27
 have OE:bJ K (cO "give_up" "give_up" x6 .none Ca Bh CW Ad vE AJ) ["table","puts","going","beat"] []:=.all (tS λ_ _ _ _=>rfl)
 have N5:=zz (st:=yj) l28 c28 k28
 have OF:bJ K (cO "_law_cell_at" "_law_cell_at" yj .none Cb Bi CY Ae vF AK) ["_law_script","_law_k"] []:=.all (rO λ_ _=>rfl)
 have N6:=zz (st:=xb) l29 c29 k29
 have OG:bJ K (cO "_law_whole" "_law_whole" xb .none Cc Bj CZ Af vG AL) ["_law_found"] []:=.all (oq λ_=>rfl)
 have N7:=zz (st:=xf) l30 c30 k30
 have OH:bJ K (cO "_law_mixed" "_law_mixed" xf .none Cd Bk C0 Ag vH AM) ["_law_cell","_law_k"] []:=.all (rO λ_ _=>rfl)
 have N8:=zz (st:=xg) l31 c31 k31
 have OI:bJ K (cO "_law_slack" "_law_slack" xg .none Ce Bl C1 Ah vI AN) ["_law_cell"] []:=.all (oq λ_=>rfl)
 have N9:=zz (st:=yr) l32 c32 k32
 have OJ:bJ K (cO "_law_amount" "_law_amount" yr .none Cf Bm C2 Ai vJ AO) ["_law_cell","_law_slack_here"] []:=.all (rO λ_ _=>rfl)
 have Oa:=zz (st:=xh) l33 c33 k33
 have OK:bJ K (cO "_law_alike" "_law_alike" xh .none Cg Bn C3 Aj vK AQ) ["_law_found","_law_due"] []:=.all (rO λ_ _=>rfl)
 have Ob:=zz (st:=yt) l34 c34 k34
 have OL:bJ K (cO "_law_arrows" "_law_arrows" yt .none Ci Bo C4 Ak vL AR) ["_law_one","_law_goal","_law_cell","_law_times","_law_slack_here","_law_behind"] []:=.all (PZ λ_ _ _ _ _ _=>rfl)
 have Oc:=zz (st:=x8) l35 c35 k35
 have OM:bJ K (cO "_law_put" "_law_put" x8 .none Cj Bp C5 Am vM AT) ["_law_one","_law_cell","_law_slack_here","_law_when"] []:=.all (tS λ_ _ _ _=>rfl)
 have Od:=zz (st:=ju) l36 c36 k36
 have ON:bJ K (cO "law" "law" ju .none wM vQ xB uM rZ vO) ["_law_script"] []:=.all (oq λ_=>rfl)
 have T:Txt K mg ⟨c_Arrow,c_Ride,c_Wait,c_Back,c_Net,c_Table,f0,cO "__init__" "Arrow.__init__" ya .none Kz JX KR JG FQ JP,f1,cO "__init__" "Ride.__init__" yo .none KA JY KS JH FR JQ,f2,cO "__init__" "Wait.__init__" zo (.ref EK) HB Gi HN FM D2 Gf,f3,cO "__init__" "Back.__init__" zp (.ref EL) HC Gj HP FN D3 Gg,f4,cO "is_letter" "is_letter" y0 .none KB JZ KU JI FT JR,f5,cO "is_figure" "is_figure" y6 .none KC J0 KW JJ FU JS,f6,cO "is_name" "is_name" xx .none KD J1 KY JK FV JT,f7,cO "are_names" "are_names" y8 .none KF J2 KZ JL FW JU,f8,cO "lies_within" "lies_within" yg .none KG J3 K0 JM FX JV,f9,cO "is_right" "is_right" xn .none KH J4 K1 JN FY JW,Gn,cO "placed_goings" "placed_goings" zq .none BS AU CF zN uO As,D6,cO "__init__" "Net.__init__" yp .none BU AV CG zO uP Au,D7,cO "most_behind" "Net.most_behind" zm .none BV AW CH zP uQ Av,D8,cO "into" "Net.into" xo .none BW AX CI zQ uR Aw,D9,cO "order" "Net.order" y9 .none BX AY CJ zR uS Ax,Gp,cO "latest" "latest" wg .none BY AZ CK zS uT Ay,Gq,cO "greatest_told" "greatest_told" zt .none BZ A6 CL zT uU Az,Ea,cO "slack" "Table.slack" yh .none B0 A7 CM zU uV AA,Ec,cO "__init__" "Table.__init__" yb .none B2 A8 CN zV uW AB,Gr,cO "links_into" "links_into" yq .none B3 A9 CO zW uX AC,Gs,cO "lateness_in_last_row" "lateness_in_last_row" zh .none B4 Bb CP zX uY AD,Gu,cO "late" "late" vt (.ref sP) wL vP xA uL rY vN,Ed,cO "may_drop" "Ride.may_drop" zu .none B5 Bc CQ zY uZ AE,Ee,cO "may_drop" "Wait.may_drop" zw .none B6 Bd CS zZ vA AF,Ef,cO "may_drop" "Back.may_drop" zx .none B7 Be CT Aa vB AG,Gv,cO "sets_of" "sets_of" xy .none B8 Bf CU Ab vC AH,Gw,cO "is_late" "is_late" xz .none B9 Bg CV Ac vD AI,Gx,cO "give_up" "give_up" x6 .none Ca Bh CW Ad vE AJ,Gy,cO "_law_cell_at" "_law_cell_at" yj .none Cb Bi CY Ae vF AK,Gz,cO "_law_whole" "_law_whole" xb .none Cc Bj CZ Af vG AL,GA,cO "_law_mixed" "_law_mixed" xf .none Cd Bk C0 Ag vH AM,GB,cO "_law_slack" "_law_slack" xg .none Ce Bl C1 Ah vI AN,GC,cO "_law_amount" "_law_amount" yr .none Cf Bm C2 Ai vJ AO,GD,cO "_law_alike" "_law_alike" xh .none Cg Bn C3 Aj vK AQ,GF,cO "_law_arrows" "_law_arrows" yt .none Ci Bo C4 Ak vL AR,GG,cO "_law_put" "_law_put" x8 .none Cj Bp C5 Am vM AT,fa,cO "law" "law" ju .none wM vQ xB uM rZ vO⟩:=by
  constructor
  ·exact⟨⟨pg_Arrow,hd_Arrow,po_Arrow,sa_Arrow⟩,aK X G aC_Arrow,mk_Arrow,kc_Arrow⟩
  ·exact⟨⟨pg_Ride,hd_Ride,po_Ride,sa_Ride⟩,aK X G aC_Ride,mk_Ride,kc_Ride⟩
  ·exact⟨⟨pg_Wait,hd_Wait,po_Wait,sa_Wait⟩,aK X G aC_Wait,mk_Wait,kc_Wait⟩
  ·exact⟨⟨pg_Back,hd_Back,po_Back,sa_Back⟩,aK X G aC_Back,mk_Back,kc_Back⟩
  ·exact⟨⟨pg_Net,hd_Net,po_Net,sa_Net⟩,aK X G aC_Net,mk_Net,kc_Net⟩
  ·exact⟨⟨pg_Table,hd_Table,po_Table,sa_Table⟩,aK X G aC_Table,mk_Table,kc_Table⟩
  ·exact⟨F0,⟨a0,i0,k0⟩,b0⟩
  ·exact⟨F1,⟨a1,i1,k1⟩,b1⟩
  ·exact⟨F2,⟨a2,i2,k2⟩,b2⟩
  ·exact⟨_,trivial,(.cons ⟨_,rfl⟩ .nil),FO⟩
  ·exact⟨F3,⟨a3,i3,k3⟩,b3⟩
  ·exact⟨_,trivial,(.cons ⟨_,rfl⟩ .nil),FP⟩
  ·exact⟨F4,aK X G a4,b4⟩
  ·exact⟨F5,aK X G a5,b5⟩
  ·exact⟨F6,aK X G a6,b6⟩
  ·exact⟨F7,aK X G a7,b7⟩
  ·exact⟨F8,aK X G a8,b8⟩
  ·exact⟨F9,aK X G a9,b9⟩
  ·exact⟨NK,aK X G a10,Oi⟩
  ·exact⟨NL,⟨a11,i11,k11⟩,Oj⟩
  ·exact⟨NN,⟨a12,i12,k12⟩,Ol⟩
  ·exact⟨NO,⟨a13,i13,k13⟩,Om⟩
  ·exact⟨NP,⟨a14,i14,k14⟩,On⟩
  ·exact⟨NQ,aK X G a15,Oo⟩
  ·exact⟨NR,aK X G a16,Oq⟩
  ·exact⟨NS,⟨a17,i17,k17⟩,Ot⟩
  ·exact⟨NU,⟨a18,i18,k18⟩,Ou⟩
  ·exact⟨NV,aK X G a19,Ov⟩
  ·exact⟨NW,aK X G a20,Ox⟩
  ·exact⟨NX,aK X G a21,Oy⟩
  ·exact⟨_,trivial,(.cons rfl .nil),An⟩
  ·exact⟨NY,⟨a22,i22,k22⟩,Oz⟩
  ·exact⟨NZ,⟨a23,i23,k23⟩,OA⟩
  ·exact⟨N1,⟨a24,i24,k24⟩,OB⟩
  ·exact⟨N2,aK X G a25,OC⟩
  ·exact⟨N3,aK X G a26,OD⟩
  ·exact⟨N4,aK X G a27,OE⟩
  ·exact⟨N5,aK X G a28,OF⟩
  ·exact⟨N6,aK X G a29,OG⟩
  ·exact⟨N7,aK X G a30,OH⟩
  ·exact⟨N8,aK X G a31,OI⟩
  ·exact⟨N9,aK X G a32,OJ⟩
  ·exact⟨Oa,aK X G a33,OK⟩
  ·exact⟨Ob,aK X G a34,OL⟩
  ·exact⟨Oc,aK X G a35,OM⟩
  ·exact⟨Od,aK X G a36,ON⟩
  ·exact⟨qs_Arrow,qr_Arrow,qf_Arrow⟩
  ·exactλc hc=>by
    simp only[ay,ck,or_false]at hc
    rcases hc with rfl
    all_goals first|exact⟨⟨pg_Net,hd_Net,po_Net,sa_Net⟩,n_Net_arrows⟩
  ·exactλc hc=>by
    simp only[ay,ck,or_false]at hc
    rcases hc with rfl
    all_goals first|exact⟨⟨pg_Table,hd_Table,po_Table,sa_Table⟩,n_Table_beat⟩
  ·exactλc hc=>by
    simp only[ay,ck,or_false]at hc
    rcases hc with rfl|rfl|rfl|rfl
    all_goals first|exact⟨⟨pg_Arrow,hd_Arrow,po_Arrow,sa_Arrow⟩,n_Arrow_behind⟩|exact⟨⟨pg_Ride,hd_Ride,po_Ride,sa_Ride⟩,n_Ride_behind⟩|exact⟨⟨pg_Wait,hd_Wait,po_Wait,sa_Wait⟩,n_Wait_behind⟩|exact⟨⟨pg_Back,hd_Back,po_Back,sa_Back⟩,n_Back_behind⟩
  ·exactλc hc=>by
    simp only[ay,ck,or_false]at hc
    rcases hc with rfl|rfl|rfl|rfl
    all_goals first|exact⟨⟨pg_Arrow,hd_Arrow,po_Arrow,sa_Arrow⟩,n_Arrow_goal⟩|exact⟨⟨pg_Ride,hd_Ride,po_Ride,sa_Ride⟩,n_Ride_goal⟩|exact⟨⟨pg_Wait,hd_Wait,po_Wait,sa_Wait⟩,n_Wait_goal⟩|exact⟨⟨pg_Back,hd_Back,po_Back,sa_Back⟩,n_Back_goal⟩
  ·exactλc hc=>by
    simp only[ay,ck,or_false]at hc
    rcases hc with rfl
    all_goals first|exact⟨⟨pg_Net,hd_Net,po_Net,sa_Net⟩,n_Net_names⟩
  ·exactλc hc=>by
    simp only[ay,ck,or_false]at hc
    rcases hc with rfl
    all_goals first|exact⟨⟨pg_Table,hd_Table,po_Table,sa_Table⟩,n_Table_net⟩
  ·exactλc hc=>by
    simp only[ay,ck,or_false]at hc
    rcases hc with rfl|rfl|rfl|rfl
    all_goals first|exact⟨⟨pg_Arrow,hd_Arrow,po_Arrow,sa_Arrow⟩,n_Arrow_start⟩|exact⟨⟨pg_Ride,hd_Ride,po_Ride,sa_Ride⟩,n_Ride_start⟩|exact⟨⟨pg_Wait,hd_Wait,po_Wait,sa_Wait⟩,n_Wait_start⟩|exact⟨⟨pg_Back,hd_Back,po_Back,sa_Back⟩,n_Back_start⟩
  ·exactλc hc=>by
    simp only[ay,ck,or_false]at hc
    rcases hc with rfl|rfl|rfl|rfl
    all_goals first|exact⟨⟨pg_Arrow,hd_Arrow,po_Arrow,sa_Arrow⟩,n_Arrow_time⟩|exact⟨⟨pg_Ride,hd_Ride,po_Ride,sa_Ride⟩,n_Ride_time⟩|exact⟨⟨pg_Wait,hd_Wait,po_Wait,sa_Wait⟩,n_Wait_time⟩|exact⟨⟨pg_Back,hd_Back,po_Back,sa_Back⟩,n_Back_time⟩
  ·exactλc hc=>by
    simp only[ay,ck,or_false]at hc
    rcases hc with rfl
    all_goals first|exact⟨⟨pg_Table,hd_Table,po_Table,sa_Table⟩,n_Table_times⟩
  ·exactλc hc=>by
    simp only[ay,ck,or_false]at hc
    rcases hc with rfl|rfl|rfl|rfl|rfl|rfl
    all_goals first|exact⟨⟨⟨pg_Arrow,hd_Arrow,po_Arrow,sa_Arrow⟩,iga_Arrow,ign,igt,igm_Arrow⟩,kit_Arrow_Back⟩|exact⟨⟨⟨pg_Ride,hd_Ride,po_Ride,sa_Ride⟩,iga_Ride,ign,igt,igm_Ride⟩,kit_Ride_Back⟩|exact⟨⟨⟨pg_Wait,hd_Wait,po_Wait,sa_Wait⟩,iga_Wait,ign,igt,igm_Wait⟩,kit_Wait_Back⟩|exact⟨⟨⟨pg_Back,hd_Back,po_Back,sa_Back⟩,iga_Back,ign,igt,igm_Back⟩,kit_Back_Back⟩|exact⟨⟨⟨pg_Net,hd_Net,po_Net,sa_Net⟩,iga_Net,ign,igt,igm_Net⟩,kit_Net_Back⟩|exact⟨⟨⟨pg_Table,hd_Table,po_Table,sa_Table⟩,iga_Table,ign,igt,igm_Table⟩,kit_Table_Back⟩
  ·exactλc hc=>by
    simp only[ay,ck,or_false]at hc
    rcases hc with rfl|rfl|rfl|rfl|rfl|rfl
    all_goals first|exact⟨⟨⟨pg_Arrow,hd_Arrow,po_Arrow,sa_Arrow⟩,iga_Arrow,ign,igt,igm_Arrow⟩,kit_Arrow_Ride⟩|exact⟨⟨⟨pg_Ride,hd_Ride,po_Ride,sa_Ride⟩,iga_Ride,ign,igt,igm_Ride⟩,kit_Ride_Ride⟩|exact⟨⟨⟨pg_Wait,hd_Wait,po_Wait,sa_Wait⟩,iga_Wait,ign,igt,igm_Wait⟩,kit_Wait_Ride⟩|exact⟨⟨⟨pg_Back,hd_Back,po_Back,sa_Back⟩,iga_Back,ign,igt,igm_Back⟩,kit_Back_Ride⟩|exact⟨⟨⟨pg_Net,hd_Net,po_Net,sa_Net⟩,iga_Net,ign,igt,igm_Net⟩,kit_Net_Ride⟩|exact⟨⟨⟨pg_Table,hd_Table,po_Table,sa_Table⟩,iga_Table,ign,igt,igm_Table⟩,kit_Table_Ride⟩
  ·exact bW X G z0
  ·exact bW X G z1
  ·exact bW X G z2
  ·exact bW X G z3
  ·exact bW X G z4
  ·exact bW X G z5
  ·exact bW X G z6
  ·exact bW X G z7
  ·exact bW X G z8
  ·exact bW X G z9
  ·exact bW X G z10
  ·exact⟨_,aK X G gc0⟩
  ·exact⟨_,aK X G gc1⟩
  ·exact⟨_,aK X G gc2⟩
  ·exact⟨_,aK X G gc3⟩
  ·exact⟨_,aK X G gc4⟩
  ·exact⟨_,aK X G gc5⟩
 exact⟨cO "law" "law" ju .none wM vQ xB uM rZ vO,λs v=>.of_eq rfl,λbase _ _=>Yu T⟩
theorem walk {l:kx}{q:aX}{loose:List aI}{XP:(aI->Option ae)->aS->Prop}{YP:bz->aS->Prop}{d:DefRec}{K:Params->aa}(hn:l.most=some 63)(Bx:d.params.defaults=[])
  (hY:∀(w:bz) (h:aS),YP w h->(K w.params).In h)
  (F:∀(w:bz) (mg:aI->Option ae) (fa:af) (h:aS),(K w.params).In h->h.Ns ax mg->mg d.name=some (.ref fa) ->
   ∃fd:aF,(∀(s:ak) (u:ae),nc s fd ⟨[u],[]⟩ [("_law_script",u)])/\∀base:aS,(K w.params).In base->base.Ns ax mg->cH l.prog w (K w.params) mg base eF 6 fa fd ["_law_script"] (my (K w.params))) :
  qE q loose XP YP l.row.toRowW d [] (λf vs=>PySem.call f vs) :=
 L2.walk_of (n:=63) (k:=6) (x:="_law_script") (CX:=λ_=>eF) (sp:=λw=>my (K w.params)) hn (by decide) Bx ⟨rfl,by decide,by decide,rfl⟩ hY F (λ_ _ a ns hl _ hS=>⟨a,ns,rfl,hS,hl,λ_=>rfl⟩) λ_ _ _ _ _ z=>z
end My
-- KEEP
namespace PySem.W.Fast
def tw15269701057398136449:=0
def tw7658869333621722934:=0
def tw6793571638405792691:=0
def tw12936990727763502592:=0
def tw7765119762940610961:=0
def tw17121901414243373994:=0
def tw12393793051712050034:=0
def tw12459915693549050212:=0
def tw11174251200647635465:=0
def tw9508706827742632411:=0
def tw11222240586271550821:=0
def tw8601237952833320186:=0
def tw17326356177011192816:=0
def tw15204747717196140546:=0
def tw16188888382678754150:=0
def tw8613096894262691867:=0
def tw2419329915275369608:=0
def tw10638986066308946027:=0
def tw16773677593193402665:=0
def tw14270720444571251486:=0
def tw17968208047546175750:=0
def tw5076083266605577079:=0
def tw4329279369629720208:=0
def tw15595820658468241281:=0
def tw12815466483686934532:=0
def tw10582484073390346222:=0
def tw10584072140369425661:=0
def tw13710597867832660015:=0
def tw12402100999331821565:=0
def tw6572411834547709097:=0
def tw1944108205904434617:=0
def tw4058427373565137892:=0
def tw2202010108152886356:=0
def tw7547488029107138794:=0
def tw11594751096562758518:=0
def tw4072790182305200677:=0
def tw756704762341339428:=0
def tw2158915558910704321:=0
def tw4095404864956889432:=0
def tw5864717194437828856:=0
def tw7093990046281579967:=0
def tw14462146063153214436:=0
def tw2537101080424006090:=0
def tw11511441374324860412:=0
def tw9516636273585398924:=0
def tw18175092865579988707:=0
def tw11852599974442823263:=0
def tw2929736055792217596:=0
def tw3119842727598368023:=0
def tw8393917219696034554:=0
def tw1512619196527690047:=0
def tw9913929461417822695:=0
def tw2589697761753373113:=0
end PySem.W.Fast
open PySem PySem.W PyProof.Rows
set_option maxRecDepth 100000 in
set_option maxHeartbeats 0 in
theorem PySem.Challenge.cw_ringbeat_k66_waits_into_one_holds : PySem.Challenge.rw_ringbeat_k66_waits_into_one.Holds := by
  w_on; o_law; k_head; (case hw => w_witness2)
  k_fill
  refine My.walk (l := PySem.Challenge.rw_ringbeat_k66_waits_into_one) rfl rfl (fun w h Y => PySem.W.kIn_of Y) ?F
  case F =>
    intro w mg fa h KX G hmg
    refine' My.all_mk KX G hmg ?aC_Arrow ?pg_Arrow ?hd_Arrow ?po_Arrow ?sa_Arrow ?mk_Arrow ?kc_Arrow ?aC_Ride ?pg_Ride ?hd_Ride ?po_Ride ?sa_Ride ?mk_Ride ?kc_Ride ?aC_Wait ?pg_Wait ?hd_Wait ?po_Wait ?sa_Wait ?mk_Wait ?kc_Wait ?aC_Back ?pg_Back ?hd_Back ?po_Back ?sa_Back ?mk_Back ?kc_Back ?aC_Net ?pg_Net ?hd_Net ?po_Net ?sa_Net ?mk_Net ?kc_Net ?aC_Table ?pg_Table ?hd_Table ?po_Table ?sa_Table ?mk_Table ?kc_Table ?a0 ?i0 ?l0 ?c0 ?k0 ?a1 ?i1 ?l1 ?c1 ?k1 ?a2 ?i2 ?l2 ?c2 ?k2 ?t2 ?a3 ?i3 ?l3 ?c3 ?k3 ?t3 ?a4 ?l4 ?c4 ?k4 ?a5 ?l5 ?c5 ?k5 ?a6 ?l6 ?c6 ?k6 ?a7 ?l7 ?c7 ?k7 ?a8 ?l8 ?c8 ?k8 ?a9 ?l9 ?c9 ?k9 ?a10 ?l10 ?c10 ?k10 ?a11 ?i11 ?l11 ?c11 ?k11 ?a12 ?i12 ?l12 ?c12 ?k12 ?a13 ?i13 ?l13 ?c13 ?k13 ?a14 ?i14 ?l14 ?c14 ?k14 ?a15 ?l15 ?c15 ?k15 ?a16 ?l16 ?c16 ?k16 ?a17 ?i17 ?l17 ?c17 ?k17 ?a18 ?i18 ?l18 ?c18 ?k18 ?a19 ?l19 ?c19 ?k19 ?a20 ?l20 ?c20 ?k20 ?a21 ?l21 ?c21 ?k21 ?t21 ?a22 ?i22 ?l22 ?c22 ?k22 ?a23 ?i23 ?l23 ?c23 ?k23 ?a24 ?i24 ?l24 ?c24 ?k24 ?a25 ?l25 ?c25 ?k25 ?a26 ?l26 ?c26 ?k26 ?a27 ?l27 ?c27 ?k27 ?a28 ?l28 ?c28 ?k28 ?a29 ?l29 ?c29 ?k29 ?a30 ?l30 ?c30 ?k30 ?a31 ?l31 ?c31 ?k31 ?a32 ?l32 ?c32 ?k32 ?a33 ?l33 ?c33 ?k33 ?a34 ?l34 ?c34 ?k34 ?a35 ?l35 ?c35 ?k35 ?a36 ?l36 ?c36 ?k36 ?qs_Arrow ?qr_Arrow ?qf_Arrow ?n_Net_arrows ?n_Table_beat ?n_Arrow_behind ?n_Ride_behind ?n_Wait_behind ?n_Back_behind ?n_Arrow_goal ?n_Ride_goal ?n_Wait_goal ?n_Back_goal ?n_Net_names ?n_Table_net ?n_Arrow_start ?n_Ride_start ?n_Wait_start ?n_Back_start ?n_Arrow_time ?n_Ride_time ?n_Wait_time ?n_Back_time ?n_Table_times ?ign ?igt ?iga_Arrow ?igm_Arrow ?kit_Arrow_Back ?kit_Arrow_Ride ?iga_Ride ?igm_Ride ?kit_Ride_Back ?kit_Ride_Ride ?iga_Wait ?igm_Wait ?kit_Wait_Back ?kit_Wait_Ride ?iga_Back ?igm_Back ?kit_Back_Back ?kit_Back_Ride ?iga_Net ?igm_Net ?kit_Net_Back ?kit_Net_Ride ?iga_Table ?igm_Table ?kit_Table_Back ?kit_Table_Ride ?z0 ?z1 ?z2 ?z3 ?z4 ?z5 ?z6 ?z7 ?z8 ?z9 ?z10 ?gc0 ?gc1 ?gc2 ?gc3 ?gc4 ?gc5
    (case aC_Arrow => k_is)
    (case pg_Arrow => k_is)
    (case hd_Arrow => k_is)
    (case po_Arrow => k_is)
    (case sa_Arrow => k_is)
    (case mk_Arrow => k_is)
    (case kc_Arrow => k_is)
    (case aC_Ride => k_is)
    (case pg_Ride => k_is)
    (case hd_Ride => k_is)
    (case po_Ride => k_is)
    (case sa_Ride => k_is)
    (case mk_Ride => k_is)
    (case kc_Ride => k_is)
    (case aC_Wait => k_is)
    (case pg_Wait => k_is)
    (case hd_Wait => k_is)
    (case po_Wait => k_is)
    (case sa_Wait => k_is)
    (case mk_Wait => k_is)
    (case kc_Wait => k_is)
    (case aC_Back => k_is)
    (case pg_Back => k_is)
    (case hd_Back => k_is)
    (case po_Back => k_is)
    (case sa_Back => k_is)
    (case mk_Back => k_is)
    (case kc_Back => k_is)
    (case aC_Net => k_is)
    (case pg_Net => k_is)
    (case hd_Net => k_is)
    (case po_Net => k_is)
    (case sa_Net => k_is)
    (case mk_Net => k_is)
    (case kc_Net => k_is)
    (case aC_Table => k_is)
    (case pg_Table => k_is)
    (case hd_Table => k_is)
    (case po_Table => k_is)
    (case sa_Table => k_is)
    (case mk_Table => k_is)
    (case kc_Table => k_is)
    (case a0 => k_is)
    (case i0 => k_is)
    (case l0 => k_is)
    (case c0 => k_is)
    (case k0 => k_is)
    (case a1 => k_is)
    (case i1 => k_is)
    (case l1 => k_is)
    (case c1 => k_is)
    (case k1 => k_is)
    (case a2 => k_is)
    (case i2 => k_is)
    (case l2 => k_is)
    (case c2 => k_is)
    (case k2 => k_is)
    (case t2 => k_is)
    (case a3 => k_is)
    (case i3 => k_is)
    (case l3 => k_is)
    (case c3 => k_is)
    (case k3 => k_is)
    (case t3 => k_is)
    (case a4 => k_is)
    (case l4 => k_is)
    (case c4 => k_is)
    (case k4 => k_is)
    (case a5 => k_is)
    (case l5 => k_is)
    (case c5 => k_is)
    (case k5 => k_is)
    (case a6 => k_is)
    (case l6 => k_is)
    (case c6 => k_is)
    (case k6 => k_is)
    (case a7 => k_is)
    (case l7 => k_is)
    (case c7 => k_is)
    (case k7 => k_is)
    (case a8 => k_is)
    (case l8 => k_is)
    (case c8 => k_is)
    (case k8 => k_is)
    (case a9 => k_is)
    (case l9 => k_is)
    (case c9 => k_is)
    (case k9 => k_is)
    (case a10 => k_is)
    (case l10 => k_is)
    (case c10 => k_is)
    (case k10 => k_is)
    (case a11 => k_is)
    (case i11 => k_is)
    (case l11 => k_is)
    (case c11 => k_is)
    (case k11 => k_is)
    (case a12 => k_is)
    (case i12 => k_is)
    (case l12 => k_is)
    (case c12 => k_is)
    (case k12 => k_is)
    (case a13 => k_is)
    (case i13 => k_is)
    (case l13 => k_is)
    (case c13 => k_is)
    (case k13 => k_is)
    (case a14 => k_is)
    (case i14 => k_is)
    (case l14 => k_is)
    (case c14 => k_is)
    (case k14 => k_is)
    (case a15 => k_is)
    (case l15 => k_is)
    (case c15 => k_is)
    (case k15 => k_is)
    (case a16 => k_is)
    (case l16 => k_is)
    (case c16 => k_is)
    (case k16 => k_is)
    (case a17 => k_is)
    (case i17 => k_is)
    (case l17 => k_is)
    (case c17 => k_is)
    (case k17 => k_is)
    (case a18 => k_is)
    (case i18 => k_is)
    (case l18 => k_is)
    (case c18 => k_is)
    (case k18 => k_is)
    (case a19 => k_is)
    (case l19 => k_is)
    (case c19 => k_is)
    (case k19 => k_is)
    (case a20 => k_is)
    (case l20 => k_is)
    (case c20 => k_is)
    (case k20 => k_is)
    (case a21 => k_is)
    (case l21 => k_is)
    (case c21 => k_is)
    (case k21 => k_is)
    (case t21 => k_is)
    (case a22 => k_is)
    (case i22 => k_is)
    (case l22 => k_is)
    (case c22 => k_is)
    (case k22 => k_is)
    (case a23 => k_is)
    (case i23 => k_is)
    (case l23 => k_is)
    (case c23 => k_is)
    (case k23 => k_is)
    (case a24 => k_is)
    (case i24 => k_is)
    (case l24 => k_is)
    (case c24 => k_is)
    (case k24 => k_is)
    (case a25 => k_is)
    (case l25 => k_is)
    (case c25 => k_is)
    (case k25 => k_is)
    (case a26 => k_is)
    (case l26 => k_is)
    (case c26 => k_is)
    (case k26 => k_is)
    (case a27 => k_is)
    (case l27 => k_is)
    (case c27 => k_is)
    (case k27 => k_is)
    (case a28 => k_is)
    (case l28 => k_is)
    (case c28 => k_is)
    (case k28 => k_is)
    (case a29 => k_is)
    (case l29 => k_is)
    (case c29 => k_is)
    (case k29 => k_is)
    (case a30 => k_is)
    (case l30 => k_is)
    (case c30 => k_is)
    (case k30 => k_is)
    (case a31 => k_is)
    (case l31 => k_is)
    (case c31 => k_is)
    (case k31 => k_is)
    (case a32 => k_is)
    (case l32 => k_is)
    (case c32 => k_is)
    (case k32 => k_is)
    (case a33 => k_is)
    (case l33 => k_is)
    (case c33 => k_is)
    (case k33 => k_is)
    (case a34 => k_is)
    (case l34 => k_is)
    (case c34 => k_is)
    (case k34 => k_is)
    (case a35 => k_is)
    (case l35 => k_is)
    (case c35 => k_is)
    (case k35 => k_is)
    (case a36 => k_is)
    (case l36 => k_is)
    (case c36 => k_is)
    (case k36 => k_is)
    (case qs_Arrow => k_is)
    (case qr_Arrow => k_is)
    (case qf_Arrow => k_is)
    (case n_Net_arrows => k_is)
    (case n_Table_beat => k_is)
    (case n_Arrow_behind => k_is)
    (case n_Ride_behind => k_is)
    (case n_Wait_behind => k_is)
    (case n_Back_behind => k_is)
    (case n_Arrow_goal => k_is)
    (case n_Ride_goal => k_is)
    (case n_Wait_goal => k_is)
    (case n_Back_goal => k_is)
    (case n_Net_names => k_is)
    (case n_Table_net => k_is)
    (case n_Arrow_start => k_is)
    (case n_Ride_start => k_is)
    (case n_Wait_start => k_is)
    (case n_Back_start => k_is)
    (case n_Arrow_time => k_is)
    (case n_Ride_time => k_is)
    (case n_Wait_time => k_is)
    (case n_Back_time => k_is)
    (case n_Table_times => k_is)
    (case ign => k_is)
    (case igt => k_is)
    (case iga_Arrow => k_is)
    (case igm_Arrow => k_is)
    (case kit_Arrow_Back => kit_is)
    (case kit_Arrow_Ride => kit_is)
    (case iga_Ride => k_is)
    (case igm_Ride => k_is)
    (case kit_Ride_Back => kit_is)
    (case kit_Ride_Ride => kit_is)
    (case iga_Wait => k_is)
    (case igm_Wait => k_is)
    (case kit_Wait_Back => kit_is)
    (case kit_Wait_Ride => kit_is)
    (case iga_Back => k_is)
    (case igm_Back => k_is)
    (case kit_Back_Back => kit_is)
    (case kit_Back_Ride => kit_is)
    (case iga_Net => k_is)
    (case igm_Net => k_is)
    (case kit_Net_Back => kit_is)
    (case kit_Net_Ride => kit_is)
    (case iga_Table => k_is)
    (case igm_Table => k_is)
    (case kit_Table_Back => kit_is)
    (case kit_Table_Ride => kit_is)
    (case z0 => k_is)
    (case z1 => k_is)
    (case z2 => k_is)
    (case z3 => k_is)
    (case z4 => k_is)
    (case z5 => k_is)
    (case z6 => k_is)
    (case z7 => k_is)
    (case z8 => k_is)
    (case z9 => k_is)
    (case z10 => k_is)
    (case gc0 => k_is)
    (case gc1 => k_is)
    (case gc2 => k_is)
    (case gc3 => k_is)
    (case gc4 => k_is)
    (case gc5 => k_is)
