import PyProof.Rows.All
import Wide.All
import OpenK.AllK
import Wide.FinOn
import Lean
import PyProof.EqAt
import PyProof.EqKinds
import PyProof.TupleCall
import PyProof.ExcClass3
import PyProof.ExcBaseAll.ValueError
import KE.KTryMore
import PyProof.FString2
import PyProof.ReprRoads
import PyProof.ReprBulk
import PyProof.DictItems
import KE.KDictList
import KE.KSortTup
import PyProof.Rows.SortRuns
import KE.KSortAsk
import KE.KSortKey
import PyProof.Rows.SetFrom
import KE.KDictList
import PyProof.Rows.SortWalk
import KE.KDictList
import PyProof.StrCalls
import PyProof.StrBlock2
import PyProof.StrBlockI
import PyProof.StrCalls2
import KE.KIntText
import PySem.Challenge.RW_ringbeat_k67_whole_fewest_given_up
set_option Elab.async false
set_option linter.all false
set_option maxRecDepth 100000
open Array renaming length_toList→aZ,getElem?_toList→cF,size_map→er,toList_map→fJ,getElem?_eq_getElem→gI,getElem?_eq_none→iB,ext'→pD,append_assoc→pE,toList_push→pT
open Bool renaming false_ne_true→aO,and_eq_true→bw,false_eq_true→bJ,not_true→nq,or_eq_false_iff→oU
open Int renaming toNat_of_nonneg→eK,emod_nonneg→eS,emod_lt_of_pos→gJ,le_refl→gY,toNat_natCast→kT,fdiv_eq_ediv_of_nonneg→mN
open List renaming mem_cons_of_mem→aj,mem_cons_self→ak,mem_cons→av,length_map→aA,mem_append_right→aB,getD_eq_getElem?_getD→aE,length_cons→aF,replicate→aJ,size_toArray→aK,mem_singleton→aN,getElem?_eq_getElem→aR,length_append→aT,mem_append→aU,range→aV,getElem?_eq_some_iff→aX,getElem?_map→bi,nodup_append→bn,nodup_cons→bp,lookup_cons→bq,map_cons→bu,mem_append_left→bx,nodup_nil→bz,mem_filter→bF,getElem?_append_left→bO,foldl_cons→bP,not_mem_nil→bQ,mem_range→bX,length_take→bZ,getElem?_eq_none→ck,append_nil→cr,getElem?_set_self→cx,replicate_succ→cA,append_assoc→cC,flatten_cons→cD,map_map→cM,Nodup→cP,pairwise_cons→cQ,getElem?_append_right→cT,find?_cons→cU,length_replicate→cX,mem_iff_getElem?→cY,all_eq_true→cZ,mem_map→dc,length_range→dr,map_append→dw,map_congr_left→dz,ext_getElem→dC,mem_iff_getElem→dM,any_cons→dP,getElem?_range→dR,getElem?_set_ne→eu,length_drop→eI,all_cons→eM,getElem?_take_of_lt→eO,length_zip→eQ,zip_cons_cons→eT,getElem?_replicate→eX,drop_of_length_le→fk,ext_getElem?→fm,take_of_length_le→fu,length_singleton→fK,countP_cons→fN,lookup→fU,mem_of_getElem?→fV,take_append_of_le_length→fW,forIn_cons→gh,of_mem_zip→gj,countP_append→gG,drop_eq_getElem_cons→gQ,foldl_append→gU,length→gW,getElem_map→ie,length_eq_zero_iff→ig,mem_flatten→ij,nodup_range→ik,drop_eq_nil_of_le→iE,length_nil→iH,length_set→iI,length_filter_le→iN,forIn_nil→jF,mem_of_mem_take→jG,filterMap_cons→jR,Pairwise→jY,filter_append→ki,find?_eq_none→kj,getElem?_drop→kl,getElem_range→km,all_map→kL,map_nil→kM,getElem_inj→lA,getElem_mem→lB,getElem_set→lC,isEmpty_nil→lD,eq_nil_of_length_eq_zero→lK,map_const'→lR,nil_append→lS,range_succ→lT,perm_ext_iff_of_nodup→mC,append_cancel_left→nO,filter_cons_of_neg→nP,filter_cons_of_pos→nQ,find?_cons_of_neg→nU,find?_cons_of_pos→nV,pairwise_lt_range→nW,set_set→nX,concat_eq_append→oE,contains_iff_mem→oF,countP_singleton→oG,eq_nil_or_concat→oH,pairwise_append→oV,contains_cons→pU,filter_filter→pV,foldl→pW,length_zipIdx→pX,mem_filterMap→pY,filter_congr→qO,flatMap_cons→qP,getElem_take→qQ,pairwise_map→qR,take_add_one→qS,Perm→rG,any_eq_true→rH,filter_cons→rJ,take_length→rK,zipIdx_cons→rL,take_left'→sS,filter_map→sT,find?_some→sU,zip_append→sV,take_succ→tH,contains→uH,map_drop→uI,map_take→uJ
open Nat renaming le_refl→aH,ne_of_lt→bj,lt_of_lt_of_le→bt,le_trans→bD,lt_succ_of_lt→cG,zero_le→cH,lt_irrefl→ef,le_succ→eD,le_of_lt→fC,lt_succ_self→fQ,pow_le_pow_right→fZ,ne_of_gt→gD,le_of_succ_le→kU,min_self→kW,pow_succ→kX,min_eq_right→lL,min_eq_left→mq,mul_le_mul→mP,mul_assoc→nR,le_of_eq→oI,le_total→oJ,zero_add→oK,lt_of_le_of_lt→qT,mod_lt→qU
open Option renaming map_eq_some_iff→bW,bind_some→bY,map_some→eL,isSome_iff_exists→mD,isSome_map→pF,getD_none→pZ,getD_some→p9
open PyProof.Rows renaming callWith_type1→fE
open PySem renaming Value→aa,Addr→af,Shared→ah,wpAny_bind→ao,wpAny_pure→aw,mainGlobals→ax,starEach→ay,Heap→aI,FuncData→aM,Str→aP,wpAny→aQ,model→aS,Program→aW,Around→bo,NameKind→br,World→bv,sizeLine_eq→bC,Stmt→bG,PyData→bM,bootBuiltins→bN,eval→bS,PassesOwn→bV,Pos→cB,compareOp→cE,Obj→cJ,backTo→cL,strIterType→cN,assignEach→cV,foldedSetIterable→cW,behindInMarks→dF,keywordEach→dG,binaryOp→dL,wpAny_newObj_type→dS,wpAny_truthy_bool→dU,wpAny_holding→dW,wpAny_mono→dX,holding→d6,swapsWith→d8,sysModules→eh,wpAny_passesOwn→et,attributeBase→eZ,backToKw→e8,wpAny_Call_Name_kw→fD,Scope→fF,codeAny→fR,getMethod→gq,standAt→gu,sliceBounds→gE,letOwnedTupleGo→gK,cLine→gR,codeAny_mono→gX,assign→hG,tupleKind_room_in1→hJ,Sem→ip,Keyword→iF,swappedStores→iJ,swapsWithSole→iK,wpAny_standAt→iL,Operator→i6,callWith→i7,tupleKind→i8,wpAny_execs_nil→jS,newFunctionEnv→kH,CmpOp→lE,callerA→mr,seqIndex_neg→mw,wpAny_pyIter_list→my,seqIndex_of→nr,Code→nS,BindsTo→nY,setItem→nZ,valueAt→n4,closureFor→oM,compEnvC→oN,compPost→oO,Data→pG,atKey→qA,bindC→qB,bindL→qC,concat_meets→qV,isTrue→qW,builtinsNs→uK,call_meets→uL,typeIs_int→uM,wpAny_Name→uN
open PySem.Heap renaming get?_push_of_some→ap,lt_size→aG,get?_push_size→ba,SameBut→cm,size_push→dD,get?_update_other→iD,get?_none_of_le→jE,get?_push_ne→qN,size_update→rF
open PySem.W renaming Frag→ae,findIn→aq,keepIn→ar,nsIn→aC,codeIn→aD,mg_of→aL,kitOne→bB,mg_none_of→bH,isFn→cj,kia_one→cp,hasDictIn→cy,plainGet→cO,emptyDict→cS,plainOver→df,specialIn→dg,makesIn→dm,mroIn→dA,instObj→dH,methodCall_KW→fw,fnOf→gb,callWith_K→gr,cellsFrom_some→hU,findCls→iq,readsIn→ir,takesIn→iu,lookIn→iM,plainGet_of→i9,kitx_list→jZ,methodObj→ka,OpenLaw→kY,takerIn→kZ,kas_swaps_map→nu,kitx_dict→oW,handedIn→pH,KdlSrc→qX,WalkO→rM
namespace L2
open PySem PySem.Spec PyProof.Rows
abbrev eF:=Sum Int aP
def mZ:eF->aa->Bool
 |.inl k,v=>aa.isInt k v
 |.inr x,v=>aa.isStrOf x v
def Jg (w:bv):eF->Int
 |.inl k=>hashInt k
 |.inr x=>hashStr w x
theorem wb:∀{k:eF} {v:aa},mZ k v=true->(∃i t,k=Sum.inl i/\v=aa.int i t)\/(∃x t,k=Sum.inr x/\v=aa.str x t)
 |.inl i,v,h=>by
  obtain⟨t,e⟩:=aa.isInt_shape (k:=i) (v:=v) h
  exact .inl ⟨i,t,rfl,e⟩
 |.inr x,v,h=>by
  obtain⟨t,e⟩:=aa.isStrOf_shape (x:=x) (v:=v) h
  exact .inr ⟨x,t,rfl,e⟩
theorem V8 (i:Int)(t:Tok):mZ (.inl i) (.int i t)=true:=by simp[mZ,aa.isInt]
theorem V9 (x:aP)(t:Tok):mZ (.inr x) (.str x t)=true:=by simp[mZ,aa.isStrOf]
theorem Ze (a b:Int):decide ((Sum.inl a:eF)=Sum.inl b)=(a==b):=by
 by_cases e:a=b
 ·subst e;simp
 ·have h:¬(Sum.inl a:eF)=Sum.inl b:=λq=>e (Sum.inl.inj q)
  rw[decide_eq_false h]
  exact(beq_eq_false_iff_ne.mpr e).symm
theorem Zf (a b:aP):decide ((Sum.inr a:eF)=Sum.inr b)=decide (a=b):=by
 by_cases e:a=b
 ·subst e;simp
 ·have h:¬(Sum.inr a:eF)=Sum.inr b:=λq=>e (Sum.inr.inj q)
  rw[decide_eq_false h,decide_eq_false e]
theorem Zg (a:Int)(b:aP):decide ((Sum.inl a:eF)=Sum.inr b)=false:=decide_eq_false (λq=>nomatch q)
theorem Zh (a:aP)(b:Int):decide ((Sum.inr a:eF)=Sum.inl b)=false:=decide_eq_false (λq=>nomatch q)
def dJ (prog:aW)(w:bv):PySem.KeyKind prog w eF where
 is:=mZ
 hash:=Jg w
 inj:=λv a b ha hb=>by
  rcases wb ha with⟨i,t,rfl,rfl⟩|⟨x,t,rfl,rfl⟩
  ·rcases wb hb with⟨j,u,rfl,e⟩|⟨y,u,rfl,e⟩
   ·injection e with e1 _;rw[e1]
   ·exact nomatch e
  ·rcases wb hb with⟨j,u,rfl,e⟩|⟨y,u,rfl,e⟩
   ·exact nomatch e
   ·injection e with e1 _;rw[e1]
 byValue:=λk v h=>by
  rcases wb h with⟨i,t,rfl,rfl⟩|⟨x,t,rfl,rfl⟩<;>rfl
 pyHash:=λhv h=>by
  rcases wb hv with⟨i,t,rfl,rfl⟩|⟨x,t,rfl,rfl⟩
  ·exact wpAny_pyHash_int h
  ·exact wpAny_pyHash_str h
 eqBool:=λhu hv h=>by
  rcases wb hu with⟨i,t,rfl,rfl⟩|⟨x,t,rfl,rfl⟩
  ·rcases wb hv with⟨j,u,rfl,rfl⟩|⟨y,u,rfl,rfl⟩
   ·rw[Ze]at h;exact wpAny_eqBool_int h
   ·rw[Zg]at h;exact SeqAt.EqAt.int_str i t y u _ _ _ _ h
  ·rcases wb hv with⟨j,u,rfl,rfl⟩|⟨y,u,rfl,rfl⟩
   ·rw[Zh]at h;exact SeqAt.EqAt.str_int x t j u _ _ _ _ h
   ·rw[Zf]at h;exact wpAny_eqBool_str h
 «strs»:=λk x t v h=>by
  rcases wb h with⟨i,u,rfl,e⟩|⟨y,u,rfl,e⟩
  ·exact nomatch e
  ·injection e with e1 _
   subst e1
   cases v<;>rfl
theorem VM (prog:aW)(w:bv)(i:Int)(t:Tok):(dJ prog w).is (.inl i) (.int i t)=true:=V8 i t
theorem VN (prog:aW)(w:bv)(x:aP)(t:Tok):(dJ prog w).is (.inr x) (.str x t)=true:=V9 x t
end L2
namespace L2
open PySem PySem.Spec PyProof.Rows
inductive V where
 |non|bl (b:Bool)|int (i:Int)|str (x:aP)|byt (b:Array UInt8)|flt (b:UInt64)|ref (a:af)|ty (n:String)
 deriving DecidableEq
def RelV:V->aa->Prop
 |.non,u=>u=aa.none
 |.bl b,u=>u=aa.bool b
 |.int i,u=>∃t,u=aa.int i t
 |.str x,u=>∃t,u=aa.str x t
 |.byt b,u=>∃t,u=aa.bytes b t
 |.flt b,u=>∃t,u=aa.float b t
 |.ref a,u=>u=aa.ref a
 |.ty n,u=>u=aa.type n
abbrev bR:List V->List aa->Prop:=Paired RelV
theorem bR.length {xs:List V}{us:List aa}(r:bR xs us):xs.length=us.length:=Paired.length r
theorem bR.get:∀{xs:List V} {us:List aa} {i:Nat} {x:V},bR xs us->xs[i]?=some x->∃u,us[i]?=some u/\RelV x u
 |_,_,_,_,.nil,e=>by simp at e
 |_,_,0,_,.cons r _,e=>by simp at e;subst e;exact⟨_,rfl,r⟩
 |_,_,i+1,x,.cons _ t,e=>by
  obtain⟨u,h1,h2⟩:=bR.get (i:=i) (x:=x) t (by simpa using e)
  exact⟨u,by simpa using h1,h2⟩
theorem bR.set {x:V}{u:aa}(r:RelV x u):∀{xs:List V} {us:List aa} (i:Nat),bR xs us->bR (xs.set i x) (us.set i u)
 |_,_,_,.nil=>.nil
 |_,_,0,.cons _ t=>.cons r t
 |_,_,i+1,.cons q t=>.cons q (bR.set r i t)
theorem bR.append:∀{xs ys:List V} {us ws:List aa},bR xs us->bR ys ws->bR (xs++ys) (us++ws)
 |_,_,_,_,.nil,s=>s
 |_,_,_,_,.cons r t,s=>.cons r (bR.append t s)
theorem bR.take:∀{xs:List V} {us:List aa} (n:Nat),bR xs us->bR (xs.take n) (us.take n)
 |_,_,0,_=>.nil
 |_,_,_+1,.nil=>.nil
 |_,_,n+1,.cons r t=>.cons r (bR.take n t)
theorem bR.drop:∀{xs:List V} {us:List aa} (n:Nat),bR xs us->bR (xs.drop n) (us.drop n)
 |_,_,0,r=>r
 |_,_,_+1,.nil=>.nil
 |_,_,n+1,.cons _ t=>bR.drop n t
def jH:Option V->Option aa->Prop
 |some v,some u=>RelV v u
 |none,none=>True
 |_,_=>False
def KV {κ:Type}:List (κ×V)->List (κ×aa)->Prop:=Paired λ(p:κ×V) (q:κ×aa)=>p.1=q.1/\RelV p.2 q.2
def kV:eF->V
 |.inl i=>.int i
 |.inr x=>.str x
inductive HO where
 |lst (xs:List V)
 |tup (xs:List V)
 |dK (cn:List (eF×V))|dT (cn:List (List eF×V))
 |set (S:Int->Bool) (n:Nat)
 |ins (C dx:af) (fs:List (aP×V))
 |own (x:af)
 |xd (fs:List (aP×V))
 |met (f x:af)
 |rng (lo hi:Int)
 |frz (o:cJ) (u:HO)
 |tbl (ps:Array aa)
 |ext (φ:aI->Prop)
abbrev Hp:=af->Option HO
def upd (H:Hp)(a:af)(o:HO):Hp:=λb=>if b=a then some o else H b
theorem yr {H:Hp}{a:af}{o:HO}:upd H a o a=some o:=by unfold upd;rw[if_pos rfl]
theorem zn {H:Hp}{a b:af}{o:HO}(h:b≠a):upd H a o b=H b:=by unfold upd;rw[if_neg h]
theorem ztv {H:Hp}{a b:af}{o u:HO}(h:H a=some o)(h':H b=some u)(d:o≠u):a≠b:=by
 intro e;subst e;rw[h]at h';exact d (Option.some.inj h')
theorem yy {H:Hp}{a b:af}{o:HO}(h:H a=some o)(h':H b=none):a≠b:=by
 intro e;subst e;rw[h]at h';cases h'
section
variable (P:aW)(w:bv)
def dI (H:Hp)(h:aI)(a:af):HO->Prop
  |.lst xs=>xs.length<=sizeLine/\∃(bT:List aa) (n:Nat),bR xs bT/\h.get? a=some { cls:=.type "list",data:=.seq bT.toArray n }
  |.tup xs=>xs.length<=sizeLine/\∃bT:List aa,bR xs bT/\IsTup h a bT.toArray
  |.dK cn=>cn.length<=sizeLine/\(a==eh)=false/\∃vs,KV cn vs/\h.DictOf (dJ P w) a vs
  |.dT cn=>cn.length<=sizeLine/\(a==eh)=false/\∃xs:List (List eF×af×aa),
      Paired (λ(p:List eF×V) (q:List eF×af×aa)=>p.1=q.1/\H q.2.1=some (.tup (p.1.map kV))/\RelV p.2 q.2.2) cn xs /\
      ∃o es ep,h.get? a=some o/\o.ExactDict/\o.data=.dict es ep/\es.toList=xs.map (entryOfKey (i8 (dJ P w)))/\(xs.map (·.1)).Nodup
  |.set S n=>h.SetOf (intKind P w) a S n
  |.ins C dx fs=>H dx=some (.own a)/\fs.length<=1000/\dx≠a/\h.get? a=some (dH C dx) /\
      ∃mA,h.Ns1 dx mA/\(∀f,jH (fs.lookup f) (mA f))/\PySem.Within mA (fs.map (·.1))
  |.own _=>∃o,h.get? a=some o
  |.xd fs=>∃mA,h.Ns1 a mA/\∀f,jH (fs.lookup f) (mA f)
  |.rng lo hi=>∃t u v,h.get? a=some { cls:=.type "range",data:=.fields #[.int lo t,.int hi u,.int 1 v] }
  |.frz o u=>h.get? a=some o/\dI H h a u
  |.tbl ps=>h.get? a=some { cls:=.none,data:=.fields ps }
  |.met f x=>h.get? a=some (ka (.ref f) (.ref x))
  |.ext φ=>φ h/\(∃o,h.get? a=some o)/\∀h1 h2:aI,φ h1->(∀o,h1.get? a=some o->h2.get? a=some o)->φ h2
def kb (H:Hp)(h:aI):Prop:=∀a o,H a=some o->dI P w H h a o
end
section
variable {P:aW}{w:bv}{H H':Hp}{h h':aI}{a:af}{o:HO}
theorem dI.lt (x:dI P w H h a o):a<h.objs.size:=by
 cases o with
 |lst xs=>obtain⟨_,_,_,_,e⟩:=x;exact aG e
 |tup xs=>obtain⟨_,_,_,p⟩:=x;exact p.lt
 |dK cn=>obtain⟨_,_,_,_,o,_,_,e,_⟩:=x;exact aG e
 |dT cn=>obtain⟨_,_,_,_,o,_,_,e,_⟩:=x;exact aG e
 |set S n=>obtain⟨o,_,_,_,e,_⟩:=x;exact aG e
 |ins C dx fs=>obtain⟨_,_,_,e,_⟩:=x;exact aG e
 |own y=>obtain⟨_,e⟩:=x;exact aG e
 |xd fs=>obtain⟨_,⟨_,_,_,e,_⟩,_⟩:=x;exact aG e
 |rng lo hi=>obtain⟨_,_,_,e⟩:=x;exact aG e
 |frz ob u=>obtain⟨e,_⟩:=x;exact aG e
 |tbl ps=>exact aG (show h.get? a=some _ from x)
 |met f y=>exact aG (show h.get? a=some _ from x)
 |ext φ=>obtain⟨_,⟨_,e⟩,_⟩:=x;exact aG e
theorem Paired.mapP {α β:Type}{F G:α->β->Prop}:∀{l₁:List α} {l₂:List β},Paired F l₁ l₂->(∀a b,F a b->G a b)->Paired G l₁ l₂
 |_,_,.nil,_=>.nil
 |_,_,.cons r t,f=>.cons (f _ _ r) (Paired.mapP t f)
theorem dI.stay (x:dI P w H h a o)(k:∀b u,(b=a\/H b=some (.own a))->h.get? b=some u->h'.get? b=some u)
    (ho:∀b,H b=some (.own a)->H' b=some (.own a)) (ht:∀b xs,H b=some (.tup xs)->H' b=some (.tup xs)):dI P w H' h' a o:=by
  induction o with
  |lst xs=>obtain⟨z,bT,n,r,e⟩:=x;exact⟨z,bT,n,r,k _ _ (.inl rfl) e⟩
  |tup xs=>obtain⟨z,bT,r,ob,e,c⟩:=x;exact⟨z,bT,r,ob,k _ _ (.inl rfl) e,c⟩
  |dK cn=>obtain⟨z,y,vs,r,ob,es,ep,e,c⟩:=x;exact⟨z,y,vs,r,ob,es,ep,k _ _ (.inl rfl) e,c⟩
  |dT cn=>
    obtain⟨z,y,xs,r,ob,es,ep,e,c⟩:=x
    exact⟨z,y,xs,Paired.mapP r λp q z=>⟨z.1,ht _ _ z.2.1,z.2.2⟩,ob,es,ep,k _ _ (.inl rfl) e,c⟩
  |set S n=>obtain⟨ob,es,ep,t,e,c⟩:=x;exact⟨ob,es,ep,t,k _ _ (.inl rfl) e,c⟩
  |ins C dx fs=>
    obtain⟨d,z,ne,e,mA,⟨od,es,ep,e2,c⟩,r⟩:=x
    exact⟨ho _ d,z,ne,k _ _ (.inl rfl) e,mA,⟨od,es,ep,k _ _ (.inr d) e2,c⟩,r⟩
  |own y=>obtain⟨ob,e⟩:=x;exact⟨ob,k _ _ (.inl rfl) e⟩
  |xd fs=>obtain⟨mA,⟨od,es,ep,e,c⟩,r⟩:=x;exact⟨mA,⟨od,es,ep,k _ _ (.inl rfl) e,c⟩,r⟩
  |rng lo hi=>obtain⟨t,u,v,e⟩:=x;exact⟨t,u,v,k _ _ (.inl rfl) e⟩
  |frz ob u ih=>obtain⟨e,q⟩:=x;exact⟨k _ _ (.inl rfl) e,ih q⟩
  |tbl ps=>
    have e:h.get? a=some { cls:=.none,data:=.fields ps }:=x
    show h'.get? a=some { cls:=.none,data:=.fields ps }
    exact k a _ (.inl rfl) e
  |met f y=>
    have e:h.get? a=some (ka (.ref f) (.ref y)):=x
    show h'.get? a=some (ka (.ref f) (.ref y))
    exact k a _ (.inl rfl) e
  |ext φ=>obtain⟨p,⟨o,e⟩,st⟩:=x;exact⟨st _ _ p λo q=>k _ _ (.inl rfl) q,⟨o,k _ _ (.inl rfl) e⟩,st⟩
theorem kb.lt (x:kb P w H h)(e:H a=some o):a<h.objs.size:=(x a o e).lt
theorem kb.fresh (x:kb P w H h)(e:h.objs.size<=a):H a=none:=by
 cases q:H a with
 |none=>rfl
 |some u=>exact absurd (bt (x.lt q) e) (ef _)
theorem kb.kept (x:kb P w H h)(k:∀b u,h.get? b=some u->h'.get? b=some u):kb P w H h':=λa o e=>
 (x a o e).stay (λb u _ q=>k b u q) (λ_ q=>q) λ_ _ q=>q
theorem kb.laid (x:kb P w H h)(k:∀b u,h.get? b=some u->h'.get? b=some u)(hp:h.objs.size<=a)(new:dI P w (upd H a o) h' a o):kb P w (upd H a o) h':=λb u e=>by
 have hn:=x.fresh hp
 by_cases hb:b=a
 ·subst hb;rw[yr]at e;cases e;exact new
 ·rw[zn hb]at e
  exact(x b u e).stay (λc v _ q=>k c v q) (λc q=>by rw[zn (yy q hn)];exact q) λc xs q=>by rw[zn (yy q hn)];exact q
end
def Rd (H:Hp)(a:af)(u:HO):Prop:=H a=some u\/∃o,H a=some (.frz o u)
theorem Rd.ok {P:aW}{w:bv}{H:Hp}{h:aI}{a:af}{u:HO}(r:Rd H a u)(x:kb P w H h):dI P w H h a u:=by
 rcases r with r|⟨o,r⟩
 ·exact x a u r
 ·obtain⟨_,q⟩:=x a _ r
  exact q
def AR:Option HO->Prop
 |some (.lst _)=>True
 |some (.dK _)=>True
 |some (.dT _)=>True
 |some (.set _ _)=>True
 |some (.ins _ _ _)=>True
 |some (.ext _)=>True
 |_=>False
section
variable {P:aW}{w:bv}{H:Hp}{h h':aI}{x e:af}{o':HO}
theorem kb.write (ok:kb P w H h)(mu:AR (H x))(he:e=x\/H e=some (.own x))(k:∀b u,b≠e->h.get? b=some u->h'.get? b=some u)(Am:∃u,h'.get? e=some u)
  (new:dI P w (upd H x o') h' x o'):kb P w (upd H x o') h':=λb u q=>by
 have DO:∀c y,H c=some (.own y)->c≠x:=λc y r z=>by subst z;rw[r]at mu;exact mu
 have Jm:∀c xs,H c=some (.tup xs)->c≠x:=λc xs r z=>by subst z;rw[r]at mu;exact mu
 by_cases hb:b=x
 ·subst hb;rw[yr]at q;cases q;exact new
 ·rw[zn hb]at q
  by_cases yE:b=e
  ·have q':H b=some (.own x):=by
    rcases he with z|z
    ·exact absurd (yE.trans z) hb
    ·rw[yE];exact z
   rw[q]at q';cases q'
   obtain⟨v,hv⟩:=Am
   exact⟨v,by rw[yE];exact hv⟩
  ·refine(ok b u q).stay (λc v hc r=>k c v ?_ r) (λc r=>by rw[zn (DO c b r)];exact r) λc xs r=>by rw[zn (Jm c xs r)];exact r
   rcases hc with rfl|hc
   ·exact yE
   ·rintro rfl
    rcases he with z|z
    ·exact DO c b hc z
    ·rw[hc]at z;cases z;exact hb rfl
end
structure Un (fs ex:List af)(H H':Hp)(h h':aI):Prop where
 keep:∀b o,h.get? b=some o->H b=none->b∉fs->b∉ex->h'.get? b=some o
 slot:∀b o,h.get? b=some o->H b=none->b∈fs->b∉ex->∃sl,h'.get? b=some { o with slots:=sl }
 free:∀b o,h.get? b=some o->H b=none->b∉ex->H' b=none
 there:∀b o,h.get? b=some o->b∉ex->∃o',h'.get? b=some o'
 tups:∀b xs,H b=some (.tup xs)->H' b=some (.tup xs)
 frzs:∀b o u,H b=some (.frz o u)->H' b=some (.frz o u)
 tbls:∀b ps,H b=some (.tbl ps)->∃more,H' b=some (.tbl (ps++more))
section
variable {fs Rb ex ex':List af}{H H1 H2:Hp}{h h1 h2 h':aI}{a x e:af}{o:HO}
theorem Un.any (u:Un fs ex H H1 h h1){b:af}{ob:cJ}(q:h.get? b=some ob)(n:H b=none)(hx:b∉ex):∃sl,h1.get? b=some { ob with slots:=sl }:=by
 by_cases hb:b∈fs
 ·exact u.slot b ob q n hb hx
 ·exact⟨ob.slots,u.keep b ob q n hb hx⟩
theorem Un.kept (k:∀b u,h.get? b=some u->h'.get? b=some u):Un fs ex H H h h' :=
 ⟨λb ob q _ _ _=>k b ob q,λb ob q _ _ _=>⟨ob.slots,k b ob q⟩,λ_ _ _ n _=>n,λb ob q _=>⟨ob,k b ob q⟩,λ_ _ q=>q,λ_ _ _ q=>q,λ_ ps q=>⟨#[],by rw[q];simp⟩⟩
theorem Un.refl:Un fs ex H H h h:=Un.kept λ_ _ q=>q
theorem Un.laid (k:∀b u,h.get? b=some u->h'.get? b=some u)(hp:h.objs.size<=a)(hn:H a=none):Un fs ex H (upd H a o) h h' where
 keep:=λb u q _ _ _=>k b u q
 slot:=λb u q _ _ _=>⟨u.slots,k b u q⟩
 free:=λb u q n _=>by rw[zn (bj (bt (aG q) hp))];exact n
 there:=λb u q _=>⟨u,k b u q⟩
 tups:=λb xs q=>by rw[zn (yy q hn)];exact q
 frzs:=λb u xs q=>by rw[zn (yy q hn)];exact q
 tbls:=λb ps q=>⟨#[],by rw[zn (yy q hn),q];simp⟩
theorem Un.write (mu:AR (H x))(he:e=x\/H e=some (.own x))(k:∀b u,b≠e->h.get? b=some u->h'.get? b=some u)(Am:∃u,h'.get? e=some u):Un fs ex H (upd H x o) h h':=by
 have hx:∀b,H b=none->b≠x:=λb n z=>by subst z;rw[n]at mu;exact mu
 have hb:∀b,H b=none->b≠e:=λb n z=>by
  subst z
  rcases he with r|r
  ·exact hx b n r
  ·rw[n]at r;cases r
 have hm:∀b u,H b=some u->¬AR (some u)->b≠x:=λb u q nm z=>by subst z;rw[q]at mu;exact nm mu
 refine⟨λb u q n _ _=>k b u (hb b n) q,λb u q n _ _=>⟨u.slots,k b u (hb b n) q⟩,λb u q n _=>by rw[zn (hx b n)];exact n,λb u q _=>?_,
  λb xs q=>by rw[zn (hm b _ q λz=>z)];exact q,λb u xs q=>by rw[zn (hm b _ q λz=>z)];exact q,λb ps q=>⟨#[],by rw[zn (hm b _ q λz=>z),q];simp⟩⟩
 by_cases yE:b=e
 ·subst yE;exact Am
 ·exact⟨u,k b u yE q⟩
end
def Gh (h:aI)(H:Hp):List af:=(aV h.objs.size).filter λa=>(H a).isSome
def nG (h:aI)(H:Hp):aI:=PySem.W.hideAll h (Gh h H)
theorem Wv (h:aI)(H:Hp):(nG h H).objs.size=h.objs.size:=PySem.W.hideAll_size _ _
theorem Xe {h:aI}{H:Hp}{b:af}{o:cJ}(e:h.get? b=some o)(n:H b=none):(nG h H).get? b=some o :=
 PySem.W.hideAll_get _ e λhm=>by
  have q:(H b).isSome=true:=(bF.mp hm).2
  rw[n]at q;simp at q
theorem Yp {h:aI}{H:Hp}{b:af}{o:cJ}(e:(nG h H).get? b=some o):h.get? b=some o/\H b=none:=by
 have e':h.get? b=some o:=PySem.W.of_hideAll (Gh h H) e
 refine⟨e',?_⟩
 cases q:H b with
 |none=>rfl
 |some x=>
  have hm:b∈Gh h H:=bF.mpr ⟨bX.mpr (aG e'),by simp[q]⟩
  have z:(nG h H).get? b=none:=PySem.W.hideAll_none (Gh h H) hm
  rw[z]at e;cases e
def tK (g h:aI)(L:af):List (af×cJ):=(aV h.objs.size).filterMap λa=>if a=L\/(g.get? a).isSome=true then none else(h.get? a).map λo=>(a,o)
def rest (g h:aI)(L d:af):List (af×cJ):=(tK g h L).filter λp=>decide (p.1≠d)
end L2
namespace L2
open PySem PySem.Spec PyProof.Rows
structure Mod (K:ae)(mg:aP->Option aa)(base:aI):Prop where
 kin:K.In base
 glob:base.Ns ax mg
 blt:∃mb,base.Ns uK mb/\∀x:aP,x≠"__name__"->mb x=bN x
 nolimit:base.NoLimit
structure Cx where
 prog:aW
 w:bv
 K:ae
 mg:aP->Option aa
 base:aI
 A:bo
 N:List aP
 s₀:ah
 H₀:Hp
 env:Env
 outer:List Env
 stack:List Env
 ex:List af
 fn:aP->Bool
 calm:Bool
 pn:List (af×cJ)
 xe:aa->ah->Prop
def rV (l:List Env):List af:=l.filterMap (·.frame)
abbrev Cx.fs (X:Cx):List af:=rV X.outer
def pJ (sc:fF)(x:aP):Prop:=sc.names.lookup x=some .local\/sc.names.lookup x=some .cell\/sc.names.lookup x=some .free
def Loc (sc:fF)(x:aP):Prop:=sc.names.lookup x=some .local\/sc.names.lookup x=some .cell
def Look (env:Env)(h:aI)(m:aP->Option aa)(x:aP)(u:aa):Prop :=
 (env.kindOf x=some .local/\m x=some u)\/((env.kindOf x=some .cell\/env.kindOf x=some .free)/\∃c,env.cells.lookup x=some c/\h.IsCell c (some u))
structure Cx.Ok (X:Cx):Prop where
 mod:Mod X.K X.mg X.base
 kind:X.env.scope.kind=.function
 glob:X.env.globals=ax
 blt:X.env.builtins=uK
 above:X.s₀.heap.objs.size<=X.env.locals
 inj:∀x y c,X.env.cells.lookup x=some c->X.env.cells.lookup y=some c->x=y
 has:∀x,(X.env.kindOf x=some .cell\/X.env.kindOf x=some .free)->∃c,X.env.cells.lookup x=some c
 cab:∀x c,X.fn x=true->X.env.cells.lookup x=some c->X.s₀.heap.objs.size<=c
 hd:X.calm=true->X.A.handled=none
 frames:X.A.frames=some X.stack
 stk:X.stack=X.outer\/(X.stack=X.env::X.outer/\X.env.frame=some X.env.locals)
 exf:∀b∈X.ex,b≠X.env.locals/\∀x c,X.env.cells.lookup x=some c->c≠b
 bs:∀b o,X.base.get? b=some o->X.s₀.heap.get? b=some o/\X.H₀ b=none
 bsz:X.base.objs.size<=X.s₀.heap.objs.size
 noex:∀b o,X.base.get? b=some o->b∉X.ex
 exfs:∀b∈X.ex,b∉X.fs
 funs:X.s₀.heap.FunFrames X.base X.outer
 frf:∀b∈X.fs,X.H₀ b=none
structure Inv (X:Cx)(ai:List (af×cJ))(σ:List (Option V))(H:Hp)(s:ah):Prop where
 ok:X.Ok
 os:s.os=X.s₀.os
 bare:AllBare s.gens
 base:Un X.fs X.ex X.H₀ H X.s₀.heap s.heap
 loc:∃m,s.heap.Ns X.env.locals m/\∀(i:Nat) (x:aP) (v:V),X.N[i]?=some x->σ[i]?=some (some v)->pJ X.env.scope x->∃u,RelV v u/\Look X.env s.heap m x u
 cell:∀x c,X.env.cells.lookup x=some c->∃v,s.heap.IsCell c v
 free:H X.env.locals=none
 freeC:∀x c,X.env.cells.lookup x=some c->H c=none
 pin:∀p∈X.pn++ai,s.heap.get? p.1=some p.2/\H p.1=none/\p.1≠X.env.locals/\p.1∉X.fs/\∀v,p.2.data≠.cell v
 hok:kb X.prog X.w H s.heap
 len:σ.length=X.N.length
section
variable {X:Cx}{ai:List (af×cJ)}{σ:List (Option V)}{H H':Hp}{s:ah}{h':aI}
theorem Cx.Ok.nofr (ok:X.Ok){b:af}{o:cJ}(e:X.base.get? b=some o):b∉X.fs:=λhb=>by
 have:=(ok.funs.mem hb).1
 rw[e]at this;cases this
theorem Inv.bs (I:Inv X ai σ H s):∀b o,X.base.get? b=some o->s.heap.get? b=some o/\H b=none:=λb o e=>
 ⟨I.base.keep b o (I.ok.bs b o e).1 (I.ok.bs b o e).2 (I.ok.nofr e) (I.ok.noex b o e),I.base.free b o (I.ok.bs b o e).1 (I.ok.bs b o e).2 (I.ok.noex b o e)⟩
theorem Inv.bk (I:Inv X ai σ H s):∀b o,X.base.get? b=some o->s.heap.get? b=some o:=λb o e=>(I.bs b o e).1
theorem Inv.mod (I:Inv X ai σ H s):Mod X.K X.mg X.base:=I.ok.mod
theorem Inv.kIn (I:Inv X ai σ H s):X.K.In s.heap:=I.ok.mod.kin.keeps I.bk
theorem Inv.fr (I:Inv X ai σ H s):∃m,Fr X.base X.env.locals s.heap m :=
 let⟨m,hn,_⟩:=I.loc
 ⟨m,hn,I.bk,bD I.ok.bsz I.ok.above⟩
theorem Inv.lt (I:Inv X ai σ H s):X.env.locals<s.heap.objs.size:=let⟨_,hn,_⟩:=I.loc;hn.lt
theorem Inv.sz (I:Inv X ai σ H s):X.s₀.heap.objs.size<=s.heap.objs.size:=bD I.ok.above (fC I.lt)
theorem Inv.nofs (I:Inv X ai σ H s){a:af}(h:s.heap.objs.size<=a):a∉X.fs:=λhb=>by
 obtain⟨_,o,ho,_⟩:=I.ok.funs.mem hb
 exact absurd (bt (aG ho) (bD I.sz h)) (ef _)
theorem Inv.cne (I:Inv X ai σ H s):∀x c,X.env.cells.lookup x=some c->c≠X.env.locals:=λx c e z=>by
 obtain⟨v,o,ho,hd⟩:=I.cell x c e
 obtain⟨m,⟨o',es,ep,yP,Ik,_⟩,_⟩:=I.loc
 rw[z,yP]at ho;cases ho;rw[Ik]at hd;cases hd
theorem Inv.funs (I:Inv X ai σ H s):s.heap.FunFrames X.base X.outer:=by
 have all:∀(l:List Env),(∀b∈rV l,b∈X.fs)->X.s₀.heap.FunFrames X.base l->s.heap.FunFrames X.base l:=by
  intro l
  induction l with
  |nil=>intro _ _;trivial
  |cons env r ih=>
   intro hs hl
   obtain⟨hk,⟨L,o,hf,hn,ho,hd⟩,hr⟩:=hl
   have hL:L∈X.fs:=hs L (by unfold rV;rw[jR,hf];exact ak)
   obtain⟨sl,e⟩:=I.base.slot L o ho (I.ok.frf L hL) hL λz=>I.ok.exfs L z hL
   exact⟨hk,⟨L,_,hf,hn,e,hd⟩,ih (λb hb=>hs b (by unfold rV;rw[jR,hf];exact aj _ hb)) hr⟩
 exact all X.outer (λ_ hb=>hb) I.ok.funs
theorem Inv.stack (I:Inv X ai σ H s):s.heap.FunFrames X.base X.stack:=by
 rcases I.ok.stk with e|⟨e,hf⟩
 ·rw[e];exact I.funs
 ·rw[e]
  obtain⟨m,hn,_⟩:=I.loc
  refine .cons (by rw[I.ok.kind];decide) hf hn ?_ I.funs
  exact jE (bD I.ok.bsz I.ok.above)
theorem Inv.stkSub (I:Inv X ai σ H s):∀b∈rV X.stack,b∈X.env.locals::X.fs:=λb hb=>by
 rcases I.ok.stk with e|⟨e,hf⟩
 ·rw[e]at hb;exact aj _ hb
 ·rw[e]at hb
  unfold rV at hb
  rw[jR,hf]at hb
  exact hb
theorem Inv.stkFree (I:Inv X ai σ H s):∀b∈rV X.stack,H b=none:=λb hb=>by
 rcases av.mp (I.stkSub b hb)with e|hb
 ·rw[e];exact I.free
 ·obtain⟨_,o,ho,_⟩:=I.ok.funs.mem hb
  exact I.base.free b o ho (I.ok.frf b hb) λz=>I.ok.exfs b z hb
theorem Inv.step {g':Array GenState}{t':Nat}{d':Drawn}{ch:List af}(I:Inv X ai σ H s)
  (lO:∀b∈ch,(b∈X.ex\/X.s₀.heap.objs.size<=b)/\b≠X.env.locals/\(∀x c,X.env.cells.lookup x=some c->c≠b)/\∀p∈X.pn++ai,p.1≠b)
  (keep:∀b o,b≠X.env.locals->b∉X.fs->b∉ch->s.heap.get? b=some o->H b=none->h'.get? b=some o)
  (slot:∀b o,b≠X.env.locals->b∈X.fs->b∉ch->s.heap.get? b=some o->H b=none->∃sl,h'.get? b=some { o with slots:=sl }) (free:∀b o,b∉ch->s.heap.get? b=some o->H b=none->H' b=none)
  (there:∀b o,b∉ch->s.heap.get? b=some o->∃o',h'.get? b=some o')
  (tups:∀b xs,H b=some (.tup xs)->H' b=some (.tup xs)) (frzs:∀b o u,H b=some (.frz o u)->H' b=some (.frz o u)) (tbls:∀b ps,H b=some (.tbl ps)->∃more,H' b=some (.tbl (ps++more)))
  (ns:∀m,s.heap.Ns X.env.locals m->h'.Ns X.env.locals m) (hok:kb X.prog X.w H' h') (hg:AllBare g') :
  Inv X ai σ H' { s with heap:=h',gens:=g',drawn:=d',toks:=t' }:=by
 have MD:∀b o,X.s₀.heap.get? b=some o->b≠X.env.locals:=λb o e=>bj (bt (aG e) I.ok.above)
 have FX:∀b o,X.s₀.heap.get? b=some o->b∉X.ex->b∉ch:=λb o e hx hb=>by
  rcases(lO b hb).1 with z|z
  ·exact hx z
  ·exact absurd (bt (aG e) z) (ef _)
 have cellK:∀x c,X.env.cells.lookup x=some c->∀v,s.heap.IsCell c v->h'.IsCell c v:=λx c e v ⟨o,ho,hd⟩=>by
  have DL:c∉ch:=λz=>(lO c z).2.2.1 x c e rfl
  by_cases hc:c∈X.fs
  ·obtain⟨sl,q⟩:=slot c o (I.cne x c e) hc DL ho (I.freeC x c e)
   exact⟨_,q,hd⟩
  ·exact⟨o,keep c o (I.cne x c e) hc DL ho (I.freeC x c e),hd⟩
 refine⟨I.ok,I.os,hg,⟨λb o e n hb hx=>?_,λb o e n hb hx=>?_,λb o e n hx=>?_,λb o e hx=>?_,λb xs e=>tups b xs (I.base.tups b xs e),λb o xs e=>frzs b o xs (I.base.frzs b o xs e),λb ps e=>?_⟩,?_,λx c e=>?_,?_,λx c e=>?_,λp hp=>?_,hok,I.len⟩
 ·exact keep b o (MD b o e) hb (FX b o e hx) (I.base.keep b o e n hb hx) (I.base.free b o e n hx)
 ·obtain⟨sl,e1⟩:=I.base.slot b o e n hb hx
  obtain⟨T7,e2⟩:=slot b _ (MD b o e) hb (FX b o e hx) e1 (I.base.free b o e n hx)
  exact⟨T7,e2⟩
 ·obtain⟨o',e1⟩:=I.base.there b o e hx
  exact free b o' (FX b o e hx) e1 (I.base.free b o e n hx)
 ·obtain⟨o',e1⟩:=I.base.there b o e hx
  exact there b o' (FX b o e hx) e1
 ·obtain⟨m1,e1⟩:=I.base.tbls b ps e
  obtain⟨m2,e2⟩:=tbls b _ e1
  exact⟨m1++m2,by rw[e2,pE]⟩
 ·obtain⟨m,hn,hl⟩:=I.loc
  refine⟨m,ns m hn,λi x v e1 e2 e3=>?_⟩
  obtain⟨u,r,l⟩:=hl i x v e1 e2 e3
  refine⟨u,r,?_⟩
  rcases l with l|⟨k,c,e,z⟩
  ·exact .inl l
  ·exact .inr ⟨k,c,e,cellK x c e _ z⟩
 ·obtain⟨v,z⟩:=I.cell x c e
  exact⟨v,cellK x c e v z⟩
 ·obtain⟨m,⟨o,_,_,ho,_⟩,_⟩:=I.loc
  exact free _ o (λz=>(lO _ z).2.1 rfl) ho I.free
 ·obtain⟨v,o,ho,hd⟩:=I.cell x c e
  exact free c o (λz=>(lO c z).2.2.1 x c e rfl) ho (I.freeC x c e)
 ·obtain⟨e,n,ne,nf,d⟩:=I.pin p hp
  have DL:p.1∉ch:=λz=>(lO p.1 z).2.2.2 p hp rfl
  exact⟨keep p.1 p.2 ne nf DL e n,free p.1 p.2 DL e n,ne,nf,d⟩
theorem Inv.un {t':Nat}(I:Inv X ai σ H s)(u:Un X.fs [] H H' s.heap h')(hok:kb X.prog X.w H' h'):Inv X ai σ H' { s with heap:=h',toks:=t' }:=by
 obtain⟨m,⟨o,es,ep,ho,r⟩,_⟩:=id I.loc
 obtain⟨sl,hL⟩:=u.any ho I.free (by simp)
 exact I.step (g':=s.gens) (d':=s.drawn) (ch:=[]) (λ_ z=>nomatch z) (λb o _ hb _ e n=>u.keep b o e n hb (by simp)) (λb o _ hb _ e n=>u.slot b o e n hb (by simp)) (λb o _ e n=>u.free b o e n (by simp)) (λb o _ e=>u.there b o e (by simp)) u.tups u.frzs u.tbls (λm' hm=>by
  obtain⟨o',pL,Hv,yP,r'⟩:=hm
  rw[ho]at yP;cases yP
  exact⟨_,pL,Hv,hL,r'⟩) hok I.bare
theorem Inv.call {g':Array GenState}{t':Nat}{d':Drawn}{ch:List af}(I:Inv X ai σ H s)(u:Un (rV X.stack) ch H H' s.heap h')(hok:kb X.prog X.w H' h')(hg:AllBare g')
  (lO:∀b∈ch,(b∈X.ex\/X.s₀.heap.objs.size<=b)/\b≠X.env.locals/\(∀x c,X.env.cells.lookup x=some c->c≠b)/\∀p∈X.pn++ai,p.1≠b) :
  Inv X ai σ H' { s with heap:=h',gens:=g',drawn:=d',toks:=t' }:=by
 obtain⟨m,⟨o,es,ep,ho,r⟩,_⟩:=id I.loc
 obtain⟨sl,hL⟩:=u.any ho I.free λz=>(lO _ z).2.1 rfl
 exact I.step (ch:=ch) lO (λb o hL hb hc e n=>u.keep b o e n (λz=>(av.mp (I.stkSub b z)).elim hL hb) hc) (λb o _ _ hc e n=>u.any e n hc) (λb o hc e n=>u.free b o e n hc) (λb o hc e=>u.there b o e hc) u.tups u.frzs u.tbls (λm' hm=>by
  obtain⟨o',pL,Hv,yP,r'⟩:=hm
  rw[ho]at yP;cases yP
  exact⟨_,pL,Hv,hL,r'⟩) hok hg
theorem Inv.turned {t':Nat}{it:af}(I:Inv X ai σ H s)(k:∀b o,b≠it->s.heap.get? b=some o->h'.get? b=some o)(hn:H it=none)(hL:it≠X.env.locals)
  (h1:it∈X.ex\/X.s₀.heap.objs.size<=it) (h2:∀x c,X.env.cells.lookup x=some c->c≠it) (h3:∀p∈X.pn++ai,p.1≠it):Inv X ai σ H { s with heap:=h',toks:=t' }:=by
 have ME:∀b u,H b=some u->b≠it:=λb u e z=>by rw[z,hn]at e;cases e
 refine I.step (g':=s.gens) (d':=s.drawn) (ch:=[it]) (λb hb=>?_) (λb o _ _ hc e _=>k b o (λz=>hc (by simp[z])) e) (λb o _ _ hc e _=>⟨o.slots,k b o (λz=>hc (by simp[z])) e⟩) (λ_ _ _ _ n=>n)
  (λb o hc e=>⟨o,k b o (λz=>hc (by simp[z])) e⟩) (λ_ _ e=>e) (λ_ _ _ e=>e) (λb ps e=>⟨#[],by rw[e];simp⟩) (λm hm=>?_) (λb u e=>?_) I.bare
 ·have e:b=it:=by simpa using hb
  subst e
  exact⟨h1,hL,h2,h3⟩
 ·obtain⟨o,es,ep,ho,r⟩:=hm
  exact⟨o,es,ep,k _ o (Ne.symm hL) ho,r⟩
 ·refine(I.hok b u e).stay (λc v hc q=>k c v ?_ q) (λ_ q=>q) λ_ _ q=>q
  rcases hc with z|z
  ·rw[z];exact ME b u e
  ·exact ME c _ z
theorem Inv.tok (I:Inv X ai σ H s)(t:Nat):Inv X ai σ H { s with toks:=t }:=I.un (h':=s.heap) (t':=t) Un.refl I.hok
theorem Inv.kept {t':Nat}(I:Inv X ai σ H s)(k:∀b u,s.heap.get? b=some u->h'.get? b=some u):Inv X ai σ H { s with heap:=h',toks:=t' }:=I.un (Un.kept k) (I.hok.kept k)
theorem Inv.laid {a:af}{o:HO}{t':Nat}(I:Inv X ai σ H s)(k:∀b u,s.heap.get? b=some u->h'.get? b=some u)(hp:s.heap.objs.size<=a)(new:dI X.prog X.w (upd H a o) h' a o) :
  Inv X ai σ (upd H a o) { s with heap:=h',toks:=t' }:=I.un (Un.laid k hp (I.hok.fresh hp)) (I.hok.laid k hp new)
theorem Inv.write {x e:af}{o:HO}{t':Nat}(I:Inv X ai σ H s)(mu:AR (H x))(he:e=x\/H e=some (.own x))(k:∀b u,b≠e->s.heap.get? b=some u->h'.get? b=some u)(Am:∃u,h'.get? e=some u)
  (new:dI X.prog X.w (upd H x o) h' x o):Inv X ai σ (upd H x o) { s with heap:=h',toks:=t' }:=I.un (Un.write mu he k Am) (I.hok.write mu he k Am new)
theorem Inv.weak {σ':List (Option V)}(I:Inv X ai σ H s)(hl:σ'.length = σ.length)(w:∀(i:Nat) v,σ'[i]?=some (some v)->σ[i]?=some (some v)):Inv X ai σ' H s :=
 ⟨I.ok,I.os,I.bare,I.base,let⟨m,hn,IE⟩:=I.loc;⟨m,hn,λi x v e1 e2 e3=>IE i x v e1 (w i v e2) e3⟩,I.cell,I.free,I.freeC,I.pin,I.hok,hl.trans I.len⟩
theorem Inv.pins_of {vR:List (af×cJ)}(I:Inv X ai σ H s)(h:∀p∈vR,s.heap.get? p.1=some p.2/\H p.1=none/\p.1≠X.env.locals/\p.1∉X.fs/\∀v,p.2.data≠.cell v):Inv X vR σ H s :=
 ⟨I.ok,I.os,I.bare,I.base,I.loc,I.cell,I.free,I.freeC,λp hp=>(aU.mp hp).elim (λz=>I.pin p (bx _ z)) (h p),I.hok,I.len⟩
theorem Of {N:List aP}(hN:N.Nodup){i j:Nat}{x:aP}(a:N[i]?=some x)(b:N[j]?=some x):i=j:=by
 obtain⟨h1,e1⟩:=aX.mp a
 obtain⟨h2,e2⟩:=aX.mp b
 exact(lA hN).mp (e1.trans e2.symm)
theorem NN {M:Model}{A:bo}{E:aa->ah->Prop}{i:Nat}{x:aP}{v:V}{u:aa}{Q:Unit->ah->Prop}(I:Inv X ai σ H s)(hN:X.N.Nodup)(hi:X.N[i]?=some x)(hx:Loc X.env.scope x)(r:RelV v u)
  (h:∀s',Inv X ai (σ.set i (some v)) H s'->(∃a,cm a s.heap s'.heap/\(a=X.env.locals\/X.env.cells.lookup x=some a))->Q () s') (hf:X.fn x=true\/X.env.scope.names.lookup x=some .local:=by first|exact .inl rfl|exact .inr rfl|assumption):aQ M A (storeName X.env x u) Q E s:=by
 obtain⟨m,hn,hl⟩:=id I.loc
 have Ij:(X.env.scope.kind==.class || (X.env.scope.kind==.module&&X.env.locals != X.env.globals))=false:=by rw[I.ok.kind];rfl
 have L1:i < σ.length:=by rw[I.len];exact(aX.mp hi).1
 have cne:=I.cne
 have tracked:∀{a:af} {h':aI},(∃o,s.heap.get? a=some o/\H a=none)->cm a s.heap h'->kb X.prog X.w H h':=λ{a h'} ha hs b ob e=>by
  obtain⟨_,_,uY⟩:=ha
  refine(I.hok b ob e).stay (λc w' hc q=>(hs.2 c ?_).trans q) (λ_ q=>q) λ_ _ q=>q
  rintro rfl
  rcases hc with rfl|hc
  ·rw[uY]at e;cases e
  ·rw[uY]at hc;cases hc
 rcases hx with hk|hk
 ·refine wpAny_storeName_local hk hn (λh' IH hs=>?_) Ij
  obtain⟨oL,_,_,qI,_⟩:=id hn
  refine h _ ⟨I.ok,I.os,I.bare,⟨λb o e n hb hx=>?_,λb o e n hb hx=>?_,I.base.free,λb o e hx=>?_,I.base.tups,I.base.frzs,I.base.tbls⟩,⟨_,IH,λj y v' e1 e2 e3=>?_⟩,λy c e=>?_,I.free,I.freeC,λp hp=>?_,tracked ⟨oL,qI,I.free⟩ hs,by simpa using I.len⟩ ⟨_,hs,.inl rfl⟩
  ·exact(hs.2 b (bj (bt (aG e) I.ok.above))).trans (I.base.keep b o e n hb hx)
  ·obtain⟨sl,e1⟩:=I.base.slot b o e n hb hx
   exact⟨sl,(hs.2 b (bj (bt (aG e) I.ok.above))).trans e1⟩
  ·obtain⟨o',e1⟩:=I.base.there b o e hx
   exact⟨o',(hs.2 b (bj (bt (aG e) I.ok.above))).trans e1⟩
  ·by_cases hj:j=i
   ·subst hj
    rw[hi]at e1;cases e1
    rw[cx L1]at e2
    cases e2
    exact⟨u,r,.inl ⟨hk,by simp⟩⟩
   ·rw[eu (Ne.symm hj)]at e2
    obtain⟨u',r',q⟩:=hl j y v' e1 e2 e3
    refine⟨u',r',?_⟩
    rcases q with⟨k,e⟩|⟨k,c,e,z⟩
    ·refine .inl ⟨k,?_⟩
     have:y≠x:=λe=>hj (Of hN e1 (e▸hi))
     simp[this,e]
    ·exact .inr ⟨k,c,e,z.sameBut hs (cne y c e)⟩
  ·obtain⟨w',z⟩:=I.cell y c e
   exact⟨w',z.sameBut hs (cne y c e)⟩
  ·obtain⟨e,n,ne,nf,d⟩:=I.pin p hp
   exact⟨(hs.2 p.1 ne).trans e,n,ne,nf,d⟩
 ·have An:X.fn x=true:=by
   rcases hf with z|z
   ·exact z
   ·rw[z]at hk;cases hk
  obtain⟨c,hc⟩:=I.ok.has x (.inl hk)
  obtain⟨w',z⟩:=I.cell x c hc
  refine wpAny_storeName_cell I.ok.kind hk hc z (λh' uV hs=>?_)
  obtain⟨oc,L9,IK⟩:=id z
  refine h { s with heap:=h' } ⟨I.ok,I.os,I.bare,⟨λb o e n hb hx=>?_,λb o e n hb hx=>?_,I.base.free,λb o e hx=>?_,I.base.tups,I.base.frzs,I.base.tbls⟩,⟨m,hn.sameBut hs (Ne.symm (cne x c hc)),λj y v' e1 e2 e3=>?_⟩,λy c' e=>?_,I.free,I.freeC,λp hp=>?_,tracked ⟨oc,L9,I.freeC x c hc⟩ hs,by simpa using I.len⟩ ⟨c,hs,.inr hc⟩
  ·exact(hs.2 b (bj (bt (aG e) (I.ok.cab x c An hc)))).trans (I.base.keep b o e n hb hx)
  ·obtain⟨sl,e1⟩:=I.base.slot b o e n hb hx
   exact⟨sl,(hs.2 b (bj (bt (aG e) (I.ok.cab x c An hc)))).trans e1⟩
  ·obtain⟨o',e1⟩:=I.base.there b o e hx
   exact⟨o',(hs.2 b (bj (bt (aG e) (I.ok.cab x c An hc)))).trans e1⟩
  ·by_cases hj:j=i
   ·subst hj
    rw[hi]at e1;cases e1
    rw[cx L1]at e2
    cases e2
    exact⟨u,r,.inr ⟨.inl hk,c,hc,uV⟩⟩
   ·rw[eu (Ne.symm hj)]at e2
    obtain⟨u',r',q⟩:=hl j y v' e1 e2 e3
    refine⟨u',r',?_⟩
    rcases q with q|⟨k,c',e,z'⟩
    ·exact .inl q
    ·refine .inr ⟨k,c',e,z'.sameBut hs ?_⟩
     rintro rfl
     exact hj (Of hN e1 (I.ok.inj _ _ _ e hc▸hi))
  ·by_cases LW:c'=c
   ·subst LW;exact⟨_,uV⟩
   ·obtain⟨w2,z2⟩:=I.cell y c' e
    exact⟨w2,z2.sameBut hs LW⟩
  ·obtain⟨e,n,ne,nf,d⟩:=I.pin p hp
   refine⟨(hs.2 p.1 ?_).trans e,n,ne,nf,d⟩
   intro q
   rw[q,L9]at e
   have q':oc=p.2:=Option.some.inj e
   exact d w' (by rw[←q'];exact IK)
theorem ET {M:Model}{A:bo}{E:aa->ah->Prop}{i:Nat}{x:aP}{v:V}{u:aa}{Q:Unit->ah->Prop}(I:Inv X ai σ H s)(hN:X.N.Nodup)(hi:X.N[i]?=some x)(hx:Loc X.env.scope x)(r:RelV v u)
  (h:∀s',Inv X ai (σ.set i (some v)) H s'->Q () s') (hf:X.fn x=true\/X.env.scope.names.lookup x=some .local:=by first|exact .inl rfl|exact .inr rfl|assumption):aQ M A (storeName X.env x u) Q E s :=
 NN I hN hi hx r (λs' I' _=>h s' I') hf
theorem Inv.call' {s':ah}{ch:List af}(I:Inv X ai σ H s)(ho:s'.os=s.os)(u:Un (rV X.stack) ch H H' s.heap s'.heap)(hok:kb X.prog X.w H' s'.heap)(hg:AllBare s'.gens)
  (lO:∀b∈ch,(b∈X.ex\/X.s₀.heap.objs.size<=b)/\b≠X.env.locals/\(∀x c,X.env.cells.lookup x=some c->c≠b)/\∀p∈X.pn++ai,p.1≠b):Inv X ai σ H' s':=by
 obtain⟨h',g',d',t',o'⟩:=s'
 have e:o'=s.os:=ho
 subst e
 exact I.call (g':=g') (t':=t') (d':=d') u hok hg lO
end
abbrev XK:=aa->Option af->Hp->Prop
abbrev St:=List (Option V)
abbrev VK:=V->Hp->Prop
abbrev TE:=St->Hp->VK->Prop
abbrev TT:=St->Hp->(Bool->Hp->Prop)->Prop
abbrev TA:=St->Hp->(List V->Hp->Prop)->Prop
structure lF where
 nx:St->Hp->Prop
 rt:VK
 bk:St->Hp->Prop:=λ_ _=>False
 ct:St->Hp->Prop:=λ_ _=>False
abbrev TS:=lF->St->Hp->Prop
def EP (X:Cx)(ai:List (af×cJ))(σ:St)(Q:VK)(u:aa)(s':ah):Prop:=∃v H',Inv X ai σ H' s'/\RelV v u/\Q v H'
def TP (X:Cx)(ai:List (af×cJ))(σ:St)(Q:Bool->Hp->Prop)(b:Bool)(s':ah):Prop:=∃H',Inv X ai σ H' s'/\Q b H'
def AP (X:Cx)(ai:List (af×cJ))(σ:St)(Q:List V->Hp->Prop)(us:List aa)(s':ah):Prop:=∃vs H',Inv X ai σ H' s'/\bR vs us/\Q vs H'
def SP (X:Cx)(ai:List (af×cJ))(D:lF)(f:Flow)(s':ah):Prop :=
 match f with
 |.next=>∃σ' H',Inv X ai σ' H' s'/\D.nx σ' H'
 |.brk=>∃σ' H',Inv X ai σ' H' s'/\D.bk σ' H'
 |.cont=>∃σ' H',Inv X ai σ' H' s'/\D.ct σ' H'
 |.ret u=>∃v σ' H',Inv X ai σ' H' s'/\RelV v u/\D.rt v H'
def PE (X:Cx)(e:Expr)(t:TE):Prop :=
 ∀(ai:List (af×cJ)) (s:ah) (σ:St) (H:Hp) (Q:VK),Inv X ai σ H s->t σ H Q->aQ (aS X.prog X.w) X.A (bS e X.env) (EP X ai σ Q) X.xe s
def PT (X:Cx)(e:Expr)(t:TT):Prop :=
 ∀(ai:List (af×cJ)) (s:ah) (σ:St) (H:Hp) (Q:Bool->Hp->Prop),Inv X ai σ H s->t σ H Q->aQ (aS X.prog X.w) X.A (qW e X.env (bS e X.env)) (TP X ai σ Q) X.xe s
def PW (X:Cx)(e:Expr)(t:TT):Prop :=
 ∀(whole:ip aa) (ai:List (af×cJ)) (s:ah) (σ:St) (H:Hp) (Q:Bool->Hp->Prop),Inv X ai σ H s->t σ H Q->aQ (aS X.prog X.w) X.A (qW e X.env whole) (TP X ai σ Q) X.xe s
theorem PW.pt {X:Cx}{e:Expr}{t:TT}(h:PW X e t):PT X e t:=h _
def PA (X:Cx)(es:List Expr)(t:TA):Prop :=
 ∀(pos:cB) (ai:List (af×cJ)) (s:ah) (σ:St) (H:Hp) (Q:List V->Hp->Prop),Inv X ai σ H s->t σ H Q->aQ (aS X.prog X.w) X.A (spliced (cL pos (ay es X.env))) (AP X ai σ Q) X.xe s
def PS (X:Cx)(st:bG)(t:TS):Prop :=
 ∀(ai:List (af×cJ)) (s:ah) (σ:St) (H:Hp) (D:lF),Inv X ai σ H s->t D σ H->aQ (aS X.prog X.w) X.A (exec st X.env) (SP X ai D) X.xe s
def pI (X:Cx)(st:List bG)(t:TS):Prop :=
 ∀(ai:List (af×cJ)) (s:ah) (σ:St) (H:Hp) (D:lF),Inv X ai σ H s->t D σ H->aQ (aS X.prog X.w) X.A (execs st X.env) (SP X ai D) X.xe s
theorem dk {α:Type}{t:ip α}{Q Q':α->ah->Prop}{M:Model}{A:bo}{E:aa->ah->Prop}{s:ah}(h:aQ M A t Q E s)(hQ:∀a s,Q a s->Q' a s):aQ M A t Q' E s:=dX h hQ λ_ _ x=>x
end L2
namespace L2
open PySem PySem.Spec PyProof.Rows
section
variable {X:Cx}
theorem bin {a b:Expr}{ta tb:TE}(ha:PE X a ta)(hb:PE X b tb){ai:List (af×cJ)}{s:ah}{σ:St}{H:Hp}{R:V->V->Hp->Prop}(I:Inv X ai σ H s)(h:ta σ H λx H1=>tb σ H1 λy H2=>R x y H2)
  {α:Type} {Q:α->ah->Prop} {f:aa->aa->ip α}
  (hf:∀v u s2 x y H2,Inv X ai σ H2 s2->RelV x v->RelV y u->R x y H2->aQ (aS X.prog X.w) X.A (f v u) Q X.xe s2) :
  aQ (aS X.prog X.w) X.A (bS a X.env) (λv s₁=>aQ (aS X.prog X.w) X.A (bS b X.env) (λu s₂=>aQ (aS X.prog X.w) X.A (f v u) Q X.xe s₂) X.xe s₁) X.xe s:=by
 refine dk (ha ai s σ H _ I h) λv s1 dq=>?_
 obtain⟨x,H1,I1,r1,q1⟩:=dq
 refine dk (hb ai s1 σ H1 _ I1 q1) λu s2 dq=>?_
 obtain⟨y,H2,I2,r2,q2⟩:=dq
 exact hf v u s2 x y H2 I2 r1 r2 q2
def JL (i:Nat):TE:=λσ H Q=>∃v,σ[i]?=some (some v)/\Q v H
def tC (v:V):TE:=λ_ H Q=>Q v H
theorem jz {i:Nat}{x:aP}{pos:cB}(hN:X.N[i]?=some x)(hv:pJ X.env.scope x)(hd:(x==("__debug__":aP))=false:=by decide)(iU:(x==("__classdict__":aP))=false:=by decide):PE X (.Name x pos) (JL i):=by
 intro ai s σ H Q I h
 obtain⟨v,e,h⟩:=h
 obtain⟨m,hn,hl⟩:=I.loc
 obtain⟨u,r,l⟩:=hl i x v hN e hv
 have fin:EP X ai σ Q u s:=⟨v,H,I,r,h⟩
 rcases l with⟨hk,hm⟩|⟨hk,c,hc,pO⟩
 ·exact uN (wpAny_loadName_local I.ok.kind hk hn hm fin) hd
 ·rcases hk with hk|hk
  ·exact uN (wpAny_loadName_cell I.ok.kind hk hc pO fin) hd
  ·exact uN (wpAny_loadName_free I.ok.kind hk hc pO fin iU) hd
theorem Zi {i j pos}:PE X (.Constant (.int i) j pos) (tC (.int i)):=λ_ _ _ H _ I h=>wpAny_Constant_int ⟨.int i,H,I.tok _,⟨_,rfl⟩,h⟩
theorem ztw {b j pos}:PE X (.Constant (.bool b) j pos) (tC (.bl b)):=λ_ _ _ H _ I h=>Constant_bool ⟨.bl b,H,I,rfl,h⟩
theorem Zj {j pos}:PE X (.Constant .none j pos) (tC .non):=λ_ _ _ H _ I h=>Constant_none ⟨.non,H,I,rfl,h⟩
theorem Zk {x j pos}:PE X (.Constant (.str x) j pos) (tC (.str x)):=λ_ _ _ H _ I h=>Calls.Constant_str ⟨.str x,H,I.tok _,⟨_,rfl⟩,h⟩
def Gl (X:Cx)(x:aP):Prop:=X.env.kindOf x=some .globalImplicit
theorem Gv {E:aa->ah->Prop}{ai:List (af×cJ)}{s:ah}{σ:St}{H:Hp}{x:aP}{u:aa}{pos:cB}{Q:aa->ah->Prop}(I:Inv X ai σ H s)(hg:Gl X x)(hm:X.mg x=some u)(h:Q u s)
  (hd:(x==("__debug__":aP))=false:=by decide):aQ (aS X.prog X.w) X.A (bS (.Name x pos) X.env) Q E s :=
 Calls.Name_function_global I.ok.kind hg (Calls.loadGlobal_global (by rw[I.ok.glob];exact I.mod.glob.keeps I.bk) hm h) hd
theorem Ab {E:aa->ah->Prop}{ai:List (af×cJ)}{s:ah}{σ:St}{H:Hp}{x:aP}{u:aa}{pos:cB}{Q:aa->ah->Prop}(I:Inv X ai σ H s)(hg:Gl X x)(hm:X.mg x=none)(hv:bN x=some u)(h:Q u s)
  (hn:x≠"__name__":=by decide) (hd:(x==("__debug__":aP))=false:=by decide):aQ (aS X.prog X.w) X.A (bS (.Name x pos) X.env) Q E s:=by
 obtain⟨mb,h1,h2⟩:=I.mod.blt
 exact Calls.Name_function_global I.ok.kind hg (Calls.loadGlobal_builtin (by rw[I.ok.glob];exact I.mod.glob.keeps I.bk) hm (by rw[I.ok.blt];exact h1.keeps I.bk) ((h2 x hn).trans hv) h) hd
theorem OE {x:aP}{v:V}{u:aa}{pos:cB}(hg:Gl X x)(hm:X.mg x=some u)(r:RelV v u)(hd:(x==("__debug__":aP))=false:=by decide):PE X (.Name x pos) (tC v) :=
 λ_ _ _ H _ I h=>Gv I hg hm ⟨v,H,I,r,h⟩ hd
theorem Yq {x:aP}{v:V}{u:aa}{pos:cB}(hg:Gl X x)(hm:X.mg x=none)(hv:bN x=some u)(r:RelV v u)(hn:x≠"__name__":=by decide)(hd:(x==("__debug__":aP))=false:=by decide):PE X (.Name x pos) (tC v) :=
 λ_ _ _ H _ I h=>Ab I hg hm hv ⟨v,H,I,r,h⟩ hn hd
variable {a b:Expr}{ta tb:TE}{pos:cB}
def PC (X:Cx)(op:lE)(a b:Expr)(t:TE):Prop :=
 ∀(ai:List (af×cJ)) (s:ah) (σ:St) (H:Hp) (Q:VK),Inv X ai σ H s->t σ H Q ->
  aQ (aS X.prog X.w) X.A (bS a X.env) (λv s₁=>aQ (aS X.prog X.w) X.A (bS b X.env) (λu s₂=>aQ (aS X.prog X.w) X.A (cE op v u) (EP X ai σ Q) X.xe s₂) X.xe s₁) X.xe s
theorem sA (b:Expr){op:lE}(h:op≠.In)(h2:op≠.NotIn):dF op b=false:=by
 have e1:(op==lE.In)=false:=by cases op<;>first|rfl|exact absurd rfl h
 have e2:(op==lE.NotIn)=false:=by cases op<;>first|rfl|exact absurd rfl h2
 cases b<;>simp[dF,e1,e2]
def tB (t:TE):TT:=λσ H Q=>t σ H λx H1=>∃c,x=.bl c/\Q c H1
theorem ZS {op:lE}{t:TE}(h:PC X op a b t)(h1:dF op b=false:=by first|exact sA _ (by decide) (by decide)|rfl):PT X (.Compare a [op] [b] pos) (tB t):=by
 intro ai s σ H Q I hw
 refine wpAny_isTrue_Compare1 (dk (h ai s σ H _ I hw) λv s1 h1=>dk h1 λu s2 h2=>dk h2 λc s3 ⟨x,H1,I1,r1,q1⟩=>?_) h1
 obtain⟨d,rfl,q⟩:=q1
 cases r1
 exact dU ⟨H1,I1,q⟩
theorem ZT {e:Expr}{t:TE}(h:PE X e t)(he:∀whole,qW e X.env whole=(do let v ← whole;gu e.pos;d6 [v] (truthy v)):=by intro _;rfl):PT X e (tB t):=by
 intro ai s σ H Q I hw
 refine isTrue_plain (dk (h ai s σ H _ I hw) λv s1 ⟨x,H1,I1,r1,q1⟩=>?_) (he _)
 obtain⟨d,rfl,q⟩:=q1
 cases r1
 exact dU ⟨H1,I1,q⟩
variable {tA Gb:TT}{rest:List Expr}
def Jy (t u:TT):TT:=λσ H Q=>t σ H λc H1=>if c=true then u σ H1 Q else Q false H1
def UI (t u:TT):TT:=λσ H Q=>t σ H λc H1=>if c=true then Q true H1 else u σ H1 Q
def JF (t:TT):TT:=λσ H Q=>t σ H λc H1=>Q (!c) H1
theorem Yr (ha:PT X a tA):PW X (.BoolOp .And [a] pos) tA:=by
 intro wh ai s σ H Q I h
 refine isTrue_and (dk (ha ai s σ H Q I h) λc s1 e=>?_)
 cases c with
 |true=>exact isTrue_and_nil e
 |false=>exact e
theorem ZU (ha:PT X a tA):PW X (.BoolOp .Or [a] pos) tA:=by
 intro wh ai s σ H Q I h
 refine isTrue_or (dk (ha ai s σ H Q I h) λc s1 e=>?_)
 cases c with
 |false=>exact isTrue_or_nil e
 |true=>exact e
theorem ZV (ha:PT X a tA)(hb:PW X (.BoolOp .And (b::rest) pos) Gb):PW X (.BoolOp .And (a::b::rest) pos) (Jy tA Gb):=by
 intro wh ai s σ H Q I h
 refine isTrue_and (dk (ha ai s σ H _ I h) λc s1 dq=>?_)
 obtain⟨H1,I1,q1⟩:=dq
 cases c with
 |true=>exact hb wh ai s1 σ H1 Q I1 q1
 |false=>exact⟨H1,I1,q1⟩
theorem ztx (ha:PT X a tA)(hb:PW X (.BoolOp .Or (b::rest) pos) Gb):PW X (.BoolOp .Or (a::b::rest) pos) (UI tA Gb):=by
 intro wh ai s σ H Q I h
 refine isTrue_or (dk (ha ai s σ H _ I h) λc s1 dq=>?_)
 obtain⟨H1,I1,q1⟩:=dq
 cases c with
 |true=>exact⟨H1,I1,q1⟩
 |false=>exact hb wh ai s1 σ H1 Q I1 q1
theorem ZW (ha:PT X a tA):PT X (.UnaryOp .Not a pos) (JF tA):=by
 intro ai s σ H Q I h
 exact isTrue_not (ha ai s σ H (λc H1=>Q (!c) H1) I h)
def ED (ta tb:TE):TE:=λσ H Q=>ta σ H λx H1=>∃c,x=.bl c/\if c=true then tb σ H1 Q else Q (.bl false) H1
def JG (ta tb:TE):TE:=λσ H Q=>ta σ H λx H1=>∃c,x=.bl c/\if c=true then Q (.bl true) H1 else tb σ H1 Q
def EL (ta:TE):TE:=λσ H Q=>ta σ H λx H1=>∃c,x=.bl c/\Q (.bl (!c)) H1
theorem ZX {op}{t:TE}(h:PE X a t):PE X (.BoolOp op [a] pos) t:=λai s σ H Q I hw=>BoolOp_one (h ai s σ H Q I hw)
theorem ZY (ha:PE X a ta)(hb:PE X (.BoolOp .And (b::rest) pos) tb):PE X (.BoolOp .And (a::b::rest) pos) (ED ta tb):=by
 intro ai s σ H Q I h
 refine BoolOp_and (dk (ha ai s σ H _ I h) λv s1 dq=>?_)
 obtain⟨x,H1,I1,r1,q1⟩:=dq
 obtain⟨c,rfl,q1⟩:=q1
 cases r1
 refine dU ?_
 cases c with
 |true=>exact hb ai s1 σ H1 Q I1 q1
 |false=>exact⟨.bl false,H1,I1,rfl,q1⟩
theorem zty (ha:PE X a ta)(hb:PE X (.BoolOp .Or (b::rest) pos) tb):PE X (.BoolOp .Or (a::b::rest) pos) (JG ta tb):=by
 intro ai s σ H Q I h
 refine BoolOp_or (dk (ha ai s σ H _ I h) λv s1 dq=>?_)
 obtain⟨x,H1,I1,r1,q1⟩:=dq
 obtain⟨c,rfl,q1⟩:=q1
 cases r1
 refine dU ?_
 cases c with
 |false=>exact hb ai s1 σ H1 Q I1 q1
 |true=>exact⟨.bl true,H1,I1,rfl,q1⟩
theorem ZZ (ha:PE X a ta):PE X (.UnaryOp .Not a pos) (EL ta):=by
 intro ai s σ H Q I h
 refine UnaryOp_ (dk (ha ai s σ H _ I h) λv s1 dq=>?_)
 obtain⟨x,H1,I1,r1,q1⟩:=dq
 obtain⟨c,rfl,q1⟩:=q1
 cases r1
 exact not_of (dU ⟨.bl (!c),H1,I1,rfl,q1⟩)
def UH (t:TT)(ta tb:TE):TE:=λσ H Q=>t σ H λc H1=>if c=true then ta σ H1 Q else tb σ H1 Q
theorem Xf {c:Expr}(hc:PT X c tA)(ha:PE X a ta)(hb:PE X b tb):PE X (.IfExp c a b pos) (UH tA ta tb):=by
 intro ai s σ H Q I h
 refine wpAny_IfExp (dk (hc ai s σ H _ I h) λd s1 dq=>?_)
 obtain⟨H1,I1,q1⟩:=dq
 cases d with
 |true=>exact ha ai s1 σ H1 Q I1 q1
 |false=>exact hb ai s1 σ H1 Q I1 q1
end
end L2
namespace L2
open PySem PySem.Spec PyProof.Rows
def eR (K:ae)(H:Hp)(a:af)(xs:List V):Prop :=
 Rd H a (.lst xs) \/
  ∃(o:cJ) (bT:Array aa) (n:Nat),K.lookup a=some o/\o.cls=.type "list"/\o.dict=none/\o.data=.seq bT n/\bT.size<=sizeLine/\bR xs bT.toList
def kx (K:ae)(H:Hp)(a:af)(xs:List V):Prop :=
 Rd H a (.tup xs) \/
  ∃(o:cJ) (bT:Array aa) (n:Nat),K.lookup a=some o/\o.cls=.type "tuple"/\o.data=.seq bT n/\bT.size<=sizeLine/\bR xs bT.toList
def G0:aa->Option V
 |.none=>some .non
 |.bool b=>some (.bl b)
 |.int i _=>some (.int i)
 |.str x _=>some (.str x)
 |.bytes b _=>some (.byt b)
 |.float b _=>some (.flt b)
 |.ref a=>some (.ref a)
 |.type n=>some (.ty n)
 |_=>none
theorem RelV.abs {x:V}{u:aa}(r:RelV x u):G0 u=some x:=by
 cases x with
 |non=>cases r;rfl
 |bl _=>cases r;rfl
 |int _=>obtain⟨t,rfl⟩:=r;rfl
 |str _=>obtain⟨t,rfl⟩:=r;rfl
 |byt _=>obtain⟨t,rfl⟩:=r;rfl
 |flt _=>obtain⟨t,rfl⟩:=r;rfl
 |ref _=>cases r;rfl
 |ty _=>cases r;rfl
theorem RelV.inj {x y:V}{u:aa}(r:RelV x u)(q:RelV y u):x=y:=Option.some.inj (r.abs.symm.trans q.abs)
theorem bR.inj:∀{xs ys:List V} {us:List aa},bR xs us->bR ys us->xs=ys
 |_,_,_,.nil,.nil=>rfl
 |_,_,_,.cons r t,.cons r' t'=>by rw[r.inj r',bR.inj t t']
section
variable {X:Cx}{ai:List (af×cJ)}{σ:St}{H:Hp}{s:ah}{a:af}{xs ys:List V}
theorem eR.of {K:ae}(h:H a=some (.lst xs)):eR K H a xs:=.inl (.inl h)
theorem kx.of {K:ae}(h:H a=some (.tup xs)):kx K H a xs:=.inl (.inl h)
theorem Inv.list (I:Inv X ai σ H s)(h:eR X.K H a xs):∃bT:List aa,bR xs bT/\PlainL s.heap a bT.toArray/\xs.length<=sizeLine:=by
 rcases h with h|⟨o,bT,n,hk,hc,hd,hs,hz,r⟩
 ·obtain⟨z,bT,n,r,e⟩:=h.ok I.hok
  exact⟨bT,r,⟨_,n,e,rfl,rfl,rfl⟩,z⟩
 ·refine⟨bT.toList,r,⟨o,n,I.kIn a o hk,hc,hd,by simpa using hs⟩,?_⟩
  have e:=r.length
  simp only[aZ]at e
  omega
theorem Inv.tuple (I:Inv X ai σ H s)(h:kx X.K H a xs):∃bT:List aa,bR xs bT/\IsTup s.heap a bT.toArray/\xs.length<=sizeLine:=by
 rcases h with h|⟨o,bT,n,hk,hc,hs,hz,r⟩
 ·obtain⟨z,bT,r,p⟩:=h.ok I.hok
  exact⟨bT,r,p,z⟩
 ·refine⟨bT.toList,r,⟨o,I.kIn a o hk,hc,n,by simpa using hs⟩,?_⟩
  have e:=r.length
  simp only[aZ]at e
  omega
theorem Inv.list_inj (I:Inv X ai σ H s)(h:eR X.K H a xs)(h':eR X.K H a ys):xs=ys:=by
 obtain⟨bT,r,⟨o,n,e,_,_,d⟩,_⟩:=I.list h
 obtain⟨its',r',⟨o',n',e',_,_,d'⟩,_⟩:=I.list h'
 rw[e]at e';cases e'
 rw[d]at d'
 injection d' with d1 _
 have:bT=its':=by simpa using congrArg Array.toList d1
 subst this
 exact r.inj r'
end
abbrev Cx.wish (X:Cx)(E:aa->ah->Prop):Cx:={ X with xe:=E }
abbrev Cx.nox (X:Cx):Cx:=X.wish λ_ _=>False
theorem Cx.Ok.wish {X:Cx}(ok:X.Ok)(E:aa->ah->Prop):(X.wish E).Ok :=
 ⟨ok.mod,ok.kind,ok.glob,ok.blt,ok.above,ok.inj,ok.has,ok.cab,ok.hd,ok.frames,ok.stk,ok.exf,ok.bs,ok.bsz,ok.noex,ok.exfs,ok.funs,ok.frf⟩
theorem Cx.Ok.unwish {X:Cx}{E:aa->ah->Prop}(ok:(X.wish E).Ok):X.Ok :=
 ⟨ok.mod,ok.kind,ok.glob,ok.blt,ok.above,ok.inj,ok.has,ok.cab,ok.hd,ok.frames,ok.stk,ok.exf,ok.bs,ok.bsz,ok.noex,ok.exfs,ok.funs,ok.frf⟩
section
variable {X:Cx}{ai:List (af×cJ)}{σ:St}{H:Hp}{s:ah}{E:aa->ah->Prop}
theorem Inv.wish (I:Inv X ai σ H s)(E:aa->ah->Prop):Inv (X.wish E) ai σ H s:=⟨I.ok.wish E,I.os,I.bare,I.base,I.loc,I.cell,I.free,I.freeC,I.pin,I.hok,I.len⟩
theorem Inv.unwish (I:Inv (X.wish E) ai σ H s):Inv X ai σ H s:=⟨I.ok.unwish,I.os,I.bare,I.base,I.loc,I.cell,I.free,I.freeC,I.pin,I.hok,I.len⟩
theorem SP.unwish {D:lF}{f:Flow}{s':ah}(h:SP (X.wish E) ai D f s'):SP X ai D f s':=by
 cases f with
 |next=>obtain⟨σ',H',I,q⟩:=h;exact⟨σ',H',I.unwish,q⟩
 |brk=>obtain⟨σ',H',I,q⟩:=h;exact⟨σ',H',I.unwish,q⟩
 |cont=>obtain⟨σ',H',I,q⟩:=h;exact⟨σ',H',I.unwish,q⟩
 |ret u=>obtain⟨v,σ',H',I,r,q⟩:=h;exact⟨v,σ',H',I.unwish,r,q⟩
theorem pI.nox {st:List bG}{t:TS}(h:pI X.nox st t):pI X st t:=λai s σ H D I hw=>
 dX (h ai s σ H D (I.wish _) hw) (λ_ _ q=>q.unwish) λ_ _ z=>False.elim z
end
section
variable {X:Cx}{st:bG}{rest:List bG}{t u:TS}{e:Expr}{te:TE}{pos:cB}
def EJ:TS:=λD σ H=>D.nx σ H
def JJ (t u:TS):TS:=λD σ H=>t { D with nx:=u D } σ H
theorem OF:pI X [] EJ:=λ_ _ σ H _ I h=>jS ⟨σ,H,I,h⟩
theorem Xg (h1:PS X st t)(h2:pI X rest u):pI X (st::rest) (JJ t u):=by
 intro ai s σ H D I h
 refine wpAny_execs_cons (dk (h1 ai s σ H { D with nx:=u D } I h) λf s1 q=>?_)
 cases f with
 |next=>
  obtain⟨σ',H',I',q⟩:=q
  exact h2 ai s1 σ' H' D I' q
 |ret v=>exact q
 |brk=>exact q
 |cont=>exact q
theorem Ky (h1:PS X st t):pI X [st] t:=by
 intro ai s σ H D I h
 refine wpAny_execs_cons (dk (h1 ai s σ H D I h) λf s1 q=>?_)
 cases f with
 |next=>exact jS q
 |ret v=>exact q
 |brk=>exact q
 |cont=>exact q
theorem Inv.quiet {ai:List (af×cJ)}{σ:St}{H:Hp}{s:ah}(I:Inv X ai σ H s):interactive X.env=false:=by simp[interactive,I.ok.kind]
def EH (te:TE):TS:=λD σ H=>te σ H λ_ H1=>D.nx σ H1
theorem OG (he:PE X e te)(hs:d8 e none pos.line X.env=pure false:=by rfl):PS X (.Expr e pos) (EH te):=by
 intro ai s σ H D I h
 exact wpAny_Expr_any (dk (he ai s σ H _ I h) λv s1 ⟨x,H1,I1,r1,q1⟩=>⟨σ,H1,I1,q1⟩) I.quiet hs
def JI (te:TE):TS:=λD σ H=>te σ H D.rt
theorem GC (he:PE X e te):PS X (.Return (some e) pos) (JI te):=by
 intro ai s σ H D I h
 exact wpAny_Return_some (dk (he ai s σ H _ I h) λv s1 ⟨x,H1,I1,r1,q1⟩=>⟨x,σ,H1,I1,r1,q1⟩)
def JD (c:TT)(t u:TS):TS:=λD σ H=>c σ H λb H1=>if b=true then t D σ H1 else u D σ H1
theorem PL {c:Expr}{a b:List bG}{tc:TT}(hc:PT X c tc)(ha:pI X a t)(hb:pI X b u):PS X (.If c a b pos) (JD tc t u):=by
 intro ai s σ H D I h
 refine wpAny_If (dk (hc ai s σ H _ I h) λd s1 dq=>?_)
 obtain⟨H1,I1,q1⟩:=dq
 cases d with
 |true=>exact ha ai s1 σ H1 D I1 q1
 |false=>exact hb ai s1 σ H1 D I1 q1
def zU:TS:=λ_ _ _=>False
theorem Xh:PS X st zU:=λ_ _ _ _ _ _ h=>h.elim
end
abbrev TG:=V->St->Hp->(St->Hp->Prop)->Prop
abbrev uP:=List V->St->Hp->(St->Hp->Prop)->Prop
def PG (X:Cx)(target:Expr)(t:TG):Prop :=
 ∀(ai:List (af×cJ)) (s:ah) (σ:St) (H:Hp) (v:V) (u:aa) (Q:St->Hp->Prop),Inv X ai σ H s->RelV v u->t v σ H Q ->
  aQ (aS X.prog X.w) X.A (hG target X.env u) (λ_ s'=>∃σ' H',Inv X ai σ' H' s'/\Q σ' H') X.xe s
def Ah (X:Cx)(ts:List Expr)(t:uP):Prop :=
 ∀(ai:List (af×cJ)) (s:ah) (σ:St) (H:Hp) (vs:List V) (us:List aa) (Q:St->Hp->Prop),Inv X ai σ H s->bR vs us->t vs σ H Q ->
  aQ (aS X.prog X.w) X.A (assignInOrder ((cV ts X.env).map (·.2)) us) (λ_ s'=>∃σ' H',Inv X ai σ' H' s'/\Q σ' H') X.xe s
abbrev rR:=V->V->V->Hp->(Hp->Prop)->Prop
def wK (X:Cx)(t:rR):Prop :=
 ∀(ai:List (af×cJ)) (s:ah) (σ:St) (H:Hp) (o i v:V) (ov iv u:aa) (Q:Hp->Prop),Inv X ai σ H s->RelV o ov->RelV i iv->RelV v u->t o i v H Q ->
  aQ (aS X.prog X.w) X.A (nZ ov iv u) (λ_ s'=>∃H',Inv X ai σ H' s'/\Q H') X.xe s
abbrev Aj:=V->V->Hp->VK->Prop
def Ai (X:Cx)(op:i6)(t:Aj):Prop :=
 ∀(ai:List (af×cJ)) (s:ah) (σ:St) (H:Hp) (x y:V) (v u:aa) (Q:VK),Inv X ai σ H s->RelV x v->RelV y u->t x y H Q ->
  aQ (aS X.prog X.w) X.A (inplaceOp op v u) (EP X ai σ Q) X.xe s
section
variable {X:Cx}{pos:cB}
def pM (i:Nat):TG:=λv σ H Q=>Q (σ.set i (some v)) H
theorem Gw {i:Nat}{x:aP}(hN:X.N.Nodup)(hi:X.N[i]?=some x)(hx:Loc X.env.scope x)(hf:X.fn x=true\/X.env.scope.names.lookup x=some .local:=by first|exact .inl rfl|exact .inr rfl|assumption):PG X (.Name x pos) (pM i):=by
 intro ai s σ H v u Q I r h
 exact wpAny_assign_Name (ET I hN hi hx r (λs' I'=>⟨_,H,I',h⟩) hf)
def HU:uP:=λvs σ H Q=>vs=[]/\Q σ H
def CD (t:TG)(u:uP):uP:=λvs σ H Q=>∃v r,vs=v::r/\t v σ H λσ' H'=>u r σ' H' Q
theorem OH:Ah X [] HU:=by
 intro ai s σ H vs us Q I r h
 obtain⟨e,h⟩:=h
 subst e
 cases r
 exact assignInOrder_nil ⟨σ,H,I,h⟩
theorem Og {e:Expr}{es:List Expr}{t:TG}{u:uP}(h1:PG X e t)(h2:Ah X es u)
  (hs:(cV (e::es) X.env).map (·.2)=hG e X.env::(cV es X.env).map (·.2):=by rfl):Ah X (e::es) (CD t u):=by
 intro ai s σ H vs us Q I r h
 obtain⟨v,vr,e1,h⟩:=h
 subst e1
 cases r with
 |cons r rr=>
  rw[hs]
  refine assignInOrder_cons (dk (h1 ai s σ H _ _ _ I r h) λ_ s1 dq=>?_)
  obtain⟨σ1,H1,I1,q1⟩:=dq
  exact h2 ai s1 σ1 H1 _ _ Q I1 rr q1
def HW (K:ae)(n:Nat)(t:uP):TG:=λv σ H Q=>∃a xs,v=.ref a/\kx K H a xs/\xs.length=n/\t xs σ H Q
theorem Pn {es:List Expr}{k:Nat}{t:uP}{n:Nat}(hc:X.calm=true)(h:Ah X es t)
  (hn:(cV es X.env).length=n:=by rfl) (lW:(cV es X.env).findIdx? (·.1)=none:=by rfl):PG X (.Tuple es k pos) (HW X.K n t):=by
 intro ai s σ H v u Q I r hw
 obtain⟨a,xs,e1,hq,hl,hw⟩:=hw
 subst e1
 cases r
 obtain⟨bT,rv,ht,hz⟩:=I.tuple hq
 refine assign_Tuple_tuple (I.ok.hd hc) ht (by simp[hn,←hl,rv.length]) lW λh' hx=>?_
 have I1:Inv X ai σ H { s with heap:=h' }:=I.kept (t':=s.toks) λb o e=>hx b o (bj (aG e)) e
 exact h ai _ σ H xs _ Q I1 (by simpa using rv) hw
def HV (to ti:TE)(t:rR):TG:=λv σ H Q=>to σ H λo H1=>ti σ H1 λi H2=>t o i v H2 λH3=>Q σ H3
theorem Z0 {o i:Expr}{to ti:TE}{t:rR}(ho:PE X o to)(hi:PE X i ti)(hs:wK X t)
  (ha:∀v,hG (.Subscript o i pos) X.env v=(do
   let ov ← d6 [v] (bS o X.env)
   let iv ← d6 [v,ov] (bS i X.env)
   gu pos
   d6 [v,ov,iv] (nZ ov iv v)
   release [v,ov,iv] []):=by intro _;rfl):PG X (.Subscript o i pos) (HV to ti t):=by
 intro ai s σ H v u Q I r h
 rw[ha]
 refine ao (dW (dk (ho ai s σ H _ I h) λov s1 dq=>?_))
 obtain⟨x,H1,I1,r1,q1⟩:=dq
 refine ao (dW (dk (hi ai s1 σ H1 _ I1 q1) λiv s2 dq=>?_))
 obtain⟨y,H2,I2,r2,q2⟩:=dq
 refine ao (iL (ao (dW (dk (hs ai s2 σ H2 x y v ov iv u _ I2 r1 r2 r q2) λ_ s3 dq=>?_))))
 obtain⟨H3,I3,q3⟩:=dq
 exact wpAny_release ⟨σ,H3,I3,q3⟩
def zP (te:TE)(g:TG):TS:=λD σ H=>te σ H λx H1=>g x σ H1 D.nx
theorem Po {tg e:Expr}{te:TE}{g:TG}(he:PE X e te)(hg:PG X tg g)(hs:iK [tg] e pos.line X.env=pure false:=by rfl)(hw:iJ [tg] e X.env=pure none:=by rfl)
  (h1:(cV [tg] X.env).map (·.2)=[hG tg X.env]:=by rfl):PS X (.Assign [tg] e pos) (zP te g):=by
 intro ai s σ H D I h
 refine wpAny_Assign_stores (dk (he ai s σ H _ I h) λv s1 ⟨x,H1,I1,r1,q1⟩=>?_) hs hw
 rw[h1]
 exact dk (hg ai s1 σ H1 x v _ I1 r1 q1) λ_ s2 q=>q
theorem Pp {i:Nat}{x:aP}{e:Expr}{te:TE}{pos':cB}(hN:X.N.Nodup)(hi:X.N[i]?=some x)(hx:Loc X.env.scope x)(he:PE X e te)(hs:d8 e (some (.Name x pos')) pos.line X.env=pure false:=by rfl)(hf:X.fn x=true\/X.env.scope.names.lookup x=some .local:=by first|exact .inl rfl|exact .inr rfl|assumption) :
  PS X (.Assign [.Name x pos'] e pos) (zP te (pM i)):=by
 intro ai s σ H D I h
 refine wpAny_Assign_Name (dk (he ai s σ H _ I h) λv s1 ⟨y,H1,I1,r1,q1⟩=>?_) hs
 exact ET I1 hN hi hx r1 (λs2 I2=>⟨_,H1,I2,q1⟩) hf
def JH (i j:Nat)(ta:TA):TS:=λD σ H=>ta σ H λvs H1=>∃v w,vs=[v,w]/\D.nx ((σ.set i (some v)).set j (some w)) H1
theorem Z1 {i j:Nat}{x y:aP}{a b:Expr}{ta:TA}{px py pt:cB}{kt k2 nJ}(hc:X.calm=true)(hN:X.N.Nodup)(hi:X.N[i]?=some x)(hj:X.N[j]?=some y)(Iv:i≠j)
    (hx:X.env.scope.names.lookup x=some .local) (hy:X.env.scope.names.lookup y=some .local) (ha:PA X [a,b] ta)
    (hw:iJ [.Tuple [.Name x px,.Name y py] kt pt] (.Tuple [a,b] k2 nJ) X.env=pure (some [x,y]))
    (hs:iK [.Tuple [.Name x px,.Name y py] kt pt] (.Tuple [a,b] k2 nJ) pos.line X.env=pure false:=by rfl) :
    PS X (.Assign [.Tuple [.Name x px,.Name y py] kt pt] (.Tuple [a,b] k2 nJ) pos) (JH i j ta):=by
  intro ai s σ H D I h
  rw[exec_Assign_arm]
  refine ao (iL ?_)
  rw[hs]
  refine ao (aw ?_)
  rw[if_neg (by decide)]
  refine ao (Tuple_ (dk (ha _ ai s σ H _ I h) λus s1 dq=>?_))
  obtain⟨vs,H1,I1,r1,q1⟩:=dq
  obtain⟨v,w,e1,q1⟩:=q1
  subst e1
  obtain⟨u1,u2,rfl,rv,oz⟩:∃u1 u2,us=[u1,u2]/\RelV v u1/\RelV w u2:=by
    cases r1 with
    |cons p q=>
      cases q with
      |cons p' q'=>
        cases q'
        exact⟨_,_,rfl,p,p'⟩
  refine dS ?_ (by show 2<=sizeLine;decide)
  have I2:Inv X ai σ H1 { s1 with heap:=s1.heap.push { cls:=.type "tuple",data:=.seq [u1,u2].toArray } }:=I1.kept (t':=s1.toks) λb o e=>ap _ e
  rw[hw]
  refine ao (aw ?_)
  show aQ (aS X.prog X.w) X.A (do rule "assign.swapped-stores";let items ← unpackItems (.ref s1.heap.objs.size) 2 none;assignInOrder [λv=>bindName X.env y v,λv=>bindName X.env x v] items.reverse;pure Flow.next) _ _ _
  refine ao (wpAny_rule (ao (unpackItems_tuple (items:=#[u1,u2]) (I.ok.hd hc) (IsTup.new s1.heap _) λh' tT=>?_)))
  have I3:=I2.kept (h':=h') (t':=s1.toks) λb o e=>tT b o (bj (aG e)) e
  show aQ _ _ (assignInOrder [λv=>bindName X.env y v,λv=>bindName X.env x v] [u2,u1] >>= λ_=>pure Flow.next) _ _ _
  refine ao (assignInOrder_cons (wpAny_bindName (ET I3 hN hj (.inl hy) oz (λs2 I4=>?_) (.inr hy))))
  refine assignInOrder_cons (wpAny_bindName (ET I4 hN hi (.inl hx) rv (λs3 I5=>assignInOrder_nil (aw ?_)) (.inr hx)))
  rw[List.set_comm _ _ (Ne.symm Iv)]at I5
  exact⟨_,H1,I5,q1⟩
def Jz (i:Nat)(te:TE)(ti:Aj):TS:=λD σ H=>∃x,σ[i]?=some (some x)/\te σ H λy H1=>ti x y H1 λz H2=>D.nx (σ.set i (some z)) H2
theorem Z2 {i:Nat}{x:aP}{e:Expr}{te:TE}{op:i6}{ti:Aj}{pos':cB}(hN:X.N.Nodup)(hi:X.N[i]?=some x)(hx:Loc X.env.scope x)(he:PE X e te)(ho:Ai X op ti)(hf:X.fn x=true\/X.env.scope.names.lookup x=some .local:=by first|exact .inl rfl|exact .inr rfl|assumption) :
  PS X (.AugAssign (.Name x pos') op e pos) (Jz i te ti):=by
 intro ai s σ H D I h
 obtain⟨v,e1,h⟩:=h
 obtain⟨m,hn,hl⟩:=I.loc
 have UT:pJ X.env.scope x:=by rcases hx with k|k;exact .inl k;exact .inr (.inl k)
 obtain⟨u,r,l⟩:=hl i x v hi e1 UT
 refine wpAny_AugAssign_Name ?_
 have go:aQ (aS X.prog X.w) X.A (bS e X.env) (λw s₂=>aQ (aS X.prog X.w) X.A (inplaceOp op u w) (λr s₃=>aQ (aS X.prog X.w) X.A (storeName X.env x r) (λ_=>SP X ai D .next) X.xe s₃) X.xe s₂) X.xe s:=by
  refine dk (he ai s σ H _ I h) λw s1 dq=>?_
  obtain⟨y,H1,I1,r1,q1⟩:=dq
  refine dk (ho ai s1 σ H1 v y u w _ I1 r r1 q1) λz s2 dq=>?_
  obtain⟨zv,H2,I2,r2,q2⟩:=dq
  exact ET I2 hN hi hx r2 (λs3 I3=>⟨_,H2,I3,q2⟩) hf
 rcases l with⟨hk,hm⟩|⟨hk,c,hc,pO⟩
 ·exact wpAny_loadName_local I.ok.kind hk hn hm go
 ·rcases hk with hk|hk
  ·exact wpAny_loadName_cell I.ok.kind hk hc pO go
  ·rcases hx with k|k
   ·have:X.env.scope.names.lookup x=some .free:=hk
    rw[k]at this;cases this
   ·have:X.env.scope.names.lookup x=some .free:=hk
    rw[k]at this;cases this
def EE (to ti te:TE)(uB:V->V->Hp->VK->Prop)(Gf:Aj)(uD:rR):TS:=λD σ H=>to σ H λo H1=>ti σ H1 λi H2=>uB o i H2 λx H3=>te σ H3 λy H4=>Gf x y H4 λz H5=>uD o i z H5 λH6=>D.nx σ H6
def AV (X:Cx)(t:V->V->Hp->VK->Prop):Prop :=
 ∀(ai:List (af×cJ)) (s:ah) (σ:St) (H:Hp) (o i:V) (ov iv:aa) (Q:VK),Inv X ai σ H s->RelV o ov->RelV i iv->t o i H Q ->
  aQ (aS X.prog X.w) X.A (getItem ov iv) (EP X ai σ Q) X.xe s
theorem Ys {o i e:Expr}{to ti te:TE}{uB:V->V->Hp->VK->Prop}{Gf:Aj}{uD:rR}{op:i6}{jM:cB}(ho:PE X o to)(hi:PE X i ti)(hg:AV X uB)(he:PE X e te)(hp:Ai X op Gf)(hs:wK X uD)
  (ha:∀ov iv new,augStore i ov iv new=(do d6 [new,ov,iv] (nZ ov iv new);release [new,ov,iv] [];pure .next):=by intros;rfl):PS X (.AugAssign (.Subscript o i jM) op e pos) (EE to ti te uB Gf uD):=by
 intro ai s σ H D I h
 refine wpAny_AugAssign_SubscriptAny (dk (ho ai s σ H _ I h) λov s1 ⟨x1,H1,I1,r1,q1⟩=>?_) ha
 refine dk (hi ai s1 σ H1 _ I1 q1) λiv s2 dq=>?_
 obtain⟨x2,H2,I2,r2,q2⟩:=dq
 refine dk (hg ai s2 σ H2 x1 x2 ov iv _ I2 r1 r2 q2) λold s3 dq=>?_
 obtain⟨x3,H3,I3,r3,q3⟩:=dq
 refine dk (he ai s3 σ H3 _ I3 q3) λv s4 dq=>?_
 obtain⟨x4,H4,I4,r4,q4⟩:=dq
 refine dk (hp ai s4 σ H4 x3 x4 old v _ I4 r3 r4 q4) λnew s5 dq=>?_
 obtain⟨x5,H5,I5,r5,q5⟩:=dq
 exact dk (hs ai s5 σ H5 x1 x2 x5 ov iv new _ I5 r1 r2 r5 q5) λ_ s6 ⟨H6,I6,q6⟩=>⟨σ,H6,I6,q6⟩
def FT (f:Int->Int->Int):Aj:=λx y H Q=>∃i j,x=.int i/\y=.int j/\Q (.int (f i j)) H
theorem Pq:Ai X .Add (FT λi j=>i+j):=by
 intro ai s σ H x y v u Q I r1 r2 h
 obtain⟨i,j,e1,e2,q⟩:=h
 subst e1;subst e2
 obtain⟨t,rfl⟩:=r1
 obtain⟨t',rfl⟩:=r2
 exact iadd_int ⟨.int _,H,I.tok _,⟨_,rfl⟩,q⟩
theorem Z3:Ai X .Sub (FT λi j=>i-j):=by
 intro ai s σ H x y v u Q I r1 r2 h
 obtain⟨i,j,e1,e2,q⟩:=h
 subst e1;subst e2
 obtain⟨t,rfl⟩:=r1
 obtain⟨t',rfl⟩:=r2
 exact isub_int ⟨.int _,H,I.tok _,⟨_,rfl⟩,q⟩
end
section
variable {X:Cx}{pos:cB}
def zV (c:TT)(tb:TS):TS:=λD σ H=>∃W:Nat->St->Hp->Prop,(∃m,W m σ H)/\∀m σ H,W m σ H ->
 c σ H λb H1=>if b=true then∃N:St->Hp->Prop,(∀σ' H',N σ' H'->∃m',m'<m/\W m' σ' H')/\tb { D with nx:=N,ct:=N,bk:=D.nx } σ H1 else D.nx σ H1
theorem Xi {c:Expr}{body:List bG}{tc:TT}{tb:TS}(hp:bV (aS X.prog X.w) X.A X.env X.xe)(hc:PT X c tc)(hb:pI X body tb):PS X (.While c body [] pos) (zV tc tb):=by
 intro ai s σ H D I h
 obtain⟨W,⟨m0,w0⟩,nM⟩:=h
 refine wpAny_While (codeAny_whileLoop (λn s'=>∃σ' H',Inv X ai σ' H' s'/\W n σ' H') ?_ m0 ⟨σ,H,I,w0⟩)
 rintro n s1 ⟨σ1,H1,I1,w1⟩
 refine et hp (dk (hc ai s1 σ1 H1 _ I1 (nM n σ1 H1 w1)) λb s2 dq=>?_)
 obtain⟨H2,I2,q2⟩:=dq
 cases b with
 |true=>
  obtain⟨N,hN,q2⟩:=q2
  rw[if_pos rfl]
  refine et hp (dk (hb ai s2 σ1 H2 _ I2 q2) λf s3 q3=>?_)
  cases f with
  |next=>
   obtain⟨σ3,H3,I3,n3⟩:=q3
   obtain⟨m',hm,w3⟩:=hN σ3 H3 n3
   exact⟨m',hm,σ3,H3,I3,w3⟩
  |cont=>
   obtain⟨σ3,H3,I3,n3⟩:=q3
   obtain⟨m',hm,w3⟩:=hN σ3 H3 n3
   exact⟨m',hm,σ3,H3,I3,w3⟩
  |brk=>exact q3
  |ret v=>exact q3
 |false=>
  rw[if_neg aO]
  exact jS ⟨σ1,H2,I2,q2⟩
end
structure It where
 go:Nat->Hp->Prop
 yld:Nat->Hp->V->Hp->Prop
 stop:Nat->Hp->Prop
def ko (X:Cx)(ai:List (af×cJ))(H:Hp)(b:af):Prop :=
 H b=none/\b≠X.env.locals/\b∉X.fs/\(b∈X.ex\/X.s₀.heap.objs.size<=b)/\(∀x c,X.env.cells.lookup x=some c->c≠b)/\∀p∈X.pn++ai,p.1≠b
theorem Inv.fpOk {X:Cx}{ai:List (af×cJ)}{σ:St}{H H':Hp}{s:ah}{b:af}(I:Inv X ai σ H s)(hb:s.heap.objs.size<=b)(hn:H' b=none):ko X ai H' b:=by
 refine⟨hn,gD (bt I.lt hb),I.nofs hb,.inr (bD I.sz hb),λx c e z=>?_,λp hp z=>?_⟩
 ·obtain⟨v,q⟩:=I.cell x c e
  exact absurd (bt q.lt (by rw[z];exact hb)) (ef _)
 ·exact absurd (bt (aG (I.pin p hp).1) (by rw[z];exact hb)) (ef _)
structure Turn (P:aW)(w:bv)(K:ae)(tg:Expr)(J:It)(fp:List af)(it:af)(tn:Nat->aI->Prop):Prop where
 mem:it∈fp
 obj:∀i h,tn i h->∀b∈fp,∃o,h.get? b=some o/\∀v,o.data≠.cell v
 keep:∀i h h',tn i h->(∀b∈fp,∀o,h.get? b=some o->h'.get? b=some o)->tn i h'
 item:∀(X:Cx),X.prog=P->X.w=w->X.K=K->X.calm=true->∀(i:Nat) (ai:List (af×cJ)) (s:ah) (σ:St) (H:Hp) (E:aa->ah->Prop),Inv X ai σ H s->(∀b∈fp,ko X ai H b)->tn i s.heap->J.go i H ->
  aQ (aS P w) X.A (pyNext (.ref it)) (λr s1=>∃u,r=some u /\
   aQ (aS P w) X.A (gK tg (.ref it) u) (λ_ s2=>∃x H',Inv X ai σ H' s2/\RelV x u/\J.yld i H x H'/\tn (i+1) s2.heap/\∀b∈fp,H' b=none) E s1) E s
 done:∀(X:Cx),X.prog=P->X.w=w->X.K=K->X.calm=true->∀(i:Nat) (ai:List (af×cJ)) (s:ah) (σ:St) (H:Hp) (E:aa->ah->Prop),Inv X ai σ H s->(∀b∈fp,ko X ai H b)->tn i s.heap->J.stop i H ->
  aQ (aS P w) X.A (pyNext (.ref it)) (λr s1=>r=none/\Inv X ai σ H s1) E s
 self:∀(A:bo) (i:Nat) (s:ah) (Q:aa->ah->Prop) (E:aa->ah->Prop),tn i s.heap->Q (.ref it) s->aQ (aS P w) A (pyIter (.ref it)) Q E s
abbrev TI:=St->Hp->(It->Hp->Prop)->Prop
def K2 (X:Cx)(ai:List (af×cJ))(σ:St)(tg:Expr)(R:It->Hp->Prop)(FU:aa)(s2:ah):Prop :=
 ∃(it:af) (fp:List af) (tn:Nat->aI->Prop) (J:It) (H':Hp),FU=.ref it/\Inv X ai σ H' s2/\Turn X.prog X.w X.K tg J fp it tn/\tn 0 s2.heap/\(∀b∈fp,ko X ai H' b)/\R J H'
def PI (X:Cx)(tg iter:Expr)(wi:TI):Prop :=
 ∀(ai:List (af×cJ)) (s:ah) (σ:St) (H:Hp) (R:It->Hp->Prop),Inv X ai σ H s->wi σ H R ->
  aQ (aS X.prog X.w) X.A (bS iter X.env) (λv s1=>aQ (aS X.prog X.w) X.A (pyIter v) (K2 X ai σ tg R) X.xe s1) X.xe s
theorem KW {M:Model}{A:bo}{E:aa->ah->Prop}{s:ah}{tg:Expr}{it:af}{u:aa}{o:cJ}{n:String}{vs:Array aa}{Q:Unit->ah->Prop}(ho:s.heap.get? it=some o)(hc:o.cls=.type n)(hd:o.data=.fields vs)
    (hn:["enumerate","zip","dict_itemiterator","dict_reverseitemiterator","odict_iterator","itertools.zip_longest","itertools.pairwise"].contains n=false) (hQ:Q () s):aQ M A (gK tg (.ref it) u) Q E s:=by
  unfold gK
  cases tg<;>first
    |exact aw hQ
    |(cases u<;>first
        |exact aw hQ
        |(refine ao (wpAny_load ho ?_)
          rw[hc,hd]
          show aQ M A (if(["enumerate","zip","dict_itemiterator","dict_reverseitemiterator","odict_iterator","itertools.zip_longest","itertools.pairwise"].contains n&&vs[0]?==some (rawInt _))=true then _ else _) Q E s
          rw[if_neg (by intro h;rw[hn,Bool.false_and]at h;cases h)]
          exact aw hQ))
def GU (K:ae)(a:af):It :=
 ⟨λi H=>∃xs x,eR K H a xs/\xs[i]?=some x,λi H x H'=>H'=H/\∀xs,eR K H a xs->xs[i]?=some x,λi H=>∃xs,eR K H a xs/\xs.length<=i⟩
def Fh (lo:Int)(n:Nat):It:=⟨λi _=>i<n,λi H x H'=>H'=H/\x=.int (lo+i),λi _=>n<=i⟩
theorem Ww {P:aW}{w:bv}{K:ae}{tg:Expr}(a it:af):Turn P w K tg (GU K a) [it] it (λi h=>h.IsListIter it a i) where
 mem:=by simp
 obj:=λi h st b hb=>by
  have e:b=it:=by simpa using hb
  subst e
  obtain⟨o,e,c,d⟩:=st
  exact⟨o,e,λv z=>by rw[d]at z;cases z⟩
 keep:=λi h h' st k=>st.at λo e=>k it (by simp) o e
 item:=by
  intro X hP hw hK hc i ai s σ H E I hf st hg
  subst hP hw hK
  obtain⟨xs,x,hq,hx⟩:=hg
  obtain⟨bT,rv,p,hz⟩:=I.list hq
  obtain⟨u,hu,ru⟩:=rv.get hx
  obtain⟨f0,f1,f2,f3,f4,f5⟩:=hf it (by simp)
  refine wpAny_pyNext_list_item st p.isList (x:=u) (by simpa using hu) λh' mz sb=>?_
  have I1:Inv X ai σ H { s with heap:=h' }:=I.turned (t':=s.toks) (λb o hb e=>(sb.2 b hb).trans e) f0 f1 f3 f4 f5
  obtain⟨o,e,c,d⟩:=id mz
  exact⟨u,rfl,KW (s:={ s with heap:=h' }) e c d (by decide) ⟨x,H,I1,ru,⟨rfl,λys hy=>by rw[I.list_inj hy hq];exact hx⟩,mz,λb hb=>(hf b hb).1⟩⟩
 done:=by
  intro X hP hw hK hc i ai s σ H E I hf st hg
  subst hP hw hK
  obtain⟨xs,hq,hx⟩:=hg
  obtain⟨bT,rv,p,hz⟩:=I.list hq
  obtain⟨f0,f1,f2,f3,f4,f5⟩:=hf it (by simp)
  have hl:=rv.length
  exact wpAny_pyNext_list_end (I.ok.hd hc) st p.isList (by simp;omega) λh' eb=>⟨rfl,I.turned (t':=s.toks) (λb o hb e=>eb b o hb e) f0 f1 f3 f4 f5⟩
 self:=λ_ _ _ _ _ st h=>wpAny_pyIter_listiter st h
theorem Wa {P:aW}{w:bv}{K:ae}{tg:Expr}(it:af)(lo:Int)(n:Nat):Turn P w K tg (Fh lo n) [it] it (λi h=>IsRangeIter h it (lo+(i:Nat)*1) ((n:Int)-(i:Nat)) 1) where
 mem:=by simp
 obj:=λi h st b hb=>by
  have e:b=it:=by simpa using hb
  subst e
  exact⟨_,st,λv z=>by
   have z':pG.fields _=pG.cell v:=z
   cases z'⟩
 keep:=λi h h' st k=>k it (by simp) _ st
 item:=by
  intro X hP hw hK hc i ai s σ H E I hf st hg
  subst hP hw hK
  obtain⟨f0,f1,f2,f3,f4,f5⟩:=hf it (by simp)
  have W:=Walks.range (prog:=X.prog) (w:=X.w) (I.ok.hd hc) it lo 1 n
  refine W.item i s _ _ hg st λv h' tk hv mz kk=>?_
  obtain⟨t,rfl⟩:=hv
  have I1:Inv X ai σ H { s with heap:=h',toks:=tk }:=I.turned (λb o hb e=>kk b o (by simpa using hb) e) f0 f1 f3 f4 f5
  refine⟨_,rfl,KW (s:={ s with heap:=h',toks:=tk }) (n:="range_iterator") mz rfl rfl (by decide) ⟨.int (lo+i),H,I1,⟨t,?_⟩,⟨rfl,rfl⟩,mz,λb hb=>(hf b hb).1⟩⟩
  rw[Int.mul_one]
 done:=by
  intro X hP hw hK hc i ai s σ H E I hf st hg
  subst hP hw hK
  obtain⟨f0,f1,f2,f3,f4,f5⟩:=hf it (by simp)
  exact wpAny_pyNext_range_end (I.ok.hd hc) st (by have:n<=i:=hg;omega) λh' eb=>⟨rfl,I.turned (t':=s.toks) (λb o hb e=>eb b o hb e) f0 f1 f3 f4 f5⟩
 self:=λ_ _ _ _ _ st h=>wpAny_pyIter_rangeiter st h
end L2
namespace L2
open PySem PySem.Spec PyProof.Rows
section
variable {X:Cx}{tg:Expr}
def C3 (K:ae)(tl:TE):TI:=λσ H R=>tl σ H λx H1=>∃a,x=.ref a/\(∃xs,eR K H1 a xs)/\R (GU K a) H1
theorem Kz {l:Expr}{tl:TE}(hl:PE X l tl):PI X tg l (C3 X.K tl):=by
 intro ai s σ H R I h
 refine dk (hl ai s σ H _ I h) λv s1 dq=>?_
 obtain⟨x,H1,I1,r1,q1⟩:=dq
 obtain⟨a,e,⟨xs,hq⟩,q⟩:=q1
 subst e
 cases r1
 obtain⟨bT,rv,p,hz⟩:=I1.list hq
 refine my p.isList ?_
 refine⟨s1.heap.objs.size,[s1.heap.objs.size],_,_,H1,rfl,I1.kept (t':=s1.toks) λb o e=>ap _ e,Ww a _,⟨_,ba _ rfl,rfl,rfl⟩,λb hb=>?_,q⟩
 have e:b=s1.heap.objs.size:=by simpa using hb
 subst e
 exact I1.fpOk (aH _) (I1.hok.fresh (aH _))
theorem Xj {ai:List (af×cJ)}{σ:St}{H:Hp}{s:ah}{R:It->Hp->Prop}{E:aa->ah->Prop}{lo hi:Int}{t u v:Tok}{tk:Nat}(I:Inv X ai σ H s)(h1:-(2 ^ 62)<=lo)(h2:lo<2 ^ 62)(h3:-(2 ^ 62)<=hi)(h4:hi<2 ^ 62)
    (q:R (Fh lo (hi-lo).toNat) H):aQ (aS X.prog X.w) X.A (pyIter (.ref s.heap.objs.size)) (K2 X ai σ tg R) E { s with heap:=s.heap.push { cls:=.type "range",data:=.fields #[.int lo t,.int hi u,.int 1 v] },toks:=tk }:=by
  refine wpAny_pyIter_range (IsRange.new ..) (small_one h1 h2 h3 h4) ?_
  have I1:Inv X ai σ H { s with heap:=s.heap.push { cls:=.type "range",data:=.fields #[.int lo t,.int hi u,.int 1 v] },toks:=tk }:=I.kept λb o e=>ap _ e
  refine⟨(s.heap.push { cls:=.type "range",data:=.fields #[.int lo t,.int hi u,.int 1 v] }).objs.size,[(s.heap.push { cls:=.type "range",data:=.fields #[.int lo t,.int hi u,.int 1 v] }).objs.size],_,_,H,rfl,
    I1.kept (t':=tk) λb o e=>ap _ e,Wa _ lo (hi-lo).toNat,?_,λb hb=>?_,q⟩
  · have e1:lo+((0:Nat):Int)*1=lo:=by simp
    have e2:(((hi-lo).toNat:Nat):Int)-((0:Nat):Int)=Builtin.Range.rangeSize lo hi 1:=by rw[rangeSize_one];split<;>omega
    show IsRangeIter _ _ (lo+((0:Nat):Int)*1) ((((hi-lo).toNat:Nat):Int)-((0:Nat):Int)) 1
    rw[e1,e2]
    exact ba _ rfl
  · have e:b=(s.heap.push { cls:=.type "range",data:=.fields #[.int lo t,.int hi u,.int 1 v] }).objs.size:=by simpa using hb
    subst e
    exact I1.fpOk (aH _) (I1.hok.fresh (aH _))
def C4 (ta:TA):TI:=λσ H R=>ta σ H λvs H1=>∃j:Int,vs=[.int j]/\-(2 ^ 62)<=j/\j<2 ^ 62/\R (Fh 0 j.toNat) H1
theorem Wx {a:Expr}{ta:TA}{p pos:cB}(hg:Gl X "range")(hm:X.mg "range"=none)(ha:PA X [a] ta)(hs:ay [a] X.env=[(false,bS a X.env)]:=by rfl):PI X tg (.Call (.Name "range" p) [a] [] pos) (C4 ta):=by
 intro ai s σ H R I h
 refine Call_ (Ab I hg hm boot_range (fE (dk (ha pos ai s σ H _ I h) λus s1 ⟨vs,H1,I1,r1,q1⟩=>?_) hs rfl))
 obtain⟨j,e,q1,q2,q⟩:=q1
 subst e
 cases r1 with
 |cons r rr=>
  cases rr
  obtain⟨t,rfl⟩:=r
  exact call_range_1 (Xj I1 (by omega) (by omega) q1 q2 (by simpa using q))
def JC (wi:TI)(g:TG)(tb:TS):TS:=λD σ H=>wi σ H λJ H1=>∃W:Nat->Nat->St->Hp->Prop,(∃m,W 0 m σ H1)/\∀i m σ H,W i m σ H ->
 (J.stop i H/\D.nx σ H)\/(J.go i H/\∃N:St->Hp->Prop,(∀σ' H',N σ' H'->∃m',m'<m/\W (i+1) m' σ' H')/\∀x H',J.yld i H x H'->g x σ H' λσ2 H2=>tb { D with nx:=N,ct:=N,bk:=D.nx } σ2 H2)
def kO (fp:List af)(h:aI):List (af×cJ):=fp.filterMap λb=>(h.get? b).map λo=>(b,o)
theorem uj {fp:List af}{h:aI}{b:af}{o:cJ}(hb:b∈fp)(e:h.get? b=some o):(b,o)∈kO fp h:=pY.mpr ⟨b,hb,by rw[e];rfl⟩
theorem Wy {fp:List af}{h:aI}{p:af×cJ}(hp:p∈kO fp h):p.1∈fp/\h.get? p.1=some p.2:=by
 obtain⟨b,hb,e⟩:=pY.mp hp
 cases q:h.get? b with
 |none=>rw[q]at e;cases e
 |some o=>
  rw[q]at e
  have e':(b,o)=p:=Option.some.inj e
  subst e'
  exact⟨hb,q⟩
theorem Inv.pinned {ai:List (af×cJ)}{σ:St}{H:Hp}{s:ah}{fp:List af}(I:Inv X ai σ H s)(hf:∀b∈fp,ko X ai H b)(ho:∀b∈fp,∃o,s.heap.get? b=some o/\∀v,o.data≠.cell v):Inv X (ai++kO fp s.heap) σ H s :=
 I.pins_of λp hp=>(aU.mp hp).elim (λz=>I.pin p (aB _ z)) λz=>by
  obtain⟨hb,e⟩:=Wy z
  obtain⟨f0,f1,f2,_⟩:=hf p.1 hb
  obtain⟨o,e',d⟩:=ho p.1 hb
  rw[e]at e';cases e'
  exact⟨e,f0,f1,f2,d⟩
theorem Inv.unpinned {ai pl:List (af×cJ)}{σ:St}{H:Hp}{s:ah}(I:Inv X (ai++pl) σ H s):Inv X ai σ H s:=I.pins_of λp hp=>I.pin p (aB _ (bx _ hp))
theorem Ps {iter:Expr}{body:List bG}{wi:TI}{g:TG}{tb:TS}{pos:cB}(hp:bV (aS X.prog X.w) X.A X.env X.xe)(hc:X.calm=true)(hi:PI X tg iter wi)(hg:PG X tg g)(hb:pI X body tb)
  (hs:∀x,cW iter X.env x=pure x:=by intro _;rfl):PS X (.For tg iter body [] pos) (JC wi g tb):=by
 intro ai s σ H D I h
 refine wpAny_For (dk (hi ai s σ H _ I h) λv s1 h1=>dk h1 λFU s2 h2=>?_) hs
 obtain⟨it,fp,tn,J,H2,e,I2,T,tF,f2,W,⟨m0,w0⟩,nM⟩:=h2
 subst e
 have mn:∀{H':Hp},(∀b∈fp,H' b=none)->∀b∈fp,ko X ai H' b:=λhn b hb=>⟨hn b hb,(f2 b hb).2⟩
 refine codeAny_forLoop_any (λn s'=>∃i σ' H',Inv X ai σ' H' s'/\tn i s'.heap/\(∀b∈fp,H' b=none)/\W i n σ' H') ?_ m0 ⟨0,σ,H2,I2,tF,λb hb=>(f2 b hb).1,w0⟩
 rintro n s3 ⟨i,σ3,H3,I3,MW,LA,w3⟩
 rcases nM i n σ3 H3 w3 with⟨stop,qn⟩|⟨go,N,hN,step⟩
 ·refine et hp (dk (T.done X rfl rfl rfl hc i ai s3 σ3 H3 X.xe I3 (mn LA) MW stop) λr s4 dq=>?_)
  obtain⟨hr,I4⟩:=dq
  subst hr
  exact jS ⟨σ3,H3,I4,qn⟩
 ·refine et hp (dk (T.item X rfl rfl rfl hc i ai s3 σ3 H3 X.xe I3 (mn LA) MW go) λr s4 dq=>?_)
  obtain⟨u,hr,h4⟩:=dq
  subst hr
  refine et hp (dk h4 λ_ s5 dq=>?_)
  obtain⟨x,H5,I5,r5,y5,t7,yB⟩:=dq
  have Qr:=I5.pinned (mn yB) (T.obj _ _ t7)
  refine et hp (dk (hg _ s5 σ3 H5 x u _ Qr r5 (step x H5 y5)) λ_ s6 dq=>?_)
  obtain⟨σ6,H6,I6,q6⟩:=dq
  refine et hp (dk (hb _ s6 σ6 H6 _ I6 q6) λf s7 q7=>?_)
  have again:∀{σ7:St} {H7:Hp},Inv X (ai++kO fp s5.heap) σ7 H7 s7->N σ7 H7->∃m,m<n/\∃i σ' H',Inv X ai σ' H' s7/\tn i s7.heap/\(∀b∈fp,H' b=none)/\W i m σ' H':=λ{σ7 H7} I7 n7=>by
   obtain⟨m',hm,w7⟩:=hN σ7 H7 n7
   refine⟨m',hm,i+1,σ7,H7,I7.unpinned,T.keep _ _ _ t7 λb hb o e=>(I7.pin (b,o) (aB _ (aB _ (uj hb e)))).1,λb hb=>?_,w7⟩
   obtain⟨o,e,d⟩:=T.obj _ _ t7 b hb
   exact(I7.pin (b,o) (aB _ (aB _ (uj hb e)))).2.1
  cases f with
  |next=>obtain⟨σ7,H7,I7,n7⟩:=q7;exact again I7 n7
  |cont=>obtain⟨σ7,H7,I7,n7⟩:=q7;exact again I7 n7
  |brk=>obtain⟨σ7,H7,I7,q7⟩:=q7;exact⟨σ7,H7,I7.unpinned,q7⟩
  |ret v=>obtain⟨x7,σ7,H7,I7,r7,q7⟩:=q7;exact⟨x7,σ7,H7,I7.unpinned,r7,q7⟩
end
end L2
namespace L2
open PySem PySem.Spec PyProof.Rows
abbrev R2:=V->V->Hp->VK->Prop
def fS (X:Cx)(f:aa->aa->ip aa)(r:R2):Prop :=
 ∀(ai:List (af×cJ)) (s:ah) (σ:St) (H:Hp) (x y:V) (v u:aa) (Q:VK),Inv X ai σ H s->RelV x v->RelV y u->r x y H Q ->
  aQ (aS X.prog X.w) X.A (f v u) (EP X ai σ Q) X.xe s
def Fk (X:Cx)(f:aa->ip aa)(r:V->Hp->VK->Prop):Prop :=
 ∀(ai:List (af×cJ)) (s:ah) (σ:St) (H:Hp) (x:V) (v:aa) (Q:VK),Inv X ai σ H s->RelV x v->r x H Q ->
  aQ (aS X.prog X.w) X.A (f v) (EP X ai σ Q) X.xe s
def eE (X:Cx)(f:aa)(r:List V->Hp->VK->Prop):Prop :=
 ∀(ai:List (af×cJ)) (s:ah) (σ:St) (H:Hp) (xs:List V) (us:List aa) (Q:VK),Inv X ai σ H s->bR xs us->r xs H Q ->
  aQ (aS X.prog X.w) X.A (call f us) (EP X ai σ Q) X.xe s
def Gc (r:R2)(ta tb:TE):TE:=λσ H Q=>ta σ H λx H1=>tb σ H1 λy H2=>r x y H2 Q
def UK (r:V->Hp->VK->Prop)(ta:TE):TE:=λσ H Q=>ta σ H λx H1=>r x H1 Q
def rI (C:Int->Int->Prop)(g:Int->Int->V):R2:=λx y H Q=>∃i j,x=.int i/\y=.int j/\C i j/\Q (g i j) H
def oR (g:Int->Int->V):R2:=λx y H Q=>∃i j,x=.int i/\y=.int j/\Q (g i j) H
def rU (g:Int->V):V->Hp->VK->Prop:=λx H Q=>∃i,x=.int i/\Q (g i) H
section
variable {X:Cx}{a b c:Expr}{ta tb tc:TE}{pos:cB}
theorem wU (ha:PE X a ta)(hb:PE X b tb){ai:List (af×cJ)}{s:ah}{σ:St}{H:Hp}{R:V->V->Hp->Prop}(I:Inv X ai σ H s)
  (h:ta σ H λx H1=>tb σ H1 λy H2=>R x y H2) {Q:aa->ah->Prop} {f:aa->aa->ip aa}
  (hf:∀v u s2 x y H2,Inv X ai σ H2 s2->RelV x v->RelV y u->R x y H2->aQ (aS X.prog X.w) X.A (f v u) Q X.xe s2) :
  aQ (aS X.prog X.w) X.A (bS a X.env) (λv s₁=>aQ (aS X.prog X.w) X.A (bS b X.env) (λu s₂=>aQ (aS X.prog X.w) X.A (f v u) Q X.xe s₂) X.xe s₁) X.xe s:=by
 refine dk (ha ai s σ H _ I h) λv s1 dq=>?_
 obtain⟨x,H1,I1,r1,q1⟩:=dq
 refine dk (hb ai s1 σ H1 _ I1 q1) λu s2 dq=>?_
 obtain⟨y,H2,I2,r2,q2⟩:=dq
 exact hf v u s2 x y H2 I2 r1 r2 q2
theorem GM {op:i6}{r:R2}(ho:fS X (dL op) r)(ha:PE X a ta)(hb:PE X b tb):PE X (.BinOp a op b pos) (Gc r ta tb):=by
 intro ai s σ H Q I h
 exact wpAny_BinOp (wU ha hb I h λv u s2 x y H2 I2 rx ry q=>ho ai s2 σ H2 x y v u Q I2 rx ry q)
theorem ztz {op:UnaryOp}{r:V->Hp->VK->Prop}(ho:Fk X (unaryOp op) r)(ha:PE X a ta):PE X (.UnaryOp op a pos) (UK r ta):=by
 intro ai s σ H Q I h
 exact UnaryOp_ (dk (ha ai s σ H _ I h) λv s1 ⟨x,H1,I1,r1,q1⟩=>ho ai s1 σ H1 x v Q I1 r1 q1)
theorem Av {f:aa->aa->ip aa}{C:Int->Int->Prop}{g:Int->Int->Int}
  (rule:∀(i j:Int) (t u:Tok) (s:ah) (Q:aa->ah->Prop) (E:aa->ah->Prop),C i j->Q (.int (g i j) s.toks) { s with toks:=s.toks+1 }->aQ (aS X.prog X.w) X.A (f (.int i t) (.int j u)) Q E s) :
  fS X f (rI C λi j=>.int (g i j)):=by
 intro ai s σ H x y v u Q I rx ry h
 obtain⟨i,j,rfl,rfl,hc,q⟩:=h
 obtain⟨t,rfl⟩:=rx
 obtain⟨t',rfl⟩:=ry
 exact rule i j t t' s _ _ hc ⟨.int (g i j),H,I.tok _,⟨_,rfl⟩,q⟩
theorem DQ {f:aa->aa->ip aa}{g:Int->Int->Int}
  (rule:∀(i j:Int) (t u:Tok) (s:ah) (Q:aa->ah->Prop) (E:aa->ah->Prop),Q (.int (g i j) s.toks) { s with toks:=s.toks+1 }->aQ (aS X.prog X.w) X.A (f (.int i t) (.int j u)) Q E s) :
  fS X f (oR λi j=>.int (g i j)):=by
 intro ai s σ H x y v u Q I rx ry h
 obtain⟨i,j,rfl,rfl,q⟩:=h
 obtain⟨t,rfl⟩:=rx
 obtain⟨t',rfl⟩:=ry
 exact rule i j t t' s _ _ ⟨.int (g i j),H,I.tok _,⟨_,rfl⟩,q⟩
theorem tZ {f:aa->aa->ip aa}{g:Int->Int->Bool}
  (rule:∀(i j:Int) (t u:Tok) (s:ah) (Q:aa->ah->Prop) (E:aa->ah->Prop),Q (.bool (g i j)) s->aQ (aS X.prog X.w) X.A (f (.int i t) (.int j u)) Q E s) :
  fS X f (oR λi j=>.bl (g i j)):=by
 intro ai s σ H x y v u Q I rx ry h
 obtain⟨i,j,rfl,rfl,q⟩:=h
 obtain⟨t,rfl⟩:=rx
 obtain⟨t',rfl⟩:=ry
 exact rule i j t t' s _ _ ⟨.bl (g i j),H,I,rfl,q⟩
def tI (i j:Int):Prop:=0<=j/\j<=1000000/\i.natAbs<2 ^ 64
def wH (i j:Int):Prop:=(-(2 ^ 64)<i/\i<2 ^ 64)\/(-(2 ^ 64)<j/\j<2 ^ 64)
theorem wH.ok {i j:Int}(h:wH i j):IntMulOk i j:=by
 rcases h with⟨h1,h2⟩|⟨h1,h2⟩
 ·exact .of_left (intBits_le_64 h1 h2)
 ·exact .of_right (intBits_le_64 h1 h2)
theorem Wb (k:Nat):(0:Int)<=2 ^ k:=by
 rw[two_pow_cast]
 exact Int.natCast_nonneg _
theorem Z4:fS X (dL .Add) (oR λi j=>.int (i+j)):=DQ λ_ _ _ _ _ _ _ q=>add_int q
theorem j0:fS X (dL .Sub) (oR λi j=>.int (i-j)):=DQ λ_ _ _ _ _ _ _ q=>sub_int q
theorem yz:fS X (dL .Mod) (rI (λ_ j=>j≠0) λi j=>.int (i.fmod j)):=Av λ_ _ _ _ _ _ _ hc q=>mod_int' hc q
theorem E7:fS X (dL .Pow) (rI tI λi j=>.int (i ^ j.toNat)):=Av λ_ _ _ _ _ _ _ hc q=>pow_int_small hc.1 hc.2.1 hc.2.2 q
theorem Z5:fS X (dL .LShift) (rI tI λi j=>.int (i*2 ^ j.toNat)):=Av λ_ _ _ _ _ _ _ hc q=>lshift_int_small hc.1 hc.2.1 hc.2.2 q
theorem Pt:fS X (dL .RShift) (rI (λ_ j=>0<=j) λi j=>.int (i/2 ^ j.toNat)):=Av λi j _ _ _ _ _ hc q=>
 rshift_int hc (by rw[mN i (Wb _)];exact q)
theorem US {f:aa->ip aa}{g:Int->Int}
  (rule:∀(i:Int) (t:Tok) (s:ah) (Q:aa->ah->Prop) (E:aa->ah->Prop),Q (.int (g i) s.toks) { s with toks:=s.toks+1 }->aQ (aS X.prog X.w) X.A (f (.int i t)) Q E s) :
  Fk X f (rU λi=>.int (g i)):=by
 intro ai s σ H x v Q I rx h
 obtain⟨i,rfl,q⟩:=h
 obtain⟨t,rfl⟩:=rx
 exact rule i t s _ _ ⟨.int (g i),H,I.tok _,⟨_,rfl⟩,q⟩
theorem Z6:Fk X (unaryOp .USub) (rU λi=>.int (-i)):=US λ_ _ _ _ _ q=>neg_int q
end
section
variable {X:Cx}{a b c:Expr}{ta tb tc:TE}{pos:cB}
theorem GD {ai:List (af×cJ)}{σ:St}{H:Hp}{s:ah}{Q:VK}{k k':Bool}(I:Inv X ai σ H s)(q:Q (.bl k) H)(e:k=k'):EP X ai σ Q (.bool k') s:=by
 subst e
 exact⟨.bl k,H,I,rfl,q⟩
theorem wF:fS X (cE .Lt) (oR λi j=>.bl (decide (i<j))):=tZ λ_ _ _ _ _ _ _ q=>lt_int q
theorem zt0:fS X (cE .LtE) (oR λi j=>.bl (decide (i<=j))):=tZ λ_ _ _ _ _ _ _ q=>le_int q
theorem wD:fS X (cE .Gt) (oR λi j=>.bl (decide (j<i))):=tZ λ_ _ _ _ _ _ _ q=>gt_int q
theorem zt1:fS X (cE .GtE) (oR λi j=>.bl (decide (j<=i))):=tZ λ_ _ _ _ _ _ _ q=>ge_int q
theorem Z7:fS X (cE .Is) (λx y H Q=>y=.non/\Q (.bl (decide (x=.non))) H):=by
 intro ai s σ H x y v u Q I rx ry h
 obtain⟨rfl,q⟩:=h
 cases ry
 refine is_none_gen (GD I q ?_)
 cases x<;>first
  |(cases rx;rfl)
  |(obtain⟨t,rfl⟩:=rx;rfl)
theorem Yt:fS X (cE .IsNot) (λx y H Q=>y=.non/\Q (.bl (!decide (x=.non))) H):=by
 intro ai s σ H x y v u Q I rx ry h
 obtain⟨rfl,q⟩:=h
 cases ry
 refine isnot_none_gen (GD I q ?_)
 cases x<;>first
  |(cases rx;rfl)
  |(obtain⟨t,rfl⟩:=rx;rfl)
theorem fS.or {f:aa->aa->ip aa}{r r':R2}(h:fS X f r)(h':fS X f r'):fS X f (λx y H Q=>r x y H Q\/r' x y H Q):=by
 intro ai s σ H x y v u Q I rx ry q
 rcases q with q|q
 ·exact h ai s σ H x y v u Q I rx ry q
 ·exact h' ai s σ H x y v u Q I rx ry q
theorem bI (b:Expr){op:lE}(h:op≠.In:=by decide)(h2:op≠.NotIn:=by decide):dF op b=false:=by
 have e1:(op==lE.In)=false:=by cases op<;>first|rfl|exact absurd rfl h
 have e2:(op==lE.NotIn)=false:=by cases op<;>first|rfl|exact absurd rfl h2
 cases b<;>simp[dF,e1,e2]
theorem Yu {op:lE}{r:R2}(ho:fS X (cE op) r)(ha:PE X a ta)(hb:PE X b tb)(hm:dF op b=false):PE X (.Compare a [op] [b] pos) (Gc r ta tb):=by
 intro ai s σ H Q I h
 exact wpAny_Compare1 (wU ha hb I h λv u s2 x y H2 I2 rx ry q=>ho ai s2 σ H2 x y v u Q I2 rx ry q) hm
def EN (t:TE):TT:=λσ H Q=>t σ H λx H'=>∃k,x=.bl k/\Q k H'
theorem Yv {op:lE}{r:R2}(ho:fS X (cE op) r)(ha:PE X a ta)(hb:PE X b tb)(hm:dF op b=false):PT X (.Compare a [op] [b] pos) (EN (Gc r ta tb)):=by
 intro ai s σ H Q I h
 refine wpAny_isTrue_Compare1 (dk (ha ai s σ H _ I h) λv s1 ⟨x,H1,I1,r1,q1⟩=>dk (hb ai s1 σ H1 _ I1 q1) λu s2 ⟨y,H2,I2,r2,q2⟩=>
  dk (ho ai s2 σ H2 x y v u _ I2 r1 r2 q2) λc s3 ⟨z,H3,I3,r3,k,e,q3⟩=>?_) hm
 subst e
 cases r3
 exact dU ⟨H3,I3,q3⟩
theorem iV:(sizeLine:Nat)<2 ^ 63:=by rw[bC];decide
theorem Wc:fS X (dL .Add) (λx y H Q=>∃i j,x=.str i/\y=.str j/\i.length+j.length<=sizeLine/\Q (.str (i++j)) H):=by
 intro ai s σ H x y v u Q I rx ry h
 obtain⟨i,j,rfl,rfl,hz,q⟩:=h
 obtain⟨t,rfl⟩:=rx
 obtain⟨t',rfl⟩:=ry
 exact add_str (λt' tk=>⟨.str (i++j),H,I.tok _,⟨_,rfl⟩,q⟩) hz
theorem pS {x:V}{us:List aa}(r:bR [x] us):∃u,us=[u]/\RelV x u:=by
 cases r with
 |cons r1 r2=>cases r2;exact⟨_,rfl,r1⟩
theorem vals2 {x y:V}{us:List aa}(r:bR [x,y] us):∃u w',us=[u,w']/\RelV x u/\RelV y w':=by
 cases r with
 |cons r1 r2=>
  cases r2 with
  |cons r3 r4=>cases r4;exact⟨_,_,rfl,r1,r3⟩
theorem j1 (hc:X.calm=true):eE X (.builtin "max") (λxs H Q=>∃i j,xs=[.int i,.int j]/\Q (.int (if j > i then j else i)) H):=by
 intro ai s σ H xs us Q I r h
 obtain⟨i,j,rfl,q⟩:=h
 obtain⟨u,w',rfl,⟨t,rfl⟩,⟨t',rfl⟩⟩:=vals2 r
 refine max_two_ints (I.ok.hd hc) λh' tk k=>⟨_,H,I.kept k,?_,q⟩
 by_cases hj:j > i
 ·rw[if_pos hj,if_pos hj];exact⟨_,rfl⟩
 ·rw[if_neg hj,if_neg hj];exact⟨_,rfl⟩
theorem JW (hc:X.calm=true):eE X (.builtin "min") (λxs H Q=>∃i j,xs=[.int i,.int j]/\Q (.int (if j<i then j else i)) H):=by
 intro ai s σ H xs us Q I r h
 obtain⟨i,j,rfl,q⟩:=h
 obtain⟨u,w',rfl,⟨t,rfl⟩,⟨t',rfl⟩⟩:=vals2 r
 refine min_two_ints (I.ok.hd hc) λh' tk k=>⟨_,H,I.kept k,?_,q⟩
 by_cases hj:j<i
 ·rw[if_pos hj,if_pos hj];exact⟨_,rfl⟩
 ·rw[if_neg hj,if_neg hj];exact⟨_,rfl⟩
end
end L2
namespace L2
open PySem PySem.Spec PyProof.Rows
structure o9 (h:aI)(x dx C:af)(mA:aP->Option aa):Prop where
 obj:h.get? x=some (dH C dx)
 ns:h.Ns1 dx mA
 ne:dx≠x
theorem Wz {h:aI}{dx:af}{mA:aP->Option aa}(n:h.Ns1 dx mA):∃od,h.get? dx=some od/\∀name,iM name od=some (mA name):=by
 obtain⟨o,es,ep,ho,hd,hk,_,hm⟩:=n
 refine⟨o,ho,λname=>?_⟩
 have e:=hm name
 unfold nsFind findBy at e
 rw[←Array.find?_toList]at e
 unfold iM
 rw[hd]
 dsimp only
 split
 ·rename_i y q
  rw[q]at e
  exact congrArg some e
 ·rename_i q
  rw[q]at e
  have a:es.toList.any (·.refKey)=false:=by
   rw[List.any_eq_false]
   intro y hy
   obtain⟨z,t,tR⟩:=hk y (Array.mem_toList_iff.mp hy)
   simp[DictEntry.refKey,tR]
  have a':¬es.toList.any (·.refKey)=true:=by rw[a];exact aO
  rw[if_neg a']
  exact congrArg some e
theorem o9.look {h:aI}{x dx C:af}{mA:aP->Option aa}(I:o9 h x dx C mA):∃od,PySem.W.InstAt h x (dH C dx) C (some od)/\∀name,iM name od=some (mA name) :=
 let⟨od,ho,hl⟩:=Wz I.ns
 ⟨od,⟨I.obj,rfl,rfl,ho⟩,hl⟩
section
variable {prog:aW}{w:bv}{A:bo}{E:aa->ah->Prop}{s:ah}{K:ae}{x dx C f:af}{mA:aP->Option aa}{name:aP}{v:aa}
theorem Yw {expr:Bool}{Q:aa->ah->Prop}(X:K.In s.heap)(I:o9 s.heap x dx C mA)(hg:cO K C name=true)(hh:cy K C=true)
  (ha:aq K (.ref C) name=some none) (hv:mA name=some v) (vK:pH v=true) (h:Q v { s with toks:=s.toks+1 }) :
  aQ (aS prog w) A (getAttr (.ref x) name expr) Q E s:=by
 obtain⟨od,J,hl⟩:=I.look
 exact PySem.W.get_value X J (i9 hg).1 (PySem.W.findObj_own hh ha rfl (by rw[hl,hv])) vK h
theorem WU {pl:ip Bool}{Q:aa×List aa->ah->Prop}(X:K.In s.heap)(I:o9 s.heap x dx C mA)(hg:cO K C name=true)
  (hf:aq K (.ref C) name=some (some (.ref f))) (ht:cj K (.ref f)=true) (hv:mA name=none) (h:Q (.ref f,[.ref x]) s) :
  aQ (aS prog w) A (gq (.ref x) name pl) Q E s:=by
 obtain⟨od,J,hl⟩:=I.look
 exact PySem.W.method_fn X J (i9 hg).1 (i9 hg).2 hf (beq_iff_eq.mp ht) (by show(iM name od).map (·.isSome)=some false;rw[hl,hv];rfl) h
theorem Yx {ns:List aP}{Q:Unit->ah->Prop}(X:K.In s.heap)(I:o9 s.heap x dx C mA)
  (hs:aq K (.ref C) "__setattr__"=some (some (.builtin "object.__setattr__"))) (hp:df K C=true) (ht:kZ K C name=some none) (hh:cy K C=true)
  (hw:PySem.Within mA ns) (hsz:ns.length<=sizeLine)
  (h:∀h',o9 h' x dx C (λy=>if y=name then some v else mA y)->cm dx s.heap h'->Q () { s with heap:=h',toks:=s.toks+2 }) :
  aQ (aS prog w) A (setAttr (.ref x) name v) Q E s:=by
 obtain⟨od,J,hl⟩:=I.look
 refine PySem.W.set_plain X J hs (PySem.W.osa_open (s:={ s with toks:=s.toks+1 }) (r:=none) X J hp ht λb=>?_)
 obtain⟨cd,hc,Ik⟩:=PySem.W.any_some hh
 have hx:s.heap.get? x=some ⟨.ref C,some dx,.plain,#[]⟩:=I.obj
 refine ao (aw (ao (ao (wpAny_loadPart hx (ao (PySem.W.Looks.here (s:={ s with toks:=s.toks+1 }) (PySem.W.looks_clsIn X hc) ?_))))))
 rw[Ik]
 refine aw (a:=some dx) (ao (aw (ao ?_)))
 refine wpAny_nsSet1 (s:={ s with toks:=s.toks+1 }) I.ns λh' vE oQ=>?_
 obtain⟨oD,esD,epD,RV,RB,Rz⟩:=vE.count (PySem.Within.cons name v hw)
 refine ao (wpAny_lookBehind RV (by rw[RB];exact pastItsLine_dict (bD Rz (by rw[aF];omega))) ?_)
 exact aw (h _ ⟨(oQ.2 _ (Ne.symm I.ne)).trans I.obj,vE,I.ne⟩ oQ)
theorem WV {R:Result->ah->Prop}{vs:List aa}{kw:List (aP×aa)}(X:K.In s.heap)(hm:dm K C=true)
  (hi:aq K (.ref C) "__init__"=some (some (.ref f))) (hf:PySem.W.typeIn K (.ref f)=some (.type "function"))
  (h:fR (aS prog w) (A.under (.builtin "type.__call__" ⟨.ref C::vs,kw⟩)) (.call (.ref f) ⟨.ref (s.heap.objs.size+1)::vs,kw⟩) (PySem.W.InitBack (s.heap.objs.size+1) R)
   { s with heap:=(s.heap.push cS).push (dH C s.heap.objs.size) }) :
  fR (aS prog w) A (.call (.ref C) ⟨vs,kw⟩) R s:=by
 obtain⟨hh,g,d,t,os⟩:=s
 exact PySem.W.make_core (PySem.W.makes_of X hm) (PySem.W.looks_findIn X hi) (λself=>PySem.W.bind_fn X self hf) (.inl rfl) h
end
def iG (f:aP)(v:V):List (aP×V)->List (aP×V)
 |[]=>[(f,v)]
 |(g,x)::r=>if g=f then(g,v)::r else(g,x)::iG f v r
theorem Nh (f g:aP)(v:V):∀fs:List (aP×V),(iG f v fs).lookup g=if g=f then some v else fs.lookup g
 |[]=>by
  show fU g [(f,v)]=_
  by_cases h:g=f
  ·have hb:(g==f)=true:=beq_iff_eq.mpr h
   simp only[fU,hb,if_pos h]
  ·have hb:(g==f)=false:=beq_eq_false_iff_ne.mpr h
   simp only[fU,hb,if_neg h]
 |(k,x)::r=>by
  have ih:=Nh f g v r
  rw[show iG f v ((k,x)::r)=(if k=f then(k,v)::r else(k,x)::iG f v r)from rfl]
  by_cases hk:k=f
  ·rw[if_pos hk]
   by_cases h:g=k
   ·have hb:(g==k)=true:=beq_iff_eq.mpr h
    simp only[fU,hb,if_pos (h.trans hk)]
   ·have hb:(g==k)=false:=beq_eq_false_iff_ne.mpr h
    simp only[fU,hb,if_neg (λe:g=f=>h (e.trans hk.symm))]
  ·rw[if_neg hk]
   by_cases h:g=k
   ·have hb:(g==k)=true:=beq_iff_eq.mpr h
    simp only[fU,hb,if_neg (λe:g=f=>hk (h.symm.trans e))]
   ·have hb:(g==k)=false:=beq_eq_false_iff_ne.mpr h
    simp only[fU,hb]
    exact ih
theorem J1 (f:aP)(v:V):∀fs:List (aP×V),f∈(iG f v fs).map (·.1)/\∀g,g∈fs.map (·.1)->g∈(iG f v fs).map (·.1)
 |[]=>⟨by simp[iG],λg h=>by simp at h⟩
 |(k,x)::r=>by
  obtain⟨i1,i2⟩:=J1 f v r
  rw[show iG f v ((k,x)::r)=(if k=f then(k,v)::r else(k,x)::iG f v r)from rfl]
  by_cases hk:k=f
  ·rw[if_pos hk]
   subst hk
   exact⟨by simp,λg h=>by simpa using h⟩
  ·rw[if_neg hk]
   refine⟨?_,λg h=>?_⟩
   ·rw[bu]
    exact aj _ i1
   ·rw[bu]at h ⊢
    rcases av.mp h with e|e
    ·exact av.mpr (.inl e)
    ·exact aj _ (i2 g e)
theorem Np (f:aP)(v:V):∀fs:List (aP×V),(iG f v fs).length<=fs.length+1
 |[]=>by simp[iG]
 |(k,x)::r=>by
  have ih:=Np f v r
  rw[show iG f v ((k,x)::r)=(if k=f then(k,v)::r else(k,x)::iG f v r)from rfl]
  by_cases hk:k=f
  ·rw[if_pos hk,aF,aF];omega
  ·rw[if_neg hk,aF,aF];omega
theorem jH.some_of {v:V}{o:Option aa}(r:jH (some v) o):∃u,o=some u/\RelV v u:=by
 cases o with
 |none=>exact(show False from r).elim
 |some u=>exact⟨u,rfl,r⟩
theorem jH.none_of {o:Option aa}(r:jH none o):o=none:=by
 cases o with
 |none=>rfl
 |some u=>exact(show False from r).elim
theorem WA {v:V}{u:aa}(r:RelV v u):pH u=true:=by
 cases v with
 |non=>cases(show u=aa.none from r);rfl
 |bl b=>cases(show u=aa.bool b from r);rfl
 |int i=>obtain⟨t,e⟩:=(show∃t,u=aa.int i t from r);cases e;rfl
 |str x=>obtain⟨t,e⟩:=(show∃t,u=aa.str x t from r);cases e;rfl
 |byt b=>obtain⟨t,e⟩:=(show∃t,u=aa.bytes b t from r);cases e;rfl
 |flt b=>obtain⟨t,e⟩:=(show∃t,u=aa.float b t from r);cases e;rfl
 |ref a=>cases(show u=aa.ref a from r);rfl
 |ty n=>cases(show u=aa.type n from r);rfl
section
variable {P:aW}{w:bv}{H H':Hp}{h h':aI}{a C dx:af}{fs Rb:List (aP×V)}
theorem Gx (hok:kb P w H h)(e:H a=some (.ins C dx fs)):∃mA,o9 h a dx C mA/\(∀f,jH (fs.lookup f) (mA f))/\PySem.Within mA (fs.map (·.1))/\fs.length<=1000/\H dx=some (.own a):=by
 obtain⟨d,z,ne,ob,mA,n,r,q⟩:=(show dI P w H h a (.ins C dx fs)from hok a _ e)
 exact⟨mA,⟨ob,n,ne⟩,r,q,z,d⟩
end
structure lc (K:ae)(C:af):Prop where
 pg:cO K C aP.empty=true
 hd:cy K C=true
 po:df K C=true
 sa:aq K (.ref C) "__setattr__"=some (some (.builtin "object.__setattr__"))
theorem lc.get {K:ae}{C:af}(c:lc K C)(f:aP):cO K C f=true:=c.pg
def el (K:ae)(C:af)(f:aP):Prop:=aq K (.ref C) f=some none
theorem el.taker {K:ae}{C:af}{f:aP}(n:el K C f):kZ K C f=some none:=by
 unfold kZ
 rw[show aq K (.ref C) f=some none from n]
 rfl
structure o8 (K:ae)(C:af)(m:aP)(f:af):Prop where
 at_:aq K (.ref C) m=some (some (.ref f))
 fn:cj K (.ref f)=true
 kp:ar K (.ref f)=true
section
variable {X:Cx}{ai:List (af×cJ)}{σ:St}{H:Hp}{s:ah}{a C dx:af}{fs:List (aP×V)}{f:aP}{v:V}{A:bo}{E:aa->ah->Prop}
theorem Wd {b:Bool}{Q:aa->ah->Prop}(I:Inv X ai σ H s)(e:H a=some (.ins C dx fs))(c:lc X.K C)(n:el X.K C f)(l:fs.lookup f=some v)
  (h:∀u s',Inv X ai σ H s'->RelV v u->Q u s'):aQ (aS X.prog X.w) A (getAttr (.ref a) f b) Q E s:=by
 obtain⟨mA,O,r,_,_,_⟩:=Gx I.hok e
 obtain⟨u,hu,ru⟩:=jH.some_of (v:=v) (o:=mA f) (by rw[←l];exact r f)
 exact Yw I.kIn O (c.get f) c.hd n hu (WA ru) (h u _ (I.tok _) ru)
theorem JP {m:aP}{g:af}{pl:ip Bool}{Q:aa×List aa->ah->Prop}(I:Inv X ai σ H s)(e:H a=some (.ins C dx fs))(c:lc X.K C)(k:o8 X.K C m g)(l:fs.lookup m=none)
  (h:Q (.ref g,[.ref a]) s):aQ (aS X.prog X.w) A (gq (.ref a) m pl) Q E s:=by
 obtain⟨mA,O,r,_,_,_⟩:=Gx I.hok e
 have hn:mA m=none:=jH.none_of (by rw[←l];exact r m)
 exact WU I.kIn O (c.get m) k.at_ k.fn hn h
theorem We {y:V}{u:aa}{Q:Unit->ah->Prop}(I:Inv X ai σ H s)(e:H a=some (.ins C dx fs))(c:lc X.K C)(n:el X.K C f)(hl:fs.length<1000)(ry:RelV y u)
  (h:∀s',Inv X ai σ (upd H a (.ins C dx (iG f y fs))) s'->Q () s'):aQ (aS X.prog X.w) A (setAttr (.ref a) f u) Q E s:=by
 obtain⟨mA,O,r,wi,_,ho⟩:=Gx I.hok e
 have hz:(fs.map (·.1)).length<=sizeLine:=by rw[aA,bC];omega
 refine Yx I.kIn O c.sa c.po n.taker c.hd wi hz λh' O' sb=>h _ ?_
 have hd:∃o,h'.get? dx=some o:=let⟨o,_,_,e',_⟩:=O'.ns;⟨o,e'⟩
 refine I.write (x:=a) (e:=dx) (by rw[e];exact True.intro) (.inr ho) (λb q hb z=>(sb.2 b hb).trans z) hd ?_
 refine⟨by rw[zn O.ne];exact ho,?_,O.ne,O'.obj,_,O'.ns,λg=>?_,λg hg=>?_⟩
 ·have:=Np f y fs;omega
 ·show jH ((iG f y fs).lookup g) (if g=f then some u else mA g)
  rw[Nh]
  by_cases q:g=f
  ·rw[if_pos q,if_pos q];exact ry
  ·rw[if_neg q,if_neg q];exact r g
 ·by_cases q:g=f
  ·rw[q];exact(J1 f y fs).1
  ·refine(J1 f y fs).2 g (wi g λz=>hg ?_)
   show(if g=f then some u else mA g)=none
   rw[if_neg q];exact z
theorem Inv.made (I:Inv X ai σ H s):Inv X ai σ (upd (upd H s.heap.objs.size (.own (s.heap.objs.size+1))) (s.heap.objs.size+1) (.ins C s.heap.objs.size []))
  { s with heap:=(s.heap.push cS).push (dH C s.heap.objs.size) }:=by
 have e1:(s.heap.push cS).get? s.heap.objs.size=some cS:=ba s.heap rfl
 have e2:((s.heap.push cS).push (dH C s.heap.objs.size)).get? (s.heap.objs.size+1)=some (dH C s.heap.objs.size):=by
  have:=ba (s.heap.push cS) (o:=dH C s.heap.objs.size) rfl
  rwa[dD]at this
 have e3:(s.heap.push cS).Ns s.heap.objs.size (λ_=>none):=⟨cS,#[],_,e1,rfl,(λe he=>absurd he (by simp)),λ_=>rfl⟩
 have I1:=I.laid (a:=s.heap.objs.size) (o:=.own (s.heap.objs.size+1)) (h':=s.heap.push cS) (t':=s.toks) (λb u q=>ap _ q) (aH _) ⟨_,e1⟩
 refine I1.laid (a:=s.heap.objs.size+1) (o:=.ins C s.heap.objs.size []) (t':=s.toks) (λb u q=>ap _ q) (oI (dD _ _)) ?_
 have ne:s.heap.objs.size≠s.heap.objs.size+1:=bj (fQ _)
 refine⟨by rw[zn ne,yr],cH _,ne,e2,λ_=>none,(aI.Ns1.of_empty e3).at λo q=>ap _ q,λ_=>True.intro,λy hy=>absurd rfl hy⟩
theorem Yy {prog:aW}{w:bv}{env:Env}{e:Expr}{f:aP}{pos:cB}{s:ah}{Q:aa->ah->Prop}(hb:eZ e f env (bS e env)=bS e env)
  (h:aQ (aS prog w) A (bS e env) (λo s₁=>aQ (aS prog w) A (getAttr o f true) Q E s₁) E s):aQ (aS prog w) A (bS (.Attribute e f pos) env) Q E s :=
 Attribute_any_ h (by rw[arm_eval_Attribute,hb])
end
def JB (K:ae)(ta:TE)(f:aP):TE:=λσ H Q=>ta σ H λx H1=>∃a C dx fs v,x=.ref a/\H1 a=some (.ins C dx fs)/\lc K C/\el K C f/\fs.lookup f=some v/\Q v H1
def Jw (K:ae)(ta tv:TE)(f:aP):TS:=λD σ H=>tv σ H λy H1=>ta σ H1 λx H2=>∃a C dx fs,x=.ref a/\H2 a=some (.ins C dx fs)/\lc K C/\el K C f/\fs.length<1000 /\
 D.nx σ (upd H2 a (.ins C dx (iG f y fs)))
section
variable {X:Cx}{o e value:Expr}{f:aP}{pos pos' jM:cB}{ta tv:TE}
theorem Z8 (he:PE X e ta)(hb:eZ e f X.env (bS e X.env)=bS e X.env):PE X (.Attribute e f pos) (JB X.K ta f):=by
 intro ai s σ H Q I h
 refine Yy hb (dk (he ai s σ H _ I h) λu s1 dq=>?_)
 obtain⟨x,H1,I1,rx,a,C,dx,fs,v,ex,ea,c,n,l,q⟩:=dq
 subst ex
 obtain rfl:u=aa.ref a:=rx
 exact Wd I1 ea c n l λu' s2 I2 ru=>⟨v,H1,I2,ru,q⟩
theorem Z9 (ha:PE X o ta)(hv:PE X value tv)(hs:d8 value (some (.Attribute o f pos')) pos.line X.env=pure false):PS X (.Assign [.Attribute o f pos'] value pos) (Jw X.K ta tv f):=by
 intro ai s σ H D I h
 refine plainObj_wpAny_Assign_Attribute (dk (hv ai s σ H _ I h) λu s1 ⟨y,H1,I1,ry,q⟩=>dk (ha ai s1 σ H1 _ I1 q) λov s2 ⟨x,H2,I2,rx,a,C,dx,fs,ex,ea,c,n,l,q2⟩=>?_) hs
 subst ex
 obtain rfl:ov=aa.ref a:=rx
 exact We I2 ea c n l ry λs3 I3=>⟨σ,_,I3,q2⟩
def zK:V->V->Hp->VK->Prop:=λx y H Q=>∃i j,x=.int i/\y=.int j/\Q (.int (i+j)) H
theorem zos {pl:ip Bool}{m:aP}{dh:cB}{args:List Expr}{ai:List (af×cJ)}{s:ah}{σ:St}{H:Hp}{Q:aa->ah->Prop}{te:TE}(he:PE X e te)(I:Inv X ai σ H s)
  (h:te σ H λx H1=>∃a C dx fs g,x=.ref a/\H1 a=some (.ins C dx fs)/\lc X.K C/\o8 X.K C m g/\fs.lookup m=none /\
   ∀s1,Inv X ai σ H1 s1->aQ (aS X.prog X.w) X.A (i7 pos (.ref g) [.ref a] (cL pos (ay args X.env)) (e8 pos (dG [] X.env))) Q X.xe s1)
  (ht:bS (.Call (.Attribute e m dh) args [] pos) X.env=(do
   let ov ← bS e X.env
   gu dh.atName
   let(f,first) ← d6 [ov] (gq ov m pl)
   i7 pos f first (cL pos (ay args X.env)) (e8 pos (dG [] X.env)))) :
  aQ (aS X.prog X.w) X.A (bS (.Call (.Attribute e m dh) args [] pos) X.env) Q X.xe s:=by
 refine fw (pl:=pl) (dk (he ai s σ H _ I h) λu s1 ⟨x,H1,I1,rx,a,C,dx,fs,g,ex,ea,c,k,l,q⟩=>?_) ht
 subst ex
 obtain rfl:u=aa.ref a:=rx
 exact JP I1 ea c k l (q s1 I1)
end
section
variable {X:Cx}{ai:List (af×cJ)}{σ:St}{H:Hp}{s:ah}{A:bo}{E:aa->ah->Prop}{Q:aa->ah->Prop}{c:aa}{b:Bool}
inductive jX (K:ae)(H:Hp):V->aa->Prop where
 |non:jX K H .non (.type "NoneType")
 |bl (x:Bool):jX K H (.bl x) (.type "bool")
 |int (i:Int):jX K H (.int i) (.type "int")
 |str (x:aP):jX K H (.str x) (.type "str")
 |flt (x:UInt64):jX K H (.flt x) (.type "float")
 |lst {a:af} {xs:List V} (e:H a=some (.lst xs)):jX K H (.ref a) (.type "list")
 |frz {a:af} {o:cJ} {xs:List V} (e:H a=some (.frz o (.lst xs))):jX K H (.ref a) (.type "list")
 |tup {a:af} {xs:List V} (e:H a=some (.tup xs)):jX K H (.ref a) (.type "tuple")
 |dK {a:af} {cn:List (eF×V)} (e:H a=some (.dK cn)):jX K H (.ref a) (.type "dict")
 |dT {a:af} {cn:List (List eF×V)} (e:H a=some (.dT cn)):jX K H (.ref a) (.type "dict")
 |ins {a C dx:af} {fs:List (aP×V)} (e:H a=some (.ins C dx fs)) (cl:lc K C) (ha:aq K (.ref C) "__class__"=some (some (.builtin "object.__class__")))
   (hn:dg K (.builtin "object.__class__") "__get__"=some (some (.builtin "getset_descriptor.__get__"))) (Mj:iu K (.builtin "object.__class__")=some true)
   (hm:dA K C (.type "object")=some true):jX K H (.ref a) (.ref C)
theorem NG {x:V}{u t:aa}(I:Inv X ai σ H s)(rx:RelV x u)(ty:jX X.K H x t)(e:bB X.K t c=some b)(h:∀tk,Q (.bool b) { s with toks:=tk }) :
  aQ (aS X.prog X.w) A (call (.builtin "isinstance") [u,c]) Q E s:=by
 cases ty with
 |non=>cases(show u=aa.none from rx);exact cp PySem.W.kitx_none I.kIn True.intro e (λz=>nomatch z) h
 |bl y=>cases(show u=aa.bool y from rx);exact cp PySem.W.kitx_bool I.kIn True.intro e (λz=>nomatch z) h
 |int i=>obtain⟨t,q⟩:=(show∃t,u=aa.int i t from rx);cases q;exact cp PySem.W.kitx_int I.kIn True.intro e (λz=>nomatch z) h
 |str y=>obtain⟨t,q⟩:=(show∃t,u=aa.str y t from rx);cases q;exact cp PySem.W.kitx_str I.kIn True.intro e (λz=>nomatch z) h
 |flt y=>obtain⟨t,q⟩:=(show∃t,u=aa.float y t from rx);cases q;exact cp PySem.W.kitx_float I.kIn True.intro e (λz=>nomatch z) h
 |@lst a xs ea=>
  cases(show u=aa.ref a from rx)
  obtain⟨_,_,n,_,h1⟩:=(show dI X.prog X.w H s.heap a (.lst xs)from I.hok a _ ea)
  exact cp jZ I.kIn ⟨_,h1,rfl⟩ e (λz=>nomatch z) h
 |@frz a ob xs ea=>
  cases(show u=aa.ref a from rx)
  obtain⟨_,_,_,n,_,h1⟩:=(show dI X.prog X.w H s.heap a (.frz ob (.lst xs))from I.hok a _ ea)
  exact cp jZ I.kIn ⟨_,h1,rfl⟩ e (λz=>nomatch z) h
 |@tup a xs ea=>
  cases(show u=aa.ref a from rx)
  obtain⟨_,_,_,p⟩:=(show dI X.prog X.w H s.heap a (.tup xs)from I.hok a _ ea)
  obtain⟨o,h1,h2,_⟩:=p
  exact cp PySem.W.kitx_tuple I.kIn ⟨o,h1,h2⟩ e (λz=>nomatch z) h
 |@dK a cn ea=>
  cases(show u=aa.ref a from rx)
  obtain⟨_,_,vs,_,p⟩:=(show dI X.prog X.w H s.heap a (.dK cn)from I.hok a _ ea)
  obtain⟨o,es,ep,h1,h2,_⟩:=p
  exact cp oW I.kIn ⟨o,h1,h2.1⟩ e (λz=>nomatch z) h
 |@dT a cn ea=>
  cases(show u=aa.ref a from rx)
  obtain⟨_,_,xs,_,o,es,ep,h1,h2,_⟩:=(show dI X.prog X.w H s.heap a (.dT cn)from I.hok a _ ea)
  exact cp oW I.kIn ⟨o,h1,h2.1⟩ e (λz=>nomatch z) h
 |@ins a C dx fs ea cl ha hn Mj hm=>
  cases(show u=aa.ref a from rx)
  obtain⟨mA,O,_⟩:=Gx I.hok ea
  obtain⟨od,J,_⟩:=O.look
  exact cp (PySem.W.kitx_own (cl.get _) cl.hd ha hn Mj hm) I.kIn J e (λz=>nomatch z) h
end
end L2
namespace L2
open PySem PySem.Spec PyProof.Rows
structure ee (k:Nat)(A:bo):Prop where
 hd:A.handled=none
 dp:A.depth+3*k+5<recursionLimit
 un:A.units+16*k+200<gR
 gd:A.guards=some []
theorem ee.mono {j k:Nat}{A:bo}(r:ee k A)(h:j<=k):ee j A:=⟨r.hd,by have:=r.dp;omega,by have:=r.un;omega,r.gd⟩
theorem ee.deeper {k:Nat}{A:bo}(r:ee (k+1) A)(env:Env):ee k (A.deeper env) :=
 ⟨r.hd,by have:=r.dp;show A.depth+1+3*k+5<_;omega,by have:=r.un;show A.units+3+16*k+200<_;omega,r.gd⟩
theorem Wf {A:bo}{C:af}{us:List aa}{kw:List (aP×aa)}:(A.under (.builtin "type.__call__" ⟨.ref C::us,kw⟩)).depth=A.depth+1:=by
 first|rfl|simp[bo.under,nS.weight,nS.isCreation,nS.isGuard,nS.isCaller,nS.frames,nS.isFrame,guardIds]
theorem Wg {A:bo}{C:af}{us:List aa}{kw:List (aP×aa)}:(A.under (.builtin "type.__call__" ⟨.ref C::us,kw⟩)).units=A.units+1:=by
 first|rfl|simp[bo.under,nS.cUnits,nS.frames,nS.isFrame]
theorem VO {A:bo}{C:af}{us:List aa}{kw:List (aP×aa)}:(A.under (.builtin "type.__call__" ⟨.ref C::us,kw⟩)).guards=A.guards:=by
 first|rfl|simp[bo.under,nS.guards,nS.isGuard,guardIds,pushGuards]
theorem ee.make {k:Nat}{A:bo}(r:ee (k+1) A)(C:af)(us:List aa)(kw:List (aP×aa)):ee k (A.under (.builtin "type.__call__" ⟨.ref C::us,kw⟩)) :=
 ⟨r.hd,by have:=r.dp;rw[Wf];omega,by have:=r.un;rw[Wg];omega,by rw[VO];exact r.gd⟩
theorem ee.depth {k:Nat}{A:bo}(r:ee k A):A.depth<recursionLimit:=by have:=r.dp;omega
theorem ee.units {k:Nat}{A:bo}(r:ee k A):A.units+64<gR:=by have:=r.un;omega
def EK:TA:=λ_ H Q=>Q [] H
def EG (ta:TE)(tr:TA):TA:=λσ H Q=>ta σ H λx H1=>tr σ H1 λxs H2=>Q (x::xs) H2
section
variable {X:Cx}{e:Expr}{es:List Expr}{te:TE}{t:TA}{pos:cB}
theorem vX:PA X [] EK:=λ_ _ _ _ H Q I h=>Calls.spliced_nil ⟨[],H,I,.nil,h⟩
theorem ul (ha:PE X e te)(hr:PA X es t)(hs:ay (e::es) X.env=(false,bS e X.env)::ay es X.env:=by rfl):PA X (e::es) (EG te t):=by
 intro pos ai s σ H Q I h
 rw[hs]
 show aQ _ _ (spliced ((false,bS e X.env)::cL pos (ay es X.env))) _ _ s
 refine Calls.spliced_cons (dk (ha ai s σ H _ I h) λu s1 dq=>?_)
 obtain⟨x,H1,I1,r1,q1⟩:=dq
 exact dk (hr pos ai s1 σ H1 _ I1 q1) λus s2 ⟨xs,H2,I2,r2,q2⟩=>⟨x::xs,H2,I2,.cons r1 r2,q2⟩
def JK (t:TA):TE:=λσ H Q=>t σ H λxs H1=>xs.length<=sizeLine/\∀p,H1 p=none->Q (.ref p) (upd H1 p (.tup xs))
def JE (t:TA):TE:=λσ H Q=>t σ H λxs H1=>xs.length<=sizeLine/\∀p,H1 p=none->Q (.ref p) (upd H1 p (.lst xs))
theorem zrt {x1}(h:PA X es t):PE X (.Tuple es x1 pos) (JK t):=by
 intro ai s σ H Q I hq
 refine wpAny_Tuple_spliced (dk (h pos ai s σ H _ I hq) λus s1 ⟨xs,H1,I1,r,z,q⟩=>⟨by rw[←r.length];exact z,?_⟩)
 have hf:H1 s1.heap.objs.size=none:=I1.hok.fresh (aH _)
 refine⟨.ref s1.heap.objs.size,upd H1 s1.heap.objs.size (.tup xs),I1.laid (t':=s1.toks) (λb u e=>ap _ e) (aH _) ?_,rfl,q _ hf⟩
 exact⟨z,us,r,⟨_,ba _ rfl,rfl,_,rfl⟩⟩
theorem zru (h:PA X es t):PE X (.List es pos) (JE t):=by
 intro ai s σ H Q I hq
 refine wpAny_List_spliced (dk (h pos ai s σ H _ I hq) λus s1 ⟨xs,H1,I1,r,z,q⟩=>⟨by rw[←r.length];exact z,?_⟩)
 have hf:H1 s1.heap.objs.size=none:=I1.hok.fresh (aH _)
 refine⟨.ref s1.heap.objs.size,upd H1 s1.heap.objs.size (.lst xs),I1.laid (t':=s1.toks) (λb u e=>ap _ e) (aH _) ?_,rfl,q _ hf⟩
 exact⟨z,us,0,r,ba _ rfl⟩
end
abbrev Sp:=List V->Hp->VK->XK->Prop
abbrev rf:=List Env->Hp->ah->XK->aa->ah->Prop
structure oX (P:aW)(w:bv)(K:ae)(mg:aP->Option aa)(base:aI)(A:bo)(outer:List Env)(s:ah)(H:Hp):Prop where
 frames:A.frames=some outer
 mod:Mod K mg base
 bs:∀b o,base.get? b=some o->s.heap.get? b=some o/\H b=none
 bsz:base.objs.size<=s.heap.objs.size
 funs:s.heap.FunFrames base outer
 frf:∀b∈rV outer,H b=none
 hok:kb P w H s.heap
 bare:AllBare s.gens
def CE (outer:List Env)(P:aW)(w:bv)(H:Hp)(s:ah)(Q:VK)(u:aa)(s':ah):Prop :=
 ∃v H',s'.os=s.os/\AllBare s'.gens/\Un (rV outer) [] H H' s.heap s'.heap/\kb P w H' s'.heap/\RelV v u/\Q v H'
def CR (CX:rf)(outer:List Env)(P:aW)(w:bv)(H:Hp)(s:ah)(Q:VK)(E:XK)(r:Result)(s':ah):Prop :=
 match r with
 |.ok (.ret u)=>CE outer P w H s Q u s'
 |.ok _=>False
 |.error e=>CX outer H s E e s'
structure cI (P:aW)(w:bv)(K:ae)(mg:aP->Option aa)(base:aI)(CX:rf)(k:Nat)(f:af)(fd:aM)(ps:List aP)(sp:Sp):Prop where
 len:∀vs H Q E,sp vs H Q E->vs.length=ps.length
 run:∀(A:bo) (outer:List Env) (s:ah) (H:Hp) (args:Args) (us:List aa) (vs:List V) (Q:VK) (E:XK),ee k A->oX P w K mg base A outer s H->nY s fd args (ps.zip us)->bR vs us->sp vs H Q E ->
  fR (aS P w) A (.call (.ref f) args) (CR CX outer P w H s Q E) s
theorem oX.make {P:aW}{w:bv}{K:ae}{mg:aP->Option aa}{base:aI}{A:bo}{outer:List Env}{s:ah}{H:Hp}(e:oX P w K mg base A outer s H)(C:af)(us:List aa)(kw:List (aP×aa)) :
  oX P w K mg base (A.under (.builtin "type.__call__" ⟨.ref C::us,kw⟩)) outer s H:=⟨by first|exact e.frames|(simpa[bo.under,nS.envs,nS.isFrame,pushEnvs]using e.frames),e.mod,e.bs,e.bsz,e.funs,e.frf,e.hok,e.bare⟩
section
variable {X:Cx}{ai:List (af×cJ)}{σ:St}{H:Hp}{s s':ah}
theorem Inv.env0 (I:Inv X ai σ H s):oX X.prog X.w X.K X.mg X.base X.A X.stack s H :=
 ⟨I.ok.frames,I.ok.mod,I.bs,bD I.ok.bsz I.sz,I.stack,I.stkFree,I.hok,I.bare⟩
theorem Inv.after {Q:VK}{u:aa}(I:Inv X ai σ H s)(h:CE X.stack X.prog X.w H s Q u s'):EP X ai σ Q u s':=by
 obtain⟨v,H',os,bare,un,hok,r,q⟩:=h
 obtain⟨hh,g,d,t,Jo⟩:=s'
 obtain rfl:Jo=s.os:=os
 exact⟨v,H',I.call (h':=hh) (g':=g) (d':=d) (t':=t) (ch:=[]) un hok bare (λb z=>absurd z (by simp)),r,q⟩
end
def vV (sp:Sp)(iy:List V)(E:XK)(t:TA):TE:=λσ H Q=>t σ H λvs H1=>sp (vs++iy) H1 Q E
def vW (C:af)(m:aP)(sp:Sp)(iy:List V)(E:XK)(ta:TE)(t:TA):TE:=λσ H Q=>ta σ H λx H1=>∃a dx fs,x=.ref a/\H1 a=some (.ins C dx fs)/\fs.lookup m=none /\
 t σ H1 λvs H2=>sp (x::(vs++iy)) H2 Q E
def EI (C:af)(sp:Sp)(iy:List V)(E:XK)(t:TA):TE:=λσ H Q=>t σ H λvs H1=>∀x dx,H1 x=none->H1 dx=none->dx≠x ->
 sp (.ref x::(vs++iy)) (upd (upd H1 dx (.own x)) x (.ins C dx [])) (λv H2=>v=.non/\Q (.ref x) H2) E
def bE (K:ae)(fd:aM)(ps:List aP)(ds:List aa):Prop :=
 ∀(s:ah) (us:List aa),K.In s.heap->(us++ds).length=ps.length->nY s fd ⟨us,[]⟩ (ps.zip (us++ds))
theorem bE.all {K:ae}{fd:aM}{ps:List aP}(h:∀us:List aa,us.length=ps.length->bindArgs fd ⟨us,[]⟩=pure (ps.zip us)):bE K fd ps []:=λs us _ hl=>by
 rw[cr]at hl ⊢
 exact .of_eq (h us hl)
def iP (CX:rf)(X:Cx)(E:XK):Prop:=∀(ai:List (af×cJ)) (σ:St) (H:Hp) (s:ah) (e:aa) (s':ah),Inv X ai σ H s->CX X.stack H s E e s'->X.xe e s'
section
variable {X:Cx}{CX:rf}{k:Nat}{f C:af}{fd:aM}{ps:List aP}{sp:Sp}{iy:List V}{ds:List aa}{E:XK}{x m:aP}{p pos dh:cB}{e o:Expr}{es:List Expr}{ta:TE}{t:TA}
theorem GF {ai:List (af×cJ)}{σ:St}{H:Hp}{s:ah}{Q:VK}{us:List aa}{vs:List V}(F:cI X.prog X.w X.K X.mg X.base CX k f fd ps sp)(hr:ee k X.A)(hb:bE X.K fd ps ds)(hd:bR iy ds)(hx:iP CX X E)
  (I:Inv X ai σ H s) (r:bR vs us) (h:sp (vs++iy) H Q E):aQ (aS X.prog X.w) X.A (call (.ref f) us) (EP X ai σ Q) X.xe s:=by
 have r2:bR (vs++iy) (us++ds):=r.append hd
 have hl:(us++ds).length=ps.length:=by rw[←r2.length];exact F.len _ _ _ _ h
 refine wpAny_call (gX (F.run X.A X.stack s H ⟨us,[]⟩ (us++ds) (vs++iy) Q E hr I.env0 (hb s us I.kIn hl) r2 h) λr s' hq=>?_)
 cases r with
 |error e=>exact hx ai σ H s e s' I hq
 |ok fl=>
  cases fl with
  |ret u=>exact I.after hq
  |next=>exact False.elim hq
  |brk=>exact False.elim hq
  |cont=>exact False.elim hq
theorem Yz (F:cI X.prog X.w X.K X.mg X.base CX k f fd ps sp)(hr:ee k X.A)(hg:Gl X x)(hm:X.mg x=some (.ref f))(hk:ar X.K (.ref f)=true)(hb:bE X.K fd ps ds)(hd:bR iy ds)(hx:iP CX X E)
  (ha:PA X (e::es) t) (mJ:(x==("__debug__":aP))=false:=by decide) (he:ay (e::es) X.env=(false,bS e X.env)::ay es X.env:=by rfl) (fT:(cL pos (ay es X.env)).any (·.1)=false:=by rfl) :
  PE X (.Call (.Name x p) (e::es) [] pos) (vV sp iy E t):=by
 intro ai s σ H Q I h
 refine fD (Gv I hg hm ?_ mJ)
 refine gr (h₀:=X.base) I.ok.mod.kin hk (dk (ha pos ai s σ H _ I h) λus s1 ⟨vs,H1,I1,r,q⟩=>⟨I1.kIn,?_⟩) he fT
 exact GF F hr hb hd hx I1 r q
theorem YA {pl:ip Bool}(he:PE X o ta)(c:lc X.K C)(hm:o8 X.K C m f)(F:cI X.prog X.w X.K X.mg X.base CX k f fd ps sp)(hr:ee k X.A)(hb:bE X.K fd ps ds)(hd:bR iy ds)(hx:iP CX X E)(ha:PA X (e::es) t)
  (lW:ay (e::es) X.env=(false,bS e X.env)::ay es X.env:=by rfl) (fT:(cL pos (ay es X.env)).any (·.1)=false:=by rfl)
  (ht:bS (.Call (.Attribute o m dh) (e::es) [] pos) X.env=(do
   let ov ← bS o X.env
   gu dh.atName
   let(f,first) ← d6 [ov] (gq ov m pl)
   i7 pos f first (cL pos (ay (e::es) X.env)) (e8 pos (dG [] X.env))):=by rfl) :
  PE X (.Call (.Attribute o m dh) (e::es) [] pos) (vW C m sp iy E ta t):=by
 intro ai s σ H Q I h
 refine fw (pl:=pl) (dk (he ai s σ H _ I h) λu s1 ⟨x,H1,I1,rx,a,dx,fs,ex,ea,l,q⟩=>?_) ht
 subst ex
 obtain rfl:u=aa.ref a:=rx
 refine JP I1 ea c hm l ?_
 refine gr (first:=[.ref a]) (h₀:=X.base) I.ok.mod.kin hm.kp (dk (ha pos ai s1 σ H1 _ I1 q) λus s2 ⟨vs,H2,I2,r,q2⟩=>⟨I2.kIn,?_⟩) lW fT
 exact GF (us:=.ref a::us) (vs:=.ref a::vs) F hr hb hd hx I2 (.cons rfl r) q2
theorem WW {pl:ip Bool}(he:PE X o ta)(c:lc X.K C)(hm:o8 X.K C m f)(F:cI X.prog X.w X.K X.mg X.base CX k f fd ps sp)(hr:ee k X.A)(hb:bE X.K fd ps ds)(hd:bR iy ds)(hx:iP CX X E)
  (ht:bS (.Call (.Attribute o m dh) [] [] pos) X.env=(do
   let ov ← bS o X.env
   gu dh.atName
   let(f,first) ← d6 [ov] (gq ov m pl)
   i7 pos f first (cL pos (ay [] X.env)) (e8 pos (dG [] X.env))):=by rfl) :
  PE X (.Call (.Attribute o m dh) [] [] pos) (vW C m sp iy E ta EK):=by
 intro ai s σ H Q I h
 refine fw (pl:=pl) (dk (he ai s σ H _ I h) λu s1 ⟨x,H1,I1,rx,a,dx,fs,ex,ea,l,q⟩=>?_) ht
 subst ex
 obtain rfl:u=aa.ref a:=rx
 refine JP I1 ea c hm l ?_
 exact PySem.W.callWith_K0 (first:=[.ref a]) I1.kIn hm.kp (GF (us:=[.ref a]) (vs:=[.ref a]) F hr hb hd hx I1 (.cons rfl .nil) q)
structure Mk (K:ae)(C f:af):Prop where
 makes:dm K C=true
 init:aq K (.ref C) "__init__"=some (some (.ref f))
 fn:cj K (.ref f)=true
 kp:ar K (.ref C)=true
theorem WX {ai:List (af×cJ)}{σ:St}{H:Hp}{s:ah}{Q:VK}{us:List aa}{vs:List V}(M:Mk X.K C f)(F:cI X.prog X.w X.K X.mg X.base CX k f fd ps sp)(hr:ee (k+1) X.A)(hb:bE X.K fd ps ds)(hd:bR iy ds)
  (hx:iP CX X E) (I:Inv X ai σ H s) (r:bR vs us)
  (h:∀x dx,H x=none->H dx=none->dx≠x->sp (.ref x::(vs++iy)) (upd (upd H dx (.own x)) x (.ins C dx [])) (λv H2=>v=.non/\Q (.ref x) H2) E) :
  aQ (aS X.prog X.w) X.A (call (.ref C) us) (EP X ai σ Q) X.xe s:=by
 have hq:=h (s.heap.objs.size+1) s.heap.objs.size (I.hok.fresh (eD _)) (I.hok.fresh (aH _)) (bj (fQ _))
 have I2:=Inv.made (C:=C) I
 have r2:bR (V.ref (s.heap.objs.size+1)::(vs++iy)) (aa.ref (s.heap.objs.size+1)::(us++ds)):=.cons rfl (r.append hd)
 have hl:(aa.ref (s.heap.objs.size+1)::us++ds).length=ps.length:=by
  have e:=r2.length
  rw[F.len _ _ _ _ hq]at e
  exact e.symm
 refine wpAny_call (WV (f:=f) I.kIn M.makes M.init (beq_iff_eq.mp M.fn) (gX (F.run _ X.stack _ _ ⟨aa.ref (s.heap.objs.size+1)::us,[]⟩ (aa.ref (s.heap.objs.size+1)::(us++ds)) _ _ E (hr.make C us [])
  (I2.env0.make C us []) (hb _ (aa.ref (s.heap.objs.size+1)::us) I2.kIn hl) r2 hq) λr s' yT=>?_))
 cases r with
 |error e=>exact hx ai σ _ _ e s' I2 yT
 |ok fl=>
  cases fl with
  |ret u=>
   obtain⟨v,H',I3,rv,ev,q3⟩:=I2.after yT
   subst ev
   exact⟨rv,⟨V.ref (s.heap.objs.size+1),H',I3,rfl,q3⟩⟩
  |next=>exact False.elim yT
  |brk=>exact False.elim yT
  |cont=>exact False.elim yT
theorem YB (M:Mk X.K C f)(F:cI X.prog X.w X.K X.mg X.base CX k f fd ps sp)(hr:ee (k+1) X.A)(hg:Gl X x)(hm:X.mg x=some (.ref C))(hb:bE X.K fd ps ds)(hd:bR iy ds)(hx:iP CX X E)
  (ha:PA X (e::es) t) (mJ:(x==("__debug__":aP))=false:=by decide) (he:ay (e::es) X.env=(false,bS e X.env)::ay es X.env:=by rfl) (fT:(cL pos (ay es X.env)).any (·.1)=false:=by rfl) :
  PE X (.Call (.Name x p) (e::es) [] pos) (EI C sp iy E t):=by
 intro ai s σ H Q I h
 refine fD (Gv I hg hm ?_ mJ)
 refine gr (h₀:=X.base) I.ok.mod.kin M.kp (dk (ha pos ai s σ H _ I h) λus s1 ⟨vs,H1,I1,r,q⟩=>⟨I1.kIn,?_⟩) he fT
 exact WX M F hr hb hd hx I1 r q
end
section
variable {X:Cx}{CX:rf}{k:Nat}{f C:af}{fd:aM}{ps ks:List aP}{sp:Sp}{E:XK}{x m:aP}{p pos dh zA:cB}{e o:Expr}{es:List Expr}{kws:List iF}{te ta:TE}{t tk:TA}{nm:Option aP}
variable {g:List aa->List aa->List aa}{gV:List V->List V->List V}
end
structure bA (N P:List aP)(sc:fF):Prop where
 kind:sc.kind=.function
 co:sc.isCoroutine=false
 gen:sc.isGenerator=false
 nd:N.Nodup
 pre:N.take P.length=P
 par:∀x∈P,sc.names.lookup x=some .local\/sc.names.lookup x=some .cell
 nofree:∀y∈sc.names,y.2≠.free
theorem NH {kindOf:aP->Option br}{x:aP}:∀{binds:List (aP×aa)} {m:aP->Option aa},(∀v,(x,v)∉binds)->qC kindOf binds m x=m x
 |[],_,_=>rfl
 |(n,v)::r,m,h=>by
  unfold qC
  rw[NH λw hw=>h w (aj _ hw)]
  split
  ·have:x≠n:=by rintro rfl;exact h v ak
   simp[this]
  ·rfl
theorem NI {kindOf:aP->Option br}{x:aP}:∀{binds:List (aP×aa)} {m:aP->Option aa},(∀v,(x,v)∉binds)->qB kindOf binds m x=m x
 |[],_,_=>rfl
 |(n,v)::r,m,h=>by
  unfold qB
  rw[NI λw hw=>h w (aj _ hw)]
  split
  ·rfl
  ·have:x≠n:=by rintro rfl;exact h v ak
   simp[this]
theorem NJ {kindOf:aP->Option br}{x:aP}{v:aa}:∀{P:List aP} {vs:List aa} {i:Nat} {m:aP->Option aa},P.Nodup->P[i]?=some x->vs[i]?=some v->kindOf x=some .local ->
  qC kindOf (P.zip vs) m x=some v
 |[],_,_,_,_,h,_,_=>by simp at h
 |_::_,[],_,_,_,_,h,_=>by simp at h
 |p::P,w::vs,0,m,nd,h1,h2,hk=>by
  simp at h1 h2;subst h1;subst h2
  show qC kindOf ((p,w)::P.zip vs) m p=_
  unfold qC
  rw[NH λv hv=>(bp.mp nd).1 (gj hv).1,if_pos hk]
  simp
 |p::P,w::vs,i+1,m,nd,h1,h2,hk=>by
  show qC kindOf ((p,w)::P.zip vs) m x=_
  unfold qC
  exact NJ (i:=i) (bp.mp nd).2 (by simpa using h1) (by simpa using h2) hk
theorem NK {kindOf:aP->Option br}{x:aP}{v:aa}:∀{P:List aP} {vs:List aa} {i:Nat} {m:aP->Option aa},P.Nodup->P[i]?=some x->vs[i]?=some v->kindOf x≠some .local ->
  qB kindOf (P.zip vs) m x=some v
 |[],_,_,_,_,h,_,_=>by simp at h
 |_::_,[],_,_,_,_,h,_=>by simp at h
 |p::P,w::vs,0,m,nd,h1,h2,hk=>by
  simp at h1 h2;subst h1;subst h2
  show qB kindOf ((p,w)::P.zip vs) m p=_
  unfold qB
  rw[NI λv hv=>(bp.mp nd).1 (gj hv).1,if_neg hk]
  simp
 |p::P,w::vs,i+1,m,nd,h1,h2,hk=>by
  show qB kindOf ((p,w)::P.zip vs) m x=_
  unfold qB
  exact NK (i:=i) (bp.mp nd).2 (by simpa using h1) (by simpa using h2) hk
def start (N:List aP)(vs:List V):St:=vs.map some++aJ (N.length-vs.length) none
def nB (CX:rf)(P:aW)(w:bv)(K:ae)(mg:aP->Option aa)(base:aI)(N:List aP)(qual:aP)(scope:fF)(f:af)(cd:aa)(A:bo)(outer:List Env)(s:ah)(H:Hp)(E:XK):Cx where
 prog:=P
 w:=w
 K:=K
 mg:=mg
 base:=base
 A:=A.deeper (envOfC qual scope s.heap.objs.size f cd)
 N:=N
 s₀:=s
 H₀:=H
 env:=envOfC qual scope s.heap.objs.size f cd
 outer:=outer
 stack:=envOfC qual scope s.heap.objs.size f cd::outer
 ex:=[]
 calm:=true
 fn:=λ_=>true
 pn:=[]
 xe:=λe s'=>aQ (aS P w) (A.deeper (envOfC qual scope s.heap.objs.size f cd)) (leaving (envOfC qual scope s.heap.objs.size f cd) e) (λ_ s''=>CX outer H s E e s'') (λe' s''=>CX outer H s E e' s'') s'
theorem Oh {sc:fF}{n:Nat}{x:aP}(h:sc.names.lookup x=some .cell):∃c,(cellsFrom n sc.names []).lookup x=some c:=by
 have q:=hU sc.names n [] (.inl h)
 exact mD.mp q
theorem WB {CX:rf}{P:aW}{w:bv}{K:ae}{mg:aP->Option aa}{base:aI}{N ps:List aP}{qual:aP}{scope:fF}{f:af}{cd:aa}{A:bo}{outer:List Env}{s s1:ah}{H:Hp}{E:XK}{us:List aa}{vs:List V}
  (S:bA N ps scope) (hd:A.handled=none) (e0:oX P w K mg base A outer s H) (hl:vs.length=ps.length) (r:bR vs us)
  (x:InCallC s s.heap.objs.size (qC (envOfC qual scope s.heap.objs.size f cd).kindOf (ps.zip us) λ_=>none) (cellsFrom (s.heap.objs.size+1) scope.names []) (qB (envOfC qual scope s.heap.objs.size f cd).kindOf (ps.zip us) λ_=>none) s1) :
  Inv (nB CX P w K mg base N qual scope f cd A outer s H E) [] (start N vs) H s1:=by
 have fT:ps.length<=N.length:=by have:=congrArg gW S.pre;rw[bZ]at this;omega
 obtain⟨h1,tk,rfl,hk⟩:=x.done
 have DN:∀b:af,b∉(nB CX P w K mg base N qual scope f cd A outer s H E).ex:=λb z=>absurd (show b∈([]:List af)from z) (by simp)
 refine⟨⟨e0.mod,S.kind,rfl,rfl,aH _,λy z c h1 h2=>?_,λy hy=>?_,λy c _ h=>?_,λ_=>hd,bo.frames_deeper e0.frames,.inr ⟨rfl,rfl⟩,λb z=>absurd z (DN b),e0.bs,e0.bsz,λb _ _=>DN b,λb z=>absurd z (DN b),e0.funs,e0.frf⟩,
  rfl,e0.bare,Un.kept hk,⟨_,x.toInCall.ns,λi y v h1 h2 h3=>?_⟩,λy c h=>⟨_,x.cell y c h⟩,e0.hok.fresh (aH _),λy c h=>?_,λp hp=>absurd (show p∈([]:List (af×cJ))from hp) (by simp),e0.hok.kept hk,?_⟩
 ·exact name_of_addr x.apart (PySem.mem_of_lookup h1) (PySem.mem_of_lookup h2)
 ·have hy:scope.names.lookup y=some .cell\/scope.names.lookup y=some .free:=hy
  rcases hy with hy|hy
  ·exact Oh hy
  ·exact absurd rfl (S.nofree _ (PySem.mem_of_lookup hy))
 ·exact fC (x.above y c (PySem.mem_of_lookup h))
 ·have hi:i<vs.length:=by
   unfold start at h2
   by_cases hi:i<vs.length
   ·exact hi
   ·rw[cT (by simpa using hi)]at h2
    rw[eX]at h2
    split at h2<;>cases h2
  have ha:vs[i]?=some v:=by
   unfold start at h2
   rw[bO (by simpa using hi),bi]at h2
   cases e:vs[i]? with
   |none=>rw[e]at h2;cases h2
   |some a=>rw[e]at h2;cases h2;rfl
  obtain⟨u,hu,rv⟩:=r.get ha
  have hp:ps[i]?=some y:=by
   rw[←S.pre,eO (by omega)];exact h1
  have MC:ps.Nodup:=by rw[←S.pre];exact S.nd.sublist (List.take_sublist _ _)
  refine⟨u,rv,?_⟩
  rcases S.par y (fV hp)with k|k
  ·exact .inl ⟨k,NJ MC hp hu k⟩
  ·obtain⟨c,e⟩:=Oh (n:=s.heap.objs.size+1) k
   refine .inr ⟨.inl k,c,e,?_⟩
   have q:=x.cell y c e
   rw[NK MC hp hu (by show scope.names.lookup y≠_;rw[k];decide)]at q
   exact q
 ·exact e0.hok.fresh (fC (x.above y c (PySem.mem_of_lookup h)))
 ·unfold start
  show _=N.length
  rw[aT,aA,cX]
  omega
theorem zt2 {CX:rf}{P:aW}{w:bv}{K:ae}{mg:aP->Option aa}{base:aI}{k:Nat}{f:af}{name qual:aP}{params:Arguments}{body:List bG}{scope:fF}{dV kV doc pm ix ct oc:aa}{an od:Option af}
    {zD:Array (Option aa)} {N ps:List aP} {sp:Sp} (lk:K.lookup f=some ⟨oc,od,.func (gb name qual params body scope dV kV doc pm an ix ct),zD⟩) (iU:aD K ix qual=true) (S:bA N ps scope)
    (len:∀vs H Q E,sp vs H Q E->vs.length=ps.length)
    (rZ:∀(A:bo) (outer:List Env) (s:ah) (H:Hp) (vs:List V) (Q:VK) (E:XK),ee k (A.deeper (envOfC qual scope s.heap.objs.size f ix))->sp vs H Q E ->
      ∃t,pI (nB CX P w K mg base N qual scope f ix A outer s H E) body t/\t { nx:=λ_ H'=>Q .non H',rt:=Q } (start N vs) H) :
    cI P w K mg base CX (k+1) f (gb name qual params body scope dV kV doc pm an ix ct) ps sp:=by
  refine⟨len,λA outer s H args us vs Q E hr e0 hb r vJ=>?_⟩
  have hl:=len _ _ _ _ vJ
  have KX:K.In s.heap:=e0.mod.kin.keeps λb o e=>(e0.bs b o e).1
  have lim:s.heap.NoLimit:=e0.mod.nolimit.keeps λb o e=>(e0.bs b o e).1
  have CN:∀y∈ps.zip us,scope.names.lookup y.1=some .local\/(scope.names.lookup y.1=some .cell/\((cellsFrom (s.heap.objs.size+1) scope.names []).lookup y.1).isSome=true):=λ⟨n,v⟩ hy=>by
    rcases S.par n (gj hy).1 with q|q
    · exact .inl q
    · exact .inr ⟨q,hU _ _ _ (.inl q)⟩
  refine codeAny_call_function hr.depth (KX _ _ lk) rfl S.co S.gen rfl (PySem.W.codeRec_of KX iU) (hb _ _ _ _ ?_)
  refine wpAny_newFunctionEnv_cells S.kind CN λenv he s1 x=>?_
  subst he
  refine⟨lim.keeps x.toInCall.keep,codeAny_func ?_⟩
  obtain⟨t,ht,hq⟩:=rZ A outer s H vs Q E (hr.deeper _) vJ
  have I:Inv (nB CX P w K mg base N qual scope f ix A outer s H E) [] (start N vs) H s1:=WB S hr.hd e0 hl r x
  refine dX (ht [] s1 (start N vs) H _ I hq) (λfl s' hs=>?_) λe s' hs=>hs
  have fin:∀{σ':St} {H':Hp} {v:V} {u:aa},Inv (nB CX P w K mg base N qual scope f ix A outer s H E) [] σ' H' s'->RelV v u->Q v H'->CE outer P w H s Q u s' :=
    λ{σ' H' v u} J rv q=>⟨v,H',J.os,J.bare,J.base,J.hok,rv,q⟩
  cases fl with
  |ret u=>
    obtain⟨v,σ',H',J,rv,q⟩:=hs
    exact fin J rv q
  |next=>
    obtain⟨σ',H',J,q⟩:=hs
    exact fin (v:=V.non) (u:=aa.none) J rfl q
  |brk=>
    obtain⟨_,_,_,q⟩:=hs
    exact False.elim q
  |cont=>
    obtain⟨_,_,_,q⟩:=hs
    exact False.elim q
end L2
namespace L2
open PySem PySem.Spec PyProof.Rows
section
variable {X:Cx}{x:aP}{p pos:cB}{e:Expr}{es:List Expr}{t:TA}{id T:String}{r:List V->Hp->VK->Prop}
def MZ (r:List V->Hp->VK->Prop)(t:TA):TE:=λσ H Q=>t σ H λvs H1=>r vs H1 Q
theorem Gm (hc:eE X (.builtin id) r)(hg:Gl X x)(hm:X.mg x=none)(hv:bN x=some (.builtin id))(ha:PA X (e::es) t)(hn:x≠"__name__":=by decide)(mJ:(x==("__debug__":aP))=false:=by decide)
  (he:ay (e::es) X.env=(false,bS e X.env)::ay es X.env:=by rfl) (fT:(cL pos (ay es X.env)).any (·.1)=false:=by rfl):PE X (.Call (.Name x p) (e::es) [] pos) (MZ r t):=by
 intro ai s σ H Q I h
 refine fD (Ab I hg hm hv ?_ hn mJ)
 exact PyProof.Rows.callWith_builtin1 (dk (ha pos ai s σ H _ I h) λus s1 ⟨vs,H1,I1,r1,q1⟩=>hc ai s1 σ H1 vs us Q I1 r1 q1) he fT
theorem NL (hc:eE X (.type T) r)(hg:Gl X x)(hm:X.mg x=none)(hv:bN x=some (.type T))(ha:PA X (e::es) t)(hn:x≠"__name__":=by decide)(mJ:(x==("__debug__":aP))=false:=by decide)
  (he:ay (e::es) X.env=(false,bS e X.env)::ay es X.env:=by rfl) (fT:(cL pos (ay es X.env)).any (·.1)=false:=by rfl):PE X (.Call (.Name x p) (e::es) [] pos) (MZ r t):=by
 intro ai s σ H Q I h
 refine fD (Ab I hg hm hv ?_ hn mJ)
 exact fE (dk (ha pos ai s σ H _ I h) λus s1 ⟨vs,H1,I1,r1,q1⟩=>hc ai s1 σ H1 vs us Q I1 r1 q1) he fT
end
end L2
namespace HT
open PySem PyProof.Rows
section
open PySem.SeqAt
open PySem.AutoSeq1 (wpAny_loadPart')
open PySem.MeetsSeq PySem.MeetsSeq2 PySem.MeetsSeq3
end
section
variable {prog:aW}{w:bv}{A:bo}{E:aa->ah->Prop}{s:ah}
theorem cat_tup {t b:af}{vs ws:List aa}{Q:aa->ah->Prop}(ht:IsTup s.heap t vs.toArray)(hb:IsTup s.heap b ws.toArray)(hv:vs≠[])
    (h1:ws=[]->Q (.ref t) s) (h2:ws≠[]->Q (.ref s.heap.objs.size) { s with heap:=s.heap.push { cls:=.type "tuple",data:=.seq (vs++ws).toArray } })
    (hsz:vs.length+ws.length<=sizeLine):aQ (aS prog w) A (dL .Add (.ref t) (.ref b)) Q E s:=by
  obtain⟨⟨cls,dd,data,sl⟩,ho,hc,n,hd⟩:=id ht
  obtain⟨⟨Hn,Fw,data2,vU⟩,Aq,rq,n2,hd2⟩:=id hb
  simp only at hc hd rq hd2
  subst hc hd rq hd2
  have e:vs.toArray++ws.toArray=(vs++ws).toArray:=by simp
  by_cases hw:ws=[]
  · exact qV ⟨_,ho,rfl⟩ ⟨_,Aq,rfl⟩ noFill_tuple_add seq_tuple_add PySem.F.slot_tuple_add PySem.F.entry_tuple_add (PySem.F.args_tuple_add_2 _ _)
      (tuple_addW1 t b vs.toArray ws.toArray n n2 dd Fw sl vU (by simpa using hv) (by simp[hw])) ⟨ho,Aq,h1 hw⟩
  · refine qV ⟨_,ho,rfl⟩ ⟨_,Aq,rfl⟩ noFill_tuple_add seq_tuple_add PySem.F.slot_tuple_add PySem.F.entry_tuple_add (PySem.F.args_tuple_add_2 _ _)
      (tuple_addW2 t b vs.toArray ws.toArray n n2 dd Fw sl vU (by simpa using hv) (by simpa using hw) (by rw[aK,aK];exact hsz)) ⟨ho,Aq,?_⟩
    rw[e]
    exact h2 hw
def sIx (n d:Nat):Option Int->Nat
 |none=>d
 |some v=>if v<0 then(v+(n:Int)).toNat else min v.toNat n
theorem sIx_none (n d:Nat):sIx n d none=d:=rfl
theorem sIx_nat (n d k:Nat):sIx n d (some (k:Int))=min k n:=by
 show(if(k:Int)<0 then((k:Int)+(n:Int)).toNat else min (k:Int).toNat n)=min k n
 rw[if_neg (by omega),kT]
end
end HT
namespace L2
open PySem PySem.Spec PyProof.Rows
abbrev TO:=St->Hp->(Option Int->Hp->Prop)->Prop
def PO (X:Cx)(e:Option Expr)(t:TO):Prop :=
 ∀(ai:List (af×cJ)) (s:ah) (σ:St) (H:Hp) (Q:Option Int->Hp->Prop),Inv X ai σ H s->t σ H Q ->
  aQ (aS X.prog X.w) X.A (evalPart e X.env) (λu s'=>∃o H',Inv X ai σ H' s'/\IsPart u o/\Q o H') X.xe s
def t8:TO:=λ_ H Q=>Q none H
def EM (t:TE):TO:=λσ H Q=>t σ H λx H1=>∃i,x=.int i/\Q (some i) H1
theorem Wi {ns:List Int}:∀{us:List aa},bR (ns.map V.int) us->IntsAre us ns:=by
 induction ns with
 |nil=>intro us r;rw[kM]at r;cases r;exact .nil
 |cons n ns ih=>
  intro us r
  rw[bu]at r
  cases r with
  |cons r1 r2=>
   obtain⟨t,e⟩:=r1
   subst e
   exact .cons n t (ih r2)
section
variable {X:Cx}{e:Expr}{te:TE}{lo hi:Option Expr}{tl th:TO}{pos p2:cB}
theorem YC:PO X none t8:=by
 intro ai s σ H Q I h
 rw[evalPart_none]
 exact aw ⟨none,H,I,.none,h⟩
theorem YD (h:PE X e te):PO X (some e) (EM te):=by
 intro ai s σ H Q I hw
 rw[evalPart_some]
 refine dk (h ai s σ H _ I hw) λu s1 dq=>?_
 obtain⟨x,H1,I1,r1,q1⟩:=dq
 obtain⟨i,rfl,q⟩:=q1
 obtain⟨t,rfl⟩:=r1
 exact⟨some i,H1,I1,.int i t,q⟩
def K4 (X:Cx)(r:V->Option Int->Option Int->Hp->VK->Prop):Prop :=
 ∀(ai:List (af×cJ)) (s:ah) (σ:St) (H:Hp) (x:V) (v vl vu:aa) (lo hi:Option Int) (sl:af) (Q:VK),Inv X ai σ H s->RelV x v->s.heap.IsSliceOf sl vl vu .none->IsPart vl lo->IsPart vu hi->r x lo hi H Q ->
  ∃T id,typeLookup (.type T) "__getitem__"=pure (some (.builtin id))/\s.TypeIs v T/\aQ (aS X.prog X.w) X.A (getItem v (.ref sl)) (EP X ai σ Q) X.xe s
def UJ (r:V->Option Int->Option Int->Hp->VK->Prop)(te:TE)(tl th:TO):TE:=λσ H Q=>te σ H λx H1=>tl σ H1 λl H2=>th σ H2 λu H3=>r x l u H3 Q
theorem WY {r:V->Option Int->Option Int->Hp->VK->Prop}(hr:K4 X r)(he:PE X e te)(hl:PO X lo tl)(hu:PO X hi th):PE X (.Subscript e (.Slice lo hi none p2) pos) (UJ r te tl th):=by
  intro ai s σ H Q I h
  refine Subscript_ (dk (he ai s σ H _ I h) λv s1 dq=>?_)
  obtain⟨x,H1,I1,r1,q1⟩:=dq
  refine wpAny_Slice (dk (hl ai s1 σ H1 _ I1 q1) λvl s2 ⟨l,H2,I2,pl,q2⟩=>dk (hu ai s2 σ H2 _ I2 q2) λvu s3 dq=>?_)
  obtain⟨u,H3,I3,pu,q3⟩:=dq
  rw[evalPart_none]
  refine aw ?_
  have I4:Inv X ai σ H3 { s3 with heap:=s3.heap.push { cls:=.type "slice",data:=.fields #[vl,vu,.none] } }:=I3.kept (t':=s3.toks) λb ob q=>ap _ q
  obtain⟨T,id,hT,ht,hg⟩:=hr ai { s3 with heap:=s3.heap.push { cls:=.type "slice",data:=.fields #[vl,vu,.none] } } σ H3 x v vl vu l u s3.heap.objs.size Q I4 r1 (aI.IsSliceOf.new ..) pl pu q3
  show aQ (aS X.prog X.w) X.A (subscriptTail e (.Slice lo hi none p2) v (.ref s3.heap.objs.size)) (EP X ai σ Q) X.xe { s3 with heap:=s3.heap.push { cls:=.type "slice",data:=.fields #[vl,vu,.none] } }
  exact tail_any (ops:=[.ref s3.heap.objs.size,v]) ht hT hg (by with_unfolding_all rfl)
def qG (xs:List V)(lo hi:Option Int):List V:=(xs.drop (HT.sIx xs.length 0 lo)).take (HT.sIx xs.length xs.length hi-HT.sIx xs.length 0 lo)
theorem VP (xs:List V)(lo hi:Option Int):(qG xs lo hi).length<=xs.length:=by
 unfold qG
 rw[bZ,eI]
 omega
def vT (K:ae):R2:=λx y H Q=>∃a b xs ys,x=.ref a/\y=.ref b/\kx K H a xs/\kx K H b ys/\xs≠[]/\xs.length+ys.length<=sizeLine /\
 (ys=[]->Q (.ref a) H)/\(ys≠[]->∀p,H p=none->Q (.ref p) (upd H p (.tup (xs++ys))))
theorem bR.nil_iff {xs:List V}{us:List aa}(r:bR xs us):us=[]↔xs=[]:=by
 cases r with
 |nil=>simp
 |cons _ _=>simp
theorem YE:fS X (dL .Add) (vT X.K):=by
 intro ai s σ H x y v u Q I rx ry h
 obtain⟨a,b,xs,ys,rfl,rfl,ha,hb,hx,hz,q1,q2⟩:=h
 cases rx
 cases ry
 obtain⟨bT,r1,p1,_⟩:=I.tuple ha
 obtain⟨tV,r2,p2,_⟩:=I.tuple hb
 refine HT.cat_tup p1 p2 (λz=>hx (r1.nil_iff.mp z)) (λz=>⟨.ref a,H,I,rfl,q1 (r2.nil_iff.mp z)⟩) (λz=>?_) (by rw[←r1.length,←r2.length];exact hz)
 refine⟨.ref s.heap.objs.size,_,I.laid (t':=s.toks) (o:=.tup (xs++ys)) (λb ob q=>ap _ q) (aH _) ?_,rfl,q2 (λw=>z (r2.nil_iff.mpr w)) _ (I.hok.fresh (aH _))⟩
 exact⟨by rw[aT];exact hz,_,r1.append r2,IsTup.new _ _⟩
end
end L2
namespace L2
open PySem PySem.Spec PyProof.Rows
def ixN (n:Nat)(i:Int):Option Nat:=if 0<=i then(if i<n then some i.toNat else none)else if -(n:Int)<=i then some (i+n).toNat else none
def atI {α:Type}(xs:List α)(i:Int):Option α:=(ixN xs.length i).bind λj=>xs[j]?
theorem OI {n:Nat}{i:Int}{j:Nat}(h:ixN n i=some j):seqIndex? i n=some j/\j<n/\-(n:Int)<=i/\i<n:=by
 unfold ixN at h
 by_cases h0:0<=i
 ·rw[if_pos h0]at h
  by_cases h1:i<n
  ·rw[if_pos h1]at h
   have e:i.toNat=j:=Option.some.inj h
   exact⟨by rw[nr h0 h1,e],by omega,by omega,h1⟩
  ·rw[if_neg h1]at h;cases h
 ·rw[if_neg h0]at h
  by_cases h1:-(n:Int)<=i
  ·rw[if_pos h1]at h
   have e:(i+n).toNat=j:=Option.some.inj h
   exact⟨by rw[mw (by omega) h1,e],by omega,h1,by omega⟩
  ·rw[if_neg h1]at h;cases h
theorem Gy {α:Type}{xs:List α}{i:Int}{v:α}(h:atI xs i=some v):∃j,seqIndex? i xs.length=some j/\xs[j]?=some v/\j<xs.length/\-(xs.length:Int)<=i/\i<xs.length:=by
 unfold atI at h
 cases e:ixN xs.length i with
 |none=>rw[e]at h;cases h
 |some j=>
  rw[e]at h
  obtain⟨h1,h2,h3,h4⟩:=OI e
  exact⟨j,h1,h,h2,h3,h4⟩
theorem zX {α:Type}{xs:List α}{j:Nat}{v:α}(h:xs[j]?=some v):atI xs (j:Int)=some v:=by
 have hj:j<xs.length:=(aX.mp h).1
 have e:ixN xs.length (j:Int)=some j:=by
  unfold ixN
  rw[if_pos (by omega),if_pos (by omega)];simp
 unfold atI;rw[e];exact h
def lM (b:Expr):Prop:=∀o i,subscripted b false o i=operate [o,i] (getItem o i)
def sW (X:Cx)(r:R2):Prop :=
 ∀(value slice:Expr) (ai:List (af×cJ)) (s:ah) (σ:St) (H:Hp) (x y:V) (v u:aa) (Q:VK),Inv X ai σ H s->RelV x v->RelV y u->r x y H Q ->
  subscripted slice false v u=operate [v,u] (getItem v u)->aQ (aS X.prog X.w) X.A (subscriptTail value slice v u) (EP X ai σ Q) X.xe s
def Qt (X:Cx)(id:String)(r:V->List V->Hp->VK->Prop):Prop :=
 ∀(ai:List (af×cJ)) (s:ah) (σ:St) (H:Hp) (x:V) (xs:List V) (v:aa) (us:List aa) (Q:VK),Inv X ai σ H s->RelV x v->bR xs us->r x xs H Q ->
  aQ (aS X.prog X.w) X.A (call (.builtin id) (v::us)) (EP X ai σ Q) X.xe s
section
variable {X:Cx}{a b:Expr}{ta tb:TE}{pos:cB}
theorem sW.or {r r':R2}(h:sW X r)(h':sW X r'):sW X (λx y H Q=>r x y H Q\/r' x y H Q):=by
 intro value slice ai s σ H x y v u Q I rx ry q hs
 rcases q with q|q
 ·exact h value slice ai s σ H x y v u Q I rx ry q hs
 ·exact h' value slice ai s σ H x y v u Q I rx ry q hs
theorem PN {r:R2}(hr:sW X r)(ha:PE X a ta)(hb:PE X b tb)(hs:lM b):PE X (.Subscript a b pos) (Gc r ta tb):=by
 intro ai s σ H Q I h
 exact Subscript_ (wU ha hb I h λv u s2 x y H2 I2 rx ry q=>hr a b ai s2 σ H2 x y v u Q I2 rx ry q (hs _ _))
def Eu (K:ae):R2:=λx y H Q=>∃p xs i v,x=.ref p/\y=.int i/\eR K H p xs/\atI xs i=some v/\Q v H
def Ex (K:ae):R2:=λx y H Q=>∃p xs i v,x=.ref p/\y=.int i/\kx K H p xs/\atI xs i=some v/\Q v H
def Ew:R2:=λx y H Q=>∃z i c,x=.str z/\y=.int i/\z.length<=sizeLine/\atI z.cps.toList i=some c/\Q (.str ⟨#[c]⟩) H
theorem OJ:sW X (Eu X.K):=by
 intro value slice ai s σ H x y v u Q I rx ry h hs
 obtain⟨p,xs,i,z,rfl,rfl,hq,he,q⟩:=h
 cases rx
 obtain⟨t,rfl⟩:=ry
 obtain⟨bT,r,pl,hz⟩:=I.list hq
 obtain⟨j,h1,h2,h3,h4,h5⟩:=Gy he
 obtain⟨w,ew,oz⟩:=r.get h2
 have hl:=r.length
 have hn:=iV
 have fin:EP X ai σ Q w s:=⟨z,H,I,oz,q⟩
 by_cases h0:0<=i
 ·have hj:i.toNat=j:=by
   rw[nr h0 h5]at h1
   exact Option.some.inj h1
  exact item_listR pl.isList h0 (by omega) (by rw[hj];simpa using ew) fin hs
 ·have hj:(i+(bT.toArray.size:Int)).toNat=j:=by
   rw[mw (by omega) h4]at h1
   rw[aK,←hl]
   exact Option.some.inj h1
  exact subscriptTail_builtinR (x:=w) pl.isList.typeIs slot_list_getitem.lookup
   (wpAny_getItem_list_neg (Q:=λr s'=>r=w/\EP X ai σ Q r s') pl.isList (by omega) (by rw[aK]<;>omega) (by omega) (by rw[hj];simpa using ew) ⟨rfl,fin⟩) hs
theorem zrw:sW X (Ex X.K):=by
 intro value slice ai s σ H x y v u Q I rx ry h hs
 obtain⟨p,xs,i,z,rfl,rfl,hq,he,q⟩:=h
 cases rx
 obtain⟨t,rfl⟩:=ry
 obtain⟨bT,r,pl,hz⟩:=I.tuple hq
 obtain⟨j,h1,h2,h3,h4,h5⟩:=Gy he
 obtain⟨w,ew,oz⟩:=r.get h2
 have hl:=r.length
 have hn:=iV
 have fin:EP X ai σ Q w s:=⟨z,H,I,oz,q⟩
 exact subscriptTail_builtinR (x:=w) pl.typeIs slot_tuple_getitem.lookup
  (getItem_tuple (j:=j) (Q:=λr s'=>r=w/\EP X ai σ Q r s') pl (by omega) (by omega) (by rw[aK,←hl];exact h1) (by simpa using ew) ⟨rfl,fin⟩) hs
theorem zrx:sW X Ew:=by
 intro value slice ai s σ H x y v u Q I rx ry h hs
 obtain⟨z,i,c,rfl,rfl,hz,he,q⟩:=h
 obtain⟨t,rfl⟩:=rx
 obtain⟨t',rfl⟩:=ry
 obtain⟨j,h1,h2,h3,h4,h5⟩:=Gy he
 have hl:z.cps.toList.length=z.length:=by simp[aP.length]
 rw[hl]at h1 h4 h5
 have hn:=iV
 exact tail_any (typeIs_str s z t) slot_str_getitem.lookup (getItem_str (c:=c) (by
  have e1:decide (i < -(2 ^ 63:Int))=false:=decide_eq_false (by omega)
  have e2:decide (i >= 2 ^ 63)=false:=decide_eq_false (by omega)
  rw[e1,e2,Bool.or_false]) (by rw[h1];simpa using h2) ⟨.str ⟨#[c]⟩,H,I.tok _,⟨_,rfl⟩,q⟩) hs
def MT (K:ae):R2:=λx y H Q=>Eu K x y H Q\/Ex K x y H Q\/Ew x y H Q
theorem vY:sW X (MT X.K):=OJ.or (zrw.or zrx)
theorem Wj (bT:List aa)(n j:Nat)(u:aa):cJ.mapSeq (·.setIfInBounds j u) { cls:=.type "list",data:=.seq bT.toArray n } = { cls:=.type "list",data:=.seq (bT.set j u).toArray n }:=by
  simp[cJ.mapSeq]
theorem Inv.lst {ai:List (af×cJ)}{σ:St}{H:Hp}{s:ah}{p:af}{xs:List V}(I:Inv X ai σ H s)(h:H p=some (.lst xs)) :
    ∃(bT:List aa) (n:Nat),bR xs bT/\s.heap.get? p=some { cls:=.type "list",data:=.seq bT.toArray n }/\xs.length<=sizeLine:=by
  obtain⟨z,bT,n,r,e⟩:=I.hok p _ h
  exact⟨bT,n,r,e,z⟩
theorem Inv.lstUpd {ai:List (af×cJ)}{σ:St}{H:Hp}{s:ah}{p:af}{xs ys:List V}{bT its':List aa}{n n':Nat}{f:cJ->cJ}(I:Inv X ai σ H s)(h:H p=some (.lst xs))
    (ho:s.heap.get? p=some { cls:=.type "list",data:=.seq bT.toArray n }) (hf:f { cls:=.type "list",data:=.seq bT.toArray n } = { cls:=.type "list",data:=.seq its'.toArray n' }) (r:bR ys its') (hz:ys.length<=sizeLine) (t:Nat) :
    Inv X ai σ (upd H p (.lst ys)) { s with heap:=s.heap.update p f,toks:=t }:=by
  have e:(s.heap.update p f).get? p=some { cls:=.type "list",data:=.seq its'.toArray n' }:=by
    rw[aI.get?_update_self f ho (by rw[hf]<;>rfl),hf]
  refine I.write (x:=p) (e:=p) (by rw[h];trivial) (.inl rfl) (λb u hb q=>(iD _ _ (Ne.symm hb)).trans q) ⟨_,e⟩ ?_
  exact⟨hz,its',n',r,e⟩
def EB:V->V->V->Hp->(Hp->Prop)->Prop:=λo i v H Q=>∃p xs k j,o=.ref p/\i=.int k/\H p=some (.lst xs)/\ixN xs.length k=some j/\Q (upd H p (.lst (xs.set j v)))
theorem Oi:wK X EB:=by
 intro ai s σ H o i v ov iv u Q I ro ri rv h
 obtain⟨p,xs,k,j,rfl,rfl,hp,hj,q⟩:=h
 cases ro
 obtain⟨t,rfl⟩:=ri
 obtain⟨bT,n,r,ho,hz⟩:=I.lst hp
 obtain⟨h1,h2,h3,h4⟩:=OI hj
 have hl:=r.length
 have hn:=iV
 have I':Inv X ai σ (upd H p (.lst (xs.set j v))) { s with heap:=s.heap.update p (cJ.mapSeq (·.setIfInBounds j u)) } :=
  I.lstUpd hp ho (Wj bT n j u) (r.set rv j) (by rw[iI];exact hz) s.toks
 by_cases h0:0<=k
 ·have hk:k.toNat=j:=by
   rw[nr h0 h4]at h1
   exact Option.some.inj h1
  exact PySem.W.ki_setAt ho h0 (by omega) (by rw[aK,←hl];exact h4) (by rw[hk];exact⟨_,I',q⟩)
 ·have hk:(k+(bT.toArray.size:Int)).toNat=j:=by
   rw[mw (by omega) h3]at h1
   rw[aK,←hl]
   exact Option.some.inj h1
  exact PySem.W.ki_setBack ho (by omega) (by rw[aK,←hl];exact h3) (by omega) (by rw[hk];exact⟨_,I',q⟩)
theorem Vk (lo hi:Option Int)(n:Nat):(gE lo hi none n).1=((HT.sIx n 0 lo:Nat):Int)/\(gE lo hi none n).2.1=((HT.sIx n n hi:Nat):Int)/\(gE lo hi none n).2.2=1:=by
 refine⟨?_,?_,rfl⟩
 ·cases lo with
  |none=>simp[gE,HT.sIx]
  |some i=>
   simp only[gE,HT.sIx,pZ,show(1:Int) > 0 by decide,if_true]
   by_cases h:i<0
   ·simp only[h,if_true]<;>omega
   ·simp only[h,if_false]<;>omega
 ·cases hi with
  |none=>simp[gE,HT.sIx]
  |some i=>
   simp only[gE,HT.sIx,pZ,show(1:Int) > 0 by decide,if_true]
   by_cases h:i<0
   ·simp only[h,if_true]<;>omega
   ·simp only[h,if_false]<;>omega
theorem Vj (bT:List aa)(lo hi:Option Int):slicePick bT.toArray lo hi none=((bT.drop (HT.sIx bT.length 0 lo)).take (HT.sIx bT.length bT.length hi-HT.sIx bT.length 0 lo)).toArray:=by
 obtain⟨h1,h2,h3⟩:=Vk lo hi bT.toArray.size
 unfold slicePick
 rw[h1,h2,h3]
 simp only[sliceRange_one,pick_run,aK]<;>rfl
def Js (K:ae):V->Option Int->Option Int->Hp->VK->Prop:=λx lo hi H Q=>∃a xs,x=.ref a/\eR K H a xs/\∀p,H p=none->Q (.ref p) (upd H p (.lst (qG xs lo hi)))
theorem YF:K4 X (Js X.K):=by
 intro ai s σ H x v vl vu lo hi sl Q I rx hs pl pu h
 obtain⟨a,xs,rfl,hx,q⟩:=h
 cases rx
 obtain⟨bT,r,ht,hz⟩:=I.list hx
 have d4:=r.length
 refine⟨"list",_,slot_list_getitem.lookup,ht.isList.typeIs,?_⟩
 refine wpAny_getItem_list_slice ht.isList hs pl pu .none (by simp) ?_ (by rw[aK]<;>omega)
 rw[Vj,←d4]
 refine⟨.ref s.heap.objs.size,_,I.laid (t':=s.toks) (o:=.lst (qG xs lo hi)) (λb ob q=>ap _ q) (aH _) ?_,rfl,q _ (I.hok.fresh (aH _))⟩
 exact⟨bD (VP xs lo hi) hz,_,0,(r.drop (HT.sIx xs.length 0 lo)).take (HT.sIx xs.length xs.length hi-HT.sIx xs.length 0 lo),ba _ rfl⟩
def jP:V->Bool
 |.non=>true
 |.bl _=>true
 |.int _=>true
 |.str _=>true
 |_=>false
def tO:V->V->Bool
 |.non,.non=>true
 |.bl a,.bl b=>a==b
 |.bl a,.int b=>(if a then 1 else 0)==b
 |.int a,.bl b=>a==(if b then 1 else 0)
 |.int a,.int b=>a==b
 |.str a,.str b=>a==b
 |_,_=>false
theorem zry {A:bo}{s:ah}{y x:V}{u v:aa}(ry:RelV y u)(rx:RelV x v)(fy:jP y=true)(fx:jP x=true):SeqAt.EqAt A s u v (tO y x):=by
 cases y with
 |non=>
  cases ry
  cases x with
  |non=>cases rx;exact SeqAt.EqAt.same _
  |bl b=>cases rx;exact SeqAt.EqAt.none_bool b
  |int b=>obtain⟨t,rfl⟩:=rx;exact SeqAt.EqAt.none_int b t
  |str b=>obtain⟨t,rfl⟩:=rx;exact SeqAt.EqAt.none_str b t
  |_=>exact absurd (show false=true from fx) aO
 |bl a=>
  cases ry
  cases x with
  |non=>cases rx;exact SeqAt.EqAt.bool_none a
  |bl b=>cases rx;exact SeqAt.EqAt.bool_bool a b
  |int b=>obtain⟨t,rfl⟩:=rx;exact SeqAt.EqAt.bool_int a b t
  |str b=>obtain⟨t,rfl⟩:=rx;exact SeqAt.EqAt.bool_str a b t
  |_=>exact absurd (show false=true from fx) aO
 |int a=>
  obtain⟨t',rfl⟩:=ry
  cases x with
  |non=>cases rx;exact SeqAt.EqAt.int_none a t'
  |bl b=>cases rx;exact SeqAt.EqAt.int_bool a t' b
  |int b=>obtain⟨t,rfl⟩:=rx;exact SeqAt.EqAt.int_int a t' b t
  |str b=>obtain⟨t,rfl⟩:=rx;exact SeqAt.EqAt.int_str a t' b t
  |_=>exact absurd (show false=true from fx) aO
 |str a=>
  obtain⟨t',rfl⟩:=ry
  cases x with
  |non=>cases rx;exact SeqAt.EqAt.str_none a t'
  |bl b=>cases rx;exact SeqAt.EqAt.str_bool a t' b
  |int b=>obtain⟨t,rfl⟩:=rx;exact SeqAt.EqAt.str_int a t' b t
  |str b=>obtain⟨t,rfl⟩:=rx;exact SeqAt.EqAt.str_str a t' b t
  |_=>exact absurd (show false=true from fx) aO
 |_=>exact absurd (show false=true from fy) aO
def tN (x:V)(u:aa):Bool:=match u with
 |.none=>tO .non x
 |.bool b=>tO (.bl b) x
 |.int i _=>tO (.int i) x
 |.str z _=>tO (.str z) x
 |_=>false
theorem Pu {x y:V}{u:aa}(r:RelV y u)(f:jP y=true):tN x u=tO y x:=by
 cases y with
 |non=>cases r;rfl
 |bl b=>cases r;rfl
 |int i=>obtain⟨t,rfl⟩:=r;rfl
 |str z=>obtain⟨t,rfl⟩:=r;rfl
 |_=>exact absurd (show false=true from f) aO
theorem KB {x:V}:∀{xs:List V} {us:List aa},bR xs us->xs.all jP=true->us.any (tN x)=xs.any λy=>tO y x
 |_,_,.nil,_=>rfl
 |y::xs,u::us,.cons r t,f=>by
  rw[eM,bw]at f
  rw[dP,dP,Pu r f.1,KB t f.2]
theorem Kh {A:bo}{s:ah}{x:V}{v:aa}(rx:RelV x v)(fx:jP x=true):∀{xs:List V} {us:List aa},bR xs us->xs.all jP=true->∀u∈us,SeqAt.EqAt A s u v (tN x u)
 |_,_,.nil,_=>λu hu=>by cases hu
 |y::xs,u::us,.cons r t,f=>λu' hu=>by
  rw[eM,bw]at f
  rcases av.mp hu with rfl|hu
  ·rw[Pu r f.1];exact zry r rx f.1 fx
  ·exact Kh rx fx t f.2 u' hu
def FR (x:V)(xs:List V):Bool:=xs.any λy=>tO y x
def MR (K:ae)(neg:Bool):R2:=λx y H Q=>∃p xs,y=.ref p/\(eR K H p xs\/kx K H p xs)/\jP x=true/\xs.all jP=true/\Q (.bl (if neg then !FR x xs else FR x xs)) H
theorem Ni:fS X (cE .NotIn) (MR X.K true):=by
 intro ai s σ H x y v u Q I rx ry h
 obtain⟨p,xs,rfl,hq,fx,fs,q⟩:=h
 cases ry
 rcases hq with hq|hq
 ·obtain⟨bT,r,pl,hz⟩:=I.list hq
  refine SeqAt.notIn_listAt (tN x) pl.isList (λw hw=>Kh rx fx r fs w (by simpa using hw)) ⟨.bl _,H,I,rfl,?_⟩
  rw[show bT.toArray.any (tN x)=bT.any (tN x)by simp,KB r fs]
  exact q
 ·obtain⟨bT,r,pl,hz⟩:=I.tuple hq
  refine SeqAt.notIn_tupleAt (tN x) pl (λw hw=>Kh rx fx r fs w (by simpa using hw)) ⟨.bl _,H,I,rfl,?_⟩
  rw[show bT.toArray.any (tN x)=bT.any (tN x)by simp,KB r fs]
  exact q
theorem Vl:eE X (.builtin "len") (λxs H Q=>∃p ys,xs=[.ref p]/\(eR X.K H p ys\/kx X.K H p ys)/\Q (.int ys.length) H):=by
 intro ai s σ H xs us Q I r h
 obtain⟨p,ys,rfl,hq,q⟩:=h
 obtain⟨u,rfl,rx⟩:=pS r
 cases rx
 have hn:=iV
 rcases hq with hq|hq
 ·obtain⟨bT,r',pl,hz⟩:=I.list hq
  have d4:=r'.length
  exact Calls.call_len_list pl.isList (by simp only[aK]<;>omega) ⟨.int ys.length,H,I.tok _,⟨s.toks+1,by rw[aK,d4]⟩,q⟩
 ·obtain⟨bT,r',pl,hz⟩:=I.tuple hq
  have d4:=r'.length
  exact len_tuple pl (by simp only[aK]<;>omega) ⟨.int ys.length,H,I.tok _,⟨s.toks+1,by rw[aK,d4]⟩,q⟩
theorem Vm:eE X (.builtin "len") (λxs H Q=>∃z,xs=[.str z]/\z.length<=sizeLine/\Q (.int z.length) H):=by
 intro ai s σ H xs us Q I r h
 obtain⟨z,rfl,hz,q⟩:=h
 obtain⟨u,rfl,t,rfl⟩:=pS r
 have hn:=iV
 exact len_str (by omega) ⟨.int z.length,H,I.tok _,⟨_,rfl⟩,q⟩
theorem eE.or {f:aa}{r r':List V->Hp->VK->Prop}(h:eE X f r)(h':eE X f r'):eE X f (λxs H Q=>r xs H Q\/r' xs H Q):=by
 intro ai s σ H xs us Q I rs q
 rcases q with q|q
 ·exact h ai s σ H xs us Q I rs q
 ·exact h' ai s σ H xs us Q I rs q
theorem w9:eE X (.type "list") (λxs H Q=>∃p ys,xs=[.ref p]/\(eR X.K H p ys\/kx X.K H p ys)/\∀l,H l=none->Q (.ref l) (upd H l (.lst ys))):=by
  intro ai s σ H xs us Q I r h
  obtain⟨p,ys,rfl,hq,q⟩:=h
  obtain⟨u,rfl,rx⟩:=pS r
  cases rx
  have fin:∀(bT:List aa),bR ys bT->ys.length<=sizeLine->∀(h':aI) (c':Nat),(∀b o',s.heap.get? b=some o'->h'.get? b=some o') ->
      h'.get? s.heap.objs.size=some { cls:=.type "list",dict:=none,data:=.seq bT.toArray c',slots:=#[] }->EP X ai σ Q (.ref s.heap.objs.size) { s with heap:=h' }:=λbT r' hz h' c' kp e=>
    ⟨.ref s.heap.objs.size,_,I.laid (t':=s.toks) kp (aH _) (show dI X.prog X.w _ h' _ (.lst ys)from⟨hz,bT,c',r',e⟩),rfl,q _ (I.hok.fresh (aH _))⟩
  rcases hq with hq|hq
  · obtain⟨bT,r',pl,hz⟩:=I.list hq
    have d4:=r'.length
    obtain⟨o,ho,hc,n,hd⟩:=pl.isList
    exact call_list_seq p (.inl rfl) ho hc hd (λh' c' kp e=>fin bT r' hz h' c' kp e) (by simp only[aK]<;>omega)
  · obtain⟨bT,r',pl,hz⟩:=I.tuple hq
    have d4:=r'.length
    obtain⟨o,ho,hc,n,hd⟩:=pl
    exact call_list_seq p (.inr rfl) ho hc hd (λh' c' kp e=>fin bT r' hz h' c' kp e) (by simp only[aK]<;>omega)
def M7 (K:ae)(T:String)(x:V)(H:Hp):Prop:=match x with
 |.str _=>T = "str"
 |.int _=>T = "int"
 |.ref p=>(T = "list"/\∃xs,eR K H p xs)\/(T = "tuple"/\∃o,K.lookup p=some o/\o.cls=.type "tuple"/\o.dict=none) \/
   (T = "dict"/\((∃cn,H p=some (.dK cn))\/∃cn,H p=some (.dT cn)))\/(T = "set"/\∃S n,H p=some (.set S n))
 |_=>False
theorem zrz {ai:List (af×cJ)}{σ:St}{H:Hp}{s:ah}{T:String}{x:V}{v:aa}(I:Inv X ai σ H s)(r:RelV x v)(ty:M7 X.K T x H) :
  s.TypeIs v T/\∀a,v=.ref a->∃ob,s.heap.get? a=some ob/\ob.dict=none:=by
 cases x with
 |str z=>
  obtain⟨t,rfl⟩:=r
  cases(show T = "str" from ty)
  exact⟨typeIs_str s z t,λ_ e=>nomatch e⟩
 |int i=>
  obtain⟨t,rfl⟩:=r
  cases(show T = "int" from ty)
  exact⟨uM s i t,λ_ e=>nomatch e⟩
 |ref p=>
  cases r
  rcases ty with⟨rfl,xs,hq⟩|⟨rfl,o,hk,hc,hd⟩|⟨rfl,hk⟩|⟨rfl,S,n,hk⟩
  ·obtain⟨bT,_,pl,_⟩:=I.list hq
   refine⟨pl.isList.typeIs,λa e=>?_⟩
   cases e
   obtain⟨o,n,e,c,hd,_⟩:=pl
   exact⟨o,e,hd⟩
  ·refine⟨⟨o,I.kIn p o hk,hc⟩,λa e=>?_⟩
   cases e
   exact⟨o,I.kIn _ o hk,hd⟩
  ·have z:∃o,s.heap.get? p=some o/\o.ExactDict:=by
    rcases hk with⟨cn,hk⟩|⟨cn,hk⟩
    ·obtain⟨_,_,_,_,o,_,_,e,ex,_⟩:=I.hok p _ hk
     exact⟨o,e,ex⟩
    ·obtain⟨_,_,_,_,o,_,_,e,ex,_⟩:=I.hok p _ hk
     exact⟨o,e,ex⟩
   obtain⟨o,e,ex⟩:=z
   refine⟨⟨o,e,ex.1⟩,λa e2=>?_⟩
   cases e2
   exact⟨o,e,ex.2.1⟩
  ·obtain⟨o,_,_,_,e,ex,_⟩:=I.hok p _ hk
   refine⟨⟨o,e,ex.1⟩,λa e2=>?_⟩
   cases e2
   exact⟨o,e,ex.2.1⟩
 |_=>exact False.elim ty
def UG (K:ae)(T:String)(r:V->List V->Hp->VK->Prop)(to:TE)(t:TA):TE:=λσ H Q=>to σ H λx H1=>M7 K T x H1/\t σ H1 λxs H2=>r x xs H2 Q
variable {o e:Expr}{es:List Expr}{to:TE}{t:TA}{name:aP}{dh dN:cB}{T id:String}{r:V->List V->Hp->VK->Prop}
theorem zt3 (pa:PlainAttrs T)(slot:Slot T name id)(R7:typeOf (.builtin id)=pure (.type "method_descriptor"))(hm:Qt X id r)(ho:PE X o to)(ha:PA X (e::es) t)
  (rY:eZ o name X.env (bS o X.env)=bS o X.env:=by rfl)
  (yJ:((cL dN (ay (e::es) X.env)).all (λx=>!x.1)&&(e8 dN (dG [] X.env)).all (λx=>x.1.isSome)
   && decide ((e::es).length+([]:List iF).length+(if([]:List iF).isEmpty then 0 else 1)<30))=true:=by rfl)
  (sk:(dh.endLine==dN.line)=true:=by rfl) (hs:ay (e::es) X.env=(false,bS e X.env)::ay es X.env:=by rfl) (pf:(cL dN (ay es X.env)).any (·.1)=false:=by rfl) :
  PE X (.Call (.Attribute o name dh) (e::es) [] dN) (UG X.K T r to t):=by
 intro ai s σ H Q I h
 refine wpAny_Call_method_late rY yJ sk rfl (dk (ho ai s σ H _ I h) λv s1 dq=>?_)
 obtain⟨x,H1,I1,r1,ty,q1⟩:=dq
 obtain⟨h1,h2⟩:=zrz I1 r1 ty
 refine⟨T,id,pa,slot,R7,h1,h2,?_⟩
 have hA:=ha dN ai s1 σ H1 _ I1 q1
 rw[hs]at hA ⊢
 refine Calls.callWith_builtin (by show(false || (cL dN (ay es X.env)).any (·.1))=false;rw[pf]<;>rfl) (Calls.evalArgs_plain ?_)
 exact dk hA λus s2 ⟨vs,H2,I2,r2,q2⟩=>hm ai s2 σ H2 x vs v us Q I2 r1 r2 q2
end
end L2
namespace L2
open PySem PySem.Spec PyProof.Rows
def Qs (X:Cx)(id:String)(r:V->List V->Hp->VK->Prop):Prop :=
 ∀(ai:List (af×cJ)) (s:ah) (σ:St) (H:Hp) (x:V) (xs:List V) (v:aa) (us:List aa) (Q:VK),Inv X ai σ H s->RelV x v->bR xs us->r x xs H Q ->
  aQ (aS X.prog X.w) X.A (call (.builtin id) (v::us)) (EP X ai σ Q) X.xe s
theorem bR.one:∀{x:V} {us:List aa},bR [x] us->∃u,us=[u]/\RelV x u
 |_,_,.cons r .nil=>⟨_,rfl,r⟩
theorem bR.rep {xs:List V}{us:List aa}(h:bR xs us):∀k:Nat,bR (aJ k xs).flatten (aJ k us).flatten
 |0=>.nil
 |k+1=>by
  rw[cA,cA,cD,cD]
  exact bR.append h (bR.rep h k)
theorem foldl_rep (bT:List aa):∀(k:Nat) (eU:List aa),
  pW (λx1 x2=>x1++x2) eU.toArray (aJ k bT.toArray)=(eU++(aJ k bT).flatten).toArray
 |0,eU=>by simp
 |k+1,eU=>by
  have e:eU.toArray++bT.toArray=(eU++bT).toArray:=by simp
  have e2:(eU++bT)++(aJ k bT).flatten=eU++(aJ (k+1) bT).flatten:=by
   rw[cA,cD,cC]
  rw[←e2,←foldl_rep bT k (eU++bT),←e,cA,bP]
section
variable {X:Cx}{ai:List (af×cJ)}{σ:St}{H:Hp}{s:ah}{l b:af}{xs ys zs:List V}
theorem Inv.lset {bT its':List aa}{n:Nat}{f:Array aa->Array aa}{t':Nat}(I:Inv X ai σ H s)(hH:H l=some (.lst xs))
    (e:s.heap.get? l=some { cls:=.type "list",data:=.seq bT.toArray n }) (hf:f bT.toArray=its'.toArray) (hv:bR ys its') (hz:ys.length<=sizeLine) :
    Inv X ai σ (upd H l (.lst ys)) { s with heap:=s.heap.update l (cJ.mapSeq f),toks:=t' }:=by
  have q:=PySem.IsL.update e f
  rw[hf]at q
  refine I.write (x:=l) (e:=l) (by rw[hH];exact trivial) (.inl rfl) (λb' u hb hu=>(iD s.heap (cJ.mapSeq f) (Ne.symm hb)).trans hu) ⟨_,q⟩ ?_
  exact⟨hz,its',_,hv,q⟩
theorem Inv.lnew {bT:List aa}{t':Nat}(I:Inv X ai σ H s)(hv:bR ys bT)(hz:ys.length<=sizeLine) :
    Inv X ai σ (upd H s.heap.objs.size (.lst ys)) { s with heap:=s.heap.push { cls:=.type "list",data:=.seq bT.toArray },toks:=t' } :=
  I.laid (λ_ _ q=>ap _ q) (aH _) ⟨hz,bT,0,hv,ba _ rfl⟩
theorem Inv.fresh (I:Inv X ai σ H s):H s.heap.objs.size=none:=I.hok.fresh (aH _)
theorem Inv.lstM (I:Inv X ai σ H s)(hH:H l=some (.lst xs)):xs.length<=sizeLine/\∃(bT:List aa) (n:Nat),bR xs bT/\xs.length=bT.length/\s.heap.get? l=some { cls:=.type "list",data:=.seq bT.toArray n }:=by
  obtain⟨z,bT,n,r,e⟩:=I.hok l _ hH
  exact⟨z,bT,n,r,r.length,e⟩
theorem sC {n:Nat}(h:n<=sizeLine):Builtin.List.listTooLong n=false:=by
 unfold Builtin.List.listTooLong
 exact decide_eq_false (by omega)
end
section
variable {X:Cx}
def t5:V->List V->Hp->VK->Prop:=λx vs H Q=>∃l xs y,x=.ref l/\vs=[y]/\H l=some (.lst xs)/\xs.length<sizeLine/\Q .non (upd H l (.lst (xs++[y])))
theorem J2:Qs X "list.append" t5:=by
 intro ai s σ H x vs v us Q I rx rv h
 obtain⟨l,xs,y,rfl,rfl,hH,hz,q⟩:=h
 cases rx
 obtain⟨u,rfl,ru⟩:=rv.one
 obtain⟨z,bT,n,r,hl,e⟩:=I.lstM hH
 refine uL F.slot_list_append ⟨_,e,rfl⟩ F.entry_list_append (F.args_list_append_2 _ _) (PySem.list_append l bT.toArray n u (by rw[aK];omega)) ⟨e,?_⟩
 refine⟨.non,_,I.lset (its':=bT++[u]) hH e (by simp) (r.append (.cons ru .nil)) ?_,rfl,q⟩
 rw[aT,fK]
 omega
theorem Yg {α:Type}(xs:List α)(k:Nat):(aJ k xs).flatten.length=k*xs.length:=by
 induction k with
 |zero=>simp
 |succ k ih=>rw[cA,cD,aT,ih,Nat.succ_mul,Nat.add_comm]
end
section
variable {prog:aW}{w:bv}{A:bo}{E:aa->ah->Prop}{s:ah}
end
section
variable {X:Cx}
end
end L2
namespace Att
open PySem PySem.W PySem.Calls PyProof.Rows
theorem Ve {P:Params}{h:aI}:∀(ns:List Int) (vs:List aa),WellAll P h vs (ns.map WData.int)->IntsAre vs ns:=by
 intro ns
 induction ns with
 |nil=>
  intro vs w
  rw[kM]at w
  cases w
  exact .nil
 |cons n ns ih=>
  intro vs w
  rw[bu]at w
  cases w with
  |cons a b=>
   cases a
   exact .cons _ _ (ih _ b)
theorem WC {l:OpenLaw}{n:Nat}(hn:l.most=some n){P:Params}{h:aI}{args:List WData}{vals:List aa}
    (qJ:l.row.toRowW.claim.pre args=true) (IX:WellAll P h vals args) :
    ∃a vs ns,vals=[aa.ref a]/\args=[WData.list (ns.map WData.int)]/\h.get? a=some { cls:=.type "list",data:=.seq vs.toArray }/\IntsAre vs ns/\ns.length<=n:=by
  have R4:WShape.hasAll [] args [.list .int]=true:=(pre_splitW qJ).1
  have hc:l.pre.holds [] { args:=args }=true:=(pre_splitW qJ).2
  obtain⟨d,r,rfl,h1,h2⟩:=hasAllW_cons R4
  obtain rfl:=hasAllW_nil h2
  obtain⟨xs,rfl,h3⟩:=hasW_list h1
  obtain⟨ns,rfl⟩:=items_int h3
  have d4:ns.length<=n:=by
    unfold OpenLaw.pre at hc
    have h4:(WTm.not (.lt (.lit (.int (n:Int))) (.len (.arg 0)))).holds [] { args:=[.list (ns.map .int)] }=true:=by
      have h4:=(holds_andW hc).1
      rw[hn]at h4
      exact h4
    have h5:=condW_of h4 (w_not (w_lt w_lit (w_len_list (w_arg rfl))))
    rw[aA]at h5
    refine Nat.le_of_not_lt λq=>?_
    have q':(n:Int)<((ns.length:Nat):Int):=by omega
    first
      |(rw[decide_eq_true q']at h5;exact absurd h5 (by decide))
      |(simp at h5;omega)
  cases IX with
  |cons w1 w2=>
    cases w2
    cases w1 with
    |list ho oo=>exact⟨_,_,ns,rfl,rfl,ho,Ve ns _ oo,d4⟩
theorem WD (l:OpenLaw)(args:List WData):l.row.toRowW.claim.post args (.bool true) args=true :=
  postW_of (r:=l.row.toRowW) (X:=(true==true))
    (show WShape.has [] (.bool true) .bool=true by first|rfl|decide|simp[WShape.has,WShape.arms,WShape.armsAll])
    (show(WTm.eq .res (.lit (.bool true))).value [] { args:=args,res:=some (.bool true),after:=args }=some (.bool (true==true))from w_eq_bool (w_res rfl) w_lit) rfl
theorem attach_call {l:OpenLaw}{n:Nat}{q:aW}{loose:List aP}{XP:(aP->Option aa)->aI->Prop}{YP:bv->aI->Prop}{d:DefRec}
    (hn:l.most=some n) (CI:d.params.defaults=[])
    (call:∀(w:bv) (s₀ s₁:ah) (mg mb:aP->Option aa) (fa:af) (o:cJ) (pm cd doc:aa) (a:af) (vs:List aa) (ns:List Int),
      Ground q loose [] XP w s₀ mg mb s₁.heap->YP w s₁.heap ->
      s₁.heap.get? fa=some o->o.data=.func (docDef d.name d.params d.body d.scope pm cd doc)->s₁.heap.CodeRec cd d.name->mg d.name=some (.ref fa) ->
      s₁.heap.get? a=some { cls:=.type "list",data:=.seq vs.toArray }->IntsAre vs ns->ns.length<=n->s₁.gens = #[] ->
      fR (aS l.prog w) mr (.call (.ref fa) ⟨[.ref a],[]⟩) (λr s'=>r=.ok (.ret (.bool true))/\OldK s₁.heap s'.heap/\s'.os=s₁.os/\AllBare s'.gens) s₁) :
    WalkO q loose XP YP l.row.toRowW d [] (λf vs=>PySem.call f vs):=by
  intro w s₀ s₁ mg mb G Y fa o pm cd doc dV kV ho hd iU hD hmg hg args vals as qJ tS hrd IX hlo
  obtain rfl:dV=.none:=Dflts.none hD CI
  obtain rfl:kV=.none:=Dflts.noKw hD
  obtain⟨a,vs,ns,rfl,rfl,yR,sj,d4⟩:=WC hn qJ IX
  refine enter_call (gX (call w s₀ s₁ mg mb fa o pm cd doc a vs ns G Y ho (fd_plain hd) iU hmg yR sj d4 hg) λr s' hq=>?_)
  obtain⟨rfl,h2,h3,h4⟩:=hq
  exact⟨.inl ⟨.bool true,.bool true,[],rfl,λ_=>rfl,.bool true,WD l _,λ_=>⟨jY.nil,λ_ hm=>(nomatch hm)⟩⟩,h2,h3,h4⟩
section
variable {prog:aW}{w:bv}{A:bo}{E:aa->ah->Prop}{s:ah}{K:Frag}
end
end Att
namespace L2
open PySem PySem.Spec PyProof.Rows
theorem J3:∀{vs:List aa} {ns:List Int},IntsAre vs ns->bR (ns.map V.int) vs
 |_,_,.nil=>.nil
 |_,_,.cons n t h=>.cons ⟨t,rfl⟩ (J3 h)
def wI (H:Hp):Prop:=∀b,H b=none\/∃o xs,H b=some (.frz o (.lst xs))
theorem WZ {P:aW}{w:bv}{K:ae}{mg mb:aP->Option aa}{CX:rf}{k:Nat}{fa a:af}{fd:aM}{x:aP}{sp:Sp}{s₁:ah}{vs:List aa}{ns:List Int}
    (KX:K.In s₁.heap) (rC:s₁.heap.Ns ax mg) (hb:s₁.heap.Ns uK mb) (Rx:∀x:aP,x≠"__name__"->mb x=bN x) (IF:s₁.heap.NoLimit) (hg:s₁.gens = #[])
    (ha:s₁.heap.get? a=some { cls:=.type "list",data:=.seq vs.toArray }) (hi:IntsAre vs ns) (hl:ns.length<=sizeLine) (hr:ee k mr)
    (F:∀base:aI,K.In base->base.Ns ax mg->cI P w K mg base CX k fa fd [x] sp) (CH:∀(s:ah) (u:aa),nY s fd ⟨[u],[]⟩ [(x,u)])
    (vJ:∀H:Hp,wI H->eR K H a (ns.map V.int)->sp [.ref a] H (λv _=>v=.bl true) λ_ _ _=>False)
    (HZ:∀H e s',CX [] H s₁ (λ_ _ _=>False) e s'->False) :
    fR (aS P w) mr (.call (.ref fa) ⟨[.ref a],[]⟩) (λr s'=>r=.ok (.ret (.bool true))/\OldK s₁.heap s'.heap/\s'.os=s₁.os/\AllBare s'.gens) s₁:=by
  have rv:=J3 hi
  have Jh:=hi.length
  have core:∀H:Hp,wI H->eR K H a (ns.map V.int)->kb P w H s₁.heap->(∀b,H b≠none->b=a)->(H a≠none->K.lookup a=none) ->
      fR (aS P w) mr (.call (.ref fa) ⟨[.ref a],[]⟩) (λr s'=>r=.ok (.ret (.bool true))/\OldK s₁.heap s'.heap/\s'.os=s₁.os/\AllBare s'.gens) s₁:=by
    intro H hO hS hok hA hK
    have pK:∀{b:af} {o:cJ},s₁.heap.get? b=some o->H b=none->(nG s₁.heap H).get? b=some o:=λe n=>Xe e n
    have DN:∀{b:af} {o:cJ} {es:Array DictEntry} {ep:Nat},s₁.heap.get? b=some o->o.data=.dict es ep->H b=none:=λ{b o es ep} e d=>by
      cases q:H b with
      |none=>rfl
      |some u=>
        have e':b=a:=hA b (by rw[q];simp)
        subst e'
        rw[ha]at e;cases e
        have d':pG.seq vs.toArray _=pG.dict es ep:=d
        cases d'
    have FY:∀{b:af} {m:aP->Option aa},s₁.heap.Ns b m->(nG s₁.heap H).Ns b m:=λ{b m} ⟨o,es,ep,e,d,r⟩=>⟨o,es,ep,pK e (DN e d),d,r⟩
    have LI:K.In (nG s₁.heap H):=λb o e=>pK (KX b o e) (by
      cases q:H b with
      |none=>rfl
      |some u=>
        have e':b=a:=hA b (by rw[q];simp)
        subst e'
        rw[hK (by rw[q];simp)]at e;cases e)
    have hM:Mod K mg (nG s₁.heap H):=⟨LI,FY rC,⟨mb,FY hb,Rx⟩,let⟨mc,h1,h2⟩:=IF;⟨mc,FY h1,h2⟩⟩
    have e0:oX P w K mg (nG s₁.heap H) mr [] s₁ H:=⟨rfl,hM,λb o e=>Yp e,oI (Wv _ _),trivial,λb hb=>absurd (show b∈([]:List af)from hb) (by simp),hok,.of_eq hg⟩
    refine gX ((F _ LI (FY rC)).run mr [] s₁ H ⟨[.ref a],[]⟩ [.ref a] [.ref a] _ _ hr e0 (CH s₁ (.ref a)) (.cons rfl .nil) (vJ H hO hS)) λr s' h=>?_
    cases r with
    |error e=>exact(HZ H e s' h).elim
    |ok fl=>
      cases fl with
      |next=>exact False.elim h
      |brk=>exact False.elim h
      |cont=>exact False.elim h
      |ret u=>
        obtain⟨v,H',os,bare,un,IL,r',q⟩:=h
        have q':v=.bl true:=q
        subst q'
        obtain rfl:u=aa.bool true:=r'
        refine⟨rfl,OldK.of_keep λb o e=>?_,os,bare⟩
        cases q:H b with
        |none=>exact un.keep b o e q (by intro z;exact absurd (show b∈([]:List af)from z) (by simp)) (by simp)
        |some u=>
          rcases hO b with z|⟨ob,xs,z⟩
          · rw[q]at z;cases z
          · have z2:=un.frzs b ob _ z
            obtain⟨e1,_⟩:=hok b _ z
            obtain⟨e2,_⟩:=IL b _ z2
            rw[e]at e1;cases e1
            exact e2
  cases hk:K.lookup a with
  |some o=>
    have e:=KX a o hk
    rw[ha]at e
    cases e
    refine core (λ_=>none) (λ_=>.inl rfl) (.inr ⟨_,vs.toArray,_,hk,rfl,rfl,rfl,by rw[aK,Jh];exact hl,by simpa using rv⟩) (λb u z=>by have z':(none:Option HO)=some u:=z;cases z') (λb z=>absurd rfl z) λz=>absurd rfl z
  |none=>
    refine core (λb=>if b=a then some (.frz { cls:=.type "list",data:=.seq vs.toArray } (.lst (ns.map V.int)))else none) (λb=>?_) (.inl (.inr ⟨{ cls:=.type "list",data:=.seq vs.toArray },if_pos rfl⟩)) (λb u z=>?_) (λb z=>?_) λ_=>hk
    · by_cases hb:b=a
      · exact .inr ⟨_,_,if_pos hb⟩
      · exact .inl (if_neg hb)
    · by_cases hb:b=a
      · have z':=(if_pos hb).symm.trans z
        cases z'
        subst hb
        exact⟨ha,by rw[aA];exact hl,vs,_,rv,ha⟩
      · have z':=(if_neg hb).symm.trans z
        cases z'
    · by_cases hb:b=a
      · exact hb
      · exact absurd (if_neg hb) z
end L2
namespace L2
open PySem PySem.Spec PyProof.Rows
theorem walk_of {l:kY}{n k:Nat}{q:aW}{loose:List aP}{XP:(aP->Option aa)->aI->Prop}{YP:bv->aI->Prop}{d:DefRec}{K:Params->ae}{CX:bv->rf}{sp:bv->Sp}{x:aP}
  (hn:l.most=some n) (vE:n<=sizeLine) (CI:d.params.defaults=[]) (hr:ee k mr)
  (hY:∀(w:bv) (h:aI),YP w h->(K w.params).In h)
  (F:∀(w:bv) (mg:aP->Option aa) (fa:af) (h:aI),(K w.params).In h->h.Ns ax mg->mg d.name=some (.ref fa) ->
   ∃fd:aM,(∀(s:ah) (u:aa),nY s fd ⟨[u],[]⟩ [(x,u)]) /\
    ∀base:aI,(K w.params).In base->base.Ns ax mg->cI l.prog w (K w.params) mg base (CX w) k fa fd [x] (sp w))
  (vJ:∀(w:bv) (H:Hp) (a:af) (ns:List Int),ns.length<=n->wI H->eR (K w.params) H a (ns.map V.int)->sp w [.ref a] H (λv _=>v=.bl true) λ_ _ _=>False)
  (HZ:∀(w:bv) (H:Hp) (s:ah) (e:aa) (s':ah),CX w [] H s (λ_ _ _=>False) e s'->False) :
  rM q loose XP YP l.row.toRowW d [] (λf vs=>PySem.call f vs):=by
 refine Att.attach_call hn CI λw s₀ s₁ mg mb fa o pm cd doc a vs ns G Y ho hd iU hmg yR sj d4 hg=>?_
 have KX:=hY w _ Y
 obtain⟨fd,hb,hF⟩:=F w mg fa _ KX G.T.g hmg
 exact WZ KX G.T.g G.T.b G.T.builtins G.T.nolimit hg yR sj (bD d4 vE) hr hF hb (λH hO hS=>vJ w H a ns d4 hO hS) λH e s'=>HZ w H s₁ e s'
end L2
namespace L2
open PySem PySem.Spec PyProof.Rows
def inClass (s:bG)(j:Nat):bG:=match s with
 |.ClassDef _ _ _ body _ _ _ _ _ _ _=>body.getD j (.Pass ⟨0,0,0,0⟩)
 |_=>.Pass ⟨0,0,0,0⟩
def lN (s:bG):Arguments:=match s with
  |.FunctionDef _ a _ _ _ _ _ _ _ _=>a
  |_=>{ posonlyargs:=[],args:=[],vararg:=none,kwonlyargs:=[],kw_defaults:=[],kwarg:=none,defaults:=[] }
def gL (s:bG):List bG:=match s with
 |.FunctionDef _ _ b _ _ _ _ _ _ _=>b
 |_=>[]
def aY (s:bG):fF:=match s with
  |.FunctionDef _ _ _ _ _ _ sc _ _ _=>sc
  |_=>{ kind:=.function,names:=[],isGenerator:=false,isCoroutine:=false }
abbrev eP:rf:=λ_ _ _ _ _ _=>False
abbrev E0:XK:=λ_ _ _=>False
theorem ou {X:Cx}:iP eP X E0:=λ_ _ _ _ _ _ _ h=>h.elim
section
variable {P:aW}{w:bv}{K:ae}{mg:aP->Option aa}{base:aI}
end
theorem Fe {A:bo}{k:Nat}(hr:ee k A):A.units+1<gR:=qT (Nat.add_le_add_left (by decide:1<=64) _) hr.units
theorem qM {n:Nat}(h:n<=1000):n<sizeLine:=qT h (by decide)
section
variable {X:Cx}
end
def bK (H H':Hp):Prop:=∀b o,H b=some o->H' b=some o
theorem bK.refl (H:Hp):bK H H:=λ_ _ h=>h
theorem bK.trans {H H1 H2:Hp}(a:bK H H1)(b:bK H1 H2):bK H H2:=λc o h=>b c o (a c o h)
theorem bK.free {H H':Hp}(e:bK H H'){l:af}(h:H' l=Option.none):H l=Option.none:=by
 cases q:H l with
 |none=>rfl
 |some o=>
  rw[e l o q]at h
  cases h
theorem bK.seq {K:ae}{H H':Hp}{a:af}{xs:List V}(e:bK H H')(h:eR K H a xs):eR K H' a xs:=by
 rcases h with(h|⟨o,h⟩)|h
 ·exact .inl (.inl (e _ _ h))
 ·exact .inl (.inr ⟨o,e _ _ h⟩)
 ·exact .inr h
end L2
namespace L2
open PySem PySem.Spec PyProof.Rows
def Qu (a C:af)(dx tb:Option af)(h:aI):Prop :=
  ∃a0,h.get? a=some { cls:=.ref C,dict:=dx,data:=.fields #[a0,tb.elim aa.none .ref,.none,.none,.bool false,.none] }
abbrev Nb (a C:af)(dx tb:Option af):HO:=.ext (Qu a C dx tb)
section
variable {X:Cx}{ai:List (af×cJ)}{σ:St}{H:Hp}{s:ah}{a C:af}{dx tb:Option af}{M:Model}{A1 A2:bo}{E1 E2:aa->ah->Prop}
end
abbrev GK:=St->af->Hp->Prop
section
variable {X:Cx}{k:Nat}{f C:af}{fd:aM}{ps:List aP}{sp:Sp}{iy:List V}{ds:List aa}{G:GK}{x m:aP}{p pos dh:cB}{e o:Expr}{es:List Expr}{ta:TE}{t:TA}
end
end L2
namespace L2
open PySem PySem.Spec PyProof.Rows
section
variable {nm q:aP}{C N:af}{bs bm:List aa}{Il:Bool}{sn:List aP}{sub:List aa}{ab:Bool}{col:Option Bool}{dd:Option af}{k0 k1 k2 k3 k5:Option aa}
variable {prog:aW}{w:bv}{A:bo}{R:Result->ah->Prop}{h:aI}{g:Array GenState}{d:Drawn}{t:Nat}{os:OsState}
end
end L2
namespace L2
open PySem PySem.Spec PyProof.Rows
section
variable {nm q:aP}{C N:af}{bs bm:List aa}{Il:Bool}{sn:List aP}{sub:List aa}{ab:Bool}{col:Option Bool}{dd:Option af}{k0 k1 k2 k3 k5:Option aa}
variable {prog:aW}{w:bv}{A:bo}{E:aa->ah->Prop}{h:aI}{g:Array GenState}{d:Drawn}{t:Nat}{os:OsState}
end
section
variable {nm q:aP}{C N:af}{bs bm:List aa}{sn:List aP}{sub:List aa}{ab:Bool}{col:Option Bool}{dd:Option af}{k0 k1 k2 k3 k5:Option aa}
variable {prog:aW}{w:bv}{A:bo}{E:aa->ah->Prop}{s:ah}{K:ae}{x:af}{dt:pG}{sl:Array (Option aa)}{name:aP}{v:aa}
end
end L2
set_option maxHeartbeats 4000000
namespace L2
open PySem PySem.Spec PyProof.Rows
section
variable {X:Cx}{ai:List (af×cJ)}{σ:St}{H:Hp}{s:ah}{C:af}
variable {k:Nat}{f:af}{fd:aM}{ps:List aP}{sp:Sp}{x:aP}{p pos:cB}{e:Expr}{es:List Expr}{t:TA}{te:TE}{G:GK}
end
end L2
set_option maxHeartbeats 4000000
namespace L2
open PySem PySem.Spec PyProof.Rows
section
variable {X:Cx}{e:Expr}{es:List Expr}{te:TE}{pos:cB}
abbrev TF:=St->Hp->(Hp->Prop)->Prop
def PF (X:Cx)(e:Expr)(n:Nat)(t:TF):Prop:=∀(ai:List (af×cJ)) (s:ah) (σ:St) (H:Hp) (Q:Hp->Prop),Inv X ai σ H s->t σ H Q ->
 aQ (aS X.prog X.w) X.A (bS e X.env) (λv s1=>∃y tk H1,v=.str y tk/\y.length<=n/\Inv X ai σ H1 s1/\Q H1) X.xe s
end
structure uQ (K:ae)(C:af):Prop where
 ga:aq K (.ref C) "__getattribute__"=some (some (.builtin "BaseException.__getattribute__"))
 gn:aq K (.ref C) "__getattr__"=some none
 mB:dA K C (.type "BaseException")=some true
 hd:cy K C=true
 ca:aq K (.ref C) "__class__"=some (some (.builtin "object.__class__"))
 cg:dg K (.builtin "object.__class__") "__get__"=some (some (.builtin "getset_descriptor.__get__"))
 ct:iu K (.builtin "object.__class__")=some true
 mO:dA K C (.type "object")=some true
section
variable {prog:aW}{w:bv}{A:bo}{E:aa->ah->Prop}{s:ah}{K:ae}{x C:af}{ox:cJ}{od:Option cJ}
end
end L2
set_option maxHeartbeats 4000000
namespace L2
open PySem PySem.Spec PyProof.Rows
section
variable {X:Cx}{ai:List (af×cJ)}{σ:St}{H:Hp}{s:ah}{E:aa->ah->Prop}{a:af}
end
end L2
set_option maxHeartbeats 4000000
namespace L2
open PySem PySem.Spec PyProof.Rows
section
variable {X:Cx}{e:Expr}{es:List Expr}{te:TE}{pos:cB}
end
end L2
namespace L2
open PySem PySem.Spec PyProof.Rows
section
variable {κ:Type}[DecidableEq κ]
def iA (cn:List (κ×V))(k:κ):Option V:=(cn.find? λkv=>decide (kv.1=k)).map (·.2)
def putK (cn:List (κ×V))(k:κ)(v:V):List (κ×V) :=
 if(cn.any λkv=>decide (kv.1=k))=true then cn.map (λkv=>if kv.1=k then(kv.1,v)else kv)else cn++[(k,v)]
theorem Ki {p:κ×V}{r:List (κ×V)}{k:κ}(e:p.1=k):iA (p::r) k=some p.2:=by simp[iA,cU,e]
theorem Kj {p:κ×V}{r:List (κ×V)}{k:κ}(e:¬p.1=k):iA (p::r) k=iA r k:=by simp[iA,cU,e]
theorem Oj (k:κ):∀cn:List (κ×V),(cn.any λkv=>decide (kv.1=k))=(iA cn k).isSome
 |[]=>rfl
 |p::r=>by
  rw[dP]
  by_cases e:p.1=k
  ·simp only[Ki e,decide_eq_true e,Bool.true_or,Option.isSome_some]
  ·rw[Kj e,decide_eq_false e,Bool.false_or];exact Oj k r
theorem Nq (cn:List (κ×V))(k:κ)(v:V):(putK cn k v).length<=cn.length+1:=by
 unfold putK
 split
 ·rw[aA];omega
 ·rw[aT,aF,iH];omega
theorem jH.isSome_eq {o:Option V}{u:Option aa}(r:jH o u):o.isSome=u.isSome:=by
 cases o with
 |none=>cases u with
  |none=>rfl
  |some _=>exact(show False from r).elim
 |some _=>cases u with
  |none=>exact(show False from r).elim
  |some _=>rfl
theorem jH.getD {o:Option V}{u:Option aa}{d:V}{d':aa}(r:jH o u)(rd:RelV d d'):RelV (o.getD d) (u.getD d'):=by
 cases o with
 |none=>cases u with
  |none=>exact rd
  |some _=>exact(show False from r).elim
 |some _=>cases u with
  |none=>exact(show False from r).elim
  |some _=>exact r
theorem KV.val {cn:List (κ×V)}{vs:List (κ×aa)}(r:KV cn vs)(k:κ):jH (iA cn k) (n4 vs k):=by
 unfold KV at r
 induction r with
 |nil=>exact True.intro
 |@cons p q ps qs h t ih=>
  obtain⟨h1,h2⟩:=h
  by_cases e:p.1=k
  ·have e':q.1=k:=h1.symm.trans e
   have b:n4 (q::qs) k=some q.2:=by simp[n4,cU,e']
   rw[Ki e,b];exact h2
  ·have e':¬q.1=k:=λz=>e (h1.trans z)
   have b:n4 (q::qs) k=n4 qs k:=by simp[n4,cU,e']
   rw[Kj e,b];exact ih
theorem KV.any {cn:List (κ×V)}{vs:List (κ×aa)}(r:KV cn vs)(k:κ):(cn.any λkv=>decide (kv.1=k))=vs.any λkv=>decide (kv.1=k):=by
 unfold KV at r
 induction r with
 |nil=>rfl
 |cons h t ih=>rw[dP,dP,ih,h.1]
theorem KV.repl {cn:List (κ×V)}{vs:List (κ×aa)}(r:KV cn vs)(k:κ){y:V}{u:aa}(ry:RelV y u) :
  KV (cn.map λkv=>if kv.1=k then(kv.1,y)else kv) (vs.map λkv=>if kv.1=k then(kv.1,u)else kv):=by
 unfold KV at r ⊢
 induction r with
 |nil=>exact .nil
 |@cons p q ps qs h t ih=>
  rw[bu,bu]
  refine .cons ?_ ih
  obtain⟨h1,h2⟩:=h
  by_cases e:p.1=k
  ·rw[if_pos e,if_pos (h1.symm.trans e)];exact⟨h1,ry⟩
  ·rw[if_neg e,if_neg (λz=>e (h1.trans z))];exact⟨h1,h2⟩
theorem KV.put {cn:List (κ×V)}{vs:List (κ×aa)}(r:KV cn vs)(k:κ){y:V}{u:aa}(ry:RelV y u):KV (putK cn k y) (stored vs k u):=by
 unfold putK stored
 rw[r.any k]
 by_cases e:(vs.any λkv=>decide (kv.1=k))=true
 ·rw[if_pos e,if_pos e];exact r.repl k ry
 ·rw[if_neg e,if_neg e];exact Paired.snoc r ⟨rfl,ry⟩
theorem KV.length {cn:List (κ×V)}{vs:List (κ×aa)}(r:KV cn vs):cn.length=vs.length:=Paired.length r
end
theorem Ff {P:aW}{w:bv}{k:eF}{u:aa}(r:RelV (kV k) u):(dJ P w).is k u=true:=by
 cases k with
 |inl i=>obtain⟨t,e⟩:=(show∃t,u=aa.int i t from r);subst e;exact VM P w i t
 |inr x=>obtain⟨t,e⟩:=(show∃t,u=aa.str x t from r);subst e;exact VN P w x t
theorem NR {P:aW}{w:bv}:∀{ks:List eF} {us:List aa},bR (ks.map kV) us->ItemsAre (dJ P w) ks us
 |[],_,r=>by rw[kM]at r;cases r;exact .nil
 |k::ks,_,r=>by
  rw[bu]at r
  cases r with
  |cons h t=>exact .cons (Ff h) (NR t)
abbrev KT (H:Hp):List (List eF×V)->List (List eF×af×aa)->Prop:=Paired λp q=>p.1=q.1/\H q.2.1=some (.tup (p.1.map kV))/\RelV p.2 q.2.2
theorem KT.val {H:Hp}{cn:List (List eF×V)}{xs:List (List eF×af×aa)}(r:KT H cn xs)(k:List eF):jH (iA cn k) ((qA xs k).map (·.2)):=by
 induction r with
 |nil=>exact True.intro
 |@cons p q ps qs h t ih=>
  obtain⟨h1,_,h2⟩:=h
  by_cases e:p.1=k
  ·have e':q.1=k:=h1.symm.trans e
   have b:qA (q::qs) k=some q.2:=by simp[qA,cU,e']
   rw[Ki e,b];exact h2
  ·have e':¬q.1=k:=λz=>e (h1.trans z)
   have b:qA (q::qs) k=qA qs k:=by simp[qA,cU,e']
   rw[Kj e,b];exact ih
theorem KT.repl {H:Hp}{cn:List (List eF×V)}{xs:List (List eF×af×aa)}(r:KT H cn xs)(k:List eF){y:V}{u:aa}(ry:RelV y u) :
  KT H (cn.map λkv=>if kv.1=k then(kv.1,y)else kv) (xs.map (putAt k u)):=by
 induction r with
 |nil=>exact .nil
 |@cons p q ps qs h t ih=>
  rw[bu,bu]
  refine .cons ?_ ih
  obtain⟨h1,h2,h3⟩:=h
  unfold putAt
  by_cases e:p.1=k
  ·rw[if_pos e,if_pos (h1.symm.trans e)];exact⟨h1,h2,ry⟩
  ·rw[if_neg e,if_neg (λz=>e (h1.trans z))];exact⟨h1,h2,h3⟩
theorem KT.put {H:Hp}{cn:List (List eF×V)}{xs:List (List eF×af×aa)}(r:KT H cn xs)(k:List eF){b:af}{y:V}{u:aa}(hb:H b=some (.tup (k.map kV)))(ry:RelV y u) :
  KT H (putK cn k y) (storedH xs k b u):=by
 have e:(cn.any λkv=>decide (kv.1=k))=(qA xs k).isSome:=by
  rw[Oj,(r.val k).isSome_eq,pF]
 unfold putK storedH
 rw[e]
 by_cases q:(qA xs k).isSome=true
 ·rw[if_pos q,if_pos q];exact r.repl k ry
 ·rw[if_neg q,if_neg q];exact Paired.snoc r ⟨rfl,hb,ry⟩
theorem KT.keeps {H H':Hp}{cn:List (List eF×V)}{xs:List (List eF×af×aa)}(r:KT H cn xs)(ht:∀b ys,H b=some (.tup ys)->H' b=some (.tup ys)):KT H' cn xs :=
 Paired.mapP r λ_ _ z=>⟨z.1,ht _ _ z.2.1,z.2.2⟩
section
variable {P:aW}{w:bv}{H:Hp}{h:aI}{a:af}
theorem PK {u:HO}(ok:kb P w H h)(e:Rd H a u):dI P w H h a u:=e.ok ok
theorem AJ {cn:List (eF×V)}(ok:kb P w H h)(e:Rd H a (.dK cn)):cn.length<=sizeLine/\(a==eh)=false/\∃vs,KV cn vs/\h.DictOf (dJ P w) a vs :=
 show dI P w H h a (.dK cn)from PK ok e
theorem zt4 {cn:List (eF×V)}(ok:kb P w H h)(e:H a=some (.dK cn)):cn.length<=sizeLine/\(a==eh)=false/\∃vs,KV cn vs/\h.DictOf (dJ P w) a vs:=AJ ok (.inl e)
theorem Fb {ks:List eF}(ok:kb P w H h)(e:H a=some (.tup (ks.map kV))):(i8 (dJ P w)).is h ks a:=by
 obtain⟨_,bT,r,o,h1,h2,n,h3⟩:=(show dI P w H h a (.tup (ks.map kV))from ok a _ e)
 exact⟨o,bT.toArray,n,h1,h2,h3,by simpa using NR r⟩
theorem Fg {cn:List (List eF×V)}(ok:kb P w H h)(e:Rd H a (.dT cn)):cn.length<=sizeLine/\(a==eh)=false /\
  ∃xs,KT H cn xs/\h.DictOfH (i8 (dJ P w)) a xs:=by
 obtain⟨z,y,xs,r,o,es,ep,h1,h2,h3,h4,h5⟩:=(show dI P w H h a (.dT cn)from PK ok e)
 refine⟨z,y,xs,r,o,es,ep,h1,h2,h3,h4,λx hx=>?_,h5⟩
 have all:∀{l:List (List eF×V)} {m:List (List eF×af×aa)},KT H l m->∀x∈m,(i8 (dJ P w)).is h x.1 x.2.1:=by
  intro l m q
  induction q with
  |nil=>intro x hx;exact nomatch hx
  |@cons p q ps qs hq t ih=>
   intro x hx
   rcases av.mp hx with e|hx
   ·subst e
    exact Fb ok (by rw[←hq.1];exact hq.2.1)
   ·exact ih x hx
 exact all r x hx
theorem zt5 {cn:List (List eF×V)}(ok:kb P w H h)(e:H a=some (.dT cn)):cn.length<=sizeLine/\(a==eh)=false /\
  ∃xs,KT H cn xs/\h.DictOfH (i8 (dJ P w)) a xs:=Fg ok (.inl e)
end
def mE (H:Hp)(a:af)(y:V)(r:Option V):Prop :=
 (∃cn k,Rd H a (.dK cn)/\y=kV k/\r=iA cn k)\/∃cn k b,Rd H a (.dT cn)/\y=.ref b/\H b=some (.tup (k.map kV))/\r=iA cn k
def n6 (H:Hp)(a:af)(y v:V)(H':Hp):Prop :=
 (∃cn k,H a=some (.dK cn)/\y=kV k/\cn.length<sizeLine/\H'=upd H a (.dK (putK cn k v))) \/
 ∃cn k b,H a=some (.dT cn)/\y=.ref b/\H b=some (.tup (k.map kV))/\cn.length<sizeLine/\H'=upd H a (.dT (putK cn k v))
theorem mE.k {H:Hp}{a:af}{cn:List (eF×V)}{k:eF}(e:H a=some (.dK cn)):mE H a (kV k) (iA cn k):=.inl ⟨cn,k,.inl e,rfl,rfl⟩
theorem n6.k {H:Hp}{a:af}{cn:List (eF×V)}{k:eF}{v:V}(e:H a=some (.dK cn))(hl:cn.length<sizeLine):n6 H a (kV k) v (upd H a (.dK (putK cn k v))):=.inl ⟨cn,k,e,rfl,hl,rfl⟩
theorem n6.t {H:Hp}{a b:af}{cn:List (List eF×V)}{k:List eF}{v:V}(e:H a=some (.dT cn))(eb:H b=some (.tup (k.map kV)))(hl:cn.length<sizeLine) :
  n6 H a (.ref b) v (upd H a (.dT (putK cn k v))):=.inr ⟨cn,k,b,e,rfl,eb,hl,rfl⟩
section
variable {X:Cx}{ai:List (af×cJ)}{σ:St}{H:Hp}{s:ah}{a:af}{y v:V}{u r:aa}{o:Option V}{A:bo}{E:aa->ah->Prop}
theorem Inv.big (I:Inv X ai σ H s):eh<s.heap.objs.size:=by
 have h:ax<s.heap.objs.size:=(I.mod.glob.keeps I.bk).lt
 exact Nat.lt_trans (by decide) h
theorem Hr {Q:aa->ah->Prop}(hu:A.units+1<gR)(I:Inv X ai σ H s)(g:mE H a y o)(ry:RelV y u)(h:∀s',Inv X ai σ H s'->Q (.bool o.isSome) s') :
  aQ (aS X.prog X.w) A (cE .In u (.ref a)) Q E s:=by
 rcases g with⟨cn,k,e,ey,l⟩|⟨cn,k,b,e,ey,eb,l⟩
 ·subst ey
  obtain⟨z,hd,vs,rel,dd⟩:=AJ I.hok e
  refine wpAny_in_of (Ff ry) hd dd.mapOf ?_
  rw[←(rel.val k).isSome_eq,←l]
  exact h _ (I.tok _)
 ·subst ey
  cases(show u=aa.ref b from ry)
  obtain⟨z,hd,xs,rel,dd⟩:=Fg I.hok e
  refine wpAny_in_heap (hJ hu) (Fb I.hok eb) hd dd ?_
  have q:=(rel.val k).isSome_eq
  rw[pF]at q
  rw[←q,←l]
  exact h _ (I.tok _)
theorem OL {h':aI}{t':Nat}{ob:HO}(I:Inv X ai σ H s)(mu:AR (H a))(hs:cm a s.heap h')(he:∃q,h'.get? a=some q)(new:dI X.prog X.w (upd H a ob) h' a ob) :
  Inv X ai σ (upd H a ob) { s with heap:=h',toks:=t' } :=
 I.write (x:=a) (e:=a) mu (.inl rfl) (λb q hb z=>(hs.2 b hb).trans z) he new
theorem ZL {P:aW}{w:bv}{H':Hp}{h':aI}{cn:List (eF×V)}{vs:List (eF×aa)}(z:cn.length<=sizeLine)(hd:(a==eh)=false)(rel:KV cn vs)(dd:h'.DictOf (dJ P w) a vs) :
  dI P w H' h' a (.dK cn):=⟨z,hd,vs,rel,dd⟩
theorem WE {H':Hp}{Q:Unit->ah->Prop}(hu:A.units+1<gR)(I:Inv X ai σ H s)(g:n6 H a y v H')(ry:RelV y u)(rv:RelV v r)(h:∀s',Inv X ai σ H' s'->Q () s') :
  aQ (aS X.prog X.w) A (nZ (.ref a) u r) Q E s:=by
 rcases g with⟨cn,k,e,ey,l,eH⟩|⟨cn,k,b,e,ey,eb,l,eH⟩
 ·subst ey eH
  obtain⟨z,hd,vs,rel,dd⟩:=zt4 I.hok e
  have hz:vs.length<=sizeLine:=by rw[←rel.length];exact z
  have hl:(putK cn k v).length<=sizeLine:=by have:=Nq cn k v;omega
  refine wpAny_setItem_pairs (hsz:=hz) (Ff ry) dd λh' Fv hs=>h _ ?_
  have he:∃q,h'.get? a=some q:=let⟨q,_,_,hq,_⟩:=Fv;⟨q,hq⟩
  exact OL I (by rw[e];exact True.intro) hs he (ZL hl hd (rel.put k rv) Fv)
 ·subst ey eH
  cases(show u=aa.ref b from ry)
  obtain⟨z,hd,xs,rel,dd⟩:=zt5 I.hok e
  have hz:xs.length<=sizeLine:=by rw[←Paired.length rel];exact z
  have hl:(putK cn k v).length<=sizeLine:=by have:=Nq cn k v;omega
  refine wpAny_setItem_heap (hsz:=hz) (hJ hu) (Fb I.hok eb) dd λh' Fv hs=>h _ ?_
  obtain⟨q,es,ep,hq,h2,h3,h4,_,h5⟩:=Fv
  refine OL I (by rw[e];exact True.intro) hs ⟨q,hq⟩ ⟨hl,hd,_,(rel.put k eb rv).keeps λc ys ec=>?_,q,es,ep,hq,h2,h3,h4,h5⟩
  rw[zn (ztv ec e (λz=>nomatch z))]
  exact ec
end
section
variable {X:Cx}{ai:List (af×cJ)}{σ:St}{H:Hp}{s:ah}{a:af}{cn:List (eF×V)}{k:eF}{u:aa}{A:bo}{E:aa->ah->Prop}
theorem zt6 {Q:aa->ah->Prop}(I:Inv X ai σ H s)(e:Rd H a (.dK cn))(h:∀t s',Inv X ai σ H s'->Q (.int cn.length t) s'):aQ (aS X.prog X.w) A (call (.builtin "len") [.ref a]) Q E s:=by
 obtain⟨z,hd,vs,rel,dd⟩:=AJ I.hok e
 refine call_len_dict hd dd (by rw[←rel.length];rw[bC]at z;omega) ?_
 rw[←rel.length]
 exact h _ _ (I.tok _)
end
def JA (ty td:TE):TE:=λσ H Q=>ty σ H λy H1=>td σ H1 λx H2=>∃a o,x=.ref a/\mE H2 a y o/\Q (.bl o.isSome) H2
def EC (td ty tv:TE):TS:=λD σ H=>tv σ H λv H1=>td σ H1 λx H2=>ty σ H2 λy H3=>∃a H4,x=.ref a/\n6 H3 a y v H4/\D.nx σ H4
section
variable {X:Cx}{o i e value:Expr}{pos pos' jM:cB}{td ty tv:TE}
theorem ZM (hu:X.A.units+1<gR)(hi:PE X i ty)(ho:PE X o td):PC X .In i o (JA ty td):=by
 intro ai s σ H Q I h
 refine dk (hi ai s σ H _ I h) λiv s1 ⟨y,H1,I1,ry,q1⟩=>dk (ho ai s1 σ H1 _ I1 q1) λu s2 dq=>?_
 obtain⟨x,H2,I2,rx,a,ov,ex,g,q2⟩:=dq
 subst ex
 obtain rfl:u=aa.ref a:=rx
 exact Hr hu I2 g ry λs3 I3=>⟨.bl ov.isSome,H2,I3,rfl,q2⟩
theorem Yh (hu:X.A.units+1<gR)(ho:PE X o td)(hi:PE X i ty)(hv:PE X value tv)(hs:d8 value (some (.Subscript o i pos')) pos.line X.env=pure false) :
  PS X (.Assign [.Subscript o i pos'] value pos) (EC td ty tv):=by
 intro ai s σ H D I h
 refine wpAny_Assign_Subscript (dk (hv ai s σ H _ I h) λr s1 ⟨v,H1,I1,rv,q1⟩=>dk (ho ai s1 σ H1 _ I1 q1) λu s2 ⟨x,H2,I2,rx,q2⟩=>dk (hi ai s2 σ H2 _ I2 q2) λiv s3 ⟨y,H3,I3,ry,a,H4,ex,g,q3⟩=>?_) hs
 subst ex
 obtain rfl:u=aa.ref a:=rx
 exact WE hu I3 g ry rv λs4 I4=>⟨σ,H4,I4,q3⟩
end
theorem W1 {P:aW}{w:bv}{H:Hp}(h:aI)(hb:eh<h.objs.size):dI P w H (h.push { cls:=.type "dict",data:=.dict #[] }) h.objs.size (.dK []) :=
  ⟨cH _,beq_eq_false_iff_ne.mpr (Ne.symm (bj hb)),[],.nil,aI.DictOf.new h⟩
theorem W2 {P:aW}{w:bv}{H:Hp}(h:aI)(hb:eh<h.objs.size):dI P w H (h.push { cls:=.type "dict",data:=.dict #[] }) h.objs.size (.dT []) :=
  ⟨cH _,beq_eq_false_iff_ne.mpr (Ne.symm (bj hb)),[],.nil,_,#[],0,ba _ rfl,⟨rfl,rfl,rfl⟩,rfl,rfl,bz⟩
def zS:TE:=λ_ H Q=>∀p,H p=none->Q (.ref p) (upd H p (.dK []))
def zT:TE:=λ_ H Q=>∀p,H p=none->Q (.ref p) (upd H p (.dT []))
section
variable {X:Cx}{pos:cB}
theorem W3:PE X (.Dict [] [] pos) zS:=λai s σ H Q I h=>
 wpAny_Dict_empty ⟨.ref s.heap.objs.size,_,I.laid (a:=s.heap.objs.size) (o:=.dK []) (t':=s.toks) (λ_ _ q=>ap _ q) (aH _) (W1 s.heap I.big),rfl,h _ (I.hok.fresh (aH _))⟩
theorem Xv:PE X (.Dict [] [] pos) zT:=λai s σ H Q I h=>
 wpAny_Dict_empty ⟨.ref s.heap.objs.size,_,I.laid (a:=s.heap.objs.size) (o:=.dT []) (t':=s.toks) (λ_ _ q=>ap _ q) (aH _) (W2 s.heap I.big),rfl,h _ (I.hok.fresh (aH _))⟩
end
structure M1 (X:Cx)(o:Expr)(m:aP)(dh:cB)(e:Expr)(dN:cB):Prop where
 base:eZ o m X.env (bS o X.env)=bS o X.env
 few:((cL dN (ay [e] X.env)).all (λx=>!x.1)&&(e8 dN (dG [] X.env)).all (λx=>x.1.isSome)
  && decide (([e]:List Expr).length+([]:List iF).length+(if([]:List iF).isEmpty then 0 else 1)<30))=true
 line:(dh.endLine==dN.line)=true
 trees:cL dN (ay [e] X.env)=[(false,bS e X.env)]
structure M2 (X:Cx)(o:Expr)(m:aP)(dh:cB)(e f:Expr)(dN:cB):Prop where
 base:eZ o m X.env (bS o X.env)=bS o X.env
 few:((cL dN (ay [e,f] X.env)).all (λx=>!x.1)&&(e8 dN (dG [] X.env)).all (λx=>x.1.isSome)
  && decide (([e,f]:List Expr).length+([]:List iF).length+(if([]:List iF).isEmpty then 0 else 1)<30))=true
 line:(dh.endLine==dN.line)=true
 trees:cL dN (ay [e,f] X.env)=[(false,bS e X.env),(false,bS f X.env)]
def Ag (H:Hp)(a:af):Prop:=(∃cn,Rd H a (.dK cn))\/∃cn,Rd H a (.dT cn)
theorem Pv {X:Cx}{ai:List (af×cJ)}{σ:St}{H:Hp}{s:ah}{a:af}(I:Inv X ai σ H s)(d:Ag H a) :
  s.TypeIs (.ref a) "dict"/\(∀b,aa.ref a=.ref b->∃ob,s.heap.get? b=some ob/\ob.dict=none)/\(a==eh)=false:=by
 rcases d with⟨cn,e⟩|⟨cn,e⟩
 ·obtain⟨_,hd,vs,_,dd⟩:=AJ I.hok e
  refine⟨dd.typeIs,λb q=>?_,hd⟩
  cases q
  obtain⟨ob,_,_,h1,h2,_⟩:=dd
  exact⟨ob,h1,h2.2.1⟩
 ·obtain⟨_,hd,xs,_,dd⟩:=Fg I.hok e
  refine⟨dd.typeIs,λb q=>?_,hd⟩
  cases q
  obtain⟨ob,_,_,h1,h2,_⟩:=dd
  exact⟨ob,h1,h2.2.1⟩
section
variable {X:Cx}{ai:List (af×cJ)}{σ:St}{H:Hp}{s:ah}{a:af}{y d:V}{u r:aa}{o:Option V}{A:bo}{E:aa->ah->Prop}
theorem ZN {Q:aa->ah->Prop}(hu:A.units+1<gR)(I:Inv X ai σ H s)(g:mE H a y o)(ry:RelV y u)(h:∀w' s',Inv X ai σ H s'->RelV (o.getD .non) w'->Q w' s') :
  aQ (aS X.prog X.w) A (call (.builtin "dict.get") [.ref a,u]) Q E s:=by
 rcases g with⟨cn,k,e,ey,l⟩|⟨cn,k,b,e,ey,eb,l⟩
 ·subst ey
  obtain⟨z,hd,vs,rel,dd⟩:=AJ I.hok e
  refine call_meetsIn PySem.F.slot_dict_get dd.typeIs PySem.F.entry_dict_get (PySem.F.args_dict_get_2 _ _) (meets_dict_get (dJ X.prog X.w) a (Ff ry) hd) ⟨_,dd.mapOf,h _ _ (I.tok _) ?_⟩
  rw[l]
  exact(rel.val k).getD rfl
 ·subst ey
  cases(show u=aa.ref b from ry)
  obtain⟨z,hd,xs,rel,dd⟩:=Fg I.hok e
  refine call_meetsIn PySem.F.slot_dict_get dd.typeIs PySem.F.entry_dict_get (PySem.F.args_dict_get_2 _ _) (meetsH_dict_get (i8 (dJ X.prog X.w)) a b hd) ⟨hJ hu,k,xs,Fb I.hok eb,dd,h _ _ (I.tok _) ?_⟩
  rw[l]
  exact(rel.val k).getD rfl
theorem ZO {Q:aa->ah->Prop}(hu:A.units+1<gR)(I:Inv X ai σ H s)(g:mE H a y o)(ry:RelV y u)(rd:RelV d r)(h:∀w' s',Inv X ai σ H s'->RelV (o.getD d) w'->Q w' s') :
  aQ (aS X.prog X.w) A (call (.builtin "dict.get") [.ref a,u,r]) Q E s:=by
 rcases g with⟨cn,k,e,ey,l⟩|⟨cn,k,b,e,ey,eb,l⟩
 ·subst ey
  obtain⟨z,hd,vs,rel,dd⟩:=AJ I.hok e
  refine call_meetsIn PySem.F.slot_dict_get dd.typeIs PySem.F.entry_dict_get (PySem.F.args_dict_get_3 _ _ _) (meets_dict_get_default (dJ X.prog X.w) a (Ff ry) hd r) ⟨_,dd.mapOf,h _ _ (I.tok _) ?_⟩
  rw[l]
  exact(rel.val k).getD rd
 ·subst ey
  cases(show u=aa.ref b from ry)
  obtain⟨z,hd,xs,rel,dd⟩:=Fg I.hok e
  refine call_meetsIn PySem.F.slot_dict_get dd.typeIs PySem.F.entry_dict_get (PySem.F.args_dict_get_3 _ _ _) (meetsH_dict_get_default (i8 (dJ X.prog X.w)) a b hd r) ⟨hJ hu,k,xs,Fb I.hok eb,dd,h _ _ (I.tok _) ?_⟩
  rw[l]
  exact(rel.val k).getD rd
end
def zQ (td ty:TE):TE:=λσ H Q=>td σ H λx H1=>∃a,x=.ref a/\Ag H1 a/\ty σ H1 λy H2=>∃o,mE H2 a y o/\Q (o.getD .non) H2
def zR (td ty tx:TE):TE:=λσ H Q=>td σ H λx H1=>∃a,x=.ref a/\Ag H1 a/\ty σ H1 λy H2=>tx σ H2 λz H3=>∃o,mE H3 a y o/\Q (o.getD z) H3
section
variable {X:Cx}{o e f:Expr}{dh dN:cB}{td ty tx:TE}
theorem Xw (hu:X.A.units+1<gR)(ho:PE X o td)(he:PE X e ty)(m:M1 X o "get" dh e dN):PE X (.Call (.Attribute o "get" dh) [e] [] dN) (zQ td ty):=by
 intro ai s σ H Q I h
 refine wpAny_Call_method m.base m.few m.line PySem.F.plainAttrs_dict PySem.F.slot_dict_get PySem.F.type_dict_get (dk (ho ai s σ H _ I h) λu s1 dq=>?_)
 obtain⟨x,H1,I1,rx,a,ex,d,q1⟩:=dq
 subst ex
 obtain rfl:u=aa.ref a:=rx
 obtain⟨t1,t2,_⟩:=Pv I1 d
 refine⟨t1,t2,?_⟩
 rw[m.trees]
 refine Calls.callWith_builtin rfl (Calls.evalArgs_plain (Calls.spliced_cons (dk (he ai s1 σ H1 _ I1 q1) λiv s2 ⟨y,H2,I2,ry,ov,g,q2⟩=>Calls.spliced_nil ?_)))
 exact ZN hu I2 g ry λw' s3 I3 oz=>⟨_,H2,I3,oz,q2⟩
theorem Xx (hu:X.A.units+1<gR)(ho:PE X o td)(he:PE X e ty)(hf:PE X f tx)(m:M2 X o "get" dh e f dN):PE X (.Call (.Attribute o "get" dh) [e,f] [] dN) (zR td ty tx):=by
 intro ai s σ H Q I h
 refine wpAny_Call_method m.base m.few m.line PySem.F.plainAttrs_dict PySem.F.slot_dict_get PySem.F.type_dict_get (dk (ho ai s σ H _ I h) λu s1 dq=>?_)
 obtain⟨x,H1,I1,rx,a,ex,d,q1⟩:=dq
 subst ex
 obtain rfl:u=aa.ref a:=rx
 obtain⟨t1,t2,_⟩:=Pv I1 d
 refine⟨t1,t2,?_⟩
 rw[m.trees]
 refine Calls.callWith_builtin rfl (Calls.evalArgs_plain (Calls.spliced_cons (dk (he ai s1 σ H1 _ I1 q1) λiv s2 ⟨y,H2,I2,ry,q2⟩=>
  Calls.spliced_cons (dk (hf ai s2 σ H2 _ I2 q2) λfv s3 ⟨z,H3,I3,rz,ov,g,q3⟩=>Calls.spliced_nil ?_))))
 exact ZO hu I3 g ry rz λw' s4 I4 oz=>⟨_,H3,I4,oz,q3⟩
end
section
variable {X:Cx}{ai:List (af×cJ)}{σ:St}{H:Hp}{s:ah}{a:af}{cn:List (eF×V)}{A:bo}{E:aa->ah->Prop}
end
section
variable {X:Cx}{ai:List (af×cJ)}{σ:St}{H:Hp}{s:ah}{a:af}{y:V}{u:aa}{A:bo}{E:aa->ah->Prop}
end
end L2
namespace L2
open PySem PySem.Spec PyProof.Rows
section
variable {X:Cx}
theorem WF:eE X (.builtin "len") (λxs H Q=>∃a cn,xs=[V.ref a]/\H a=some (.dK cn)/\Q (.int cn.length) H):=by
 intro ai s σ H xs us Q I r h
 obtain⟨a,cn,rfl,ha,q⟩:=h
 obtain⟨u,rfl,ru⟩:=pS r
 cases ru
 exact zt6 I (.inl ha) λt s' I'=>⟨.int cn.length,H,I',⟨t,rfl⟩,q⟩
end
end L2
namespace L2
open PySem
section
variable {κ:Type}[DecidableEq κ]
end
end L2
namespace L2
open PySem PySem.Spec PyProof.Rows
def Sz (n:Nat)(i:Int):Prop:=i.natAbs<2 ^ n
theorem Sz.bits {n:Nat}{i:Int}(h:Sz n i):Builtin.Int.intBits i<=n:=by
 unfold Builtin.Int.intBits
 by_cases h0:(i==0)=true
 ·rw[if_pos h0];exact cH _
 ·rw[if_neg h0]
  have hi:i.natAbs≠0:=by
   have:i≠0:=by simpa using h0
   omega
  exact Nat.succ_le_of_lt ((Nat.log2_lt hi).mpr h)
theorem Sz.log {n:Nat}{i:Int}(h:Sz n i)(hn:0<n):i.natAbs.log2<n:=by
 by_cases hi:i.natAbs=0
 ·rw[hi];exact hn
 ·exact(Nat.log2_lt hi).mpr h
theorem Sz.mono {n m:Nat}{i:Int}(h:Sz n i)(hm:n<=m):Sz m i:=bt h (fZ (by decide) hm)
def mQ (i j:Int):Prop:=wH i j\/(Sz 100000 i/\Sz 100000 j)
theorem mQ.ok {i j:Int}(h:mQ i j):IntMulOk i j:=by
 rcases h with h|h
 ·exact h.ok
 ·exact IntMulOk.of_bits (bD h.1.bits (by decide)) (bD h.2.bits (by decide))
section
variable {X:Cx}
theorem u3:fS X (dL .Mult) (rI mQ λi j=>.int (i*j)):=Av λ_ _ _ _ _ _ _ hc q=>mul_int q hc.ok
theorem wq:fS X (dL .FloorDiv) (rI (λ_ j=>j≠0/\Sz 9000 j) λi j=>.int (i.fdiv j)) :=
 Av λ_ _ _ _ _ _ _ hc q=>floordiv_int hc.1 q (.inl (PyProof.noPylong_of_log2 (hc.2.log (by decide))))
theorem RelV.bool_iff {x:V}{v:aa}{b:Bool}(r:RelV x v):(v==aa.bool b)=decide (x=.bl b):=by
 cases x with
 |bl c=>
  cases(show v=aa.bool c from r)
  by_cases h:c=b
  ·subst h;simp
  ·have h1:¬V.bl c=V.bl b:=λz=>h (V.bl.inj z)
   rw[decide_eq_false h1]
   exact beq_eq_false_iff_ne.mpr λz=>h (by injection z)
 |non=>cases(show v=aa.none from r);rw[decide_eq_false (λz=>nomatch z)];exact beq_eq_false_iff_ne.mpr λz=>nomatch z
 |int i=>obtain⟨t,rfl⟩:=(show∃t,v=aa.int i t from r);rw[decide_eq_false (λz=>nomatch z)];exact beq_eq_false_iff_ne.mpr λz=>nomatch z
 |str i=>obtain⟨t,rfl⟩:=(show∃t,v=aa.str i t from r);rw[decide_eq_false (λz=>nomatch z)];exact beq_eq_false_iff_ne.mpr λz=>nomatch z
 |byt i=>obtain⟨t,rfl⟩:=(show∃t,v=aa.bytes i t from r);rw[decide_eq_false (λz=>nomatch z)];exact beq_eq_false_iff_ne.mpr λz=>nomatch z
 |flt i=>obtain⟨t,rfl⟩:=(show∃t,v=aa.float i t from r);rw[decide_eq_false (λz=>nomatch z)];exact beq_eq_false_iff_ne.mpr λz=>nomatch z
 |ref i=>cases(show v=aa.ref i from r);rw[decide_eq_false (λz=>nomatch z)];exact beq_eq_false_iff_ne.mpr λz=>nomatch z
 |ty i=>cases(show v=aa.type i from r);rw[decide_eq_false (λz=>nomatch z)];exact beq_eq_false_iff_ne.mpr λz=>nomatch z
theorem Nj {x:V}{v:aa}{b:Bool}(r:RelV x v):plainIs v (.bool b)=true:=by
 cases x with
 |bl c=>cases(show v=aa.bool c from r);rfl
 |non=>cases(show v=aa.none from r);rfl
 |int i=>obtain⟨t,rfl⟩:=(show∃t,v=aa.int i t from r);rfl
 |str i=>obtain⟨t,rfl⟩:=(show∃t,v=aa.str i t from r);rfl
 |byt i=>obtain⟨t,rfl⟩:=(show∃t,v=aa.bytes i t from r);rfl
 |flt i=>obtain⟨t,rfl⟩:=(show∃t,v=aa.float i t from r);rfl
 |ref i=>cases(show v=aa.ref i from r);rfl
 |ty i=>cases(show v=aa.type i from r);rfl
theorem ZP:fS X (cE .Is) (λx y H Q=>∃b,y=.bl b/\Q (.bl (decide (x=.bl b))) H):=by
 intro ai s σ H x y v u Q I rx ry h
 obtain⟨b,rfl,q⟩:=h
 cases ry
 exact wpAny_is_plain (Nj rx) (GD I q (RelV.bool_iff rx).symm)
theorem WG:fS X (cE .IsNot) (λx y H Q=>∃b,y=.bl b/\Q (.bl (!decide (x=.bl b))) H):=by
 intro ai s σ H x y v u Q I rx ry h
 obtain⟨b,rfl,q⟩:=h
 cases ry
 exact wpAny_isNot_plain (Nj rx) (GD I q (by rw[RelV.bool_iff rx]))
theorem Xy:eE X (.builtin "isinstance") (λxs H Q=>∃x c t b,xs=[x,.ty c]/\jX X.K H x t/\bB X.K t (.type c)=some b/\Q (.bl b) H):=by
 intro ai s σ H xs us Q I r h
 obtain⟨x,c,t,b,rfl,ty,e,q⟩:=h
 obtain⟨u,w',rfl,ru,oz⟩:=vals2 r
 cases(show w'=aa.type c from oz)
 exact NG I ru ty e λtk=>⟨.bl b,H,I.tok tk,rfl,q⟩
theorem WH:eE X (.builtin "isinstance") (λxs H Q=>∃x C t b,xs=[x,.ref C]/\jX X.K H x t/\bB X.K t (.ref C)=some b/\Q (.bl b) H):=by
 intro ai s σ H xs us Q I r h
 obtain⟨x,c,t,b,rfl,ty,e,q⟩:=h
 obtain⟨u,w',rfl,ru,oz⟩:=vals2 r
 cases(show w'=aa.ref c from oz)
 exact NG I ru ty e λtk=>⟨.bl b,H,I.tok tk,rfl,q⟩
end
mutual
inductive Dt (K:ae)(H:Hp):V->bM->Prop
 |non:Dt K H .non .none
 |bl (b:Bool):Dt K H (.bl b) (.bool b)
 |int (i:Int):Dt K H (.int i) (.int i)
 |str (x:aP):Dt K H (.str x) (.str x)
 |lst {a:af} {xs:List V} {ds:List bM}:eR K H a xs->Dts K H xs ds->Dt K H (.ref a) (.list ds)
 |tup {a:af} {xs:List V} {ds:List bM}:kx K H a xs->Dts K H xs ds->Dt K H (.ref a) (.tuple ds)
inductive Dts (K:ae)(H:Hp):List V->List bM->Prop
 |nil:Dts K H [] []
 |cons {v:V} {d:bM} {vs:List V} {ds:List bM}:Dt K H v d->Dts K H vs ds->Dts K H (v::vs) (d::ds)
end
section
variable {X:Cx}{ai:List (af×cJ)}{σ:St}{H:Hp}{s:ah}
mutual
theorem Dt.reads (I:Inv X ai σ H s):∀{v:V} {d:bM} {u:aa},Dt X.K H v d->RelV v u->∃as,Reads s.heap u d as
 |_,_,_,.non,r=>by cases r;exact⟨_,.none⟩
 |_,_,_,.bl b,r=>by cases r;exact⟨_,.bool b⟩
 |_,_,_,.int i,r=>by obtain⟨t,rfl⟩:=r;exact⟨_,.int i t⟩
 |_,_,_,.str x,r=>by obtain⟨t,rfl⟩:=r;exact⟨_,.str x t⟩
 |_,_,_,.lst hq ds,r=>by
  obtain⟨bT,rv,⟨o,n,e,c,_,dd⟩,_⟩:=I.list hq
  obtain⟨as,ra⟩:=Dts.reads I ds rv
  cases r
  exact⟨_,.list e c dd (by simpa using ra)⟩
 |_,_,_,.tup hq ds,r=>by
  obtain⟨bT,rv,⟨o,e,c,n,dd⟩,_⟩:=I.tuple hq
  obtain⟨as,ra⟩:=Dts.reads I ds rv
  cases r
  exact⟨_,.tuple e c dd (by simpa using ra)⟩
theorem Dts.reads (I:Inv X ai σ H s):∀{vs:List V} {ds:List bM} {us:List aa},Dts X.K H vs ds->bR vs us->∃as,ReadsAll s.heap us ds as
 |_,_,_,.nil,r=>by cases r;exact⟨_,.nil⟩
 |_,_,_,.cons h t,r=>by
  cases r with
  |cons p q=>
   obtain⟨as,ra⟩:=Dt.reads I h p
   obtain⟨bs,rb⟩:=Dts.reads I t q
   exact⟨_,.cons ra rb⟩
end
end
section
variable {X:Cx}
def zL (K:ae)(neg:Bool):R2:=λx y H Q=>∃d e,Dt K H x d/\Dt K H y e/\d.canLay0=true/\e.canLay0=true/\min d.depth e.depth<=60/\Q (.bl (if neg then !bM.eqv d e else bM.eqv d e)) H
theorem ub (hu:X.A.units+64<gR):fS X (cE .Eq) (zL X.K false):=by
 intro ai s σ H x y v u Q I rx ry h
 obtain⟨d,e,hd,he,c1,c2,dp,q⟩:=h
 obtain⟨as,ra⟩:=hd.reads I rx
 obtain⟨bs,rb⟩:=he.reads I ry
 exact SeqAt.compareEq_reads ra rb c1 c2 (by omega) ⟨.bl _,H,I,rfl,q⟩
theorem KM (hu:X.A.units+64<gR):fS X (cE .NotEq) (zL X.K true):=by
 intro ai s σ H x y v u Q I rx ry h
 obtain⟨d,e,hd,he,c1,c2,dp,q⟩:=h
 obtain⟨as,ra⟩:=hd.reads I rx
 obtain⟨bs,rb⟩:=he.reads I ry
 exact SeqAt.compareNe_reads ra rb c1 c2 (by omega) ⟨.bl _,H,I,rfl,q⟩
theorem Dts.ints (K:ae)(H:Hp):∀ns:List Int,Dts K H (ns.map V.int) (ns.map bM.int)
 |[]=>.nil
 |n::r=>.cons (.int n) (Dts.ints K H r)
end
theorem EU {H:Hp}{p:af}(h:H p=none)(o:HO):bK H (upd H p o):=λb u q=>by rw[zn (yy q h)];exact q
theorem ee.u64 {k:Nat}{A:bo}(r:ee k A):A.units+64<gR:=r.units
theorem small {n:Nat}(h:n<=1000):n<=sizeLine:=fC (qM h)
end L2
namespace L2
open PySem PySem.Spec PyProof.Rows
end L2
namespace L2
open PySem PySem.Spec PyProof.Rows
end L2
namespace L2
open PySem
theorem Pw:bN "int"=some (.type "int"):=by decide +kernel
theorem ZQ:bN "str"=some (.type "str"):=by decide +kernel
theorem OM:bN "bool"=some (.type "bool"):=by decide +kernel
theorem j2:bN "list"=some (.type "list"):=by decide +kernel
theorem ZR:bN "set"=some (.type "set"):=by decide +kernel
theorem Px:bN "len"=some (.builtin "len"):=by decide +kernel
theorem AE:bN "max"=some (.builtin "max"):=by decide +kernel
theorem KN:bN "min"=some (.builtin "min"):=by decide +kernel
theorem Nf:bN "isinstance"=some (.builtin "isinstance"):=by decide +kernel
theorem NS:bN "sorted"=some (.builtin "sorted"):=by decide +kernel
theorem Pg:bN "all"=some (.builtin "all"):=by decide +kernel
end L2
namespace L2
open PySem PySem.Spec PyProof.Rows
section
variable {prog:aW}{w:bv}{A:bo}{R:Result->ah->Prop}{s:ah}
theorem Nk {jB target iter:Expr}{ifs:List Expr}{scope:fF}{pos:cB}{it eU:aa}{env:Env}(I:Nat->ah->Prop)
  (nM:∀n s,I n s->aQ (aS prog w) A (pyNext it) (λr s₁=>match r with
   |none=>R (.ok .next) s₁
   |some v=>aQ (aS prog w) A (gK target it v) (λ_ MY=>aQ (aS prog w) A (hG target env v) (λ_ s₂=>
     aQ (aS prog w) A (forIn ifs true λc r=>if r=true then do let ok ← qW c env (bS c env);pure (ForInStep.yield ok)else pure (ForInStep.yield r)) (λok s₃=>
      if ok=true then aQ (aS prog w) A (bS jB env) (λx s₄=>
       aQ (aS prog w) A (call (.builtin "list.append") [eU,x]) (λ_ s₅=>∃m,m<n/\I m s₅) (λ_ _=>False) s₄) (λ_ _=>False) s₃
      else∃m,m<n/\I m s₃) (λ_ _=>False) s₂) (λ_ _=>False) MY) (λ_ _=>False) s₁) (λ_ _=>False) s)
  (n:Nat) (h:I n s) :
  fR (aS prog w) A (.compLoop (.ListComp jB [⟨target,iter,ifs,0⟩] scope pos) 0 it eU env) R s:=by
 have up:∀{α:Type} {m:ip α} {Q:α->ah->Prop} {E:aa->ah->Prop} {s:ah},aQ (aS prog w) A m Q (λ_ _=>False) s->aQ (aS prog w) A m Q E s:=λh=>dX h (λ_ _ q=>q) λ_ _ f=>f.elim
 refine codeAny_loop rfl I (λn s hI=>?_) n h
 show aQ _ A ((compTurn (.ListComp jB [⟨target,iter,ifs,0⟩] scope pos) 0 it eU env).onRaise (λx=>do noteFrame x env;theTreesLotGoes x)) _ _ s
 refine wpAny_noted ?_
 rw[compTurn_list]
 refine ao (iL (ao (dX (up (nM n s hI)) (λr s₁ h₁=>?_) λ_ _ h'=>h')))
 cases r with
 |none=>exact aw h₁
 |some v=>
  refine ao (dX (up h₁) (λ_ MY Se=>?_) λ_ _ h'=>h')
  refine ao (dX (up Se) (λ_ s₂ h₂=>ao (dX (up h₂) (λok s₃ h₃=>?_) λ_ _ h'=>h')) λ_ _ h'=>h')
  cases ok with
  |false=>exact aw ⟨rfl,h₃⟩
  |true=>
   exact ao (ao (dX (up h₃) (λx s₄ h₄=>ao (dX (up h₄) (λ_ s₅ h₅=>aw (aw ⟨rfl,h₅⟩)) λ_ _ h'=>h')) λ_ _ h'=>h'))
end
theorem ql {env:Env}:∀(names:List (aP×br)) (eU:List (aP×af)),(∀x∈names,x.2=.free->∃c,env.cells.lookup x.1=some c)->(∀y c,eU.lookup y=some c->env.cells.lookup y=some c) ->
  ∃cl,(forIn names eU λ(x:aP×br) (cs:List (aP×af))=>if(x.2==br.free)=true then do let a ← cellOf env x.1;pure (ForInStep.yield ((x.1,a)::cs))else pure (ForInStep.yield cs):ip (List (aP×af)))=pure cl /\
   (∀y c,cl.lookup y=some c->env.cells.lookup y=some c)/\(∀x∈names,x.2=.free->∃c,cl.lookup x.1=some c)/\∀y c,eU.lookup y=some c->∃c',cl.lookup y=some c'
 |[],eU,_,ha=>⟨eU,rfl,ha,λ_ h=>(nomatch h),λy c h=>⟨c,h⟩⟩
 |(n,k)::r,eU,hn,ha=>by
  by_cases hk:k=.free
  ·subst hk
   obtain⟨c,hc⟩:=hn (n,.free) ak rfl
   have e1:cellOf env n=pure c:=by unfold cellOf;rw[hc]
   have FJ:∀y d,((n,c)::eU).lookup y=some d->env.cells.lookup y=some d:=λy d h=>by
    rw[bq]at h
    cases hy:y==n with
    |true=>
     rw[hy]at h
     have:y=n:=eq_of_beq hy
     subst this
     cases h
     exact hc
    |false=>rw[hy]at h;exact ha y d h
   obtain⟨cl,h1,h2,h3,h4⟩:=ql r ((n,c)::eU) (λx hx=>hn x (aj _ hx)) FJ
   refine⟨cl,?_,h2,?_,?_⟩
   ·rw[gh]
    simp only[beq_self_eq_true,if_true,e1,pure_bind]
    exact h1
   ·intro x hx hf
    rcases av.mp hx with rfl|hx
    ·exact h4 n c (by rw[bq,beq_self_eq_true])
    ·exact h3 x hx hf
   ·intro y d hy
    cases hb:y==n with
    |true=>exact h4 y c (by rw[bq,hb])
    |false=>exact h4 y d (by rw[bq,hb];exact hy)
  ·have hb:(k==br.free)=false:=by simpa using hk
   obtain⟨cl,h1,h2,h3,h4⟩:=ql r eU (λx hx=>hn x (aj _ hx)) ha
   refine⟨cl,?_,h2,?_,h4⟩
   ·rw[gh]
    simp only[hb,bJ,if_false,pure_bind]
    exact h1
   ·intro x hx hf
    rcases av.mp hx with rfl|hx
    ·exact absurd hf hk
    ·exact h3 x hx hf
theorem Gs (n:Nat)(a:aP)(r:List (aP×br))(eU:List (aP×af)):cellsFrom n ((a,.cell)::r) eU=cellsFrom (n+1) r ((a,n)::eU):=rfl
theorem GG {k:br}(hk:k≠.cell)(n:Nat)(a:aP)(r:List (aP×br))(eU:List (aP×af)):cellsFrom n ((a,k)::r) eU=cellsFrom n r eU:=by
 cases k<;>first|rfl|exact absurd rfl hk
def iW (names:List (aP×br)):Nat:=(names.filter λy=>y.2==br.cell).length
theorem KC (a:aP)(r:List (aP×br)):iW ((a,.cell)::r)=iW r+1:=by unfold iW;rw[nQ (by rfl),aF]
theorem Ph {k:br}(hk:k≠.cell)(a:aP)(r:List (aP×br)):iW ((a,k)::r)=iW r:=by unfold iW;rw[nP (by simpa using hk)]
theorem AK:∀(names:List (aP×br)) (n:Nat) (eU:List (aP×af)) {x:aP} {c:Nat},(cellsFrom n names eU).lookup x=some c->(n<=c/\c<n+iW names/\(x,br.cell)∈names)\/(eU.lookup x=some c/\(x,br.cell)∉names)
 |[],_,_,_,_,h=>.inr ⟨h,by simp⟩
 |(a,k)::r,n,eU,x,c,h=>by
  by_cases hk:k=.cell
  ·subst hk
   rw[Gs]at h
   rcases AK r (n+1) _ h with⟨h1,h2,h3⟩|⟨h1,h2⟩
   ·refine .inl ⟨by omega,?_,aj _ h3⟩
    rw[KC];omega
   ·rw[bq]at h1
    cases hx:x==a with
    |true=>
     rw[hx]at h1
     cases h1
     refine .inl ⟨aH _,?_,by rw[eq_of_beq hx];exact ak⟩
     rw[KC];omega
    |false=>
     rw[hx]at h1
     refine .inr ⟨h1,λz=>?_⟩
     rcases av.mp z with z|z
     ·cases z;simp at hx
     ·exact h2 z
  ·rw[GG hk]at h
   have hf:=Ph hk a r
   rw[hf]
   rcases AK r n _ h with⟨h1,h2,h3⟩|⟨h1,h2⟩
   ·exact .inl ⟨h1,h2,aj _ h3⟩
   ·refine .inr ⟨h1,λz=>?_⟩
    rcases av.mp z with z|z
    ·cases z;exact hk rfl
    ·exact h2 z
theorem KJ:∀(names:List (aP×br)) (n:Nat) (eU:List (aP×af)) {x:aP},(x,br.cell)∉names->(cellsFrom n names eU).lookup x=eU.lookup x
 |[],_,_,_,_=>rfl
 |(a,k)::r,n,eU,x,h=>by
  have hr:(x,br.cell)∉r:=λz=>h (aj _ z)
  by_cases hk:k=.cell
  ·subst hk
   rw[Gs,KJ r _ _ hr,bq]
   cases hx:x==a with
   |true=>exact absurd (by rw[eq_of_beq hx];exact ak) h
   |false=>rfl
  ·rw[GG hk,KJ r _ _ hr]
theorem KL:∀(names:List (aP×br)) (n:Nat) (eU:List (aP×af)),(∀x y c,eU.lookup x=some c->eU.lookup y=some c->x=y)->(∀x c,eU.lookup x=some c->c<n)->∀x y c,(cellsFrom n names eU).lookup x=some c->(cellsFrom n names eU).lookup y=some c->x=y
 |[],_,_,h,_=>h
 |(a,k)::r,n,eU,h,hb=>by
  by_cases hk:k=.cell
  ·subst hk
   rw[Gs]
   refine KL r (n+1) _ (λx y c e e'=>?_) λx c e=>?_
   ·rw[bq]at e e'
    cases hx:x==a with
    |true=>
     rw[hx]at e
     cases e
     cases hy:y==a with
     |true=>rw[eq_of_beq hx,eq_of_beq hy]
     |false=>rw[hy]at e';exact absurd (hb _ _ e') (ef _)
    |false=>
     rw[hx]at e
     cases hy:y==a with
     |true=>rw[hy]at e';cases e';exact absurd (hb _ _ e) (ef _)
     |false=>rw[hy]at e';exact h x y c e e'
   ·rw[bq]at e
    cases hx:x==a with
    |true=>rw[hx]at e;cases e;exact fQ _
    |false=>rw[hx]at e;exact cG (hb _ _ e)
  ·rw[GG hk]
   exact KL r n eU h hb
theorem JQ {M:Model}{A:bo}{E:aa->ah->Prop}:∀(names:List (aP×br)) (cells:List (aP×af)) (s:ah) (Q:List (aP×af)->ah->Prop),
    (∀h':aI,(∀b o,s.heap.get? b=some o->h'.get? b=some o)->(∀c,s.heap.objs.size<=c->c<s.heap.objs.size+iW names->h'.IsCell c none)->Q (cellsFrom s.heap.objs.size names cells) { s with heap:=h' }) ->
    aQ M A (forIn names cells λ(x:aP×br) (cells:List (aP×af))=>if(x.2==br.cell)=true then do let a ← alloc { cls:=aa.type "cell",data:=pG.cell none };pure (ForInStep.yield ((x.1,a)::cells))else pure (ForInStep.yield cells)) Q E s
  |[],cells,s,Q,h=>by
    have:=h s.heap (λ_ _ e=>e) (λc h1 h2=>by rw[show iW []=0 from rfl]at h2;omega)
    rw[jF]
    exact aw this
  |(a,k)::r,cells,s,Q,h=>by
    rw[gh]
    by_cases hk:k=.cell
    · subst hk
      simp only[beq_self_eq_true,if_true,bind_assoc,pure_bind]
      refine ao (wpAny_alloc ?_)
      have ih:=JQ (M:=M) (A:=A) (E:=E) r ((a,s.heap.objs.size)::cells) { s with heap:=s.heap.push { cls:=aa.type "cell",data:=pG.cell none } } Q (λh' k1 k2=>by
        have hz:(s.heap.push { cls:=aa.type "cell",data:=pG.cell none }).objs.size=s.heap.objs.size+1:=dD _ _
        have:=h h' (λb o e=>k1 b o (ap _ e)) (λc h1 h2=>by
          rw[KC]at h2
          by_cases hc:c=s.heap.objs.size
          · subst hc
            exact⟨_,k1 _ _ (ba _ rfl),rfl⟩
          · exact k2 c (by show(s.heap.push _).objs.size<=c;rw[hz];omega) (by show c<(s.heap.push _).objs.size+_;rw[hz];omega))
        rw[Gs]at this
        have e:(({ s with heap:=s.heap.push { cls:=aa.type "cell",data:=pG.cell none } }:ah)).heap.objs.size=s.heap.objs.size+1:=hz
        rw[e]
        exact this)
      exact ih
    · have hb:(k==br.cell)=false:=by simpa using hk
      simp only[hb,bJ,if_false,pure_bind]
      refine JQ r cells s Q λh' k1 k2=>?_
      have hf:=Ph hk a r
      have:=h h' k1 (by rw[hf];exact k2)
      rw[GG hk]at this
      exact this
theorem Nl {M:Model}{A:bo}{E:aa->ah->Prop}{s:ah}{scope:fF}{globals:af}{closure:List (aP×af)}{qual:aP}{code:aa}{out:Env}{builtins:af}{Q:Env->ah->Prop}
    (h:∀h':aI,(∀b o,s.heap.get? b=some o->h'.get? b=some o)->h'.Ns s.heap.objs.size (λ_=>none)->(∀c,s.heap.objs.size+1<=c->c<s.heap.objs.size+1+iW scope.names->h'.IsCell c none) ->
      Q (newEnv scope s.heap.objs.size globals (cellsFrom (s.heap.objs.size+1) scope.names closure) qual none code (some out) builtins) { s with heap:=h' }) :
    aQ M A (kH scope globals closure [] qual none code (some out) builtins) Q E s:=by
  unfold kH
  refine ao (wpAny_alloc ?_)
  have hz:(s.heap.push { cls:=aa.type "dict",data:=pG.dict #[] }).objs.size=s.heap.objs.size+1:=dD _ _
  refine ao (JQ scope.names closure { s with heap:=s.heap.push { cls:=aa.type "dict",data:=pG.dict #[] } } _ λh' k1 k2=>?_)
  have Sa:(({ s with heap:=s.heap.push { cls:=aa.type "dict",data:=pG.dict #[] } }:ah)).heap.objs.size=s.heap.objs.size+1:=hz
  rw[Sa]at k2 ⊢
  dsimp only
  rw[jF]
  refine ao (aw (aw ?_))
  exact h h' (λb o e=>k1 b o (ap _ e)) ((aI.Ns.new s.heap _).keeps k1) k2
def hV (X:Cx)(scope:fF)(cl:List (aP×af))(N:List aP)(C:af)(fp:List af)(s₀:ah)(H₀:Hp):Cx :=
 { X with N:=N,s₀:=s₀,H₀:=H₀,env:=oN scope cl C X.env,outer:=X.stack,stack:=X.stack,ex:=fp,fn:=λx=>scope.names.lookup x==some .cell,pn:=[],xe:=λ_ _=>False }
structure kn (X:Cx)(scope:fF)(N:List aP)(own:Nat)(cap:List Nat):Prop where
 kind:scope.kind=.function
 cells:∀x∈scope.names,x.2=.cell->scope.names.lookup x.1=some .cell
 locs:∀x∈scope.names,x.2=.local->scope.names.lookup x.1=some .local
 free:∀x∈scope.names,x.2=.free->X.env.kindOf x.1=some .cell\/X.env.kindOf x.1=some .free
 len:N.length=own+cap.length
 caps:∀(j:Nat) (x:aP),N[own+j]?=some x->∃i,cap[j]?=some i/\X.N[i]?=some x/\(scope.names.lookup x=some .free)
theorem qm {α β:Type}[BEq α][LawfulBEq α]{x:α}{y:β}:∀{l:List (α×β)},l.lookup x=some y->(x,y)∈l
 |[],h=>by simp at h
 |(a,b)::r,h=>by
  rw[bq]at h
  cases hb:x==a with
  |true=>rw[hb]at h;cases h;rw[eq_of_beq hb];exact ak
  |false=>rw[hb]at h;exact aj _ (qm h)
theorem Nm {env:Env}{x:aP}:∀{names:List (aP×br)},names.lookup x=some .free ->
  (names.map λ(n,k)=>if(k==br.free&&env.scope.kind==.function&&env.kindOf n==some .cell)then(n,br.cell)else(n,k)).lookup x=some .cell \/
  (names.map λ(n,k)=>if(k==br.free&&env.scope.kind==.function&&env.kindOf n==some .cell)then(n,br.cell)else(n,k)).lookup x=some .free
 |[],h=>by simp at h
 |(n,k)::r,h=>by
  rw[bq]at h
  rw[bu]
  cases hx:x==n with
  |true=>
   rw[hx]at h
   cases h
   by_cases hc:(br.free==br.free&&env.scope.kind==.function&&env.kindOf n==some .cell)=true
   ·left
    simp only[hc,if_true,bq,hx]
   ·right
    simp only[hc,if_false,bq,hx,bJ]
  |false=>
   rw[hx]at h
   rcases Nm (env:=env) h with q|q
   ·left
    by_cases hc:(k==br.free&&env.scope.kind==.function&&env.kindOf n==some .cell)=true
    ·simp only[hc,if_true,bq,hx];exact q
    ·simp only[hc,if_false,bq,hx,bJ];exact q
   ·right
    by_cases hc:(k==br.free&&env.scope.kind==.function&&env.kindOf n==some .cell)=true
    ·simp only[hc,if_true,bq,hx];exact q
    ·simp only[hc,if_false,bq,hx,bJ];exact q
theorem Ng {env:Env}{x:aP}:∀{names:List (aP×br)},((names.map λ(n,k)=>if(k==br.free&&env.scope.kind==.function&&env.kindOf n==some .cell)then(n,br.cell)else(n,k)).lookup x=some .cell \/
  (names.map λ(n,k)=>if(k==br.free&&env.scope.kind==.function&&env.kindOf n==some .cell)then(n,br.cell)else(n,k)).lookup x=some .free)->(x,br.free)∈names\/(x,br.cell)∈names
 |[],h=>by simp at h
 |(n,k)::r,h=>by
  rw[bu]at h
  cases hx:x==n with
  |true=>
   have e:x=n:=eq_of_beq hx
   by_cases hc:(k==br.free&&env.scope.kind==.function&&env.kindOf n==some .cell)=true
   ·have:k=.free:=by
     rw[bw,bw]at hc
     exact eq_of_beq hc.1.1
    left
    rw[e,this];exact ak
   ·simp only[hc,if_false,bq,hx,bJ]at h
    rcases h with h|h
    ·cases h;right;rw[e];exact ak
    ·cases h;left;rw[e];exact ak
  |false=>
   refine(Ng (env:=env) (names:=r) ?_).imp (aj _) (aj _)
   by_cases hc:(k==br.free&&env.scope.kind==.function&&env.kindOf n==some .cell)=true
   ·simpa only[hc,if_true,bq,hx]using h
   ·simpa only[hc,if_false,bq,hx,bJ]using h
def fG (σ:St)(cap:List Nat):St:=cap.map λi=>(σ[i]?).join
theorem Wl {σ:St}{cap:List Nat}{j i:Nat}{v:V}(hj:cap[j]?=some i)(h:(fG σ cap)[j]?=some (some v)):σ[i]?=some (some v):=by
 unfold fG at h
 rw[bi,hj]at h
 cases e:σ[i]? with
 |none=>rw[eL,e]at h;cases h
 |some o=>
  rw[eL,e]at h
  cases o with
  |none=>cases h
  |some u=>exact h
section
variable {X:Cx}{ai:List (af×cJ)}{σ:St}{H:Hp}{s:ah}
theorem NU {scope:fF}{cl:List (aP×af)}{N:List aP}{own:Nat}{cap:List Nat}{fp:List af}{h₁:aI}{t':Nat}{m₀:aP->Option aa}(B:kn X scope N own cap)(I:Inv X ai σ H s)
    (c1:∀y c,cl.lookup y=some c->X.env.cells.lookup y=some c) (c2:∀x∈scope.names,x.2=.free->∃c,cl.lookup x.1=some c)
    (hf:∀b∈fp,ko X ai H b) (LY:∀b∈fp,b<s.heap.objs.size) (rC:h₁.Ns s.heap.objs.size m₀) (k:∀b o,s.heap.get? b=some o->h₁.get? b=some o)
    (yG:∀c,s.heap.objs.size+1<=c->c<s.heap.objs.size+1+iW scope.names->h₁.IsCell c none) :
    Inv (hV X scope (cellsFrom (s.heap.objs.size+1) scope.names cl) N s.heap.objs.size fp s H) [] (aJ own none++fG σ cap) H { s with heap:=h₁,toks:=t' } :=
  have low:∀x c,cl.lookup x=some c->c<s.heap.objs.size:=λx c e=>by
    obtain⟨v,o,q,_⟩:=I.cell x c (c1 x c e)
    exact aG q
  { ok:={
      mod:=I.mod
      kind:=B.kind
      glob:=I.ok.glob
      blt:=I.ok.blt
      above:=aH _
      inj:=KL _ _ _ (λx y c e e'=>I.ok.inj x y c (c1 x c e) (c1 y c e')) λx c e=>cG (low x c e)
      has:=λx hx=>by
        refine mD.mp (hU scope.names _ _ ?_)
        rcases Ng hx with q|q
        · right
          obtain⟨c,e⟩:=c2 _ q rfl
          rw[e];rfl
        · exact .inl (B.cells _ q rfl)
      cab:=λx c e e'=>by
        have hx:scope.names.lookup x=some .cell:=eq_of_beq e
        rcases AK _ _ _ e' with⟨h1,_⟩|⟨_,h2⟩
        · exact kU h1
        · exact absurd (qm hx) h2
      hd:=I.ok.hd
      frames:=I.ok.frames
      stk:=.inl rfl
      exf:=λb hb=>⟨bj (LY b hb),λx c e=>by
        rcases AK _ _ _ e with⟨h1,_⟩|⟨h1,_⟩
        · exactλz=>absurd (LY b hb) (by rw[←z];exact Nat.not_lt.mpr (kU h1))
        · exact(hf b hb).2.2.2.2.1 x c (c1 x c h1)⟩
      bs:=I.bs
      bsz:=bD I.ok.bsz I.sz
      noex:=λb o e hb=>by
        rcases(hf b hb).2.2.2.1 with q|q
        · exact I.ok.noex b o e q
        · exact absurd (bt (aG e) I.ok.bsz) (Nat.not_lt.mpr q)
      exfs:=λb hb hz=>by
        rcases av.mp (I.stkSub b hz)with q|q
        · exact(hf b hb).2.1 q
        · exact(hf b hb).2.2.1 q
      funs:=I.stack
      frf:=I.stkFree }
    os:=rfl
    bare:=I.bare
    base:=Un.kept k
    loc:=by
      refine⟨m₀,rC,λi x v hN hσ hv=>?_⟩
      by_cases hi:i<own
      · rw[bO (by rw[cX];exact hi),eX,if_pos hi]at hσ
        cases hσ
      · obtain⟨j,rfl⟩:∃j,i=own+j:=⟨i-own,by omega⟩
        obtain⟨i',e1,e2,e3⟩:=B.caps j x hN
        rw[cT (by rw[cX];omega),cX,Nat.add_sub_cancel_left]at hσ
        have Sd:=Wl e1 hσ
        have hk:=B.free (x,.free) (qm e3) rfl
        obtain⟨m,hm,hl⟩:=I.loc
        obtain⟨u,ru,hu⟩:=hl i' x v e2 Sd (.inr hk)
        refine⟨u,ru,?_⟩
        rcases hu with⟨q,_⟩|⟨_,c,hc,ic⟩
        · rcases hk with hk|hk
          · rw[hk]at q;cases q
          · rw[hk]at q;cases q
        · obtain⟨c',uV⟩:=c2 (x,.free) (qm e3) rfl
          have ec:=c1 x c' uV
          rw[hc]at ec
          cases ec
          have hn:(x,br.cell)∉scope.names:=λz=>by
            have:=B.cells _ z rfl
            rw[e3]at this
            cases this
          exact .inr ⟨Nm e3,c,by show(cellsFrom _ _ _).lookup x=_;rw[KJ _ _ _ hn];exact uV,ic.keeps k⟩
    cell:=λx c e=>by
      rcases AK _ _ _ e with⟨h1,h2,_⟩|⟨h1,_⟩
      · exact⟨none,yG c h1 h2⟩
      · obtain⟨v,q⟩:=I.cell x c (c1 x c h1)
        exact⟨v,q.keeps k⟩
    free:=I.hok.fresh (aH _)
    freeC:=λx c e=>by
      rcases AK _ _ _ e with⟨h1,_⟩|⟨h1,_⟩
      · exact I.hok.fresh (kU h1)
      · exact I.freeC x c (c1 x c h1)
    pin:=λp hp=>(nomatch hp)
    hok:=I.hok.kept k
    len:=by
      show(aJ own none++fG σ cap).length=N.length
      rw[aT,cX,B.len]
      unfold fG
      rw[aA] }
end
def t9:TT:=λ_ H Q=>Q true H
def uO (X:Cx)(ifs:List Expr)(t:TT):Prop :=
 ∀(ai:List (af×cJ)) (s:ah) (σ:St) (H:Hp) (Q:Bool->Hp->Prop),Inv X ai σ H s->t σ H Q ->
  aQ (aS X.prog X.w) X.A (forIn ifs true λc r=>if r=true then do let ok ← qW c X.env (bS c X.env);pure (ForInStep.yield ok)else pure (ForInStep.yield r)) (TP X ai σ Q) X.xe s
theorem Yi {X:Cx}:uO X [] t9:=λ_ _ _ H _ I h=>wpAny_tests_nil ⟨H,I,h⟩
theorem Yj {X:Cx}{c:Expr}{t:TT}(h:PT X c t):uO X [c] t:=λai s σ H Q I q=>wpAny_tests_one (h ai s σ H Q I q)
def pR (wi:TI)(own:Nat)(cap:List Nat)(g:TG)(tt:TT)(te:TE):TE:=λσ H Q=>wi σ H λJ H1=>∀D,H1 D=none->∃W:Nat->Nat->List V->Hp->Prop,(∃m,W 0 m [] (upd H1 D (.lst []))) /\
 ∀i m ys H2,W i m ys H2->H2 D=some (.lst ys)/\((J.stop i H2/\Q (.ref D) H2)\/(J.go i H2/\ys.length<sizeLine/\∀x H3,J.yld i H2 x H3->g x (aJ own none++fG σ cap) H3 λσ2 H4=>tt σ2 H4 λb H5=>
  if b=true then te σ2 H5 λy H6=>H6 D=some (.lst ys)/\∃m',m'<m/\W (i+1) m' (ys++[y]) (upd H6 D (.lst (ys++[y])))else∃m',m'<m/\W (i+1) m' ys H5))
def fH (own:Nat)(g:TG):Prop:=∀v σ H Q,g v σ H Q->g v σ H λσ' H'=>Q σ' H'/\σ'.length = σ.length/\∀i,own<=i->σ'[i]? = σ[i]?
theorem Nw (i own:Nat)(h:i<own):fH own (pM i):=λv σ H Q q=>⟨q,by rw[iI],λj hj=>by rw[eu (by omega)]⟩
theorem Yk {X:Cx}{jB iter tg:Expr}{ifs:List Expr}{scope:fF}{pos:cB}{N:List aP}{own:Nat}{cap:List Nat}{wi:TI}{g:TG}{tt:TT}{te:TE}(B:kn X scope N own cap)(hc:X.calm=true)(hi:PI X tg iter wi)
    (kg:fH own g)
    (hg:∀cl C fp s₀ H₀,PG (hV X scope cl N C fp s₀ H₀) tg g) (ht:∀cl C fp s₀ H₀,uO (hV X scope cl N C fp s₀ H₀) ifs tt) (he:∀cl C fp s₀ H₀,PE (hV X scope cl N C fp s₀ H₀) jB te)
    (hs:∀x,cW iter X.env x=pure x:=by intro _;rfl):PE X (.ListComp jB [⟨tg,iter,ifs,0⟩] scope pos) (pR wi own cap g tt te):=by
  intro ai s σ H Q I h
  obtain⟨cl,uW,c1,c2,_⟩:=ql (env:=X.env) scope.names [] (λx hx hf=>I.ok.has x.1 (B.free x hx hf)) (λy c e=>by simp at e)
  have sd:oM scope X.env=pure cl:=by
    have e:oM scope X.env=(forIn scope.names ([]:List (aP×af)) (λ(x:aP×br) (cs:List (aP×af))=>if(x.2==br.free)=true then do let a ← cellOf X.env x.1;pure (ForInStep.yield ((x.1,a)::cs))else pure (ForInStep.yield cs)) >>= pure:ip (List (aP×af))):=rfl
    rw[e,uW]
    rfl
  rw[eval_ListComp]
  refine wpAny_comprehension_free (use:=none) rfl hs sd B.kind B.locs (dk (hi ai s σ H _ I h) λv s1 h1=>dk h1 λFU s2 h2=>?_)
  obtain⟨it,fp,tn,J,H2,e,I2,T,tF,f2,W0⟩:=h2
  subst e
  obtain⟨W,⟨m0,w0⟩,nM⟩:=W0 s2.heap.objs.size (I2.hok.fresh (aH _))
  refine dS ?_
  have I3:Inv X ai σ (upd H2 s2.heap.objs.size (.lst [])) { s2 with heap:=s2.heap.push { cls:=.type "list",data:=.seq ([]:List aa).toArray } }:=I2.lnew .nil (cH _)
  generalize CZ:({ s2 with heap:=s2.heap.push { cls:=.type "list",data:=.seq ([]:List aa).toArray } }:ah)=s3 at I3
  have k3:∀b o,s2.heap.get? b=some o->s3.heap.get? b=some o:=λb o e=>by rw[←CZ];exact ap _ e
  have z3:s3.heap.objs.size=s2.heap.objs.size+1:=by rw[←CZ];exact dD _ _
  have pd:∀b∈fp,b<s2.heap.objs.size:=λb hb=>by
    obtain⟨o,e,_⟩:=T.obj _ _ tF b hb
    exact aG e
  have nH:∀b∈fp,b≠s2.heap.objs.size:=λb hb=>bj (pd b hb)
  have f3:∀b∈fp,ko X ai (upd H2 s2.heap.objs.size (.lst [])) b:=λb hb=>⟨by rw[zn (nH b hb)];exact(f2 b hb).1,(f2 b hb).2⟩
  have Gg:tn 0 s3.heap:=T.keep _ _ _ tF λb _ o e=>k3 b o e
  show aQ _ _ (kH scope X.env.globals cl [] X.env.qual none .none (some X.env)) _ _ _
  refine Nl λh₁ kk yO yH=>?_
  have IB:=NU (t':=s3.toks) B I3 c1 c2 f3 (λb hb=>by rw[z3];exact cG (pd b hb)) yO kk yH
  generalize cellsFrom (s3.heap.objs.size+1) scope.names cl=cl at IB ⊢
  generalize IS:({ s3 with heap:=h₁,toks:=s3.toks }:ah)=s4 at IB
  have ER:tn 0 s4.heap:=T.keep _ _ _ Gg λb _ o e=>by rw[←IS];exact kk b o e
  show fR (aS X.prog X.w) X.A (.compStart (.ListComp jB [⟨tg,iter,ifs,0⟩] scope pos) 0 (.ref it) (.ref s2.heap.objs.size) (oN scope cl s3.heap.objs.size X.env))
      (oO (aS X.prog X.w) X.A X.xe none (EP X ai σ Q) (.ref s2.heap.objs.size) s3.heap.objs.size) s4
  have mn:∀{H':Hp},(∀b∈fp,H' b=none)->∀b∈fp,ko (hV X scope cl N s3.heap.objs.size fp s3 (upd H2 s2.heap.objs.size (.lst []))) [] H' b:=λhn b hb=>
    ⟨hn b hb,bj (by show b<s3.heap.objs.size;rw[z3];exact cG (pd b hb)),IB.ok.exfs b hb,.inl hb,λx c e=>(IB.ok.exf b hb).2 x c e,λp hp=>(nomatch hp)⟩
  have loop:fR (aS X.prog X.w) X.A (.compLoop (.ListComp jB [⟨tg,iter,ifs,0⟩] scope pos) 0 (.ref it) (.ref s2.heap.objs.size) (oN scope cl s3.heap.objs.size X.env))
      (oO (aS X.prog X.w) X.A X.xe none (EP X ai σ Q) (.ref s2.heap.objs.size) s3.heap.objs.size) s4:=by
    refine Nk (λn s'=>∃i ys H',Inv (hV X scope cl N s3.heap.objs.size fp s3 (upd H2 s2.heap.objs.size (.lst []))) [] (aJ own none++fG σ cap) H' s'/\tn i s'.heap/\(∀b∈fp,H' b=none)/\W i n ys H') ?_ m0
      ⟨0,[],_,IB,ER,λb hb=>(f3 b hb).1,w0⟩
    rintro n s5 ⟨i,ys,H5,I5,t7,yB,w5⟩
    obtain⟨hD,uZ⟩:=nM i n ys H5 w5
    rcases uZ with⟨stop,qn⟩|⟨go,iC,step⟩
    · refine dk (T.done (hV X scope cl N s3.heap.objs.size fp s3 (upd H2 s2.heap.objs.size (.lst []))) rfl rfl rfl hc i [] s5 _ H5 (λ_ _=>False) I5 (mn yB) t7 stop) λr s6 dq=>?_
      obtain⟨hr,I6⟩:=dq
      subst hr
      obtain⟨m,hm,_⟩:=id I6.loc
      refine⟨m,hm,λh' sb=>⟨.ref s2.heap.objs.size,H5,?_,rfl,qn⟩⟩
      have U:=I6.base
      have nC:∀b o,s3.heap.get? b=some o->b≠s3.heap.objs.size:=λb o e=>bj (aG e)
      have nT:∀b o,H5 b=some o->b≠s3.heap.objs.size:=λb o e z=>by
        have q:H5 s3.heap.objs.size=none:=I6.free
        rw[z,q]at e
        cases e
      refine I3.call' (ch:=fp) I6.os ?_ (λa o e=>(I6.hok a o e).stay (λb u hb q=>sb.extBut b u ?_ q) (λ_ q=>q) λ_ _ q=>q) I6.bare (λb hb=>⟨(f3 b hb).2.2.2.1,(f3 b hb).2.1,(f3 b hb).2.2.2.2.1,(f3 b hb).2.2.2.2.2⟩)
      · exact{
          keep:=λb o e z hb he=>sb.extBut b o (nC b o e) (U.keep b o e z hb he)
          slot:=λb o e z hb he=>by
            obtain⟨sl,q⟩:=U.slot b o e z hb he
            exact⟨sl,sb.extBut b _ (nC b o e) q⟩
          free:=U.free
          there:=λb o e he=>by
            obtain⟨o',q⟩:=U.there b o e he
            exact⟨o',sb.extBut b o' (nC b o e) q⟩
          tups:=U.tups
          frzs:=U.frzs
          tbls:=U.tbls }
      · rcases hb with rfl|hb
        · exact nT _ _ e
        · exact nT _ _ hb
    · refine dk (T.item (hV X scope cl N s3.heap.objs.size fp s3 (upd H2 s2.heap.objs.size (.lst []))) rfl rfl rfl hc i [] s5 _ H5 (λ_ _=>False) I5 (mn yB) t7 go) λr s6 dq=>?_
      obtain⟨u,hr,h6⟩:=dq
      subst hr
      refine dk h6 λ_ s7 dq=>?_
      obtain⟨x,H7,I7,r7,y7,zO,HS⟩:=dq
      have GR:=I7.pinned (mn HS) (T.obj _ _ zO)
      refine dk (hg cl s3.heap.objs.size fp s3 _ _ s7 _ H7 x u _ GR r7 (kg _ _ _ _ (step x H7 y7))) λ_ s8 dq=>?_
      obtain⟨σ8,H8,I8,q8,l8,p8⟩:=dq
      have back:∀{H9:Hp} {s9:ah},Inv (hV X scope cl N s3.heap.objs.size fp s3 (upd H2 s2.heap.objs.size (.lst []))) ([]++kO fp s7.heap) σ8 H9 s9 ->
          Inv (hV X scope cl N s3.heap.objs.size fp s3 (upd H2 s2.heap.objs.size (.lst []))) [] (aJ own none++fG σ cap) H9 s9/\tn (i+1) s9.heap/\∀b∈fp,H9 b=none:=λ{H9 s9} I9=>by
        refine⟨(I9.unpinned).weak l8.symm (λj v e=>?_),T.keep _ _ _ zO λb hb o e=>(I9.pin (b,o) (aB _ (aB _ (uj hb e)))).1,λb hb=>?_⟩
        · by_cases hj:j<own
          · rw[bO (by rw[cX];exact hj),eX,if_pos hj]at e
            cases e
          · rw[p8 j (by omega)];exact e
        · obtain⟨o,e,d⟩:=T.obj _ _ zO b hb
          exact(I9.pin (b,o) (aB _ (aB _ (uj hb e)))).2.1
      refine dk (ht cl s3.heap.objs.size fp s3 _ _ s8 σ8 H8 _ I8 q8) λok s9 dq=>?_
      obtain⟨H9,I9,q9⟩:=dq
      cases ok with
      |false=>
        rw[if_neg aO]
        rw[if_neg aO]at q9
        obtain⟨m',yM,w'⟩:=q9
        obtain⟨b1,b2,b3⟩:=back I9
        exact⟨m',yM,i+1,ys,H9,b1,b2,b3,w'⟩
      |true=>
        rw[if_pos rfl]
        rw[if_pos rfl]at q9
        refine dk (he cl s3.heap.objs.size fp s3 _ _ s9 σ8 H9 _ I9 q9) λuy Jv dq=>?_
        obtain⟨y,AM,GP,r10,yD,m',yM,w'⟩:=dq
        refine dk (J2 _ Jv σ8 AM (.ref s2.heap.objs.size) [y] (.ref s2.heap.objs.size) [uy] (λ_ AN=>AN=upd AM s2.heap.objs.size (.lst (ys++[y]))) GP rfl (.cons r10 .nil) ⟨_,ys,y,rfl,rfl,yD,iC,rfl⟩) λ_ T4 dq=>?_
        obtain⟨_,AN,GQ,_,Hu⟩:=dq
        subst Hu
        obtain⟨b1,b2,b3⟩:=back GQ
        exact⟨m',yM,i+1,ys++[y],_,b1,b2,b3,w'⟩
  exact codeAny_compStart_list loop (T.self X.A 0 s4 _ _ ER loop)
end L2
namespace L2
open PySem PySem.Spec PyProof.Rows
section
variable {X:Cx}{ai:List (af×cJ)}{σ:St}{H:Hp}{s:ah}{h':aI}
theorem Inv.turnLay {ch:List af}{a:af}{o:HO}{t':Nat}(I:Inv X ai σ H s)(lO:∀b∈ch,ko X ai H b)(k:∀b o,b∉ch->s.heap.get? b=some o->h'.get? b=some o)(hp:s.heap.objs.size<=a)
  (new:dI X.prog X.w (upd H a o) h' a o):Inv X ai σ (upd H a o) { s with heap:=h',toks:=t' }:=by
 have hn:H a=none:=I.hok.fresh hp
 have DM:∀b u,H b=some u->b∉ch:=λb u e z=>by rw[(lO b z).1]at e;cases e
 refine I.step (g':=s.gens) (d':=s.drawn) (ch:=ch) (λb hb=>⟨(lO b hb).2.2.2.1,(lO b hb).2.1,(lO b hb).2.2.2.2.1,(lO b hb).2.2.2.2.2⟩) (λb o _ _ hc e _=>k b o hc e) (λb o _ _ hc e _=>⟨o.slots,k b o hc e⟩)
  (λb o _ e n=>by rw[zn (bj (bt (aG e) hp))];exact n) (λb o hc e=>⟨o,k b o hc e⟩) (λb xs q=>by rw[zn (yy q hn)];exact q) (λb u xs q=>by rw[zn (yy q hn)];exact q)
  (λb ps q=>⟨#[],by rw[zn (yy q hn),q];simp⟩) (λm hm=>?_) (λb u e=>?_) I.bare
 ·obtain⟨o',es,ep,ho,r⟩:=hm
  exact⟨o',es,ep,k _ o' (λz=>(lO _ z).2.1 rfl) ho,r⟩
 ·by_cases hb:b=a
  ·subst hb
   rw[yr]at e
   cases e
   exact new
  ·rw[zn hb]at e
   refine(I.hok b u e).stay (λc v hc q=>k c v ?_ q) (λc q=>by rw[zn (yy q hn)];exact q) λc xs q=>by rw[zn (yy q hn)];exact q
   rcases hc with z|z
   ·rw[z];exact DM b u e
   ·exact DM c _ z
theorem Inv.turnedL {ch:List af}{t':Nat}(I:Inv X ai σ H s)(lO:∀b∈ch,ko X ai H b)(k:∀b o,b∉ch->s.heap.get? b=some o->h'.get? b=some o):Inv X ai σ H { s with heap:=h',toks:=t' }:=by
 have DM:∀b u,H b=some u->b∉ch:=λb u e z=>by rw[(lO b z).1]at e;cases e
 refine I.step (g':=s.gens) (d':=s.drawn) (ch:=ch) (λb hb=>⟨(lO b hb).2.2.2.1,(lO b hb).2.1,(lO b hb).2.2.2.2.1,(lO b hb).2.2.2.2.2⟩) (λb o _ _ hc e _=>k b o hc e) (λb o _ _ hc e _=>⟨o.slots,k b o hc e⟩)
  (λ_ _ _ _ n=>n) (λb o hc e=>⟨o,k b o hc e⟩) (λ_ _ e=>e) (λ_ _ _ e=>e) (λb ps e=>⟨#[],by rw[e];simp⟩) (λm hm=>?_) (λb u e=>?_) I.bare
 ·obtain⟨o',es,ep,ho,r⟩:=hm
  exact⟨o',es,ep,k _ o' (λz=>(lO _ z).2.1 rfl) ho,r⟩
 ·refine(I.hok b u e).stay (λc v hc q=>k c v ?_ q) (λ_ q=>q) λ_ _ q=>q
  rcases hc with z|z
  ·rw[z];exact DM b u e
  ·exact DM c _ z
end
def GS (K:ae)(a:af):It :=
 ⟨λi H=>∃xs x,eR K H a xs/\xs[i]?=some x,λi H x H'=>∃p y,H p=none/\x=.ref p/\H'=upd H p (.tup [.int i,y])/\∀xs,eR K H a xs->xs[i]?=some y,λi H=>∃xs,eR K H a xs/\xs.length<=i⟩
theorem Wt {P:aW}{w:bv}{K:ae}{nD:List Expr}{kt:Nat}{pt:cB}(a e it:af)(LX:e≠it) :
    Turn P w K (.Tuple nD kt pt) (GS K a) [e,it] e (λi h=>(∃old,IsEnum h e it i old)/\h.IsListIter it a i) where
  mem:=by simp
  obj:=λi h st b hb=>by
    obtain⟨⟨old,he⟩,o,e1,c,d⟩:=st
    rcases av.mp hb with rfl|hb
    · exact⟨_,he,λv z=>by cases z⟩
    · have e2:b=it:=by simpa using hb
      subst e2
      exact⟨o,e1,λv z=>by rw[d]at z;cases z⟩
  keep:=λi h h' st k=>by
    obtain⟨⟨old,he⟩,hit⟩:=st
    exact⟨⟨old,k e (by simp) _ he⟩,hit.at λo x=>k it (by simp) o x⟩
  item:=by
    intro X hP hw hK hc i ai s σ H E I hf st hg
    subst hP hw hK
    obtain⟨xs,x,hq,hx⟩:=hg
    obtain⟨bT,rv,p,hz⟩:=I.list hq
    obtain⟨u,hu,ru⟩:=rv.get hx
    obtain⟨⟨old,he⟩,hit⟩:=st
    refine wpAny_pyNext_enum_item he hit p.isList (x:=u) (by simpa using hu) LX λh1 ho Iw hT hsz hk=>?_
    refine⟨_,rfl,wpAny_letOwnedTupleGo_enum (s:={ s with heap:=h1,toks:=s.toks+1 }) ho λh2 RD Jx=>?_⟩
    have jB:e<s.heap.objs.size:=aG he
    have Sg:it<s.heap.objs.size:=by obtain⟨_,q,_⟩:=hit;exact aG q
    have Rq:h2.get? s.heap.objs.size=some { cls:=.type "tuple",data:=.seq #[.int i s.toks,u] }:=(Jx.2 _ (gD jB)).trans hT
    have CK:H s.heap.objs.size=none:=I.hok.fresh (aH _)
    have I1:Inv X ai σ (upd H s.heap.objs.size (.tup [.int i,x])) { s with heap:=h2,toks:=s.toks+1 }:=by
      refine I.turnLay (ch:=[e,it]) hf (λb o hb q=>?_) (aH _) ⟨by show 2<=sizeLine;decide,[.int i s.toks,u],.cons ⟨_,rfl⟩ (.cons ru .nil),_,Rq,rfl,_,rfl⟩
      have LB:b≠e:=λz=>hb (by simp[z])
      have Rk:b≠it:=λz=>hb (by simp[z])
      exact(Jx.2 b LB).trans (hk b o LB Rk q)
    refine⟨.ref s.heap.objs.size,_,I1,rfl,⟨_,x,CK,rfl,rfl,λys hy=>by rw[I.list_inj hy hq];exact hx⟩,⟨⟨u,by simpa using RD⟩,Iw.at λo q=>(Jx.2 it LX.symm).trans q⟩,λb hb=>?_⟩
    rw[zn ?_]
    · exact(hf b hb).1
    · rcases av.mp hb with rfl|hb
      · exact bj jB
      · have e2:b=it:=by simpa using hb
        rw[e2];exact bj Sg
  done:=by
    intro X hP hw hK hc i ai s σ H E I hf st hg
    subst hP hw hK
    obtain⟨xs,hq,hx⟩:=hg
    obtain⟨bT,rv,p,hz⟩:=I.list hq
    obtain⟨⟨old,he⟩,hit⟩:=st
    have hl:=rv.length
    exact wpAny_pyNext_enum_end (I.ok.hd hc) he hit p.isList (by simp;omega) λh' eb=>⟨rfl,I.turnedL (ch:=[e,it]) (t':=s.toks) hf λb o hb q=>eb b o (λz=>hb (by simp[z])) q⟩
  self:=λ_ _ _ _ _ st h=>wpAny_pyIter_enum st.1.choose_spec h
section
variable {X:Cx}{nD:List Expr}{kt:Nat}{pt:cB}
def C2 (K:ae)(ta:TA):TI:=λσ H R=>ta σ H λvs H1=>∃a,vs=[.ref a]/\(∃xs,eR K H1 a xs)/\R (GS K a) H1
theorem OC {l:Expr}{ta:TA}{p pos:cB}(hg:Gl X "enumerate")(hm:X.mg "enumerate"=none)(ha:PA X [l] ta)(hs:ay [l] X.env=[(false,bS l X.env)]:=by rfl) :
  PI X (.Tuple nD kt pt) (.Call (.Name "enumerate" p) [l] [] pos) (C2 X.K ta):=by
 intro ai s σ H R I h
 refine Call_ (Ab I hg hm PyProof.Rows.boot_enumerate (fE (dk (ha pos ai s σ H _ I h) λus s1 ⟨vs,H1,I1,r1,q1⟩=>?_) hs rfl))
 obtain⟨a,e,⟨xs,hq⟩,q⟩:=q1
 subst e
 cases r1 with
 |cons r rr=>
  cases rr
  cases r
  obtain⟨bT,rv,pl,hz⟩:=I1.list hq
  refine call_enumerate_list pl.isList λh' he hit hsz hk=>?_
  refine wpAny_pyIter_enum (s:={ s1 with heap:=h' }) he ?_
  refine⟨s1.heap.objs.size+1,[s1.heap.objs.size+1,s1.heap.objs.size],_,_,H1,rfl,I1.kept (t':=s1.toks) hk,Wt a _ _ (Nat.succ_ne_self _),⟨⟨_,he⟩,hit⟩,λb hb=>?_,q⟩
  rcases av.mp hb with rfl|hb
  ·exact I1.fpOk (eD _) (I1.hok.fresh (eD _))
  ·have e:b=s1.heap.objs.size:=by simpa using hb
   subst e
   exact I1.fpOk (aH _) (I1.hok.fresh (aH _))
end
end L2
set_option maxHeartbeats 4000000
namespace L2
open PySem PySem.Spec PyProof.Rows
section
variable {P:aW}{w:bv}{A:bo}{E:aa->ah->Prop}{s:ah}
end
section
variable {X:Cx}{ai:List (af×cJ)}{σ:St}{H:Hp}{s:ah}{a:af}
end
end L2
set_option maxHeartbeats 4000000
namespace L2
open PySem PySem.Spec PyProof.Rows
section
variable {P:aW}{w:bv}{A:bo}{E:aa->ah->Prop}{s:ah}
end
section
variable {X:Cx}{ai:List (af×cJ)}{σ:St}{H:Hp}{s:ah}{a:af}
end
end L2
namespace L2
open PySem PySem.W PyProof.Rows
section
variable {lt:Nat->Nat->Bool}{p:Array Nat}
end
section
variable {prog:aW}{w:bv}{A:bo}{E:aa->ah->Prop}{s:ah}{lt:Nat->Nat->Bool}{vs:List aa}{κ:SortKind}
end
end L2
set_option maxHeartbeats 4000000
namespace L2
open PySem PySem.Spec PyProof.Rows
section
variable {prog:aW}{w:bv}{A:bo}{E:aa->ah->Prop}{s:ah}{b fin:Bool}{Q:Bool->ah->Prop}
end
end L2
set_option maxHeartbeats 4000000
namespace L2
open PySem PySem.Spec PyProof.Rows
section
variable {P:aW}{w:bv}{A:bo}{E:aa->ah->Prop}{s:ah}{K:Type}[DecidableEq K]{knd:HeapKind P w K}
end
section
variable {X:Cx}
end
end L2
set_option maxHeartbeats 4000000
namespace L2
namespace TS
open PySem PySem.Spec PyProof.Rows
structure Ix where
 n:Nat
structure PS where
 a:Array Ix
 pend:Array (Nat×Nat×Nat)
 mg:Nat
abbrev PM:=StateT PS Option
noncomputable def lr (arr:Array Ix)(i:Nat):PM Ix:=match arr.toList[i]? with
 |some p=>pure p
 |none=>failure
section
variable (lt:Nat->Nat->Bool)
noncomputable def DR (x y:Ix):PM (Option Bool):=pure (some (lt x.n y.n))
noncomputable def md (i j:Nat):PM (Option Bool):=do
 let a:=(← get).a
 DR lt (← lr a i) (← lr a j)
def frc {β:Type}:List Ix->(List Ix->β)->β
 |[],k=>k []
 |⟨n⟩::xs,k=>match n with
  |0=>frc xs λys=>k (⟨0⟩::ys)
  |m+1=>frc xs λys=>k (⟨m+1⟩::ys)
theorem frc_eq {β:Type}:∀(xs:List Ix) (k:List Ix->β),frc xs k=k xs
 |[],_=>rfl
 |⟨0⟩::xs,k=>frc_eq xs _
 |⟨m+1⟩::xs,k=>frc_eq xs _
def yW (a:Array Ix)(src d:Nat):List Ix:=if src<a.size/\d<=src then a.toList.take (src-d)++((a.toList.drop src).take 1++((a.toList.drop (src-d)).take d++a.toList.drop (src+1)))else(bubble a src d).toList
theorem Yl (a:Array Ix)(src d:Nat):(yW a src d).toArray=bubble a src d:=by
 unfold yW
 by_cases h:src<a.size/\d<=src
 ·rw[if_pos h]
  apply Array.ext_getElem?
  intro k
  rw[getElem?_bubble h.1 d h.2 k,List.getElem?_toArray]
  have e1:(a.toList.take (src-d)).length=src-d:=by rw[bZ,aZ];omega
  have e2:((a.toList.drop src).take 1).length=1:=by rw[bZ,eI,aZ];omega
  have e3:((a.toList.drop (src-d)).take d).length=d:=by rw[bZ,eI,aZ];omega
  by_cases k1:k<src-d
  ·rw[bO (by omega),if_neg (by omega),if_neg (by omega),eO k1,cF]
  ·rw[cT (by omega),e1]
   by_cases k2:k=src-d
   ·rw[if_pos k2,bO (by omega),eO (by omega),kl,cF]
    congr 1;omega
   ·rw[if_neg k2,cT (by omega),e2]
    by_cases k3:k<=src
    ·rw[if_pos ⟨by omega,k3⟩,bO (by omega),eO (by omega),kl,cF]
     congr 1;omega
    ·rw[if_neg (by omega),cT (by omega),e3,kl,cF]
     congr 1;omega
 ·rw[if_neg h]
noncomputable def qK (i j:Nat):PM Unit:=λs=>frc (mirror s.a i j ((j-i)/2)).toList λl=>some ((),PS.mk l.toArray s.pend s.mg)
noncomputable def sE (src Lv:Nat):PM Unit:=λs=>frc (yW s.a src (src-Lv)) λl=>some ((),PS.mk l.toArray s.pend s.mg)
noncomputable def pv (lo pq:Nat):PM (Option Nat):=do
 let mut n:=1
 for _ in[1:pq]do
  let some kD ← md lt (lo+n) (lo+n-1)|return none
  if kD then break
  n:=n+1
 if n==pq then return some n
 if n > 1 then
  let some Ju ← md lt lo (lo+n-1)|return none
  if Ju then return some n
  qK lo (lo+n)
 pure ()
 n:=n+1
 let mut neq:=0
 for _ in[n:pq]do
  let some kD ← md lt (lo+n) (lo+n-1)|return none
  if kD then
   if neq > 0 then qK (lo+n-(neq+1)) (lo+n)
   neq:=0
  else
   let some larger ← md lt (lo+n-1) (lo+n)|return none
   if larger then break
   neq:=neq+1
  n:=n+1
 if neq > 0 then qK (lo+n-(neq+1)) (lo+n)
 qK lo (lo+n)
 for _ in[n:pq]do
  let some kD ← md lt (lo+n) (lo+n-1)|return none
  if kD then break
  n:=n+1
 return some n
noncomputable def zF (lo n ok:Nat):PM Bool:=do
 for k in[max ok 1:n]do
  let mut l:=0
  let mut r:=k
  for _ in[0:k]do
   if l >= r then break
   let m:=(l+r)/2
   let some less ← md lt (lo+k) (lo+m)|return false
   if less then r:=m else l:=m+1
  sE (lo+k) (lo+l)
 return true
noncomputable def jD (left:Bool)(key:Ix)(arr:Array Ix)(base i:Nat):PM (Option Bool):=do
 let x ← lr arr (base+i)
 if left then DR lt x key else return(← DR lt key x).map (!·)
noncomputable def kC (left:Bool)(key:Ix)(arr:Array Ix)(base n hint:Nat):PM (Option Nat):=do
 let mut lastofs:=0
 let mut ofs:=1
 let mut lo:=0
 let mut hi:=0
 let some right ← jD lt left key arr base hint|return none
 if right then
  let gB:=n-hint
  for _ in[0:n]do
   if ofs >= gB then break
   let some more ← jD lt left key arr base (hint+ofs)|return none
   if !more then break
   lastofs:=ofs
   ofs:=2*ofs+1
  lo:=hint+lastofs+1
  hi:=hint+min ofs gB
 else
  let gB:=hint+1
  for _ in[0:n]do
   if ofs >= gB then break
   let some found ← jD lt left key arr base (hint-ofs)|return none
   if found then break
   lastofs:=ofs
   ofs:=2*ofs+1
  lo:=hint+1-min ofs gB
  hi:=hint-lastofs
 for _ in[0:n]do
  if lo >= hi then break
  let m:=lo+(hi-lo)/2
  let some more ← jD lt left key arr base m|return none
  if more then lo:=m+1 else hi:=m
 return some hi
end
structure Tab where
 k:Nat->Int
 t:Nat->Tok
 v:Nat->aa
def itm (it:Tab)(x:Ix):Keyed:=(.int (it.k x.n) (it.t x.n),it.v x.n)
noncomputable def gp:Bool->Keyed->Array Keyed->Nat->Nat->Nat->StateT SortSt ip (Option Nat):=sortPriv% PySem.Builtin.gallop
noncomputable def jA (left:Bool)(key:Keyed)(arr:Array Keyed)(base i:Nat):StateT SortSt ip (Option Bool):=do
 let x ← elem' arr (base+i)
 if left then lt' x key else return(← lt' key x).map (!·)
theorem Wm (left:Bool)(key:Keyed)(arr:Array Keyed)(base n hint:Nat):gp left key arr base n hint=(do
 let mut lastofs:=0
 let mut ofs:=1
 let mut lo:=0
 let mut hi:=0
 let some right ← jA left key arr base hint|return none
 if right then
  let gB:=n-hint
  for _ in[0:n]do
   if ofs >= gB then break
   let some more ← jA left key arr base (hint+ofs)|return none
   if !more then break
   lastofs:=ofs
   ofs:=2*ofs+1
  lo:=hint+lastofs+1
  hi:=hint+min ofs gB
 else
  let gB:=hint+1
  for _ in[0:n]do
   if ofs >= gB then break
   let some found ← jA left key arr base (hint-ofs)|return none
   if found then break
   lastofs:=ofs
   ofs:=2*ofs+1
  lo:=hint+1-min ofs gB
  hi:=hint-lastofs
 for _ in[0:n]do
  if lo >= hi then break
  let m:=lo+(hi-lo)/2
  let some more ← jA left key arr base m|return none
  if more then lo:=m+1 else hi:=m
 return some hi):=rfl
class Cv (it:Tab) (β:Type) (α:outParam Type) where
 cv:β->α
section
variable {it:Tab}
instance:Cv it Nat Nat:=⟨id⟩
instance:Cv it Bool Bool:=⟨id⟩
instance:Cv it PUnit PUnit:=⟨id⟩
instance:Cv it Ix Keyed:=⟨itm it⟩
instance:Cv it (Array Ix) (Array Keyed):=⟨λa=>a.map (itm it)⟩
instance {α β:Type} [Cv it β α]:Cv it (Option β) (Option α):=⟨λo=>o.map (Cv.cv it)⟩
instance {α β γ δ:Type} [Cv it β α] [Cv it δ γ]:Cv it (β×δ) (α×γ):=⟨λp=>(Cv.cv it p.1,Cv.cv it p.2)⟩
instance {α β:Type} [Cv it β α]:Cv it (ForInStep β) (ForInStep α):=⟨λo=>match o with|.done b=>.done (Cv.cv it b)|.yield b=>.yield (Cv.cv it b)⟩
end
def emb (it:Tab)(ps:PS):SortSt:=SortSt.mk' oneType' (ps.a.map (itm it)) ps.pend ps.mg none
section
variable {prog:aW}{w:bv}{A:bo}{E:aa->ah->Prop}{s:ah}{it:Tab}
def e9 (prog:aW)(w:bv)(A:bo)(E:aa->ah->Prop)(s:ah)(it:Tab){α β:Type}[Cv it β α](m:StateT SortSt ip α)(m':PM β):Prop :=
 ∀(ps:PS) (b:β) (mL:PS),m'.run ps=some (b,mL)->∀Q:α->SortSt->Prop,Q (Cv.cv it b) (emb it mL)->wpS (aS prog w) A E s m Q (emb it ps)
theorem zl {α β:Type}[Cv it β α]{a:α}{b:β}(h:a=Cv.cv it b):e9 prog w A E s it (pure a) (pure b):=by
 intro ps b' mL e Q q
 cases e
 rw[h]
 exact wpS_pure q
theorem zk {α β γ δ:Type}[Cv it β α][Cv it δ γ]{m:StateT SortSt ip α}{k:α->StateT SortSt ip γ}{m':PM β}{k':β->PM δ}(h:e9 prog w A E s it m m')(hk:∀b,e9 prog w A E s it (k (Cv.cv it b)) (k' b)):e9 prog w A E s it (m >>= k) (m' >>= k'):=by
 intro ps d mL e Q q
 rw[StateT.run_bind]at e
 obtain⟨⟨b,MP⟩,e1,e2⟩:=Option.bind_eq_some_iff.mp e
 exact wpS_bind (h ps b MP e1 _ (hk b MP d mL e2 Q q))
theorem wp {α β:Type}[Cv it β α]{c:Prop}[Decidable c]{m n:StateT SortSt ip α}{m' n':PM β}(h1:c->e9 prog w A E s it m m')(h2:¬c->e9 prog w A E s it n n'):e9 prog w A E s it (if c then m else n) (if c then m' else n'):=by
 by_cases hc:c
 ·rw[if_pos hc,if_pos hc];exact h1 hc
 ·rw[if_neg hc,if_neg hc];exact h2 hc
theorem je {γ δ:Type}[Cv it δ γ]{k:SortSt->StateT SortSt ip γ}{k':PS->PM δ}(h:∀ps,e9 prog w A E s it (k (emb it ps)) (k' ps)):e9 prog w A E s it (get >>= k) (get >>= k'):=by
 intro ps d mL e Q q
 exact wpS_bind (wpS_get (h ps ps d mL e Q q))
theorem qo {α β:Type}[Cv it β α]{m:StateT SortSt ip α}:e9 prog w A E s it m (failure:PM β):=by
 intro ps d mL e Q q
 cases e
theorem Ol {α β:Type}[Cv it β α]{f:Nat->α->StateT SortSt ip (ForInStep α)}{f':Nat->β->PM (ForInStep β)}(h:∀x b,e9 prog w A E s it (f x (Cv.cv it b)) (f' x b)):∀(l:List Nat) (b:β),e9 prog w A E s it (forIn l (Cv.cv it b) f) (forIn l b f')
 |[],b=>by rw[jF,jF];exact zl rfl
 |x::l,b=>by
  rw[gh,gh]
  refine zk (h x b) λr=>?_
  cases r with
  |done b'=>exact zl rfl
  |yield b'=>exact Ol h l b'
theorem um {α β:Type}[Cv it β α]{f:Nat->α->StateT SortSt ip (ForInStep α)}{f':Nat->β->PM (ForInStep β)}{a:α}{b:β}{i j:Nat}(hb:a=Cv.cv it b)(h:∀x b,e9 prog w A E s it (f x (Cv.cv it b)) (f' x b)):e9 prog w A E s it (forIn [i:j] a f) (forIn [i:j] b f'):=by
 rw[Std.Legacy.Range.forIn_eq_forIn_range',Std.Legacy.Range.forIn_eq_forIn_range',hb]
 exact Ol h _ _
theorem OD {F:SortSt->SortSt}{F':PS->PS}(h:∀ps,F (emb it ps)=emb it (F' ps)):e9 prog w A E s it (modify F) (modify F'):=by
 intro ps d mL e Q q
 cases e
 exact wpS_modify (by rw[h];exact q)
theorem Gn {x:String}:e9 prog w A E s it (liftM (rule x):StateT SortSt ip PUnit) (pure PUnit.unit):=by
 intro ps d mL e Q q
 cases e
 exact wpS_lift (wpAny_rule ⟨rfl,q⟩)
theorem uv {arr:Array Ix}{i:Nat}:e9 prog w A E s it (elem' (Cv.cv it arr) i) (lr arr i):=by
 intro ps d mL e Q q
 rw[elem'_eq]
 have e':(Cv.cv it arr:Array Keyed)[i]?=(arr[i]?).map (itm it):=by show(arr.map (itm it))[i]?=_;simp
 rw[e']
 unfold lr at e
 rw[cF]at e
 cases h:arr[i]? with
 |none=>rw[h]at e;cases e
 |some x=>rw[h]at e;cases e;exact wpS_pure q
theorem zhl {x y:Ix}:e9 prog w A E s it (lt' (Cv.cv it x) (Cv.cv it y)) (DR (λi j=>decide (it.k i<it.k j)) x y):=by
 intro ps d mL e Q q
 cases e
 rw[lt'_eq]
 refine wpS_bind (wpS_get ?_)
 show wpS _ _ _ _ (do let r ← (liftM (keyLt' oneType' _ _).attempt:StateT SortSt ip _);_) _ _
 rw[keyLt'_oneType]
 refine wpS_bind (wpS_lift (wpAny_attempt (oneLt_int ⟨rfl,?_⟩)))
 exact wpS_pure q
theorem J9 {F:SortSt->SortSt}{m:PM Unit}{F':PS->PS}(hm:∀ps,m ps=some ((),F' ps))(h:∀ps,F (emb it ps)=emb it (F' ps)):e9 prog w A E s it (modify F) m:=by
 intro ps d mL e Q q
 have e:m ps=some (d,mL):=e
 rw[hm]at e
 cases e
 exact wpS_modify (by rw[h];exact q)
theorem zo6 {i j:Nat}:e9 prog w A E s it (reverseSlice' i j) (qK i j):=by
 rw[reverseSlice'_eq]
 refine J9 (F':=λs=>PS.mk (mirror s.a i j ((j-i)/2)) s.pend s.mg) (λps=>by unfold qK;rw[frc_eq]) λps=>?_
 show SortSt.mk' _ (mirror (ps.a.map (itm it)) i j ((j-i)/2)) _ _ _=SortSt.mk' _ ((mirror ps.a i j ((j-i)/2)).map (itm it)) _ _ _
 have e1:mirror (ps.a.map (itm it)) i j ((j-i)/2)=(mirror ps.a i j ((j-i)/2)).map (itm it):=nu (itm it) (λk=>i+k) (λk=>j-1-k) _ ps.a
 rw[e1];rfl
theorem zme {k l:Nat}:e9 prog w A E s it (moveDown' k l) (sE k l):=by
 rw[moveDown'_eq]
 refine J9 (F':=λs=>PS.mk (bubble s.a k (k-l)) s.pend s.mg) (λps=>by unfold sE;rw[frc_eq,Yl]) λps=>?_
 show SortSt.mk' _ (bubble (ps.a.map (itm it)) k (k-l)) _ _ _=SortSt.mk' _ ((bubble ps.a k (k-l)).map (itm it)) _ _ _
 have e1:bubble (ps.a.map (itm it)) k (k-l)=(bubble ps.a k (k-l)).map (itm it):=nu (itm it) (λi=>k-i) (λi=>k-i-1) _ ps.a
 rw[e1];rfl
abbrev Tab.lt (it:Tab)(i j:Nat):Bool:=decide (it.k i<it.k j)
theorem zmf {i j:Nat}:e9 prog w A E s it (ltAt' i j) (md it.lt i j):=by
 rw[ltAt'_eq]
 exact je λps=>zk (uv (arr:=ps.a)) λx=>zk (uv (arr:=ps.a)) λy=>zhl
section
variable {α β γ δ:Type}[Cv it β α][Cv it δ γ]
theorem zhm (n:Nat):Cv.cv it n=n:=rfl
theorem zj5 (n:Bool):Cv.cv it n=n:=rfl
theorem zj6 (n:PUnit):Cv.cv it n=n:=rfl
theorem zd2 (x:β)(y:δ):Cv.cv it (x,y)=(Cv.cv it x,Cv.cv it y):=rfl
theorem zgj:Cv.cv it (none:Option β)=none:=rfl
theorem zgk (x:β):Cv.cv it (some x)=some (Cv.cv it x):=rfl
theorem zj7 (x:β):Cv.cv it (ForInStep.done x)=ForInStep.done (Cv.cv it x):=rfl
theorem zhn (x:β):Cv.cv it (ForInStep.yield x)=ForInStep.yield (Cv.cv it x):=rfl
end
theorem zj8 (a:Array Ix)(x:Ix):(Cv.cv it a:Array Keyed).push (Cv.cv it x)=Cv.cv it (a.push x):=(Array.map_push ..).symm
theorem za5 (a:Array Ix):(Cv.cv it a:Array Keyed).size=a.size:=er ..
theorem jw (a:Array Ix)(i j:Nat):(Cv.cv it a:Array Keyed).extract i j=Cv.cv it (a.extract i j):=by show(a.map _).extract i j=(a.extract i j).map _;simp
theorem q0 (a b:Array Ix):(Cv.cv it a:Array Keyed)++(Cv.cv it b:Array Keyed)=Cv.cv it (a++b):=by show(a.map _)++(b.map _)=(a++b).map _;simp
theorem zho (a:Array Ix):(Cv.cv it a:Array Keyed).reverse=Cv.cv it a.reverse:=by show(a.map _).reverse=a.reverse.map _;simp
theorem zbn (x:Ix):(#[Cv.cv it x]:Array Keyed)=Cv.cv it #[x]:=by show _=(#[x]:Array Ix).map _;simp;rfl
theorem zn2 {α β:Type}[Cv it β α]{x:String}{k:PUnit->StateT SortSt ip α}{m:PM β}(h:e9 prog w A E s it (k PUnit.unit) m):e9 prog w A E s it (liftM (rule x) >>= k) m:=by
 intro ps d mL e Q q
 exact wpS_bind (wpS_lift (wpAny_rule ⟨rfl,h ps d mL e Q q⟩))
section
variable {α β γ δ:Type}[Cv it β α][Cv it δ γ]
theorem zn3 (p:β×δ):(Cv.cv it p).fst=Cv.cv it p.fst:=rfl
theorem zn4 (p:β×δ):(Cv.cv it p).snd=Cv.cv it p.snd:=rfl
end
local macro_rules| `(tactic|walk_at "cv")=>`(tactic|simp only[zhm,zj5,zj6,zd2,zgj,zgk,zj7,zhn,zj8,za5,jw,q0,zho,zbn,zn3,zn4])
local macro_rules| `(tactic|walk_at "opt")=>`(tactic|(rintro(_|b)<;>(try walk_at "cv")<;>(try dsimp only)))
local macro_rules| `(tactic|walk_at "tidy")=>`(tactic|((try walk_at "cv");(try dsimp only)))
local macro_rules| `(tactic|walk_at "sim")=>`(tactic|repeat' (first|exact zl rfl|exact qo|(refine wp (λ_=>?_) (λ_=>?_))|(refine zk zmf ?_;walk_at "opt")|(refine zk zo6 λ_=>?_)|(refine zk zme λ_=>?_)|(refine zn2 ?_)|(refine zk (um rfl λx b=>?_) λb=>?_<;>walk_at "tidy")|(rename_i b;generalize b.fst=o;rcases o with _|r<;>walk_at "tidy")))
theorem Wu {lo pq:Nat}:e9 prog w A E s it (countRun' lo pq) (pv it.lt lo pq):=by
 rw[countRun'_eq]
 unfold pv
 dsimp only
 walk_at "sim"
theorem Ym {lo n ok:Nat}:e9 prog w A E s it (binarySort' lo n ok) (zF it.lt lo n ok):=by
 rw[binarySort'_eq]
 unfold zF
 dsimp only
 walk_at "sim"
theorem zit {left:Bool}{key:Ix}{arr:Array Ix}{base i:Nat}:e9 prog w A E s it (jA left (Cv.cv it key) (Cv.cv it arr) base i) (jD it.lt left key arr base i):=by
 unfold jA jD
 refine zk uv λx=>?_
 cases left with
 |true=>exact zhl
 |false=>
  refine zk zhl ?_
  rintro(_|b)<;>exact zl rfl
local macro_rules| `(tactic|walk_at "gal")=>`(tactic|repeat' (first|exact zl rfl|exact qo|(refine wp (λ_=>?_) (λ_=>?_))|(refine zk zit ?_;walk_at "opt")|(refine zk (um rfl λx b=>?_) λb=>?_<;>walk_at "tidy")|(rename_i b;generalize b.fst=o;rcases o with _|r<;>walk_at "tidy")))
theorem za6 {left:Bool}{key:Ix}{arr:Array Ix}{base n hint:Nat}:e9 prog w A E s it (gp left (Cv.cv it key) (Cv.cv it arr) base n hint) (kC it.lt left key arr base n hint):=by
 rw[Wm]
 unfold kC
 dsimp only
 walk_at "gal"
end
end TS
end L2
set_option maxHeartbeats 4000000
namespace L2
namespace TS
open PySem PySem.Spec PyProof.Rows
structure Fi (m:Type->Type)(κ:Type) where
 elem:Array κ->Nat->m κ
 lt:κ->κ->m (Option Bool)
 gal:Bool->κ->Array κ->Nat->Nat->Nat->m (Option Nat)
 setMG:Nat->m Unit
 getMG:(Nat->m (Array κ))->m (Array κ)
 rule:String->m PUnit
 bad:String->m (Array κ)
abbrev S1 (κ:Type):=Option (Array κ)×Array κ×Nat×Nat×Nat×Nat
abbrev S2 (κ:Type):=Option (Array κ)×Array κ×Nat×Nat×Nat×Nat×Nat
abbrev S0 (κ:Type):=Option (Array κ)×Array κ×Nat×Nat×Nat
section
variable {m:Type->Type}[Monad m]{κ:Type}(O:Fi m κ)(a b:Array κ)(na nb:Nat)
def dn (out:Array κ)(ia ib:Nat):Array κ:=out++a.extract ia na++b.extract ib nb
def ls (out:Array κ)(ia ib:Nat):Array κ:=out++b.extract ib nb++a.extract ia na
def lo1 (mg:Nat)(s:S1 κ):m (ForInStep (S1 κ)) :=
 O.elem b s.2.2.2.1 >>= λy=>O.elem a s.2.2.1 >>= λx=>O.lt y x >>= λr=>match r with
  |some w=>if w=true then O.elem b s.2.2.2.1 >>= λz=>
     if(s.2.2.2.1+1==nb)=true then pure (.done (some (dn a b na nb (s.2.1.push z) s.2.2.1 (s.2.2.2.1+1)),s.2.1.push z,s.2.2.1,s.2.2.2.1+1,0,s.2.2.2.2.2+1))
     else if s.2.2.2.2.2+1 >= mg then pure (.done (none,s.2.1.push z,s.2.2.1,s.2.2.2.1+1,0,s.2.2.2.2.2+1))else pure (.yield (none,s.2.1.push z,s.2.2.1,s.2.2.2.1+1,0,s.2.2.2.2.2+1))
    else O.elem a s.2.2.1 >>= λz=>
     if(s.2.2.1+1+1==na)=true then pure (.done (some (ls a b na nb (s.2.1.push z) (s.2.2.1+1) s.2.2.2.1),s.2.1.push z,s.2.2.1+1,s.2.2.2.1,s.2.2.2.2.1+1,0))
     else if s.2.2.2.2.1+1 >= mg then pure (.done (none,s.2.1.push z,s.2.2.1+1,s.2.2.2.1,s.2.2.2.2.1+1,0))else pure (.yield (none,s.2.1.push z,s.2.2.1+1,s.2.2.2.1,s.2.2.2.2.1+1,0))
  |_=>pure (.done (some (dn a b na nb s.2.1 s.2.2.1 s.2.2.2.1),s.2.1,s.2.2.1,s.2.2.2.1,s.2.2.2.2.1,s.2.2.2.2.2))
def vO (out:Array κ)(ia ib mg ac bc:Nat):m (ForInStep (S2 κ)) :=
 O.elem a ia >>= λz=>if(ia+1+1==na)=true then pure (.done (some (ls a b na nb (out.push z) (ia+1) ib),out.push z,ia+1,ib,mg,ac,bc))
  else if(decide (ac<7)&&decide (bc<7))=true then pure (.done (none,out.push z,ia+1,ib,mg,ac,bc))else pure (.yield (none,out.push z,ia+1,ib,mg,ac,bc))
def vN (out:Array κ)(ia ib mg ac Bx:Nat):m (ForInStep (S2 κ)) :=
 O.elem b ib >>= λz=>if(ib+1==nb)=true then pure (.done (some (dn a b na nb (out.push z) ia (ib+1)),out.push z,ia,ib+1,mg,ac,Bx))
  else O.elem a ia >>= λx=>O.gal true x b (ib+1) (nb-(ib+1)) 0 >>= λr=>match r with
   |some k=>if k > 0 then(if(ib+1+k==nb)=true then pure (.done (some (dn a b na nb (out.push z++b.extract (ib+1) (ib+1+k)) ia (ib+1+k)),out.push z++b.extract (ib+1) (ib+1+k),ia,ib+1+k,mg,ac,k))
      else vO O a b na nb (out.push z++b.extract (ib+1) (ib+1+k)) ia (ib+1+k) mg ac k)
     else vO O a b na nb (out.push z) ia (ib+1) mg ac k
   |_=>pure (.done (some (dn a b na nb (out.push z) ia (ib+1)),out.push z,ia,ib+1,mg,ac,Bx))
def As (out:Array κ)(ia ib mg G1 bc:Nat):m (ForInStep (S2 κ)) :=
 O.setMG mg >>= λ_=>O.elem b ib >>= λy=>O.gal false y a ia (na-ia) 0 >>= λr=>match r with
  |some k=>if k > 0 then(if(ia+k+1==na)=true then pure (.done (some (ls a b na nb (out++a.extract ia (ia+k)) (ia+k) ib),out++a.extract ia (ia+k),ia+k,ib,mg,k,bc))
     else if(ia+k==na)=true then pure (.done (some (dn a b na nb (out++a.extract ia (ia+k)) (ia+k) ib),out++a.extract ia (ia+k),ia+k,ib,mg,k,bc))
     else vN O a b na nb (out++a.extract ia (ia+k)) (ia+k) ib mg k bc)
    else vN O a b na nb out ia ib mg k bc
  |_=>pure (.done (some (dn a b na nb out ia ib),out,ia,ib,mg,G1,bc))
def FV (s:S2 κ):m (ForInStep (S2 κ)):=if s.2.2.2.2.1 > 1 then As O a b na nb s.2.1 s.2.2.1 s.2.2.2.1 (s.2.2.2.2.1-1) s.2.2.2.2.2.1 s.2.2.2.2.2.2 else As O a b na nb s.2.1 s.2.2.1 s.2.2.2.1 s.2.2.2.2.1 s.2.2.2.2.2.1 s.2.2.2.2.2.2
def DH (s:S0 κ):m (ForInStep (S0 κ)) :=
 forIn [0:na+nb] ((none,s.2.1,s.2.2.1,s.2.2.2.1,0,0):S1 κ) (λ_ t=>lo1 O a b na nb s.2.2.2.2 t) >>= λt=>match t.1 with
  |some r=>pure (.done (some r,t.2.1,t.2.2.1,t.2.2.2.1,s.2.2.2.2))
  |none=>O.rule "list.sort.gallop" >>= λ_=>forIn [0:na+nb] ((none,t.2.1,t.2.2.1,t.2.2.2.1,s.2.2.2.2+1,t.2.2.2.2.1,t.2.2.2.2.2):S2 κ) (λ_ u=>FV O a b na nb u) >>= λu=>match u.1 with
   |some r=>pure (.done (some r,u.2.1,u.2.2.1,u.2.2.2.1,u.2.2.2.2.1))
   |none=>O.setMG (u.2.2.2.2.1+1) >>= λ_=>pure (.yield (none,u.2.1,u.2.2.1,u.2.2.2.1,u.2.2.2.2.1+1))
def DJ:m (Array κ) :=
 O.rule "list.sort.merge-lo" >>= λ_=>O.elem b 0 >>= λz=>if(1==nb)=true then pure (dn a b na nb #[z] 0 1)else if(0+1==na)=true then pure (ls a b na nb #[z] 0 1)
  else O.getMG λg=>forIn [0:na+nb] ((none,#[z],0,1,g):S0 κ) (λ_ s=>DH O a b na nb s) >>= λs=>match s.1 with
   |some r=>pure r
   |none=>O.bad "internal:list.sort.merge-bound"
end
abbrev T1 (κ:Type):=Option (Array κ)×Nat×Nat×Array κ×Nat×Nat
abbrev T2 (κ:Type):=Option (Array κ)×Nat×Nat×Array κ×Nat×Nat×Nat
abbrev T0 (κ:Type):=Option (Array κ)×Nat×Nat×Array κ×Nat
section
variable {m:Type->Type}[Monad m]{κ:Type}(O:Fi m κ)(a b:Array κ)
def rj (out:Array κ)(i j:Nat):Array κ:=a.extract 0 i++b.extract 0 j++out.reverse
def vP (out:Array κ)(i j:Nat):Array κ:=b.extract 0 j++a.extract 0 i++out.reverse
def CM (mg:Nat)(s:T1 κ):m (ForInStep (T1 κ)) :=
 O.elem b (s.2.2.1-1) >>= λy=>O.elem a (s.2.1-1) >>= λx=>O.lt y x >>= λr=>match r with
  |some w=>if w=true then O.elem a (s.2.1-1) >>= λz=>
     if(s.2.1-1==0)=true then pure (.done (some (rj a b (s.2.2.2.1.push z) (s.2.1-1) s.2.2.1),s.2.1-1,s.2.2.1,s.2.2.2.1.push z,s.2.2.2.2.1+1,0))
     else if s.2.2.2.2.1+1 >= mg then pure (.done (none,s.2.1-1,s.2.2.1,s.2.2.2.1.push z,s.2.2.2.2.1+1,0))else pure (.yield (none,s.2.1-1,s.2.2.1,s.2.2.2.1.push z,s.2.2.2.2.1+1,0))
    else O.elem b (s.2.2.1-1) >>= λz=>
     if(s.2.2.1-1==1)=true then pure (.done (some (vP a b (s.2.2.2.1.push z) s.2.1 (s.2.2.1-1)),s.2.1,s.2.2.1-1,s.2.2.2.1.push z,0,s.2.2.2.2.2+1))
     else if s.2.2.2.2.2+1 >= mg then pure (.done (none,s.2.1,s.2.2.1-1,s.2.2.2.1.push z,0,s.2.2.2.2.2+1))else pure (.yield (none,s.2.1,s.2.2.1-1,s.2.2.2.1.push z,0,s.2.2.2.2.2+1))
  |_=>pure (.done (some (rj a b s.2.2.2.1 s.2.1 s.2.2.1),s.2.1,s.2.2.1,s.2.2.2.1,s.2.2.2.2.1,s.2.2.2.2.2))
def vC (i j:Nat)(out:Array κ)(mg ac bc:Nat):m (ForInStep (T2 κ)) :=
 O.elem a (i-1) >>= λz=>if(i-1==0)=true then pure (.done (some (rj a b (out.push z) (i-1) j),i-1,j,out.push z,mg,ac,bc))
  else if(decide (ac<7)&&decide (bc<7))=true then pure (.done (none,i-1,j,out.push z,mg,ac,bc))else pure (.yield (none,i-1,j,out.push z,mg,ac,bc))
def vB (i j:Nat)(out:Array κ)(mg ac Bx:Nat):m (ForInStep (T2 κ)) :=
 O.elem b (j-1) >>= λz=>if(j-1==1)=true then pure (.done (some (vP a b (out.push z) i (j-1)),i,j-1,out.push z,mg,ac,Bx))
  else O.elem a (i-1) >>= λx=>O.gal true x b 0 (j-1) (j-1-1) >>= λr=>match r with
   |some k=>if j-1-k > 0 then(if(k==1)=true then pure (.done (some (vP a b (out.push z++(b.extract k (j-1)).reverse) i k),i,k,out.push z++(b.extract k (j-1)).reverse,mg,ac,j-1-k))
      else if(k==0)=true then pure (.done (some (rj a b (out.push z++(b.extract k (j-1)).reverse) i k),i,k,out.push z++(b.extract k (j-1)).reverse,mg,ac,j-1-k))
      else vC O a b i k (out.push z++(b.extract k (j-1)).reverse) mg ac (j-1-k))
     else vC O a b i (j-1) (out.push z) mg ac (j-1-k)
   |_=>pure (.done (some (rj a b (out.push z) i (j-1)),i,j-1,out.push z,mg,ac,Bx))
def Ao (i j:Nat)(out:Array κ)(mg G1 bc:Nat):m (ForInStep (T2 κ)) :=
 O.setMG mg >>= λ_=>O.elem b (j-1) >>= λy=>O.gal false y a 0 i (i-1) >>= λr=>match r with
  |some k=>if i-k > 0 then(if(k==0)=true then pure (.done (some (rj a b (out++(a.extract k i).reverse) k j),k,j,out++(a.extract k i).reverse,mg,i-k,bc))
     else vB O a b k j (out++(a.extract k i).reverse) mg (i-k) bc)
    else vB O a b i j out mg (i-k) bc
  |_=>pure (.done (some (rj a b out i j),i,j,out,mg,G1,bc))
def vA (s:T2 κ):m (ForInStep (T2 κ)):=if s.2.2.2.2.1 > 1 then Ao O a b s.2.1 s.2.2.1 s.2.2.2.1 (s.2.2.2.2.1-1) s.2.2.2.2.2.1 s.2.2.2.2.2.2 else Ao O a b s.2.1 s.2.2.1 s.2.2.2.1 s.2.2.2.2.1 s.2.2.2.2.2.1 s.2.2.2.2.2.2
def CL (n:Nat)(s:T0 κ):m (ForInStep (T0 κ)) :=
 forIn [0:n] ((none,s.2.1,s.2.2.1,s.2.2.2.1,0,0):T1 κ) (λ_ t=>CM O a b s.2.2.2.2 t) >>= λt=>match t.1 with
  |some r=>pure (.done (some r,t.2.1,t.2.2.1,t.2.2.2.1,s.2.2.2.2))
  |none=>O.rule "list.sort.gallop" >>= λ_=>forIn [0:n] ((none,t.2.1,t.2.2.1,t.2.2.2.1,s.2.2.2.2+1,t.2.2.2.2.1,t.2.2.2.2.2):T2 κ) (λ_ u=>vA O a b u) >>= λu=>match u.1 with
   |some r=>pure (.done (some r,u.2.1,u.2.2.1,u.2.2.2.1,u.2.2.2.2.1))
   |none=>O.setMG (u.2.2.2.2.1+1) >>= λ_=>pure (.yield (none,u.2.1,u.2.2.1,u.2.2.2.1,u.2.2.2.2.1+1))
def DI (na nb:Nat):m (Array κ) :=
 O.rule "list.sort.merge-hi" >>= λ_=>O.elem a (na-1) >>= λz=>if(na-1==0)=true then pure (rj a b #[z] (na-1) nb)else if(nb==1)=true then pure (vP a b #[z] (na-1) nb)
  else O.getMG λg=>forIn [0:na+nb] ((none,na-1,nb,#[z],g):T0 κ) (λ_ s=>CL O a b (na+nb) s) >>= λs=>match s.1 with
   |some r=>pure r
   |none=>O.bad "internal:list.sort.merge-bound"
end
noncomputable def ma:Array Keyed->Array Keyed->StateT SortSt ip (Array Keyed):=sortPriv% PySem.Builtin.mergeLo
noncomputable def lZ:Array Keyed->Array Keyed->StateT SortSt ip (Array Keyed):=sortPriv% PySem.Builtin.mergeHi
noncomputable def d9:Nat->StateT SortSt ip Unit:=sortPriv% PySem.Builtin.setMinGallop
noncomputable def sJ (g:Nat):PM Unit:=modify λs=>PS.mk s.a s.pend g
noncomputable def PO (lt:Nat->Nat->Bool):Fi PM Ix:=⟨lr,DR lt,kC lt,sJ,λk=>get >>= λs=>k s.mg,λ_=>pure PUnit.unit,λ_=>failure⟩
noncomputable def RO:Fi (StateT SortSt ip) Keyed:=⟨elem',lt',gp,d9,λk=>get >>= λs=>k (gallopOf s),λx=>liftM (rule x),λx=>unsupported x⟩
theorem VQ (a b:Array Keyed):ma a b=(do
 rule "list.sort.merge-lo"
 let total:=a.size+b.size
 let done (out:Array Keyed) (ia ib:Nat):=out++a.extract ia a.size++b.extract ib b.size
 let lP (out:Array Keyed) (ia ib:Nat):=out++b.extract ib b.size++a.extract ia a.size
 let mut out:Array Keyed:=#[←elem' b 0]
 let mut ia:=0
 let mut ib:=1
 if ib==b.size then return done out ia ib
 if ia+1==a.size then return lP out ia ib
 let mut minGallop:=gallopOf (← get)
 for _ in[0:total]do
  let mut acount:=0
  let mut bcount:=0
  for _ in[0:total]do
   let some Bw ← lt' (← elem' b ib) (← elem' a ia)|return done out ia ib
   if Bw then
    out:=out.push (← elem' b ib);ib:=ib+1;bcount:=bcount+1;acount:=0
    if ib==b.size then return done out ia ib
    if bcount >= minGallop then break
   else
    out:=out.push (← elem' a ia);ia:=ia+1;acount:=acount+1;bcount:=0
    if ia+1==a.size then return lP out ia ib
    if acount >= minGallop then break
  rule "list.sort.gallop"
  minGallop:=minGallop+1
  for _ in[0:total]do
   if minGallop > 1 then minGallop:=minGallop-1
   d9 minGallop
   let some k ← gp false (← elem' b ib) a ia (a.size-ia) 0|return done out ia ib
   acount:=k
   if k > 0 then
    out:=out++a.extract ia (ia+k);ia:=ia+k
    if ia+1==a.size then return lP out ia ib
    if ia==a.size then return done out ia ib
   out:=out.push (← elem' b ib);ib:=ib+1
   if ib==b.size then return done out ia ib
   let some k ← gp true (← elem' a ia) b ib (b.size-ib) 0|return done out ia ib
   bcount:=k
   if k > 0 then
    out:=out++b.extract ib (ib+k);ib:=ib+k
    if ib==b.size then return done out ia ib
   out:=out.push (← elem' a ia);ia:=ia+1
   if ia+1==a.size then return lP out ia ib
   if acount<7&&bcount<7 then break
  minGallop:=minGallop+1
  d9 minGallop
 unsupported "internal:list.sort.merge-bound"):=rfl
set_option maxHeartbeats 400000
theorem VR (a b:Array Keyed):ma a b=DJ RO a b a.size b.size:=by
 rw[VQ]
 unfold DJ DH lo1 FV As vN vO dn ls RO
 dsimp only
 refine congrArg _ (funext λu=>?_)
 refine congrArg _ (funext λz=>?_)
 refine ite_congr rfl (λ_=>rfl) λ_=>?_
 refine ite_congr rfl (λ_=>rfl) λ_=>?_
 refine congrArg _ (funext λs=>?_)
 refine congr (congrArg _ (congrArg _ (funext λx=>funext λt=>?_))) (funext λt=>?_)
 ·refine congr (congrArg _ (congrArg _ (funext λx=>funext λt=>?_))) (funext λt=>?_)
  ·rfl
  ·generalize t.1=o
   cases o with
   |some r=>rfl
   |none=>
    dsimp only
    refine congrArg _ (funext λu=>?_)
    refine congr (congrArg _ (congrArg _ (funext λx=>funext λt=>?_))) (funext λt=>?_)
    ·refine ite_congr rfl (λ_=>?_) λ_=>?_
     ·rfl
     ·rfl
    ·generalize t.1=o
     cases o with
     |some r=>rfl
     |none=>rfl
 ·generalize t.1=o
  cases o with
  |none=>rfl
  |some r=>rfl
theorem VS (a b:Array Keyed):lZ a b=(do
 rule "list.sort.merge-hi"
 let total:=a.size+b.size
 let done (out:Array Keyed) (na nb:Nat):=a.extract 0 na++b.extract 0 nb++out.reverse
 let kB (out:Array Keyed) (na nb:Nat):=b.extract 0 nb++a.extract 0 na++out.reverse
 let mut na:=a.size-1
 let mut nb:=b.size
 let mut out:Array Keyed:=#[←elem' a na]
 if na==0 then return done out na nb
 if nb==1 then return kB out na nb
 let mut minGallop:=gallopOf (← get)
 for _ in[0:total]do
  let mut acount:=0
  let mut bcount:=0
  for _ in[0:total]do
   let some AX ← lt' (← elem' b (nb-1)) (← elem' a (na-1))|return done out na nb
   if AX then
    na:=na-1;out:=out.push (← elem' a na);acount:=acount+1;bcount:=0
    if na==0 then return done out na nb
    if acount >= minGallop then break
   else
    nb:=nb-1;out:=out.push (← elem' b nb);bcount:=bcount+1;acount:=0
    if nb==1 then return kB out na nb
    if bcount >= minGallop then break
  rule "list.sort.gallop"
  minGallop:=minGallop+1
  for _ in[0:total]do
   if minGallop > 1 then minGallop:=minGallop-1
   d9 minGallop
   let some at_ ← gp false (← elem' b (nb-1)) a 0 na (na-1)|return done out na nb
   let k:=na-at_
   acount:=k
   if k > 0 then
    out:=out++(a.extract at_ na).reverse;na:=at_
    if na==0 then return done out na nb
   nb:=nb-1;out:=out.push (← elem' b nb)
   if nb==1 then return kB out na nb
   let some at_ ← gp true (← elem' a (na-1)) b 0 nb (nb-1)|return done out na nb
   let k:=nb-at_
   bcount:=k
   if k > 0 then
    out:=out++(b.extract at_ nb).reverse;nb:=at_
    if nb==1 then return kB out na nb
    if nb==0 then return done out na nb
   na:=na-1;out:=out.push (← elem' a na)
   if na==0 then return done out na nb
   if acount<7&&bcount<7 then break
  minGallop:=minGallop+1
  d9 minGallop
 unsupported "internal:list.sort.merge-bound"):=rfl
theorem VT (a b:Array Keyed):lZ a b=DI RO a b a.size b.size:=by
 rw[VS]
 unfold DI CL CM vA Ao vB vC rj vP RO
 dsimp only
 refine congrArg _ (funext λu=>?_)
 refine congrArg _ (funext λz=>?_)
 refine ite_congr rfl (λ_=>rfl) λ_=>?_
 refine ite_congr rfl (λ_=>rfl) λ_=>?_
 refine congrArg _ (funext λs=>?_)
 refine congr (congrArg _ (congrArg _ (funext λx=>funext λt=>?_))) (funext λt=>?_)
 ·refine congr (congrArg _ (congrArg _ (funext λx=>funext λt=>?_))) (funext λt=>?_)
  ·rfl
  ·generalize t.1=o
   cases o with
   |some r=>rfl
   |none=>
    dsimp only
    refine congrArg _ (funext λu=>?_)
    refine congr (congrArg _ (congrArg _ (funext λx=>funext λt=>?_))) (funext λt=>?_)
    ·refine ite_congr rfl (λ_=>?_) λ_=>?_
     ·rfl
     ·rfl
    ·generalize t.1=o
     cases o with
     |some r=>rfl
     |none=>rfl
 ·generalize t.1=o
  cases o with
  |none=>rfl
  |some r=>rfl
section
variable {prog:aW}{w:bv}{A:bo}{E:aa->ah->Prop}{s:ah}{it:Tab}{a b out:Array Ix}{na nb:Nat}
theorem zcg {g:Nat}:e9 prog w A E s it (d9 g) (sJ g):=OD λps=>rfl
theorem zr8 (i j:Nat):dn (Cv.cv it a) (Cv.cv it b) na nb (Cv.cv it out:Array Keyed) i j=Cv.cv it (dn a b na nb out i j):=by unfold dn;rw[jw,jw,q0,q0]
theorem zr9 (i j:Nat):ls (Cv.cv it a) (Cv.cv it b) na nb (Cv.cv it out:Array Keyed) i j=Cv.cv it (ls a b na nb out i j):=by unfold ls;rw[jw,jw,q0,q0]
theorem zn5 (i j:Nat):rj (Cv.cv it a) (Cv.cv it b) (Cv.cv it out:Array Keyed) i j=Cv.cv it (rj a b out i j):=by unfold rj;rw[jw,jw,zho,q0,q0]
theorem zn6 (i j:Nat):vP (Cv.cv it a) (Cv.cv it b) (Cv.cv it out:Array Keyed) i j=Cv.cv it (vP a b out i j):=by unfold vP;rw[jw,jw,zho,q0,q0]
local macro_rules| `(tactic|walk_at "cv")=>`(tactic|simp only[zhm,zj5,zj6,zd2,zgj,zgk,zj7,zhn,zj8,za5,jw,q0,zho,zbn,zn3,zn4,zr8,zr9,zn5,zn6])
local macro_rules| `(tactic|walk_at "opt")=>`(tactic|(rintro(_|b)<;>(try walk_at "cv")<;>(try dsimp only)))
local macro_rules| `(tactic|walk_at "mrg")=>`(tactic|repeat' (first|(refine wp (λ_=>?_) (λ_=>?_))|(refine zk uv λ_=>?_)|(refine zk zhl ?_;walk_at "opt")|(refine zk za6 ?_;walk_at "opt")|(refine zk zcg λ_=>?_)|assumption|(refine zl ?_;walk_at "cv";done)))
theorem Yn {mg:Nat}(t:S1 Ix):e9 prog w A E s it (lo1 RO (Cv.cv it a) (Cv.cv it b) na nb mg (Cv.cv it t)) (lo1 (PO it.lt) a b na nb mg t):=by
 obtain⟨r,out,ia,ib,ac,bc⟩:=t
 unfold lo1 RO PO
 walk_at "cv"
 walk_at "mrg"
theorem Yo (out:Array Ix)(ia ib mg ac bc:Nat):e9 prog w A E s it (vO RO (Cv.cv it a) (Cv.cv it b) na nb (Cv.cv it out) ia ib mg ac bc) (vO (PO it.lt) a b na nb out ia ib mg ac bc):=by
 unfold vO RO PO
 dsimp only
 walk_at "mrg"
theorem YM (out:Array Ix)(ia ib mg ac bc:Nat):e9 prog w A E s it (vN RO (Cv.cv it a) (Cv.cv it b) na nb (Cv.cv it out) ia ib mg ac bc) (vN (PO it.lt) a b na nb out ia ib mg ac bc):=by
 have h:=Yo (prog:=prog) (w:=w) (A:=A) (E:=E) (s:=s) (it:=it) (a:=a) (b:=b) (na:=na) (nb:=nb)
 unfold vN
 generalize vO RO (Cv.cv it a) (Cv.cv it b) na nb=F,vO (PO it.lt) a b na nb=F' at *
 unfold RO PO
 walk_at "cv"
 walk_at "mrg"
 all_goals exact h _ _ _ _ _ _
theorem OT (out:Array Ix)(ia ib mg ac bc:Nat):e9 prog w A E s it (As RO (Cv.cv it a) (Cv.cv it b) na nb (Cv.cv it out) ia ib mg ac bc) (As (PO it.lt) a b na nb out ia ib mg ac bc):=by
 have h:=YM (prog:=prog) (w:=w) (A:=A) (E:=E) (s:=s) (it:=it) (a:=a) (b:=b) (na:=na) (nb:=nb)
 unfold As
 generalize vN RO (Cv.cv it a) (Cv.cv it b) na nb=F,vN (PO it.lt) a b na nb=F' at *
 unfold RO PO
 walk_at "cv"
 walk_at "mrg"
 all_goals exact h _ _ _ _ _ _
theorem YN (t:S2 Ix):e9 prog w A E s it (FV RO (Cv.cv it a) (Cv.cv it b) na nb (Cv.cv it t)) (FV (PO it.lt) a b na nb t):=by
 obtain⟨r,out,ia,ib,mg,ac,bc⟩:=t
 exact wp (λ_=>OT _ _ _ _ _ _) (λ_=>OT _ _ _ _ _ _)
theorem YO (t:S0 Ix):e9 prog w A E s it (DH RO (Cv.cv it a) (Cv.cv it b) na nb (Cv.cv it t)) (DH (PO it.lt) a b na nb t):=by
 unfold DH
 refine zk (um (b:=(none,_,_,_,0,0)) rfl λx t=>Yn t) λt=>?_
 obtain⟨o,t⟩:=t
 cases o with
 |some r=>exact zl rfl
 |none=>
  refine zk (α:=PUnit) (β:=PUnit) Gn λ_=>zk (um (b:=(none,_,_,_,_,_,_)) rfl λx t=>YN t) λt=>?_
  obtain⟨o,t⟩:=t
  cases o with
  |some r=>exact zl rfl
  |none=>exact zk zcg λ_=>zl rfl
theorem YQ:e9 prog w A E s it (DJ RO (Cv.cv it a) (Cv.cv it b) na nb) (DJ (PO it.lt) a b na nb):=by
 refine zk (α:=PUnit) (β:=PUnit) Gn λ_=>zk (α:=Keyed) (β:=Ix) uv λz=>wp (λ_=>zl ?_) (λ_=>wp (λ_=>zl ?_) (λ_=>je λps=>?_))
 ·rw[zbn,zr8]
 ·rw[zbn,zr9]
 ·refine zk (um (b:=(none,#[z],0,1,ps.mg)) (by rw[zbn];rfl) λx t=>YO t) λt=>?_
  obtain⟨o,t⟩:=t
  cases o with
  |some r=>exact zl rfl
  |none=>exact qo
theorem YR {mg:Nat}(t:T1 Ix):e9 prog w A E s it (CM RO (Cv.cv it a) (Cv.cv it b) mg (Cv.cv it t)) (CM (PO it.lt) a b mg t):=by
 obtain⟨r,i,j,out,ac,bc⟩:=t
 unfold CM RO PO
 walk_at "cv"
 walk_at "mrg"
theorem YS (i j:Nat)(out:Array Ix)(mg ac bc:Nat):e9 prog w A E s it (vC RO (Cv.cv it a) (Cv.cv it b) i j (Cv.cv it out) mg ac bc) (vC (PO it.lt) a b i j out mg ac bc):=by
 unfold vC RO PO
 dsimp only
 walk_at "mrg"
theorem YT (i j:Nat)(out:Array Ix)(mg ac bc:Nat):e9 prog w A E s it (vB RO (Cv.cv it a) (Cv.cv it b) i j (Cv.cv it out) mg ac bc) (vB (PO it.lt) a b i j out mg ac bc):=by
 have h:=YS (prog:=prog) (w:=w) (A:=A) (E:=E) (s:=s) (it:=it) (a:=a) (b:=b)
 unfold vB
 generalize vC RO (Cv.cv it a) (Cv.cv it b)=F,vC (PO it.lt) a b=F' at *
 unfold RO PO
 walk_at "cv"
 walk_at "mrg"
 all_goals exact h _ _ _ _ _ _
theorem OU (i j:Nat)(out:Array Ix)(mg ac bc:Nat):e9 prog w A E s it (Ao RO (Cv.cv it a) (Cv.cv it b) i j (Cv.cv it out) mg ac bc) (Ao (PO it.lt) a b i j out mg ac bc):=by
 have h:=YT (prog:=prog) (w:=w) (A:=A) (E:=E) (s:=s) (it:=it) (a:=a) (b:=b)
 unfold Ao
 generalize vB RO (Cv.cv it a) (Cv.cv it b)=F,vB (PO it.lt) a b=F' at *
 unfold RO PO
 walk_at "cv"
 walk_at "mrg"
 all_goals exact h _ _ _ _ _ _
theorem YU (t:T2 Ix):e9 prog w A E s it (vA RO (Cv.cv it a) (Cv.cv it b) (Cv.cv it t)) (vA (PO it.lt) a b t):=by
 obtain⟨r,i,j,out,mg,ac,bc⟩:=t
 exact wp (λ_=>OU _ _ _ _ _ _) (λ_=>OU _ _ _ _ _ _)
theorem YV {n:Nat}(t:T0 Ix):e9 prog w A E s it (CL RO (Cv.cv it a) (Cv.cv it b) n (Cv.cv it t)) (CL (PO it.lt) a b n t):=by
 unfold CL
 refine zk (um (b:=(none,_,_,_,0,0)) rfl λx t=>YR t) λt=>?_
 obtain⟨o,t⟩:=t
 cases o with
 |some r=>exact zl rfl
 |none=>
  refine zk (α:=PUnit) (β:=PUnit) Gn λ_=>zk (um (b:=(none,_,_,_,_,_,_)) rfl λx t=>YU t) λt=>?_
  obtain⟨o,t⟩:=t
  cases o with
  |some r=>exact zl rfl
  |none=>exact zk zcg λ_=>zl rfl
theorem YW:e9 prog w A E s it (DI RO (Cv.cv it a) (Cv.cv it b) na nb) (DI (PO it.lt) a b na nb):=by
 refine zk (α:=PUnit) (β:=PUnit) Gn λ_=>zk (α:=Keyed) (β:=Ix) uv λz=>wp (λ_=>zl ?_) (λ_=>wp (λ_=>zl ?_) (λ_=>je λps=>?_))
 ·rw[zbn,zn5]
 ·rw[zbn,zn6]
 ·refine zk (um (b:=(none,na-1,nb,#[z],ps.mg)) (by rw[zbn];rfl) λx t=>YV t) λt=>?_
  obtain⟨o,t⟩:=t
  cases o with
  |some r=>exact zl rfl
  |none=>exact qo
end
end TS
end L2
set_option maxHeartbeats 4000000
namespace L2
namespace TS
open PySem PySem.Spec PyProof.Rows
section
variable (lt:Nat->Nat->Bool)
noncomputable def layAt (sa:Nat)(m:Array Ix)(a:Array Ix):Array Ix:=m.toList.zipIdx.foldl (λa (p,j)=>a.setIfInBounds (sa+j) p) a
noncomputable def zB (sa:Nat)(m:Array Ix)(a:Array Ix):List Ix:=if sa+m.size<=a.size then a.toList.take sa++(m.toList++a.toList.drop (sa+m.size))else(layAt sa m a).toList
noncomputable def t4 (sa:Nat)(m:Array Ix):PM Unit:=λs=>frc (zB sa m s.a) λl=>some ((),PS.mk l.toArray s.pend s.mg)
noncomputable def iX (i:Nat):PM Bool:=do
 let s ← get
 let(some (sa,na,power),some (sb,nb,_)):=(s.pend[i]?,s.pend[i+1]?)|failure
 set (PS.mk s.a ((s.pend.setIfInBounds i (sa,na+nb,power)).eraseIdxIfInBounds (i+1)) s.mg)
 let some k ← kC lt false (← lr s.a sb) s.a sa na 0|return false
 let(sa,na):=(sa+k,na-k)
 if na==0 then return true
 let some nb ← kC lt true (← lr s.a (sa+na-1)) s.a sb nb (nb-1)|return false
 if nb==0 then return true
 let merged ← frc (s.a.extract sa sb).toList λx=>frc (s.a.extract sb (sb+nb)).toList λy=>if na<=nb then DJ (PO lt) x.toArray y.toArray x.length y.length else DI (PO lt) x.toArray y.toArray x.length y.length
 t4 sa merged
 return true
noncomputable def sI:PM Unit:=do
 let size:=(← get).a.size
 let sy:=minRun' size size 0
 let mut lo:=0
 for _ in[0:size]do
  if lo >= size then break
  let some found ← pv lt lo (size-lo)|return
  let mut n:=found
  if n<sy then
   pure ()
   let uT:=min (size-lo) sy
   if !(← zF lt lo uT n)then return
   n:=uT
  if let some (s1,n1,_):=(← get).pend.back? then
   let pw:=power' size (2*s1+n1) (2*s1+n1+n1+n) size
   for _ in[0:size]do
    let p:=(← get).pend
    let some (_,_,ng):=(if p.size > 1 then p[p.size-2]? else none)|break
    if ng<=pw then break
    if !(← iX lt (p.size-2))then return
   modify λs=>PS.mk s.a (s.pend.modify (s.pend.size-1) λ(st,len,_)=>(st,len,pw)) s.mg
  modify λs=>PS.mk s.a (s.pend.push (lo,n,0)) s.mg
  lo:=lo+n
 for _ in[0:size]do
  let p:=(← get).pend
  if p.size<=1 then break
  let i:=p.size-2
  let before:=if i > 0 then p[i-1]?.map (·.2.1)else none
  let i:=if before.any (·<(p[i+1]?.elim 0 (·.2.1)))then i-1 else i
  if !(← iX lt i)then return
end
noncomputable def tsort (n:Nat)(kf:Nat->Int):Option (List Nat):=((sI (λi j=>decide (kf i<kf j))).run (PS.mk ((aV n).map Ix.mk).toArray #[] 7)).map λr=>r.2.a.toList.map Ix.n
theorem VU (i:Nat):mergeAt' i=(do
 let s ← get
 let(some (sa,na,power),some (sb,nb,_)):=((pendingOf s)[i]?,(pendingOf s)[i+1]?)|unsupported "internal:list.sort.pending"
 set (setPending s (((pendingOf s).setIfInBounds i (sa,na+nb,power)).eraseIdxIfInBounds (i+1)))
 let some k ← gp false (← elem' (arrOf s) sb) (arrOf s) sa na 0|return false
 let(sa,na):=(sa+k,na-k)
 if na==0 then return true
 let some nb ← gp true (← elem' (arrOf s) (sa+na-1)) (arrOf s) sb nb (nb-1)|return false
 if nb==0 then return true
 let x:=(arrOf s).extract sa sb
 let y:=(arrOf s).extract sb (sb+nb)
 let merged ← if na<=nb then ma x y else lZ x y
 modify λs=>setArr s (merged.toList.zipIdx.foldl (λa (p,j)=>a.setIfInBounds (sa+j) p) (arrOf s))
 return(failedOf (← get)).isNone):=rfl
section
variable {prog:aW}{w:bv}{A:bo}{E:aa->ah->Prop}{s:ah}{it:Tab}
theorem OV (sa:Nat):∀(m:List (Ix×Nat)) (a:Array Ix),(m.map λp=>(itm it p.1,p.2)).foldl (λ(a:Array Keyed) (p:Keyed×Nat)=>a.setIfInBounds (sa+p.2) p.1) (a.map (itm it))=(m.foldl (λ(a:Array Ix) (p:Ix×Nat)=>a.setIfInBounds (sa+p.2) p.1) a).map (itm it)
 |[],_=>rfl
 |p::m,a=>by
  rw[bu,bP,bP]
  have:(a.map (itm it)).setIfInBounds (sa+p.2) (itm it p.1)=(a.setIfInBounds (sa+p.2) p.1).map (itm it):=by simp
  rw[←OV sa m]
  dsimp only
  rw[this]
theorem zsa {α β:Type}[Cv it β α]{k:SortSt->StateT SortSt ip α}{m:PM β}(h:∀ps,e9 prog w A E s it (k (emb it ps)) m):e9 prog w A E s it (get >>= k) m:=by
 intro ps d mL e Q q
 exact wpS_bind (wpS_get (h ps ps d mL e Q q))
theorem YX {X:SortSt}{P:PS}(h:X=emb it P):e9 prog w A E s it (set X) (set P):=by
 intro ps d mL e Q q
 cases e
 rw[h]
 unfold wpS
 rw[StateT.run_set]
 exact aw ⟨rfl,q⟩
theorem zsb (sa:Nat)(m a:Array Ix)(h:sa+m.size<=a.size):(a.toList.take sa++(m.toList++a.toList.drop (sa+m.size))).toArray=layAt sa m a:=by
 have key:∀(l:List Ix) (j:Nat) (x:List Ix),sa+j+l.length<=x.length->(l.zipIdx j).foldl (λ(a:Array Ix) (p:Ix×Nat)=>a.setIfInBounds (sa+p.2) p.1) x.toArray=(x.take (sa+j)++(l++x.drop (sa+j+l.length))).toArray:=by
  intro l
  induction l with
  |nil=>intro j x _;simp
  |cons y l ih=>
   intro j x hx
   rw[aF]at hx
   rw[rL,bP]
   have e:x.toArray.setIfInBounds (sa+j) y=(x.set (sa+j) y).toArray:=by simp
   rw[e,ih (j+1) _ (by rw[iI];omega)]
   congr 1
   have q1:(x.set (sa+j) y).take (sa+(j+1))=x.take (sa+j)++[y]:=by
    rw[show sa+(j+1)=(sa+j)+1 by omega,qS,List.take_set_of_le (aH _),cx (by omega)];rfl
   have q2:(x.set (sa+j) y).drop (sa+(j+1)+l.length)=x.drop (sa+j+(y::l).length):=by
    rw[List.drop_set_of_lt (by omega),aF,show sa+(j+1)+l.length=sa+j+(l.length+1)by omega]
   rw[q1,q2,cC];rfl
 have:=key m.toList 0 a.toList (by simpa using h)
 unfold layAt
 simp only[Nat.add_zero,aZ]at this
 rw[←this]
theorem zsc (sa:Nat)(m a:Array Ix):(zB sa m a).toArray=layAt sa m a:=by
 unfold zB
 by_cases h:sa+m.size<=a.size
 ·rw[if_pos h];exact zsb sa m a h
 ·rw[if_neg h]
theorem YY {sa:Nat}{m:Array Ix}:e9 prog w A E s it (modify λs=>setArr s ((Cv.cv it m:Array Keyed).toList.zipIdx.foldl (λa (p,j)=>a.setIfInBounds (sa+j) p) (arrOf s))) (t4 sa m):=by
 refine J9 (F':=λs=>PS.mk (layAt sa m s.a) s.pend s.mg) (λps=>by unfold t4;rw[frc_eq,zsc]) λps=>?_
 have e:(Cv.cv it m:Array Keyed).toList.zipIdx=m.toList.zipIdx.map λp=>(itm it p.1,p.2):=by
  show(m.map (itm it)).toList.zipIdx=_
  rw[fJ,List.zipIdx_map];rfl
 have:=OV (it:=it) sa m.toList.zipIdx ps.a
 rw[e]
 exact congrArg (λz=>SortSt.mk' oneType' z ps.pend ps.mg none) this
theorem Nr {i:Nat}:e9 prog w A E s it (mergeAt' i) (iX it.lt i):=by
 rw[VU]
 unfold iX
 refine je λps=>?_
 have e1:pendingOf (emb it ps)=ps.pend:=rfl
 have e2:arrOf (emb it ps)=Cv.cv it ps.a:=rfl
 rw[e1,e2]
 cases h1:ps.pend[i]? with
 |none=>exact qo
 |some p=>
  obtain⟨sa,na,power⟩:=p
  cases h2:ps.pend[i+1]? with
  |none=>exact qo
  |some q=>
   obtain⟨sb,nb,u⟩:=q
   dsimp only
   refine zk (α:=PUnit) (β:=PUnit) (YX rfl) λ_=>zk (α:=Keyed) (β:=Ix) uv λx=>zk (α:=Option Nat) (β:=Option Nat) za6 ?_
   rintro(_|k)
   ·exact zl rfl
   show e9 prog w A E s it (if(na-k==0)=true then _ else _) _
   refine wp (λ_=>zl rfl) λ_=>zk (α:=Keyed) (β:=Ix) uv λy=>zk (α:=Option Nat) (β:=Option Nat) za6 ?_
   rintro(_|n)
   ·exact zl rfl
   show e9 prog w A E s it (if(n==0)=true then _ else _) _
   refine wp (λ_=>zl rfl) λ_=>?_
   rw[jw,jw]
   have key:∀(f:StateT SortSt ip (Array Keyed)) (f':PM (Array Ix)),e9 prog w A E s it f f'->e9 prog w A E s it (f >>= λm=>(modify λs=>setArr s (m.toList.zipIdx.foldl (λa (p,j)=>a.setIfInBounds (sa+k+j) p) (arrOf s))) >>= λ_=>get >>= λs=>pure (failedOf s).isNone)
     (f' >>= λm=>t4 (sa+k) m >>= λ_=>pure true):=λf f' hf=>zk (α:=Array Keyed) (β:=Array Ix) hf λm=>zk (α:=PUnit) (β:=PUnit) YY λ_=>zsa λps=>zl rfl
   rw[frc_eq,frc_eq]
   have Jf:∀(c:Prop) [Decidable c] (f g:StateT SortSt ip (Array Keyed)) (h:Array Keyed->StateT SortSt ip Bool) (f':PM (Array Ix)) (h':Array Ix->PM Bool) (g':PM (Array Ix)),(c->e9 prog w A E s it (f >>= h) (f' >>= h'))->(¬c->e9 prog w A E s it (g >>= h) (g' >>= h'))->e9 prog w A E s it (if c then f >>= h else g >>= h) ((if c then f' else g') >>= h'):=by
    intro c _ f g h f' h' g' h1 h2
    by_cases hc:c
    ·rw[if_pos hc,if_pos hc];exact h1 hc
    ·rw[if_neg hc,if_neg hc];exact h2 hc
   refine Jf _ _ _ _ _ _ _ (λ_=>key _ _ ?_) λ_=>key _ _ ?_
   ·rw[VR,za5,za5];exact YQ
   ·rw[VT,za5,za5];exact YW
theorem Ka {ps:PS}:pendingOf (emb it ps)=ps.pend:=rfl
theorem Kb {F:Array (Nat×Nat×Nat)->Array (Nat×Nat×Nat)}:e9 prog w A E s it (modify λs=>setPending s (F (pendingOf s))) (modify λs=>PS.mk s.a (F s.pend) s.mg):=OD λps=>rfl
theorem WM {n pw:Nat}:e9 prog w A E s it (forIn [0:n] ((none,()):Option PUnit×PUnit) λx t=>do
   let s ← get
   match if(pendingOf s).size > 1 then(pendingOf s)[(pendingOf s).size-2]? else none with
    |some (_,_,ng)=>if ng<=pw then pure (ForInStep.done (none,()))else do
      let r ← mergeAt' ((pendingOf s).size-2)
      if(!r)=true then pure (ForInStep.done (some (),()))else pure (ForInStep.yield (none,()))
    |_=>pure (ForInStep.done (none,())))
  (forIn [0:n] ((none,()):Option PUnit×PUnit) λx t=>do
   let s ← get
   match if s.pend.size > 1 then s.pend[s.pend.size-2]? else none with
    |some (_,_,ng)=>if ng<=pw then pure (ForInStep.done (none,()))else do
      let r ← iX it.lt (s.pend.size-2)
      if(!r)=true then pure (ForInStep.done (some (),()))else pure (ForInStep.yield (none,()))
    |_=>pure (ForInStep.done (none,()))):=by
 refine um (b:=(none,())) rfl λx t=>je λps=>?_
 rw[Ka]
 generalize (if ps.pend.size > 1 then ps.pend[ps.pend.size-2]? else none)=o
 rcases o with _|⟨_,_,ng⟩
 ·exact zl rfl
 ·exact wp (λ_=>zl rfl) λ_=>zk (α:=Bool) (β:=Bool) Nr λr=>wp (λ_=>zl rfl) λ_=>zl rfl
theorem sim_runs:e9 prog w A E s it sortRuns' (sI it.lt):=by
 rw[sortRuns'_eq]
 unfold sI
 refine je λps=>?_
 have e2:(arrOf (emb it ps)).size=ps.a.size:=by show(ps.a.map _).size=_;simp
 rw[e2]
 dsimp only
 refine zk (um (b:=(none,0)) rfl λx t=>?_) λt=>?_
 ·obtain⟨_,lo⟩:=t
  simp only[zd2,zhm]
  refine wp (λ_=>zl rfl) λ_=>zk (α:=Option Nat) (β:=Option Nat) Wu ?_
  rintro(_|found)
  ·exact zl rfl
  simp only[zgk,zhm]
  refine wp (λ_=>zn2 (zk (α:=Bool) (β:=Bool) Ym λr=>wp (λ_=>zl rfl) λ_=>je λps=>?_)) λ_=>je λps=>?_
  all_goals
   rw[Ka]
   generalize ps.pend.back?=o
   rcases o with _|⟨s1,n1,_⟩
   ·exact zk (α:=PUnit) (β:=PUnit) (Kb (F:=λp=>p.push _)) λ_=>zl rfl
   ·refine zk WM λt=>?_
    obtain⟨o,_⟩:=t
    cases o with
    |some r=>exact zl rfl
    |none=>exact zk (α:=PUnit) (β:=PUnit) (Kb (F:=λp=>p.modify (p.size-1) _)) λ_=>zk (α:=PUnit) (β:=PUnit) (Kb (F:=λp=>p.push _)) λ_=>zl rfl
 ·obtain⟨o,lo⟩:=t
  cases o with
  |some r=>exact zl rfl
  |none=>
   simp only[zd2,zgj]
   refine zk (um (b:=(none,())) rfl λx t=>je λps=>?_) λt=>?_
   ·rw[Ka]
    exact wp (λ_=>zl rfl) λ_=>zk (α:=Bool) (β:=Bool) Nr λr=>wp (λ_=>zl rfl) λ_=>zl rfl
   ·obtain⟨o,_⟩:=t
    cases o with
    |some r=>exact zl rfl
    |none=>exact zl rfl
end
end TS
end L2
set_option maxHeartbeats 4000000
namespace L2
open PySem PySem.Spec PyProof.Rows
namespace TS
noncomputable def tsrt (ks:List Int):Option (List Nat):=if ks.length<2 then some (aV ks.length)else tsort ks.length λi=>ks.getD i 0
end TS
section
variable {prog:aW}{w:bv}{A:bo}{E:aa->ah->Prop}{s:ah}{vs:List aa}{kz:List Int}{π:List Nat}
def tokOf:aa->Tok
 |.int _ t=>t
 |_=>0
theorem OW:∀{ks:List aa} {kz:List Int},IntsAre ks kz->∀i,i<kz.length->ks[i]?=some (.int (kz.getD i 0) (tokOf (ks.getD i .none)))
 |_,_,.nil,i,h=>by simp at h
 |_,_,.cons n t h,0,_=>rfl
 |_,_,.cons n t h,i+1,hi=>by
  have:=OW h i (by simpa using hi)
  simpa using this
theorem Wn {keys:Array aa}(hk:IntsAre keys.toList kz)(d4:kz.length=vs.length)(ht:TS.tsort kz.length (λi=>kz.getD i 0)=some π){Q:Unit->SortSt->Prop}(h:∀mz,(arrOf mz).map (·.2)=(π.map λi=>vs.getD i aa.none).toArray->failedOf mz=none->Q () mz) :
  wpS (aS prog w) A E s sortRuns' Q (SortSt.mk' oneType' (keys.zip vs.toArray) #[] 7 none):=by
 obtain⟨it,hit⟩:∃it:TS.Tab,it=⟨λi=>kz.getD i 0,λi=>tokOf (keys.toList.getD i .none),λi=>vs.getD i aa.none⟩:=⟨_,rfl⟩
 have e:SortSt.mk' oneType' (keys.zip vs.toArray) #[] 7 none=TS.emb it (TS.PS.mk ((aV kz.length).map TS.Ix.mk).toArray #[] 7):=by
  have:keys.zip vs.toArray=((aV kz.length).map TS.Ix.mk).toArray.map (TS.itm it):=by
   apply pD
   rw[ksk_zip,fJ,cM]
   apply fm
   intro i
   rw[bi]
   by_cases hi:i<kz.length
   ·rw[dR hi]
    refine List.getElem?_zip_eq_some.mpr ⟨?_,?_⟩
    ·rw[OW hk i hi,hit];rfl
    ·rw[hit]
     show vs[i]?=some (vs.getD i aa.none)
     rw[aE,aR (by omega)];rfl
   ·rw[ck (by rw[eQ,hk.length];omega),ck (by simpa using hi)];rfl
  show SortSt.mk' _ _ _ _ _=SortSt.mk' _ _ _ _ _
  rw[this]
 rw[e]
 unfold TS.tsort at ht
 obtain⟨⟨⟨⟩,mL⟩,h1,h2⟩:=bW.mp ht
 have iC:it.lt=λi j=>decide (kz.getD i 0<kz.getD j 0):=by rw[hit]
 refine TS.sim_runs (it:=it) _ _ _ (by rw[iC];exact h1) Q (h _ ?_ rfl)
 show((mL.a.map (TS.itm it)).map (·.2))=_
 rw[←h2,Array.map_map,cM]
 apply pD
 rw[fJ]
 exact dz λx _=>by rw[hit];rfl
theorem Wo {l:af}{Q:aa->ah->Prop}(hl:s.heap.IsList l vs.toArray)(hn:vs.length<=1000)(d4:kz.length=vs.length)(hπ:π.length<=1000)
  (hv:∀(i:Nat) (v:aa),vs[i]?=some v->∃(p:af) (bT:Array aa),v=.ref p/\s.heap.IsList p bT/\bT.size<=sizeLine/\kz.getD i 0=bT.size) (ht:TS.tsrt kz=some π)
  (h:∀h' tk c,(∀b o,s.heap.get? b=some o->h'.get? b=some o)->h'.get? (s.heap.objs.size+1)=some (seqObj "list" (π.map λi=>vs.getD i aa.none).toArray c)->Q (.ref (s.heap.objs.size+1)) { s with heap:=h',toks:=tk }) :
  aQ (aS prog w) A (call (.builtin "sorted") [.ref l] [(aP.ofString "key",.builtin "len")]) Q E s:=by
 refine call_function_entry_kw kind_sorted plain_sorted entry_sorted (ksk_s1 _ _) ?_
 unfold Builtin.«sorted»
 refine ao (m:=checkCount "sorted" 1 1 _) (aw ?_)
 refine ao (collect_list hl ?_ (by rw[bC];omega))
 refine ao (wpAny_newList ?_ (by rw[bC];omega))
 have hsz:((s.heap.push (seqObj "list" #[] 0)).update s.heap.objs.size (cJ.mapSeq (·++vs.toArray))).objs.size=s.heap.objs.size+1:=by
  rw[rF,size_push']
 have qI:(((s.heap.push (seqObj "list" #[] 0)).update s.heap.objs.size (cJ.mapSeq (·++vs.toArray))).push (seqObj "list" vs.toArray 0)).get? (s.heap.objs.size+1)=some (seqObj "list" vs.toArray 0):=by
  rw[←hsz];exact ba _ rfl
 have keep:∀b o,s.heap.get? b=some o->(((s.heap.push (seqObj "list" #[] 0)).update s.heap.objs.size (cJ.mapSeq (·++vs.toArray))).push (seqObj "list" vs.toArray 0)).get? b=some o:=λb o q=>by
  have iC:b<s.heap.objs.size:=aG q
  rw[qN _ _ _ (by rw[hsz];exact bj (cG iC)),aI.get?_update_ne _ _ _ _ (bj iC),qN _ _ _ (bj iC)]
  exact q
 show aQ _ _ _ _ _ { s with heap:=((s.heap.push (seqObj "list" #[] 0)).update s.heap.objs.size (cJ.mapSeq (·++vs.toArray))).push (seqObj "list" vs.toArray 0) }
 rw[hsz]
 generalize ((s.heap.push (seqObj "list" #[] 0)).update s.heap.objs.size (cJ.mapSeq (·++vs.toArray))).push (seqObj "list" vs.toArray 0)=h1 at qI keep ⊢
 refine ao (dW (wpAny_call_entry_kw slot_list_sort ⟨_,qI,rfl⟩ entry_list_sort ?_ (ksk_l1 _ _)))
 rw[ksk_t4]
 have CG:s.heap.get? (s.heap.objs.size+1)=none:=jE (eD _)
 generalize s.heap.objs.size+1=a at qI CG h ⊢
 have ha:a<h1.objs.size:=aG qI
 have s1:=cm.update h1 a (cJ.mapSeq λ_=>(#[]:Array aa))
 obtain⟨e1,yQ⟩:∃e1,(h1.update a (cJ.mapSeq λ_=>(#[]:Array aa))).get? a=some (seqObj "list" #[] e1):=⟨_,get?_update_seq qI λ_=>#[]⟩
 unfold ksk_tree
 refine ao (listItems_at (s:={ s with heap:=h1 }) qI rfl ?_)
 refine ao (listUpdate_at qI rfl ?_ (by rw[aK,bC];omega) (cH _))
 refine ao (seqEpoch_at yQ rfl ?_)
 refine ao (wpAny_newTuple ?_ (by show vs.length<=_;rw[bC];omega))
 refine ao (wpAny_newList ?_ (cH _))
 refine dW ?_
 have Sb:(h1.update a (cJ.mapSeq λ_=>(#[]:Array aa))).objs.size=h1.objs.size:=rF ..
 have L4:((h1.update a (cJ.mapSeq λ_=>(#[]:Array aa))).push (seqObj "tuple" vs.toArray 0)).objs.size=h1.objs.size+1:=by rw[size_push',Sb]
 have LO:((((h1.update a (cJ.mapSeq λ_=>(#[]:Array aa))).push (seqObj "tuple" vs.toArray 0)).push (seqObj "list" #[] 0))).get? a=some (seqObj "list" #[] e1):=ap _ (ap _ yQ)
 have IA:((((h1.update a (cJ.mapSeq λ_=>(#[]:Array aa))).push (seqObj "tuple" vs.toArray 0)).push (seqObj "list" #[] 0))).get? (h1.objs.size+1)=some (seqObj "list" #[] 0):=by rw[←L4];exact ba _ rfl
 have vL:∀b o,s.heap.get? b=some o->((((h1.update a (cJ.mapSeq λ_=>(#[]:Array aa))).push (seqObj "tuple" vs.toArray 0)).push (seqObj "list" #[] 0))).get? b=some o:=λb o e=>
  ap _ (ap _ ((s1.2 b λz=>by rw[z,CG]at e;cases e).trans (keep b o e)))
 show aQ _ _ (ksk_rest a (.builtin "len") false vs.toArray e1 (.ref ((h1.update a (cJ.mapSeq λ_=>(#[]:Array aa))).push (seqObj "tuple" vs.toArray 0)).objs.size)) _ _ { s with heap:=((h1.update a (cJ.mapSeq λ_=>(#[]:Array aa))).push (seqObj "tuple" vs.toArray 0)).push (seqObj "list" #[] 0) }
 rw[L4]
 have ID:h1.objs.size+1≠a:=gD (cG ha)
 have Iz:s.heap.get? (h1.objs.size+1)=none:=by
  cases q:s.heap.get? (h1.objs.size+1)with
  |none=>rfl
  |some o=>exact absurd (aG (keep _ _ q)) (Nat.not_lt_of_le (eD _))
 generalize ((h1.update a (cJ.mapSeq λ_=>(#[]:Array aa))).push (seqObj "tuple" vs.toArray 0)).push (seqObj "list" #[] 0)=h3 at LO IA vL ⊢
 generalize h1.objs.size+1=kS at IA ID Iz ⊢
 unfold ksk_rest
 refine ao (wpAny_rule ?_)
 rw[List.forIn_toArray]
 refine ao (ksk_fold (λi s'=>∃h' tk kA e,s' = { s with heap:=h',toks:=tk }/\(∀b o,s.heap.get? b=some o->h'.get? b=some o)/\h'.get? kS=some (seqObj "list" kA e)/\h'.get? a=some (seqObj "list" #[] e1)/\IntsAre kA.toList (kz.take i)) vs 0 _
  ⟨h3,s.toks,#[],0,rfl,vL,IA,LO,by simpa using IntsAre.nil⟩ (λj x s' hx hI=>?_) λs' hI=>?_)
 ·obtain⟨h',tk,kA,e,rfl,kp,hk,hA,hi⟩:=hI
  simp only[oK]at hi ⊢
  have hj:j<vs.length:=(aX.mp hx).1
  obtain⟨p,bT,rfl,hp,vF,RM⟩:=hv j x hx
  have RW:h'.IsList p bT:=by
   obtain⟨o,q1,q2⟩:=hp
   exact⟨o,kp _ _ q1,q2⟩
  have IC:kA.size<=vs.length:=by
   have h1:=hi.length
   rw[aZ,bZ]at h1
   omega
  refine ao (wpAny_attempt (Calls.call_len_list RW (by have:=iV;omega) ?_))
  have s2:=cm.update h' kS (cJ.mapSeq (·.push (.int bT.size (tk+1))))
  obtain⟨c2,rq⟩:∃c2,(h'.update kS (cJ.mapSeq (·.push (.int bT.size (tk+1))))).get? kS=some (seqObj "list" (kA.push (.int bT.size (tk+1))) c2):=⟨_,get?_update_seq hk (·.push (.int bT.size (tk+1)))⟩
  have ek:kz.take (j+1)=kz.take j++[(bT.size:Int)]:=by
   rw[qS,aR (by omega),←RM,aE,aR (by omega)];rfl
  have ea:(kA.push (aa.int bT.size (tk+1))).toList=kA.toList++[aa.int bT.size (tk+1)]:=by simp
  refine ao (listUpdate_at hk rfl ?_ (by rw[bC];omega) (bD (oI (Array.size_push ..)) (by rw[bC];omega)))
  refine aw ⟨rfl,_,tk+1+1,kA.push (.int bT.size (tk+1)),c2,rfl,λb o q=>(s2.2 b λz=>by rw[z,Iz]at q;cases q).trans (kp b o q),rq,(s2.2 a ID.symm).trans hA,by rw[ea,ek];exact ksk_snoc hi⟩
 ·obtain⟨h',tk,kA,e,rfl,kp,hk,hA,hi⟩:=hI
  have hi:IntsAre kA.toList kz:=by
   have e3:kz.take (0+vs.length)=kz:=fu (by omega)
   rw[e3]at hi
   exact hi
  have IC:kA.size=vs.length:=by
   have h1:=hi.length
   rw[aZ]at h1
   omega
  refine ao (listItems_at hk rfl ?_)
  have fin:∀st:SortSt,(arrOf st).map (·.2)=(π.map λi=>vs.getD i aa.none).toArray->failedOf st=none->aQ (aS prog w) A.in1.in1 (ksk_tail a false e1 (.ref kS) st) (λfin s'=>∃v,fin=.done (.ret v)/\aQ (aS prog w) A.in1 (ret (.ref a)) (λfin s'=>∃v,fin=.done (.ret v)/\Q v s') E s') E { s with heap:=h',toks:=tk }:=λst q1 q2=>by
   have s4:=cm.update h' kS (cJ.mapSeq λ_=>(#[]:Array aa))
   have HY:(h'.update kS (cJ.mapSeq λ_=>(#[]:Array aa))).get? a=some (seqObj "list" #[] e1):=(s4.2 a ID.symm).trans hA
   have s5:=cm.update (h'.update kS (cJ.mapSeq λ_=>(#[]:Array aa))) a (cJ.mapSeq λ_=>(arrOf st).map (·.2))
   obtain⟨c2,rq⟩:∃c2,((h'.update kS (cJ.mapSeq λ_=>(#[]:Array aa))).update a (cJ.mapSeq λ_=>(arrOf st).map (·.2))).get? a=some (seqObj "list" ((arrOf st).map (·.2)) c2):=⟨_,get?_update_seq HY λ_=>(arrOf st).map (·.2)⟩
   have yS:((arrOf st).map (·.2)).size<=1000:=by rw[q1];simpa using hπ
   unfold ksk_tail
   try dsimp only
   refine ao (listUpdate_at hk rfl ?_ (by rw[IC,bC];omega) (cH _))
   refine ao (wpAny_letGo ?_)
   refine ao (seqEpoch_at HY rfl ?_)
   refine ao (listUpdate_at HY rfl ?_ (cH _) (bD yS (by rw[bC];omega)))
   rw[q2]
   simp only[bne_self_eq_false,bJ,if_false]
   refine aw ⟨_,rfl,aw ⟨_,rfl,h _ tk c2 (λb o q=>?_) ?_⟩⟩
   ·exact(s5.2 b λz=>by rw[z,CG]at q;cases q).trans ((s4.2 b λz=>by rw[z,Iz]at q;cases q).trans (kp b o q))
   ·show aI.get? _ a=_
    rw[←q1];exact rq
  unfold ksk_end
  try dsimp only
  simp only[bJ,if_false]
  unfold TS.tsrt at ht
  by_cases h2:vs.toArray.size<2
  ·rw[if_pos h2,if_pos h2]
   refine ao (aw ?_)
   rw[StateT.run_pure]
   refine ao (aw ?_)
   rw[aK]at h2
   rw[if_pos (by omega)]at ht
   cases ht
   refine fin _ ?_ rfl
   show(kA.zip vs.toArray).map (·.2)=_
   apply pD
   rw[fJ,ksk_zip,List.map_snd_zip (by simpa[IC]using aH _)]
   apply fm
   intro i
   rw[bi]
   by_cases rA:i<kz.length
   ·rw[dR rA,aR (by omega),eL,aE,aR (by omega)];rfl
   ·rw[ck (by omega),ck (by simpa using rA)];rfl
  ·rw[if_neg h2,if_neg h2]
   rw[aK]at h2
   rw[if_neg (by omega)]at ht
   rw[ksk_kind hi (by omega)]
   refine ao (aw ?_)
   refine ao (dX (Wn hi d4 ht (Q:=λ_ mz=>(arrOf mz).map (·.2)=(π.map λi=>vs.getD i aa.none).toArray/\failedOf mz=none) λmz a1 a2=>⟨a1,a2⟩) ?_ λ_ _ e=>e)
   rintro⟨⟨⟩,mz⟩ s' ⟨rfl,q1,q2⟩
   exact fin mz q1 q2
end
end L2
namespace L2
open PySem PySem.Spec PyProof.Rows
namespace SW
def nI (t:SetTable)(hs:Array Int)(h:Int):Array Int×SetTable×Bool :=
 match t.freeSlot h with
 |some (j,d)=>(SetTable.insertAt hs (t.put j).2 h,(t.put j).1.orStandIn (SetTable.insertAt hs (t.put j).2 h).size,d)
 |none=>(hs.push h,t.standIn (hs.size+1),false)
def sN (t:SetTable)(hs:Array Int)(n:Nat):Array Int×SetTable :=
 match t.relaid hs n with
 |some (t',o)=>if coversAll o hs.size&&t'.fits (o.filterMap (hs[·]?)).size then(o.filterMap (hs[·]?),t')else(hs,t.standIn hs.size)
 |none=>(hs,t.standIn hs.size)
def oi (t:SetTable)(hs:Array Int)(h:Int):Array Int×SetTable :=
 if(!(nI t hs h).2.2&&(nI t hs h).2.1.tooFull)=true then sN (nI t hs h).2.1 (nI t hs h).1 (SetTable.grown (nI t hs h).1.size)else((nI t hs h).1,(nI t hs h).2.1)
theorem YZ (es:Array (Int×aa))(p:Nat)(e:Int×aa):(SetTable.insertAt es p e).map (·.1)=SetTable.insertAt (es.map (·.1)) p e.1:=by
 unfold SetTable.insertAt
 simp
theorem zsd {t:SetTable}{es:Array (Int×aa)}{h:Int}{x:aa}:nI t (es.map (·.1)) h=((layNew t es h x).1.map (·.1),(layNew t es h x).2.1,(layNew t es h x).2.2.1):=by
 unfold nI layNew
 cases t.freeSlot h with
 |none=>simp
 |some q=>
  obtain⟨j,d⟩:=q
  have e:=YZ es (t.put j).2 (h,x)
  have z:(SetTable.insertAt es (t.put j).2 (h,x)).size=(SetTable.insertAt (es.map (·.1)) (t.put j).2 h).size:=by rw[←e,er]
  show(_,_,_)=(_,_,_)
  simp only[e,z]
theorem zse {t:SetTable}{es:Array (Int×aa)}{n:Nat}:sN t (es.map (·.1)) n=((relayAll t es n).1.map (·.1),(relayAll t es n).2.1):=by
 unfold sN relayAll
 cases t.relaid (es.map (·.1)) n with
 |none=>simp
 |some q=>
  obtain⟨t',o⟩:=q
  have e:(o.filterMap (es[·]?)).map (·.1)=o.filterMap ((es.map (·.1))[·]?):=by
   rw[Array.map_filterMap]
   congr 1
   funext i
   simp
  have z:(o.filterMap (es[·]?)).size=(o.filterMap ((es.map (·.1))[·]?)).size:=by rw[←e,er]
  simp only[←z,er]
  split
  ·rw[←e]
  ·rfl
section
variable {prog:aW}{w:bv}{A:bo}{E:aa->ah->Prop}{s:ah}
def iv:aa->Int
 |.int n _=>n
 |_=>0
def jW (prog:aW)(w:bv)(h:aI)(a:af)(hs:Array Int)(t:SetTable)(ns:List Int):Prop :=
 ∃o es ep,h.get? a=some o/\o.ExactSet/\o.data=.set es ep t/\ElemsOf (intKind prog w) es.toList/\es.map (·.1)=hs/\es.size<scanBound/\t.fits es.size=true/\(es.toList.map λe=>iv e.2).Perm ns
theorem jW.at' {h h':aI}{a:af}{hs:Array Int}{t:SetTable}{ns:List Int}(H:jW prog w h a hs t ns)(e:∀o,h.get? a=some o->h'.get? a=some o):jW prog w h' a hs t ns:=by
 obtain⟨o,es,ep,h1,r⟩:=H
 exact⟨o,es,ep,e o h1,r⟩
theorem jW.store {h:aI}{a:af}{o:cJ}{es pL:Array (Int×aa)}{ep:Nat}{t t':SetTable}(ho:h.get? a=some o)(hex:o.ExactSet)(hd:o.data=.set es ep t)(tQ:ElemsOf (intKind prog w) pL.toList)(hb:pL.size<scanBound)(hf:t'.fits pL.size=true){ns:List Int}(hv:(pL.toList.map λe=>iv e.2).Perm ns) :
  (h.update a (cJ.putSet pL t')).get? a=some { o with data:=.set pL (ep+1) t' }/\jW prog w (h.update a (cJ.putSet pL t')) a (pL.map (·.1)) t' ns:=by
 have:=SetOf_store (knd:=intKind prog w) (S':=λk=>pL.toList.any λe=>(intKind prog w).is k e.2) ho hex hd tQ (λk=>rH) hb hf
 exact⟨this.1,_,pL,ep+1,this.1,hex,rfl,tQ,rfl,hb,hf,hv⟩
theorem Om {g:Bool->ip Unit}(hg:∀(b:Bool) (s1:ah) (Q':Unit->ah->Prop),Q' () s1->aQ (aS prog w) A (g b) Q' E s1){a:af}{o:cJ}{es kJ:Array (Int×aa)}{ep:Nat}{t t1:SetTable}(ho:s.heap.get? a=some o)(hex:o.ExactSet)(hd:o.data=.set es ep t)
  (si:ElemsOf (intKind prog w) kJ.toList) (rn:kJ.size<scanBound) (mW:t1.fits kJ.size=true) {ns:List Int} (hv:(kJ.toList.map λe=>iv e.2).Perm ns) {wd:Bool} {R:Option Bool->ah->Prop} {oQ:Array Int} {t2:SetTable} (nF:(oQ,t2)=if(!wd&&t1.tooFull)=true then sN t1 (kJ.map (·.1)) (SetTable.grown kJ.size)else(kJ.map (·.1),t1))
  (h:∀h',cm a s.heap h'->jW prog w h' a oQ t2 ns->R (some true) { s with heap:=h' }) :
  aQ (aS prog w) A (do
    storeSet a kJ t1
    if(!wd&&t1.tooFull)=true then do
      g (relayAll t1 kJ (SetTable.grown kJ.size)).2.2
      storeSet a (relayAll t1 kJ (SetTable.grown kJ.size)).1 (relayAll t1 kJ (SetTable.grown kJ.size)).2.1
      pure (some true)
     else pure (some true)) R E s:=by
 refine ao (wpAny_storeSet_of ho hd ?_ (fits_of_scanBound rn))
 obtain⟨yQ,Ie⟩:=jW.store (prog:=prog) (w:=w) ho hex hd si rn mW hv
 have MU:=cm.update s.heap a (cJ.putSet kJ t1)
 by_cases c:(!wd&&t1.tooFull)=true
 ·rw[if_pos c,zse]at nF
  rw[if_pos c]
  have hp:=relayAll_perm t1 kJ (SetTable.grown kJ.size)
  have CK:=relayAll_fits t1 kJ (SetTable.grown kJ.size)
  generalize relayAll t1 kJ (SetTable.grown kJ.size)=R1 at hp CK nF ⊢
  obtain⟨Q6,t3,g2⟩:=R1
  dsimp only at hp CK nF ⊢
  cases nF
  have Ak:Q6.size<scanBound:=by rw[←aZ,hp.length_eq,aZ];exact rn
  refine ao (hg _ _ _ ?_)
  refine ao (wpAny_storeSet_of yQ rfl ?_ (fits_of_scanBound Ak))
  obtain⟨_,tf⟩:=jW.store (prog:=prog) (w:=w) yQ hex rfl (si.perm hp) Ak CK ((hp.map _).trans hv)
  exact aw (h _ (MU.trans (cm.update _ a _)) tf)
 ·rw[if_neg c]at nF
  rw[if_neg c]
  cases nF
  exact aw (h _ MU Ie)
theorem zt7 {a:af}{hs:Array Int}{t:SetTable}{k:Int}{tk:Tok}{ns:List Int}{Q:Bool->ah->Prop}(hS:jW prog w s.heap a hs t ns)(vG:hs.size+1<scanBound)(yN:hashInt k∉hs.toList)
  (h:∀h',cm a s.heap h'->jW prog w h' a (oi t hs (hashInt k)).1 (oi t hs (hashInt k)).2 (ns++[k])->Q true { s with heap:=h' }) :
  aQ (aS prog w) A (setAddHashed a (.int k tk) (hashInt k)) Q E s:=by
 obtain⟨o,es,ep,ho,hex,hd,tQ,rfl,hb,hf,hv⟩:=hS
 have tR:(intKind prog w).is k (.int k tk)=true:=intKind_is _ _ _ _
 rw[er]at vG
 unfold setAddHashed setAddHashedIn
 refine dW (ao (wpAny_setState_of ho hd hf ?_))
 dsimp only
 rw[byScan_of (knd:=intKind prog w) rfl hb tQ]
 simp only[↓reduceIte]
 unfold setAddByScan
 refine ao ?_
 refine ao (wpAny_rule ?_)
 refine ao (wpAny_setScan_of (knd:=intKind prog w) tR ho hd hf tQ ?_)
 have hr:List.findIdx? (λe=>(intKind prog w).is k e.2) es.toList=none:=by
  refine List.findIdx?_eq_none_iff.mpr λe he=>?_
  cases q:(intKind prog w).is k e.2 with
  |false=>rfl
  |true=>
   obtain⟨⟨k',h1,h2⟩,_⟩:=tQ e he
   have:=(intKind prog w).inj e.2 k k' q h1
   subst this
   exact absurd (by rw[fJ];exact dc.mpr ⟨e,he,h2⟩) yN
 rw[hr]
 dsimp only
 have mY:=layNew_perm t es (hashInt k) (.int k tk)
 have mW:=layNew_fits t es (hashInt k) (.int k tk)
 have tS:=zsd (t:=t) (es:=es) (h:=hashInt k) (x:=.int k tk)
 have RP:layNew t es ((intKind prog w).hash k) (.int k tk)=layNew t es (hashInt k) (.int k tk):=rfl
 generalize layNew t es (hashInt k) (.int k tk)=L at mY mW tS RP ⊢
 obtain⟨kJ,t1,wd,gave⟩:=L
 dsimp only at mY mW tS ⊢
 rw[pT]at mY
 have si:ElemsOf (intKind prog w) kJ.toList:=(tQ.push tR rfl).perm mY
 have rn:kJ.size<scanBound:=by rw[←aZ,mY.length_eq,aT,aZ];simpa using vG
 have Ml:(kJ.toList.map λe=>iv e.2).Perm (ns++[k]):=(mY.map _).trans (by rw[dw];exact rG.append_right _ hv)
 have gw:∀(b:Bool) {s1:ah} {Q':Unit->ah->Prop},Q' () s1->aQ (aS prog w) A (match b with|true=>rule "set.scan.the-table-gave-way" |false=>pure ()) Q' E s1:=λb s1 Q' hq=>by cases b<;>first|exact aw hq|exact wpAny_rule hq
 have nF:((oi t (es.map (·.1)) (hashInt k)).1,(oi t (es.map (·.1)) (hashInt k)).2)=if(!wd&&t1.tooFull)=true then sN t1 (kJ.map (·.1)) (SetTable.grown kJ.size)else(kJ.map (·.1),t1):=by
  show oi t (es.map (·.1)) (hashInt k)=_
  unfold oi
  rw[tS]
  simp only[er]
 refine ao (gw _ ?_)
 split
 ·refine ao ?_
  rw[hashByValue_scannable 8 (show(aa.int k tk).scannable=true from rfl)]
  refine aw ?_
  refine Om ?_ ho hex hd si rn mW Ml nF ?_
  ·intro b s₁ Q' hq;cases b<;>first|exact aw hq|exact wpAny_rule hq
  ·intro h' vI rm;dsimp only;exact aw (h h' vI rm)
 ·refine ao (aw ?_)
  simp only[↓reduceIte]
  refine Om ?_ ho hex hd si rn mW Ml nF ?_
  ·intro b s₁ Q' hq;cases b<;>first|exact aw hq|exact wpAny_rule hq
  ·intro h' vI rm;dsimp only;exact aw (h h' vI rm)
end
section
variable {prog:aW}{w:bv}{A:bo}{R:Result->ah->Prop}{I:af}{fp wr:List af}{G:Array GenState->Array GenState->Prop}{n:Nat}{P:Nat->aa->Prop}{St:Nat->ah->Prop}
structure GY (val:Nat->Int)(n:Nat)(st:Nat->Array Int×SetTable):Prop where
 new:∀i,i<n->hashInt (val i)∉(st i).1.toList
 next:∀i,i<n->st (i+1)=oi (st i).2 (st i).1 (hashInt (val i))
 room:∀i,i<n->(st i).1.size+1<scanBound
theorem zsf (W:WalksS prog w A.in1 I fp wr G n P St)(S:af)(FI:S∉fp)(val:Nat->Int)(yV:∀i v,P i v->∃t,v=.int (val i) t){st:Nat->Array Int×SetTable}(lW:GY val n st) :
  ∀(k i:Nat) (s:ah),n-i=k->i<=n->St i s->jW prog w s.heap S (st i).1 (st i).2 ((aV i).map val) ->
   (∀s',Moved (S::wr) G s s'->jW prog w s'.heap S (st n).1 (st n).2 ((aV n).map val)->R (.ok (.ret .none)) s') ->
   fR (aS prog w) A (.builtin "set.update.loop" ⟨[.ref S,.ref I],[]⟩) R s:=by
 have LN:S∉wr:=λh=>FI (W.sub _ h)
 have jJ:∀b∈wr,b∈S::wr:=λb hb=>aj _ hb
 intro k
 induction k with
 |zero=>
  intro i s hk hi h0 hS hR
  have:i=n:=by omega
  subst this
  refine codeAny_builtin F.entry_set_update_loop ?_
  rw[bo.under_plainId F.plain_set_update_loop _]
  show aQ _ A.in1 (pyNext (.ref I) >>= _) _ _ s
  refine ao (W.done s _ _ h0 λs' hm=>?_)
  show aQ _ A.in1 (ret aa.none) _ _ s'
  exact aw (hR s' (hm.mono jJ) (hS.at' λo ho=>hm.heap S _ LN ho))
 |succ k ih=>
  intro i s hk hi h0 hS hR
  have iC:i<n:=by omega
  refine codeAny_builtin F.entry_set_update_loop ?_
  rw[bo.under_plainId F.plain_set_update_loop _]
  show aQ _ A.in1 (pyNext (.ref I) >>= _) _ _ s
  refine ao (W.item i s _ _ iC h0 λv s' hP h1 hm=>?_)
  obtain⟨t,rfl⟩:=yV i v hP
  have rm:jW prog w s'.heap S (st i).1 (st i).2 ((aV i).map val):=hS.at' λo ho=>hm.heap S _ LN ho
  show aQ _ A.in1 (d6 [aa.int (val i) t] (setAdd S (.int (val i) t)) >>= _) _ _ s'
  refine ao (dW ?_)
  unfold setAdd
  refine dW ?_
  refine ao ((intKind prog w).pyHash (k:=val i) (intKind_is _ _ _ _) ?_)
  refine zt7 (s:={ s' with toks:=s'.toks+1 }) rm (lW.room i iC) (lW.new i iC) λh' vI tf=>?_
  rw[←lW.next i iC,show(aV i).map val++[val i]=(aV (i+1)).map val by rw[lT,dw];rfl]at tf
  refine aw ⟨plainId_quiet F.plain_set_update_loop _,ih (i+1) _ (by omega) iC (W.frame _ s' _ _ h1 (eD _) λb hb o e=>?_) tf λs'' IG Ib=>?_⟩
  ·rw[vI.2 b (λh:b=S=>FI (by rw[←h];exact hb))];exact e
  ·refine hR s'' (Moved.trans W.gtrans ((hm.mono jJ).then_heap (eD _) λb o hb e=>?_) IG) Ib
   rw[vI.2 b (λh:b=S=>hb (by rw[h];exact ak))];exact e
end
section
variable {prog:aW}{w:bv}{A:bo}{E:aa->ah->Prop}{s:ah}
def iz (w:bv):Bool:=!w.params.followText "set-order"
theorem WN (a:aa){Q₁:aa->ah->Prop}(h:Q₁ (.ref s.heap.objs.size) { s with heap:=s.heap.push { cls:=.type "set",dict:=none,data:=.set #[] 0 (.fresh 0 0 (iz w)) } }) :
    fR (aS prog w) A (.call (.builtin "set.__new__") ⟨[.type "set",a],[]⟩) (wants Q₁ E) s:=by
  refine codeAny_of_tree ?_
  show aQ _ A.in1 (do checkBuiltinCall "set.__new__" ⟨[.type "set",a],[]⟩;again (.builtin "set.__new__" ⟨[.type "set",a],[]⟩)) _ _ s
  refine ao (wpAny_of_eq (PySem.F.newCall_set_1 a) (aw ⟨plainId_quiet PySem.F.plain_set_new _,codeAny_builtin PySem.F.entry_set_new ?_⟩))
  rw[bo.under_plainId PySem.F.plain_set_new _]
  unfold Builtin.«set.__new__» Builtin.Frozenset.newClass
  have jJ:=sub_set_self
  obtain⟨hp,g,d,tk,os⟩:=s
  dsimp only
  wp_walk
  refine wpAny_askSetting (aw ?_)
  dsimp only
  simp only[newObj]
  refine ao (wpAny_alloc (aw ?_))
  exact aw h
end
end SW
end L2
namespace L2
open PySem PySem.Spec PyProof.Rows
namespace SW
section
variable {prog:aW}{w:bv}{A:bo}{E:aa->ah->Prop}{s:ah}
set_option maxHeartbeats 3200000 in
theorem Wp {l:af}{items:Array aa}{ns:List Int}{st:Nat->Array Int×SetTable}{Q:aa->ah->Prop}(hh:A.handled=none)(hl:s.heap.IsList l items)(hi:IntsAre items.toList ns)(h0:st 0=(#[],.fresh 0 0 (iz w)))(lW:GY (λi=>ns.getD i 0) items.size st)
    (h:∀(h':aI) (tk:Nat),jW prog w h' s.heap.objs.size (st items.size).1 (st items.size).2 ((aV items.size).map λi=>ns.getD i 0)->(∀b o,b<s.heap.objs.size->s.heap.get? b=some o->h'.get? b=some o)->Q (.ref s.heap.objs.size) { s with heap:=h',toks:=tk }) :
    aQ (aS prog w) A (call (.type "set") [.ref l]) Q E s:=by
  obtain⟨c,tl,RU⟩:=PySem.F.called_set.mro
  have L8:=PySem.F.called_set.made
  have jJ:=PySem.F.called_set.sub
  refine wpAny_call (codeAny_of_tree ?_)
  show aQ _ _ (callAny (.type "set") _) _ _ _
  refine aw ⟨nS.quiet_builtin _ (by decide +kernel),codeAny_builtin PySem.F.entry_type_call ?_⟩
  rw[bo.under_plain (weight_type_call_type "set" [.ref l] []) rfl]
  have h1:=PySem.F.called_set.notType
  have h2:=PySem.F.called_set.canCreate
  have hct:=PySem.F.typeCall_set_1 (.ref l)
  repeat (any_goals (first|assumption|wp_step))
  generalize ho:({ cls:=.type "set",dict:=none,data:=.set #[] 0 (.fresh 0 0 (iz w)) }:cJ)=oS
  refine gX (WN (.ref l) (E:=E) (Q₁:=λobj s₁=>obj=.ref s.heap.objs.size/\s₁ = { s with heap:=s.heap.push oS }) ⟨rfl,by rw[ho]⟩) λr s₁ hr=>?_
  cases r with
  |error e=>exact hr
  |ok fl=>
    cases fl with
    |ret obj=>
      obtain⟨rfl,rfl⟩:=hr
      have hS:(s.heap.push oS).get? s.heap.objs.size=some oS:=ba _ (by rw[←ho];rfl)
      have hT:ah.TypeIs { s with heap:=s.heap.push oS } (.ref s.heap.objs.size) "set":=⟨_,hS,by rw[←ho]⟩
      have hli:=PySem.F.called_set.init.lookup
      have hbi:=PySem.F.called_set.init.bind (.ref s.heap.objs.size)
      repeat (any_goals (first|assumption|wp_step))
      refine gX (codeAny_call_builtin (R:=wants (λr s₂=>r=.none/\∃h' tk,s₂ = { s with heap:=h',toks:=tk }/\jW prog w h' s.heap.objs.size (st items.size).1 (st items.size).2 ((aV items.size).map λi=>ns.getD i 0)/\(∀b o,b<s.heap.objs.size->s.heap.get? b=some o->h'.get? b=some o)) E) PySem.F.called_set.init.plain PySem.F.entry_set_init (check_set_init_1 hT ?_)) λr₂ s₂ IR=>?_
      · obtain⟨ol,Ma,uW,nl,uX⟩:=hl
        obtain⟨S9,DP,MF,zE⟩:=ol
        simp only at uW uX
        subst uW;subst uX
        have IM:(s.heap.push oS).get? l=some { cls:=.type "list",dict:=DP,data:=.seq items nl,slots:=zE }:=ap _ Ma
        have R6:=PySem.F.sub_list_set
        have R5:=PySem.F.sub_list_frozenset
        have nH:(aa.type "list" == aa.type "dict")=false:=by decide
        have L5:(s.heap.push oS).IsList l items:=⟨_,IM,rfl,nl,rfl⟩
        have L7:l<s.heap.objs.size:=aG Ma
        have RI:A.in1.in1.in1.handled=none:=by simp[hh]
        have II:l≠(s.heap.push oS).objs.size:=by rw[dD];exact bj (cG L7)
        have FI:s.heap.objs.size∉[(s.heap.push oS).objs.size,l]:=by
          rw[dD];simp only[av,aN,bQ,or_false,not_or]
          exact⟨bj (fQ _),gD L7⟩
        have yV:∀(i:Nat) (v:aa),items[i]?=some v->∃t,v=.int ((λi=>ns.getD i 0) i) t:=λi v hv=>IntsAre.int_at hi i v (by rw[cF];exact hv)
        have Ak:∀b,b<s.heap.objs.size->b≠(s.heap.push oS).objs.size:=λb hb=>by rw[dD];exact bj (cG hb)
        subst ho
        unfold Builtin.«set.__init__» noKeywords Builtin.Frozenset.updateFrom
        generalize Rn:pyIter=PI
        wp_walk
        subst Rn
        refine my L5 ?_
        refine ao (wpAny_runValue ?_)
        refine zsf ((Walks.list RI _ l II items).toS) s.heap.objs.size FI (λi=>ns.getD i 0) yV lW (items.size-0) 0 _ (by omega) (cH _) ⟨⟨_,ba _ rfl,rfl,rfl⟩,(L5.push _)⟩ ?_ ?_
        · rw[h0]
          exact⟨_,#[],0,ap _ hS,⟨rfl,rfl,rfl⟩,rfl,λe he=>by simp at he,by simp,by unfold scanBound;decide,rfl,by simp⟩
        · intro s' hm rm
          obtain⟨h',g',d',UO,Jo⟩:=s'
          have eg:g'=s.gens:=hm.gens
          have ed:d'=s.drawn:=hm.drawn
          have eo:Jo=s.os:=hm.os
          subst eg;subst ed;subst eo
          show aQ _ _ _ _ _ _
          refine aw ?_
          show aQ _ _ (ret aa.none) _ _ _
          refine aw ⟨rfl,h',UO,rfl,rm,λb o hb e=>?_⟩
          have rn:b≠s.heap.objs.size:=bj hb
          exact hm.heap b o (by simp only[av,aN,bQ,or_false,not_or];exact⟨rn,Ak b hb⟩) (ap _ (ap _ e))
      · cases r₂ with
        |error e=>exact IR
        |ok Q8=>
          cases Q8 with
          |ret r=>
            obtain⟨rfl,h',tk,rfl,rm,RL⟩:=IR
            repeat (any_goals (first|assumption|wp_step))
            exact h _ _ rm RL
          |_=>exact IR.elim
    |_=>exact hr.elim
end
end SW
end L2
set_option maxHeartbeats 1000000
namespace L2
open PySem PySem.Spec PyProof.Rows
namespace SW
theorem Ax:Slot "set_iterator" "__next__" "set_iterator.__next__" :=
 .of (owner:="set_iterator") (n:="__next__") (by rw[typeLookup_type,builtinLookup_eq_fast];kernel_rfl) (by decide +kernel) (by decide +kernel) (by decide +kernel) (by first|exact .inl (by decide +kernel)|exact .inr (by decide +kernel)) (by rw[isSubtype_type];kernel_rfl)
theorem On:entryFor table "set_iterator.__next__"=some Builtin.«set_iterator.__next__»:=entryFor_of_tree (by kernel_rfl)
theorem Oo:Manifest.owners.lookup (String.ofList ['r','o','t','a','r','e','t','i','_','t','e','s'].reverse)=some Manifest.sig_set_iterator:=by kernel_rfl
theorem OX (a:aa):argsOk "set_iterator.__next__" ⟨[a],[]⟩:=by
 unfold argsOk;rw[signature?_of (id:="set_iterator.__next__") (n:=['_','_','t','x','e','n','_','_']) (o:=['r','o','t','a','r','e','t','i','_','t','e','s']) (by kernel_rfl) Oo];kernel_rfl
theorem Xz:entryFor table "set.__iter__"=some Builtin.«frozenset.__iter__»:=entryFor_alias (id':="frozenset.__iter__") (by kernel_rfl) rfl (by decide +kernel) (by kernel_rfl)
section
variable {prog:aW}{w:bv}{A:bo}{E:aa->ah->Prop}{s:ah}{a it:af}{o:cJ}{es:Array (Int×aa)}{ep:Nat}{t:SetTable}
structure Wk (w:bv)(o:cJ)(es:Array (Int×aa))(ep:Nat)(t:SetTable):Prop where
 ex:o.ExactSet
 dat:o.data=.set es ep t
 fits:t.fits es.size=true
 plain:iz w=true->t.plain=true
 led:iz w=true->t.led=true
 walk:iz w=true->∀i,i<=es.size->SetTable.below t.place (if i=0 then 0 else t.place.getD (i-1) 0+1)=i
def jL (w:bv)(a:af)(es:Array (Int×aa))(ep:Nat):Array (Int×aa):=if iz w=true then es else pickOrder (w.params.setOrder a ep) es
def tE (w:bv)(t:SetTable)(i:Nat):Nat:=if iz w=true then(if i=0 then 0 else t.place.getD (i-1) 0+1)else 0
def tw (w:bv)(a:af)(t:SetTable)(n ep i:Nat):cJ:={ cls:=.type "set_iterator",data:=.fields #[.int (tE w t i) 0,.int i 0,.ref a,.int n 0,.int ep 0] }
theorem J4 {Q:Bool->ah->Prop}(h:Q (!iz w) s):aQ (aS prog w) A setsByText Q E s:=by
 unfold setsByText
 refine ao (wpAny_askSetting (aw ?_))
 have:(aS prog w).w.params.followText "set-order" = !iz w:=by unfold iz;rw[Bool.not_not];rfl
 rw[this]
 exact h
theorem zsg {Q:aa->ah->Prop}(k:Wk w o es ep t)(ho:s.heap.get? a=some o)(h:Q (.ref s.heap.objs.size) { s with heap:=s.heap.push (tw w a t es.size ep 0) }):aQ (aS prog w) A (pyIter (.ref a)) Q E s:=by
  have hT:s.TypeIs (.ref a) "set":=⟨o,ho,k.ex.1⟩
  refine wpAny_pyIter_slot hT PySem.F.slot_set_iter (wpAny_call_entry PySem.F.slot_set_iter hT Xz ?_ (PySem.F.args_set_iter_1 _))
  unfold Builtin.«frozenset.__iter__» Builtin.Frozenset.slot0 slotArgs
  simp only[lD,nq,bJ,↓reduceIte,bind_assoc,iH,bne_self_eq_false]
  unfold Builtin.Frozenset.addrOf Builtin.Frozenset.sizeOf
  refine ao (aw ?_)
  try dsimp only
  refine ao (aw ?_)
  refine ao (ao (wpAny_setEntries_of ho k.dat k.fits (aw ?_)))
  refine ao ?_
  unfold setDrawn
  refine ao (wpAny_setState_of ho k.dat k.fits ?_)
  refine ao (J4 ?_)
  refine aw ?_
  rw[if_neg (λhb=>by
    have hb:(!!iz w&&(!t.plain&&decide (es.size > 1)))=true:=hb
    cases hl:iz w with
    |false=>rw[hl]at hb;cases hb
    |true=>rw[hl,k.plain hl]at hb;cases hb)]
  refine ao (aw ?_)
  refine ao (wpAny_setEpoch_of ho k.dat k.fits ?_)
  unfold newFields
  refine ao (dS (aw ⟨_,rfl,"set_iterator",_,⟨_,ba _ rfl,rfl⟩,Ax.lookup,?_⟩))
  have e:tw w a t es.size ep 0 = { cls:=.type "set_iterator",data:=.fields [rawInt 0,rawInt 0,aa.ref a,rawInt es.size,rawInt ep].toArray }:=by
    unfold tw tE rawInt
    simp
  rw[←e]
  exact h
theorem zsh {Q:Array (Int×aa)->ah->Prop}(k:Wk w o es ep t)(ho:s.heap.get? a=some o)(hl:iz w=false)(h:Q (pickOrder (w.params.setOrder a ep) es) s):aQ (aS prog w) A (setWalk a) Q E s:=by
 unfold setWalk
 refine ao (wpAny_setState_of ho k.dat k.fits ?_)
 refine ao (J4 ?_)
 rw[hl]
 rw[if_pos (by rfl)]
 refine ao (wpAny_askSetting ?_)
 exact aw h
theorem NV {i:Nat}{Q:Option (aa×Nat)->ah->Prop}(k:Wk w o es ep t)(ho:s.heap.get? a=some o)(hi:i<=es.size)(h:Q ((jL w a es ep)[i]?.map λe=>(e.2,tE w t (i+1))) s):aQ (aS prog w) A (setNext a (tE w t i) i ep) Q E s:=by
 unfold setNext
 refine ao (wpAny_setState_of ho k.dat k.fits ?_)
 refine ao (J4 ?_)
 cases hl:iz w with
 |false=>
  dsimp only
  rw[if_pos (by rfl)]
  simp only[bne_self_eq_false,bJ,if_false]
  refine ao (zsh k ho hl ?_)
  refine aw ?_
  unfold jL tE at h
  unfold tE
  rw[hl]at h ⊢
  simpa using h
 |true=>
  dsimp only
  rw[if_neg (by decide)]
  rw[if_neg (λhb=>by
   have hb:(!t.plain&&decide (es.size > 1))=true:=hb
   rw[k.plain hl]at hb;cases hb)]
  refine ao ?_
  show aQ _ _ (if(!t.led&&!es.isEmpty)=true then _ else _) _ _ _
  rw[if_neg (by rw[k.led hl];simp)]
  refine aw (aw ?_)
  have hw:SetTable.below t.place (tE w t i)=i:=by unfold tE;rw[if_pos hl];exact k.walk hl i hi
  rw[hw]
  have hz:t.place.size=es.size:=by
   have:=k.fits
   unfold SetTable.fits at this
   simp only[bw,beq_iff_eq]at this
   exact this.1
  have e:(match es[i]?,t.place[i]? with
    |some (_,x),some j=>some (x,j+1)
    |_,_=>none)=(jL w a es ep)[i]?.map λe=>(e.2,tE w t (i+1)):=by
   unfold jL tE
   rw[if_pos hl,if_pos hl]
   by_cases c:i<es.size
   ·have c2:i<t.place.size:=by omega
    rw[gI c,gI c2]
    simp[Array.getD,c2]
   ·rw[iB (by omega)];rfl
  rw[←e]at h
  exact h
theorem zY {i n:Nat}(h:s.heap.get? it=some (tw w a t n ep i)):s.TypeIs (.ref it) "set_iterator":=⟨_,h,rfl⟩
theorem zsi {i:Nat}{e:Int×aa}{Q:Option aa->ah->Prop}(k:Wk w o es ep t)(ho:s.heap.get? a=some o)(hit:s.heap.get? it=some (tw w a t es.size ep i))(hi:i<es.size)(hx:(jL w a es ep)[i]?=some e)
  (hQ:∀h',h'.get? it=some (tw w a t es.size ep (i+1))->cm it s.heap h'->Q (some e.2) { s with heap:=h' }):aQ (aS prog w) A (pyNext (.ref it)) Q E s:=by
 unfold pyNext
 refine ao (wpAny_attempt (wpAny_callSpecial?_slot (name:=aP.ofString "__next__") (zY hit) Ax (wpAny_call_entry Ax (zY hit) On ?_ (OX _))))
 unfold Builtin.«set_iterator.__next__» slotArgs
 simp only[lD,nq,bJ,↓reduceIte,bind_assoc,iH,bne_self_eq_false]
 refine ao (aw ?_)
 refine ao (wpAny_fieldsOf hit rfl ?_)
 dsimp only
 refine ao (wpAny_setEntries_of ho k.dat k.fits ?_)
 rw[if_neg (by simp)]
 simp only[kT]
 refine ao (NV k ho (fC hi) ?_)
 rw[hx]
 dsimp only[eL]
 refine ao (wpAny_setField_rec hit (by simp) λh1 g1 b1=>?_)
 refine ao (wpAny_setField_rec g1 (by simp) λh2 g2 b2=>?_)
 refine aw ⟨_,rfl,aw (hQ h2 ?_ (b1.trans b2))⟩
 rw[g2]
 unfold tw rawInt
 simp
theorem zt8 {Q:Option aa->ah->Prop}(hh:A.handled=none)(k:Wk w o es ep t)(ho:s.heap.get? a=some o)(hit:s.heap.get? it=some (tw w a t es.size ep es.size))(hx:(jL w a es ep)[es.size]?=none)
  (hQ:∀h',aI.ExtBut it s.heap h'->Q none { s with heap:=h' }):aQ (aS prog w) A (pyNext (.ref it)) Q E s:=by
 unfold pyNext
 refine ao (wpAny_attempt (wpAny_callSpecial?_slot (name:=aP.ofString "__next__") (zY hit) Ax (wpAny_call_entry Ax (zY hit) On ?_ (OX _))))
 unfold Builtin.«set_iterator.__next__» slotArgs
 simp only[lD,nq,bJ,↓reduceIte,bind_assoc,iH,bne_self_eq_false]
 refine ao (aw ?_)
 refine ao (wpAny_fieldsOf hit rfl ?_)
 dsimp only
 refine ao (wpAny_setEntries_of ho k.dat k.fits ?_)
 rw[if_neg (by simp)]
 simp only[kT]
 refine ao (NV k ho (aH _) ?_)
 rw[hx]
 dsimp only[Option.map_none]
 refine ao (wpAny_setField_rec hit (by simp) λh1 g1 b1=>?_)
 show aQ _ _ (newExc (.type "StopIteration") [] >>= _) _ _ _
 refine ao ?_
 simp only[newExc,newTuple]
 refine ao (dS ?_ (by size_fits))
 refine ao (m:=firstArgMember _ _) (wpAny_of_eq (a:=aa.none) (by first|rfl|(simp only[firstArgMember];rfl)) ?_)
 refine dS ?_ (by size_fits)
 simp only[raiseNew]
 refine ao (wpAny_handled ?_)
 rw[show A.in1.handled=none from hh]
 refine ao (aw (wpAny_throw ?_))
 refine ao (wpAny_isInstance (T:="StopIteration") (b:=true) ⟨_,ba _ rfl,rfl⟩ isSubtype_stop ?_)
 exact aw (hQ _ ((b1.extBut.push _).push _))
theorem Oq:Slot "set_iterator" "__iter__" "set_iterator.__iter__" :=
 .of (owner:="set_iterator") (n:="__iter__") (by rw[typeLookup_type,builtinLookup_eq_fast];kernel_rfl) (by decide +kernel) (by decide +kernel) (by decide +kernel) (by first|exact .inl (by decide +kernel)|exact .inr (by decide +kernel)) (by rw[isSubtype_type];kernel_rfl)
theorem WO:entryFor table "set_iterator.__iter__"=some Builtin.«dict_keyiterator.__iter__»:=entryFor_alias (id':="dict_keyiterator.__iter__") (by kernel_rfl) rfl (by decide +kernel) (by kernel_rfl)
theorem XB (a:aa):argsOk "set_iterator.__iter__" ⟨[a],[]⟩:=by
 unfold argsOk;rw[signature?_of (id:="set_iterator.__iter__") (n:=['_','_','r','e','t','i','_','_']) (o:=['r','o','t','a','r','e','t','i','_','t','e','s']) (by kernel_rfl) Oo];kernel_rfl
theorem zsj {i n:Nat}{Q:aa->ah->Prop}(hit:s.heap.get? it=some (tw w a t n ep i))(h:Q (.ref it) s):aQ (aS prog w) A (pyIter (.ref it)) Q E s:=by
 refine wpAny_pyIter_slot (zY hit) Oq (wpAny_call_entry Oq (zY hit) WO ?_ (XB _))
 show aQ _ _ (ret (.ref it)) _ _ s
 exact aw ⟨_,rfl,"set_iterator",_,zY hit,Ax.lookup,h⟩
theorem zsk {Q:Bool->ah->Prop}(hT:s.TypeIs (.ref a) "set")(h:Q false s):aQ (aS prog w) A (Builtin.List.listLengthHint (.ref a)) Q E s:=by
 unfold Builtin.List.listLengthHint
 refine ao (wpAny_specialOf hT PySem.F.slot_set_len.lookup ?_)
 generalize pP:("set.__len__":String)=Sf
 wp_delta
 rw[show splitId Sf=some ("set","__len__")from by subst pP;decide +kernel]
 subst pP
 refine ao (wpAny_isInstance (T:="set") (b:=true) hT (by rw[isSubtype_type];kernel_rfl) ?_)
 refine wpAny_ite_split (λIg=>absurd Ig (by decide)) (λ_=>?_)
 refine wpAny_ite_split (λ_=>?_) (λIg=>absurd (by decide +kernel) Ig)
 refine ao (wpAny_typeOf hT ?_)
 exact aw h
theorem Ot {α:Type}:∀(xs:List α) (i:Nat) (h:i<xs.length),(xs[i]::xs.eraseIdx i).Perm xs
 |x::xs,0,_=>.refl _
 |x::xs,i+1,h=>(rG.swap _ _ _).trans (.cons x (Ot xs i (Nat.lt_of_succ_lt_succ h)))
theorem OY {α:Type}(next:Nat->Nat):∀(n k:Nat) (xs:List α) (out:Array α),xs.length=n->((pickOrder.go next n k xs out).toList).Perm (out.toList++xs)
 |0,k,xs,out,h=>by
  have:xs=[]:=ig.mp h
  subst this
  show(out.toList).Perm _
  simp
 |n+1,k,xs,out,h=>by
  have hl:next k%xs.length<xs.length:=qU _ (by omega)
  unfold pickOrder.go
  rw[aR hl]
  dsimp only
  refine(OY next n (k+1) (xs.eraseIdx (next k%xs.length)) (out.push xs[next k%xs.length]) (by rw[List.length_eraseIdx_of_lt hl];omega)).trans ?_
  rw[pT,cC]
  refine rG.append_left _ ?_
  show(xs[next k%xs.length]::xs.eraseIdx (next k%xs.length)).Perm xs
  exact Ot xs _ hl
theorem Kc:(jL w a es ep).toList.Perm es.toList:=by
 unfold jL
 split
 ·exact .refl _
 ·unfold pickOrder
  exact(OY _ _ _ _ _ (by simp)).trans (by simp)
theorem Ke:(jL w a es ep).size=es.size:=by
 have:=(Kc (w:=w) (a:=a) (es:=es) (ep:=ep)).length_eq
 simpa using this
theorem Y0 (hh:A.handled=none)(k:Wk w o es ep t)(nH:a≠it):Walks prog w A it [it,a] [it] es.size (λi v=>∃e,(jL w a es ep)[i]?=some e/\v=e.2) (λi h=>h.get? it=some (tw w a t es.size ep i)/\h.get? a=some o) where
 sub:=λb hb=>by simp at hb;simp[hb]
 frame:=λ_ _ _ st hk=>⟨hk it (by simp) _ st.1,hk a (by simp) _ st.2⟩
 item:=λi s Q E hi st hQ=>by
  have hx:(jL w a es ep)[i]?=some ((jL w a es ep)[i]'(by rw[Ke];exact hi)):=gI _
  refine zsi k st.2 st.1 hi hx λh' g b=>?_
  exact hQ _ h' s.toks ⟨_,hx,rfl⟩ ⟨g,(b.2 a nH).trans st.2⟩ λc o' hc e=>(b.2 c (λz=>hc (by simp[z]))).trans e
 done:=λs Q E st hQ=>zt8 hh k st.2 st.1 (iB (by rw[Ke];exact aH _)) λh' he=>hQ h' s.toks λb o' hb e=>he b o' (λz=>hb (by simp[z])) e
 self:=λ_ _ _ _ st hQ=>zsj st.1 hQ
theorem zt9 (k:Wk w o es ep t):qX prog w "set" a a es.size (λi v=>∃e,(jL w a es ep)[i]?=some e/\v=e.2) (λh=>h.get? a=some o) where
 type:=λ_ hm=>⟨o,hm,k.ex.1⟩
 there:=λ_ hm=>⟨aG hm,aG hm⟩
 keep:=λ_ _ hm hk=>hk a (.inl rfl) _ hm
 notList:=by decide
 notTuple:=by decide
 hint:=λ_ _ _ _ hm hq=>zsk ⟨o,hm,k.ex.1⟩ hq
 iter:=λ_ _ hh hm=>⟨_,_,(λ_ _ hq=>zsg k hm hq),Y0 hh k (bj (aG hm)),⟨ba _ rfl,ap _ hm⟩⟩
end
end SW
end L2
set_option maxHeartbeats 1000000
namespace L2
open PySem PySem.Spec PyProof.Rows
namespace SW
section
variable {prog:aW}{w:bv}{A:bo}{E:aa->ah->Prop}{s:ah}{T:String}{r d a:af}{n:Nat}{P:Nat->aa->Prop}{OK:aI->Prop}
theorem VV {Q:List aa->ah->Prop}(K:qX prog w T r d n P OK)(hh:A.handled=none)(hok:OK s.heap)(hn:n<=sizeLine)
    (hQ:∀h' tk eU,(∀b o,s.heap.get? b=some o->h'.get? b=some o)->s.heap.objs.size<=h'.objs.size->ItemsOf P eU n->Q eU.toList { s with heap:=h',toks:=tk }):aQ (aS prog w) A (collect (.ref r)) Q E s:=by
  have iC:=K.there _ hok
  unfold collect
  refine ao (wpAny_runValue (codeAny_builtin F.entry_proto_collect ?_))
  rw[bo.under_plainId F.plain_proto_collect _]
  show aQ _ A.in1 (newList [] >>= λl=>again (.builtin "list.__iadd__" ⟨[l,.ref r],[]⟩)) _ _ s
  refine ao (dS ?_)
  refine aw ⟨plainId_quiet F.plain_list_iadd _,codeAny_builtin F.entry_list_iadd ?_⟩
  rw[bo.under_plainId F.plain_list_iadd _]
  show aQ _ A.in1 (Builtin.List.listExtendWith (.ref s.heap.objs.size) (.ref r) (.ref s.heap.objs.size)) _ _ _
  have Ie:(s.heap.push { cls:=.type "list",data:=.seq ([]:List aa).toArray }).get? s.heap.objs.size=some { cls:=.type "list",data:=.seq #[] 0 }:=ba _ rfl
  refine PySem.W.kdl_extend (R:=λr s'=>match r with
    |.ok (.ret v)=>aQ (aS prog w) A (match v with
      |.ref a=>do
        match (← load a).data with
        |.seq xs _=>pure xs.toList
        |_=>unsupported "internal:collect"
      |_=>unsupported "internal:collect") Q E s'
    |.ok _=>False
    |.error e=>E e s') (s:={ s with heap:=s.heap.push { cls:=.type "list",data:=.seq ([]:List aa).toArray } }) K hh (K.keep _ _ hok λb _ o e=>ap _ e) _ (gD iC.1) (gD iC.2) _ 0 Ie (λh' tk G2 c' hk rm Ih=>?_) hn
  show aQ _ A (load s.heap.objs.size >>= _) _ _ _
  refine ao (wpAny_load rm ?_)
  exact aw (hQ h' tk G2 (λb o e=>hk b o (bj (aG e)) (ap _ e)) (fC (aG rm)) Ih)
theorem OZ:∀{vs:List aa},(∀v∈vs,∃k t,v=aa.int k t)->IntsAre vs (vs.map iv)
 |[],_=>.nil
 |v::vs,h=>by
  obtain⟨k,t,rfl⟩:=h v ak
  exact .cons k t (OZ λx hx=>h x (aj _ hx))
variable {o:cJ}{es:Array (Int×aa)}{ep:Nat}{t:SetTable}{ns:List Int}
theorem XC {Q:aa->ah->Prop}(hh:A.handled=none)(k:Wk w o es ep t)(ho:s.heap.get? a=some o)(tQ:ElemsOf (intKind prog w) es.toList)(LC:es.size<64)(hv:(es.toList.map λe=>iv e.2).Perm ns)
  (h:∀h' tk p c (out:Array aa) (nc:List Int),IntsAre out.toList nc->nc.Perm ns->nc.Pairwise (·<=·)->(∀b o,s.heap.get? b=some o->h'.get? b=some o)->s.heap.objs.size<=p->h'.get? p=some (seqObj "list" out c)->Q (.ref p) { s with heap:=h',toks:=tk }) :
  aQ (aS prog w) A (call (.builtin "sorted") [.ref a]) Q E s:=by
 refine Calls.call_function_entry kind_sorted plain_sorted entry_sorted (args_sorted1 _) ?_
 unfold Builtin.«sorted»
 refine ao (m:=checkCount "sorted" 1 1 _) (aw ?_)
 refine ao (VV (zt9 k) hh ho (by rw[bC];omega) λh1 tk eU keep oP it=>?_)
 have e:eU.toList=(jL w a es ep).toList.map (·.2):=by
  refine dC (by rw[aA,aZ,aZ,it.1,Ke]) λj h1 h2=>?_
  obtain⟨q,q1,q2⟩:=it.2 j eU.toList[j] (by rw[←cF];exact aR h1)
  rw[q2,ie]
  have h3:j<(jL w a es ep).toList.length:=by simpa using h2
  have:(jL w a es ep).toList[j]?=some q:=by rw[cF];exact q1
  rw[aR h3]at this
  cases this;rfl
 have hp:(eU.toList.map iv).Perm ns:=by
  rw[e,cM]
  exact(Kc.map _).trans hv
 have hi:IntsAre eU.toList (eU.toList.map iv):=OZ λv vK=>by
  rw[e]at vK
  obtain⟨q,hq,rfl⟩:=dc.mp vK
  obtain⟨⟨k',g1,_⟩,_⟩:=tQ q (Kc.mem_iff.mp hq)
  obtain⟨t',g3⟩:=aa.isInt_shape g1
  exact⟨k',t',g3⟩
 have hl:eU.toList.length<64:=by rw[aZ,it.1];exact LC
 generalize eU.toList=vs at hp hi hl ⊢
 refine ao (wpAny_newList ?_ (by rw[bC];omega))
 have qI:(h1.push (seqObj "list" vs.toArray 0)).get? h1.objs.size=some (seqObj "list" vs.toArray 0):=ba _ rfl
 have CG:s.heap.get? h1.objs.size=none:=jE oP
 have DE:∀b o,s.heap.get? b=some o->(h1.push (seqObj "list" vs.toArray 0)).get? b=some o:=λb o q=>ap _ (keep b o q)
 show aQ _ _ _ _ _ { s with heap:=h1.push (seqObj "list" vs.toArray 0),toks:=tk }
 refine ao (dW (wpAny_call_entry slot_list_sort ⟨_,qI,rfl⟩ entry_list_sort (list_sort_tree qI hi hl λout nc a1 a2 a3=>⟨_,rfl,?_⟩) (args_list_sort _)))
 have s1:=cm.update (h1.push (seqObj "list" vs.toArray 0)) h1.objs.size (cJ.mapSeq λ_=>(#[]:Array aa))
 obtain⟨e1,yQ⟩:∃e1,((h1.push (seqObj "list" vs.toArray 0)).update h1.objs.size (cJ.mapSeq λ_=>(#[]:Array aa))).get? h1.objs.size=some (seqObj "list" #[] e1):=⟨_,get?_update_seq qI λ_=>#[]⟩
 have Aq:=ap (seqObj "list" #[] 0) (ap (seqObj "tuple" vs.toArray 0) yQ)
 refine aw ⟨_,rfl,h _ tk h1.objs.size _ out nc a1 (a2.trans hp) a3 (λb o q=>?_) oP (get?_update_seq Aq λ_=>out)⟩
 have hb:b≠h1.objs.size:=λz=>by rw[z,CG]at q;cases q
 exact((iD _ _ (Ne.symm hb)).trans (ap _ (ap _ ((s1.2 b hb).trans (DE b o q)))))
end
end SW
end L2
namespace L2
open PySem
theorem bK.rd {H H':Hp}{a:af}{u:HO}(e:bK H H')(h:Rd H a u):Rd H' a u:=h.elim (λh=>.inl (e _ _ h)) λh=>.inr (h.elim λo h=>⟨o,e _ _ h⟩)
end L2
namespace L3
open PySem PySem.Spec L2
open PyProof.Rows hiding St
inductive D where
 |non|bl (b:Bool)|int (i:Int)|str (x:aP)
 |lst (xs:List D)|tup (xs:List D)|dK (ks:List eF) (ds:List D)|dT (ks:List (List eF)) (ds:List D)
 |obj (c:Nat) (ns:List aP) (ds:List D)
 |exc (c:Nat) (ns:List aP) (ds:List D)
 deriving Inhabited
inductive Pr (R:D->V->Prop):List D->List V->Prop
 |nil:Pr R [] []
 |cons {d:D} {v:V} {ds:List D} {vs:List V}:R d v->Pr R ds vs->Pr R (d::ds) (v::vs)
theorem Pr.mono {R R':D->V->Prop}(f:∀d v,R d v->R' d v){ds:List D}{vs:List V}(h:Pr R ds vs):Pr R' ds vs:=by
 induction h with
 |nil=>exact .nil
 |cons h t ih=>exact .cons (f _ _ h) ih
theorem Pr.length {R:D->V->Prop}{ds:List D}{vs:List V}(h:Pr R ds vs):ds.length=vs.length:=by
 induction h with
 |nil=>rfl
 |cons h t ih=>rw[aF,aF,ih]
theorem Pr.get' {R:D->V->Prop}{ds:List D}{vs:List V}{i:Nat}{d:D}(h:Pr R ds vs)(e:ds[i]?=some d):∃v,vs[i]?=some v/\R d v:=by
 induction h generalizing i with
 |nil=>cases e
 |cons h t ih=>
  cases i with
  |zero=>cases e;exact⟨_,rfl,h⟩
  |succ i=>exact ih e
theorem Pr.append {R:D->V->Prop}{ds es:List D}{vs us:List V}(h:Pr R ds vs)(s:Pr R es us):Pr R (ds++es) (vs++us):=by
 induction h with
 |nil=>exact s
 |cons h t ih=>exact .cons h ih
theorem Pr.take {R:D->V->Prop}{ds:List D}{vs:List V}(n:Nat)(h:Pr R ds vs):Pr R (ds.take n) (vs.take n):=by
 induction h generalizing n with
 |nil=>cases n<;>exact .nil
 |cons h t ih=>cases n with
  |zero=>exact .nil
  |succ n=>exact .cons h (ih n)
theorem Pr.drop {R:D->V->Prop}{ds:List D}{vs:List V}(n:Nat)(h:Pr R ds vs):Pr R (ds.drop n) (vs.drop n):=by
 induction h generalizing n with
 |nil=>cases n<;>exact .nil
 |cons h t ih=>cases n with
  |zero=>exact .cons h t
  |succ n=>exact ih n
theorem Pr.rep {R:D->V->Prop}{ds:List D}{vs:List V}(h:Pr R ds vs)(k:Nat):Pr R (aJ k ds).flatten (aJ k vs).flatten:=by
 induction k with
 |zero=>exact .nil
 |succ k ih=>rw[cA,cD,cA,cD];exact h.append ih
mutual
inductive Dt (K:ae)(ct:Nat->af)(F:Hp):D->V->Prop
 |non:Dt K ct F .non .non
 |bl (b:Bool):Dt K ct F (.bl b) (.bl b)
 |int (i:Int):Dt K ct F (.int i) (.int i)
 |str (x:aP):Dt K ct F (.str x) (.str x)
 |lst {a:af} {vs:List V} {ds:List D}:eR K F a vs->Dts K ct F ds vs->Dt K ct F (.lst ds) (.ref a)
 |tup {a:af} {vs:List V} {ds:List D}:F a=some (.tup vs)->Dts K ct F ds vs->Dt K ct F (.tup ds) (.ref a)
 |dK {a:af} {ks:List eF} {vs:List V} {ds:List D}:F a=some (.dK (ks.zip vs))->ks.length=vs.length->Dts K ct F ds vs->Dt K ct F (.dK ks ds) (.ref a)
 |dT {a:af} {ks:List (List eF)} {vs:List V} {ds:List D}:Rd F a (.dT (ks.zip vs))->ks.length=vs.length->Dts K ct F ds vs->Dt K ct F (.dT ks ds) (.ref a)
 |obj {a dx:af} {c:Nat} {ns:List aP} {vs:List V} {ds:List D}:F a=some (.ins (ct c) dx (ns.zip vs))->ns.length=vs.length->Dts K ct F ds vs->Dt K ct F (.obj c ns ds) (.ref a)
 |exc0 {a:af} {c:Nat} {tb:Option af}:F a=some (Nb a (ct c) none tb)->Dt K ct F (.exc c [] []) (.ref a)
 |exc {a dx:af} {c:Nat} {tb:Option af} {ns:List aP} {vs:List V} {ds:List D}:F a=some (Nb a (ct c) (some dx) tb)->F dx=some (.xd (ns.zip vs))->ns.length=vs.length->Dts K ct F ds vs->Dt K ct F (.exc c ns ds) (.ref a)
inductive Dts (K:ae)(ct:Nat->af)(F:Hp):List D->List V->Prop
 |nil:Dts K ct F [] []
 |cons {d:D} {v:V} {ds:List D} {vs:List V}:Dt K ct F d v->Dts K ct F ds vs->Dts K ct F (d::ds) (v::vs)
end
section
variable {K:ae}{ct:Nat->af}{F F' G G' H H' B B':Hp}
theorem Dts.pr {ds:List D}{vs:List V}(h:Dts K ct F ds vs):Pr (Dt K ct F) ds vs:=by
 induction ds generalizing vs with
 |nil=>cases h;exact .nil
 |cons d ds ih=>cases h with|cons h t=>exact .cons h (ih t)
theorem Dts.of {ds:List D}{vs:List V}(h:Pr (Dt K ct F) ds vs):Dts K ct F ds vs:=by
 induction h with
 |nil=>exact .nil
 |cons h t ih=>exact .cons h ih
theorem Dt.mono (s:bK F F'){d:D}{v:V}(h:Dt K ct F d v):Dt K ct F' d v :=
 Dt.rec (motive_1:=λd v _=>Dt K ct F' d v) (motive_2:=λd v _=>Dts K ct F' d v) .non .bl .int .str (λh _ t=>.lst (s.seq h) t) (λh _ t=>.tup (s _ _ h) t) (λh l _ t=>.dK (s _ _ h) l t) (λh l _ t=>.dT (s.rd h) l t) (λh l _ t=>.obj (s _ _ h) l t) (λh=>.exc0 (s _ _ h)) (λh h' l _ t=>.exc (s _ _ h) (s _ _ h') l t) .nil (λ_ _ h t=>.cons h t) h
end
def D.sc:D->Bool
 |.non=>true|.bl _=>true|.int _=>true|.str _=>true|_=>false
inductive Af (K:ae)(ct:Nat->af)(F G:Hp)(R:D->V->Prop):D->V->Prop
 |lst {a:af} {vs:List V} {ds:List D}:G a=some (.lst vs)->Pr R ds vs->Af K ct F G R (.lst ds) (.ref a)
 |tup {a:af} {vs:List V} {ds:List D}:F a=some (.tup vs)->Pr R ds vs->Af K ct F G R (.tup ds) (.ref a)
 |dK {a:af} {ks:List eF} {vs:List V} {ds:List D}:G a=some (.dK (ks.zip vs))->ks.length=vs.length->Pr R ds vs->Af K ct F G R (.dK ks ds) (.ref a)
 |dT {a:af} {ks:List (List eF)} {vs:List V} {ds:List D}:Rd G a (.dT (ks.zip vs))->ks.length=vs.length->Pr R ds vs->Af K ct F G R (.dT ks ds) (.ref a)
 |obj {a dx:af} {c:Nat} {ns:List aP} {vs:List V} {ds:List D}:G a=some (.ins (ct c) dx (ns.zip vs))->ns.length=vs.length->Pr R ds vs->Af K ct F G R (.obj c ns ds) (.ref a)
def Al (K:ae)(ct:Nat->af)(F G:Hp):Nat->D->V->Prop
 |0,d,v=>Dt K ct F d v
 |n+1,d,v=>Dt K ct F d v\/Af K ct F G (Al K ct F G n) d v
inductive dY (R:D->V->List af->Prop):List D->List V->List af->Prop
 |nil:dY R [] [] []
 |cons {d:D} {v:V} {ds:List D} {vs:List V} {f g:List af}:R d v f->dY R ds vs g->dY R (d::ds) (v::vs) (f++g)
inductive sX (K:ae)(ct:Nat->af)(F H:Hp)(R:D->V->List af->Prop):D->V->List af->Prop
 |lst {a:af} {vs:List V} {ds:List D} {fp:List af}:F a=none->H a=some (.lst vs)->dY R ds vs fp->sX K ct F H R (.lst ds) (.ref a) (a::fp)
 |tup {a:af} {vs:List V} {ds:List D} {fp:List af}:F a=some (.tup vs)->dY R ds vs fp->sX K ct F H R (.tup ds) (.ref a) fp
 |dK {a:af} {ks:List eF} {vs:List V} {ds:List D} {fp:List af}:F a=none->H a=some (.dK (ks.zip vs))->ks.length=vs.length->dY R ds vs fp->sX K ct F H R (.dK ks ds) (.ref a) (a::fp)
 |dT {a:af} {ks:List (List eF)} {vs:List V} {ds:List D} {fp:List af}:F a=none->H a=some (.dT (ks.zip vs))->ks.length=vs.length->dY R ds vs fp->sX K ct F H R (.dT ks ds) (.ref a) (a::fp)
 |obj {a dx:af} {c:Nat} {ns:List aP} {vs:List V} {ds:List D} {fp:List af}:F a=none->H a=some (.ins (ct c) dx (ns.zip vs))->ns.length=vs.length->dY R ds vs fp->sX K ct F H R (.obj c ns ds) (.ref a) (a::fp)
def Ow (K:ae)(ct:Nat->af)(F H:Hp):Nat->D->V->List af->Prop
 |0,d,v,fp=>Dt K ct F d v/\fp=[]
 |n+1,d,v,fp=>(d.sc=true/\Dt K ct F d v/\fp=[])\/sX K ct F H (Ow K ct F H n) d v fp
def jV (o:HO):Prop:=∀xs,o≠.tup xs
structure fL (F H F' H':Hp):Prop where
 ff:bK F F'
 hh:bK H H'
 fh:bK F' H'
 nf:∀a o,H a=some o->jV o->F a=none->F' a=none
theorem fL.refl {F H:Hp}(h:bK F H):fL F H F H:=⟨.refl _,.refl _,h,λ_ _ _ _ h=>h⟩
theorem fL.trans {F H F1 H1 F2 H2:Hp}(a:fL F H F1 H1)(b:fL F1 H1 F2 H2):fL F H F2 H2 :=
 ⟨a.ff.trans b.ff,a.hh.trans b.hh,b.fh,λc o h t n=>b.nf c o (a.hh _ _ h) t (a.nf c o h t n)⟩
theorem fL.newO {F H:Hp}{p:af}(s:bK F H)(h:H p=none)(o:HO):fL F H F (upd H p o) :=
 ⟨.refl _,EU h o,s.trans (EU h o),λ_ _ _ _ h=>h⟩
theorem fL.newS {F H:Hp}{p:af}(s:bK F H)(h:H p=none)(o:HO):fL F H (upd F p o) (upd H p o) :=
  ⟨EU (s.free h) o,EU h o,λb u q=>by
    by_cases e:b=p
    · subst e;rw[yr]at q ⊢;exact q
    · rw[zn e]at q ⊢;exact s _ _ q,
   λb u q _ n=>by rw[zn (yy q h)];exact n⟩
section
variable {K:ae}{ct:Nat->af}{F F' G G' H H' B B':Hp}
theorem Al.mono (sF:bK F F')(sG:bK G G'){n:Nat}:∀{d:D} {v:V},Al K ct F G n d v->Al K ct F' G' n d v:=by
 induction n with
 |zero=>exactλh=>Dt.mono sF h
 |succ n ih=>
  intro d v h
  rcases h with h|h
  ·exact .inl (Dt.mono sF h)
  ·cases h with
   |lst h p=>exact .inr (.lst (sG _ _ h) (p.mono λ_ _ q=>ih q))
   |tup h p=>exact .inr (.tup (sF _ _ h) (p.mono λ_ _ q=>ih q))
   |dK h l p=>exact .inr (.dK (sG _ _ h) l (p.mono λ_ _ q=>ih q))
   |dT h l p=>exact .inr (.dT (sG.rd h) l (p.mono λ_ _ q=>ih q))
   |obj h l p=>exact .inr (.obj (sG _ _ h) l (p.mono λ_ _ q=>ih q))
theorem Al.of:∀{n:Nat} {d:D} {v:V},Dt K ct F d v->Al K ct F G n d v
 |0,_,_,h=>h
 |_+1,_,_,h=>.inl h
theorem Al.up {n:Nat}:∀{m:Nat} {d:D} {v:V},Al K ct F G n d v->n<=m->Al K ct F G m d v:=by
 induction n with
 |zero=>exactλh _=>Al.of h
 |succ n ih=>
  intro m d v h l
  cases m with
  |zero=>exact absurd l (by omega)
  |succ m=>
   rcases h with h|h
   ·exact .inl h
   ·cases h with
    |lst h p=>exact .inr (.lst h (p.mono λ_ _ q=>ih q (by omega)))
    |tup h p=>exact .inr (.tup h (p.mono λ_ _ q=>ih q (by omega)))
    |dK h e p=>exact .inr (.dK h e (p.mono λ_ _ q=>ih q (by omega)))
    |dT h e p=>exact .inr (.dT h e (p.mono λ_ _ q=>ih q (by omega)))
    |obj h e p=>exact .inr (.obj h e (p.mono λ_ _ q=>ih q (by omega)))
theorem Dt.scal {d:D}{v:V}(h:Dt K ct F d v)(hs:d.sc=true):Dt K ct F' d v:=by
 cases h with
 |non=>exact .non
 |bl b=>exact .bl b
 |int i=>exact .int i
 |str x=>exact .str x
 |lst _ _=>cases hs
 |tup _ _=>cases hs
 |dK _ _ _=>cases hs
 |dT _ _ _=>cases hs
 |obj _ _ _=>cases hs
 |exc0 _=>cases hs
 |exc _ _ _ _=>cases hs
theorem Al.scal {n:Nat}{d:D}{v:V}(h:Al K ct F G n d v)(hs:d.sc=true):Dt K ct F' d v:=by
 cases n with
 |zero=>exact Dt.scal h hs
 |succ n=>
  rcases h with h|h
  ·exact h.scal hs
  ·cases h<;>cases hs
theorem Al.int {n:Nat}{i:Int}{v:V}(h:Al K ct F G n (.int i) v):v=.int i:=by
 have q:=Al.scal (F':=F) h rfl
 cases q;rfl
theorem Al.bl {n:Nat}{b:Bool}{v:V}(h:Al K ct F G n (.bl b) v):v=.bl b:=by
 have q:=Al.scal (F':=F) h rfl
 cases q;rfl
theorem Al.str {n:Nat}{x:aP}{v:V}(h:Al K ct F G n (.str x) v):v=.str x:=by
 have q:=Al.scal (F':=F) h rfl
 cases q;rfl
theorem Al.non {n:Nat}{v:V}(h:Al K ct F G n .non v):v=.non:=by
 have q:=Al.scal (F':=F) h rfl
 cases q;rfl
theorem Al.lst {n:Nat}{ds:List D}{v:V}(h:Al K ct F G n (.lst ds) v)(s:bK F G):∃a vs,v=.ref a/\eR K G a vs/\Pr (Al K ct F G (n-1)) ds vs:=by
 cases n with
 |zero=>
  have h:Dt K ct F (.lst ds) v:=h
  cases h with
  |lst q t=>exact⟨_,_,rfl,s.seq q,t.pr⟩
 |succ n=>
  rcases h with h|h
  ·cases h with
   |lst q t=>exact⟨_,_,rfl,s.seq q,t.pr.mono λ_ _=>Al.of⟩
  ·cases h with
   |lst q t=>exact⟨_,_,rfl,eR.of q,t⟩
theorem Al.tup {n:Nat}{ds:List D}{v:V}(h:Al K ct F G n (.tup ds) v)(s:bK F G):∃a vs,v=.ref a/\G a=some (.tup vs)/\Pr (Al K ct F G (n-1)) ds vs:=by
 cases n with
 |zero=>
  have h:Dt K ct F (.tup ds) v:=h
  cases h with
  |tup q t=>exact⟨_,_,rfl,s _ _ q,t.pr⟩
 |succ n=>
  rcases h with h|h
  ·cases h with
   |tup q t=>exact⟨_,_,rfl,s _ _ q,t.pr.mono λ_ _=>Al.of⟩
  ·cases h with
   |tup q t=>exact⟨_,_,rfl,s _ _ q,t⟩
theorem Al.dK {n:Nat}{ks:List eF}{ds:List D}{v:V}(h:Al K ct F G n (.dK ks ds) v)(s:bK F G):∃a vs,v=.ref a/\G a=some (.dK (ks.zip vs))/\ks.length=vs.length/\Pr (Al K ct F G (n-1)) ds vs:=by
 cases n with
 |zero=>
  have h:Dt K ct F (.dK ks ds) v:=h
  cases h with
  |dK q l t=>exact⟨_,_,rfl,s _ _ q,l,t.pr⟩
 |succ n=>
  rcases h with h|h
  ·cases h with
   |dK q l t=>exact⟨_,_,rfl,s _ _ q,l,t.pr.mono λ_ _=>Al.of⟩
  ·cases h with
   |dK q l t=>exact⟨_,_,rfl,q,l,t⟩
theorem Al.dT {n:Nat}{ks:List (List eF)}{ds:List D}{v:V}(h:Al K ct F G n (.dT ks ds) v)(s:bK F G):∃a vs,v=.ref a/\Rd G a (.dT (ks.zip vs))/\ks.length=vs.length/\Pr (Al K ct F G (n-1)) ds vs:=by
 cases n with
 |zero=>
  have h:Dt K ct F (.dT ks ds) v:=h
  cases h with
  |dT q l t=>exact⟨_,_,rfl,s.rd q,l,t.pr⟩
 |succ n=>
  rcases h with h|h
  ·cases h with
   |dT q l t=>exact⟨_,_,rfl,s.rd q,l,t.pr.mono λ_ _=>Al.of⟩
  ·cases h with
   |dT q l t=>exact⟨_,_,rfl,q,l,t⟩
theorem Al.obj {n:Nat}{c:Nat}{ns:List aP}{ds:List D}{v:V}(h:Al K ct F G n (.obj c ns ds) v)(s:bK F G):∃a dx vs,v=.ref a/\G a=some (.ins (ct c) dx (ns.zip vs))/\ns.length=vs.length/\Pr (Al K ct F G (n-1)) ds vs:=by
 cases n with
 |zero=>
  have h:Dt K ct F (.obj c ns ds) v:=h
  cases h with
  |obj q l t=>exact⟨_,_,_,rfl,s _ _ q,l,t.pr⟩
 |succ n=>
  rcases h with h|h
  ·cases h with
   |obj q l t=>exact⟨_,_,_,rfl,s _ _ q,l,t.pr.mono λ_ _=>Al.of⟩
  ·cases h with
   |obj q l t=>exact⟨_,_,_,rfl,q,l,t⟩
theorem dY.mono {R R':D->V->List af->Prop}{ds:List D}{vs:List V}{fp:List af}(h:dY R ds vs fp):(∀d v f,(∀a∈f,a∈fp)->R d v f->R' d v f)->dY R' ds vs fp:=by
 induction h with
 |nil=>exactλ_=>.nil
 |cons h t ih=>exactλq=>.cons (q _ _ _ (λa z=>bx _ z) h) (ih λd v f i r=>q d v f (λa z=>aB _ (i a z)) r)
theorem dY.pr {R:D->V->List af->Prop}{R':D->V->Prop}{ds:List D}{vs:List V}{fp:List af}(h:dY R ds vs fp):(∀d v f,(∀a∈f,a∈fp)->R d v f->R' d v)->Pr R' ds vs:=by
 induction h with
 |nil=>exactλ_=>.nil
 |cons h t ih=>exactλq=>.cons (q _ _ _ (λa z=>bx _ z) h) (ih λd v f i r=>q d v f (λa z=>aB _ (i a z)) r)
theorem dY.ofPr {R:D->V->List af->Prop}{ds:List D}{vs:List V}(h:Pr (λd v=>R d v []) ds vs):dY R ds vs []:=by
 induction h with
 |nil=>exact .nil
 |cons h t ih=>exact dY.cons (f:=[]) (g:=[]) h ih
theorem dY.append {R:D->V->List af->Prop}{ds es:List D}{vs us:List V}{f g:List af}(h:dY R ds vs f)(s:dY R es us g):dY R (ds++es) (vs++us) (f++g):=by
 induction h with
 |nil=>exact s
 |cons h t ih=>rw[cC];exact .cons h ih
theorem dY.length {R:D->V->List af->Prop}{ds:List D}{vs:List V}{fp:List af}(h:dY R ds vs fp):ds.length=vs.length:=by
 induction h with
 |nil=>rfl
 |cons _ t ih=>simp[ih]
theorem Ow.frame (sF:bK F F'){n:Nat}:∀{d:D} {v:V} {fp:List af},Ow K ct F H n d v fp->(∀a∈fp,H' a=H a/\F' a=none)->Ow K ct F' H' n d v fp:=by
 induction n with
 |zero=>exactλh _=>⟨h.1.mono sF,h.2⟩
 |succ n ih=>
  intro d v fp h k
  rcases h with h|h
  ·exact .inl ⟨h.1,h.2.1.mono sF,h.2.2⟩
  ·cases h with
   |lst hn h p=>exact .inr (.lst (k _ ak).2 ((k _ ak).1.trans h) (p.mono λ_ _ _ i q=>ih q λa z=>k a (aj _ (i a z))))
   |tup h p=>exact .inr (.tup (sF _ _ h) (p.mono λ_ _ _ i q=>ih q λa z=>k a (i a z)))
   |dK hn h l p=>exact .inr (.dK (k _ ak).2 ((k _ ak).1.trans h) l (p.mono λ_ _ _ i q=>ih q λa z=>k a (aj _ (i a z))))
   |dT hn h l p=>exact .inr (.dT (k _ ak).2 ((k _ ak).1.trans h) l (p.mono λ_ _ _ i q=>ih q λa z=>k a (aj _ (i a z))))
   |obj hn h l p=>exact .inr (.obj (k _ ak).2 ((k _ ak).1.trans h) l (p.mono λ_ _ _ i q=>ih q λa z=>k a (aj _ (i a z))))
theorem dY.cells0 {R:D->V->List af->Prop}(k:∀d v f,R d v f->∀a∈f,F a=none/\∃o,H a=some o/\jV o){ds:List D}{vs:List V}{fp:List af}(h:dY R ds vs fp):∀a∈fp,F a=none/\∃o,H a=some o/\jV o:=by
 induction h with
 |nil=>exactλa z=>by cases z
 |cons h t ih=>exactλa z=>(aU.mp z).elim (λz=>k _ _ _ h a z) (ih a)
theorem Ow.cells {n:Nat}:∀{d:D} {v:V} {fp:List af},Ow K ct F H n d v fp->∀a∈fp,F a=none/\∃o,H a=some o/\jV o:=by
 induction n with
 |zero=>exactλh a z=>by rw[h.2]at z;cases z
 |succ n ih=>
  intro d v fp h a z
  rcases h with h|h
  ·rw[h.2.2]at z;cases z
  ·cases h with
   |lst hn h p=>exact(av.mp z).elim (λe=>by rw[e];exact⟨hn,_,h,nofun⟩) (dY.cells0 (λd v f q=>ih q) p a)
   |tup h p=>exact dY.cells0 (λd v f q=>ih q) p a z
   |dK hn h l p=>exact(av.mp z).elim (λe=>by rw[e];exact⟨hn,_,h,nofun⟩) (dY.cells0 (λd v f q=>ih q) p a)
   |dT hn h l p=>exact(av.mp z).elim (λe=>by rw[e];exact⟨hn,_,h,nofun⟩) (dY.cells0 (λd v f q=>ih q) p a)
   |obj hn h l p=>exact(av.mp z).elim (λe=>by rw[e];exact⟨hn,_,h,nofun⟩) (dY.cells0 (λd v f q=>ih q) p a)
theorem Ow.ext {n:Nat}{d:D}{v:V}{fp:List af}(h:Ow K ct F H n d v fp)(e:fL F H F' H'):Ow K ct F' H' n d v fp :=
 h.frame e.ff λa z=>by
  obtain⟨hn,o,ho,nt⟩:=h.cells a z
  exact⟨(e.hh _ _ ho).trans ho.symm,e.nf a o ho nt hn⟩
theorem Ow.al (s:bK F H){n:Nat}:∀{d:D} {v:V} {fp:List af},Ow K ct F H n d v fp->Al K ct F H n d v:=by
 induction n with
 |zero=>exactλh=>h.1
 |succ n ih=>
  intro d v fp h
  rcases h with h|h
  ·exact .inl h.2.1
  ·cases h with
   |lst hn h p=>exact .inr (.lst h (p.pr λ_ _ _ _ q=>ih q))
   |tup h p=>exact .inr (.tup h (p.pr λ_ _ _ _ q=>ih q))
   |dK hn h l p=>exact .inr (.dK h l (p.pr λ_ _ _ _ q=>ih q))
   |dT hn h l p=>exact .inr (.dT (.inl h) l (p.pr λ_ _ _ _ q=>ih q))
   |obj hn h l p=>exact .inr (.obj h l (p.pr λ_ _ _ _ q=>ih q))
theorem Ow.dt (sF:bK F F'){n:Nat}:∀{d:D} {v:V} {fp:List af},Ow K ct F H n d v fp->(∀a∈fp,F' a=H a)->Dt K ct F' d v:=by
 induction n with
 |zero=>exactλh _=>h.1.mono sF
 |succ n ih=>
  intro d v fp h k
  rcases h with h|h
  ·exact h.2.1.mono sF
  ·cases h with
   |lst hn h p=>exact .lst (eR.of ((k _ ak).trans h)) (.of (p.pr λ_ _ _ i q=>ih q λa z=>k a (aj _ (i a z))))
   |tup h p=>exact .tup (sF _ _ h) (.of (p.pr λ_ _ _ i q=>ih q λa z=>k a (i a z)))
   |dK hn h l p=>exact .dK ((k _ ak).trans h) l (.of (p.pr λ_ _ _ i q=>ih q λa z=>k a (aj _ (i a z))))
   |dT hn h l p=>exact .dT (.inl ((k _ ak).trans h)) l (.of (p.pr λ_ _ _ i q=>ih q λa z=>k a (aj _ (i a z))))
   |obj hn h l p=>exact .obj ((k _ ak).trans h) l (.of (p.pr λ_ _ _ i q=>ih q λa z=>k a (aj _ (i a z))))
def gP (F H:Hp)(fp:List af):Hp:=λa=>if a∈fp then H a else F a
theorem v5 {fp:List af}(s:bK F H)(hf:∀a∈fp,F a=none):bK F (gP F H fp)/\bK (gP F H fp) H/\∀a∈fp,gP F H fp a=H a:=by
 refine⟨λa o h=>?_,λa o h=>?_,λa z=>if_pos z⟩
 ·have:¬a∈fp:=λz=>by rw[hf a z]at h;cases h
  unfold gP;rw[if_neg this];exact h
 ·unfold gP at h
  by_cases z:a∈fp
  ·rw[if_pos z]at h;exact h
  ·rw[if_neg z]at h;exact s _ _ h
theorem Ow.freeze {n:Nat}{d:D}{v:V}{fp:List af}{F0 H0:Hp}(h:Ow K ct F H n d v fp)(e:fL F0 H0 F H)(hf:∀a∈fp,H0 a=none):∃F',fL F0 H0 F' H/\Dt K ct F' d v:=by
 obtain⟨w1,w2,w3⟩:=v5 (fp:=fp) e.fh (λa z=>(h.cells a z).1)
 refine⟨gP F H fp,⟨e.ff.trans w1,e.hh,w2,λa o ho nt hn=>?_⟩,h.dt w1 w3⟩
 have:¬a∈fp:=λz=>by rw[hf a z]at ho;cases ho
 unfold gP;rw[if_neg this];exact e.nf a o ho nt hn
theorem Ow.zero {d:D}{v:V}(h:Dt K ct F d v):Ow K ct F H 0 d v []:=⟨h,rfl⟩
theorem Ow.scal {n:Nat}{d:D}{v:V}(h:Dt K ct F d v)(hs:d.sc=true):Ow K ct F H n d v []:=by
 cases n with
 |zero=>exact⟨h,rfl⟩
 |succ n=>exact .inl ⟨hs,h,rfl⟩
end
end L3
namespace L3
open PySem PySem.Spec L2
open PyProof.Rows hiding St
abbrev Env:=List (Option D)
inductive Mo where
 |al (n:Nat)|ow (n:Nat)|px (v:V)|so (x:af)
def Mo.lv:Mo->Nat
 |.al n=>n
 |.ow n=>n
 |.px _=>1
 |.so _=>1
section
variable (K:ae)(ct:Nat->af)
inductive SL (F B H:Hp):List Mo->Env->St->List af->Prop
 |nil:SL F B H [] [] [] []
 |no {m:Mo} {o:Option V} {ms:List Mo} {ρ:Env} {σ:St} {fp:List af}:SL F B H ms ρ σ fp->SL F B H (m::ms) (none::ρ) (o::σ) fp
 |al {n:Nat} {d:D} {v:V} {ms:List Mo} {ρ:Env} {σ:St} {fp:List af}:Al K ct F B n d v->SL F B H ms ρ σ fp->SL F B H (.al n::ms) (some d::ρ) (some v::σ) fp
 |px {d:D} {v:V} {ms:List Mo} {ρ:Env} {σ:St} {fp:List af}:Al K ct F B 1 d v->SL F B H ms ρ σ fp->SL F B H (.px v::ms) (some d::ρ) (some v::σ) fp
 |so {d:D} {x:af} {ms:List Mo} {ρ:Env} {σ:St} {fp:List af}:Ow K ct F H 1 d (.ref x) [x]->SL F B H ms ρ σ fp->SL F B H (.so x::ms) (some d::ρ) (some (.ref x)::σ) (x::fp)
 |ow {n:Nat} {d:D} {v:V} {ms:List Mo} {ρ:Env} {σ:St} {f fp:List af}:Ow K ct F H n d v f->SL F B H ms ρ σ fp->SL F B H (.ow n::ms) (some d::ρ) (some v::σ) (f++fp)
structure RS (F0 B:Hp)(ms:List Mo)(F H:Hp)(ρ:Env)(σ:St):Prop where
 f0:bK F0 F
 bh:bK B H
 fh:bK F H
 nf:∀a o,B a=some o->jV o->F0 a=none->F a=none
 sl:∃fp,SL K ct F B H ms ρ σ fp/\fp.Nodup/\∀a∈fp,B a=none
end
section
variable {K:ae}{ct:Nat->af}{F F' G G' H H' B B' F0:Hp}{ms:List Mo}{ρ:Env}{σ:St}
theorem SL.cells {ms:List Mo}{ρ:Env}{σ:St}{fp:List af}(h:SL K ct F B H ms ρ σ fp):∀a∈fp,F a=none/\∃o,H a=some o/\jV o:=by
 induction h with
 |nil=>intro a z;cases z
 |no t ih=>exact ih
 |al _ t ih=>exact ih
 |px _ t ih=>exact ih
 |so h t ih=>exactλa z=>(av.mp z).elim (λz=>h.cells a (by rw[z];exact ak)) (ih a)
 |ow h t ih=>exactλa z=>(aU.mp z).elim (h.cells a) (ih a)
theorem SL.frame (sF:bK F F'){ms:List Mo}{ρ:Env}{σ:St}{fp:List af}(h:SL K ct F B H ms ρ σ fp):(∀a∈fp,H' a=H a/\F' a=none)->SL K ct F' B H' ms ρ σ fp:=by
 induction h with
 |nil=>exactλ_=>.nil
 |no t ih=>exactλk=>.no (ih k)
 |al h t ih=>exactλk=>.al (h.mono sF (.refl _)) (ih k)
 |px h t ih=>exactλk=>.px (h.mono sF (.refl _)) (ih k)
 |so h t ih=>exactλk=>.so (h.frame sF λa z=>k a (by rw[aN]at z;rw[z];exact ak)) (ih λa z=>k a (aj _ z))
 |ow h t ih=>exactλk=>.ow (h.frame sF λa z=>k a (bx _ z)) (ih λa z=>k a (aB _ z))
theorem RS.ext (r:RS K ct F0 B ms F H ρ σ)(e:fL F H F' H'):RS K ct F0 B ms F' H' ρ σ:=by
 obtain⟨fp,s,nd,hb⟩:=r.sl
 refine⟨r.f0.trans e.ff,r.bh.trans e.hh,e.fh,λa o h t n=>e.nf a o (r.bh _ _ h) t (r.nf a o h t n),fp,s.frame e.ff λa z=>?_,nd,hb⟩
 obtain⟨hn,o,ho,nt⟩:=s.cells a z
 exact⟨(e.hh _ _ ho).trans ho.symm,e.nf a o ho nt hn⟩
theorem SL.get {ms:List Mo}{ρ:Env}{σ:St}{fp:List af}{i:Nat}{m:Mo}{d:D}(h:SL K ct F B H ms ρ σ fp)(s:bK F H)(s':bK B H):ms[i]?=some m->ρ[i]?=some (some d)->∃v,σ[i]?=some (some v)/\Al K ct F H m.lv d v:=by
 induction h generalizing i with
 |nil=>intro e;simp at e
 |no t ih=>
  intro e e'
  cases i with
  |zero=>simp at e'
  |succ i=>simpa using ih (by simpa using e) (by simpa using e')
 |al h t ih=>
  intro e e'
  cases i with
  |zero=>
   simp at e e';subst e;subst e'
   exact⟨_,rfl,h.mono (.refl _) s'⟩
  |succ i=>simpa using ih (by simpa using e) (by simpa using e')
 |px h t ih=>
  intro e e'
  cases i with
  |zero=>
   simp at e e';subst e;subst e'
   exact⟨_,rfl,h.mono (.refl _) s'⟩
  |succ i=>simpa using ih (by simpa using e) (by simpa using e')
 |so h t ih=>
  intro e e'
  cases i with
  |zero=>
   simp at e e';subst e;subst e'
   exact⟨_,rfl,h.al s⟩
  |succ i=>simpa using ih (by simpa using e) (by simpa using e')
 |ow h t ih=>
  intro e e'
  cases i with
  |zero=>
   simp at e e';subst e;subst e'
   exact⟨_,rfl,h.al s⟩
  |succ i=>simpa using ih (by simpa using e) (by simpa using e')
theorem RS.get (r:RS K ct F0 B ms F H ρ σ){i:Nat}{m:Mo}{d:D}(hm:ms[i]?=some m)(e:ρ[i]?=some (some d)):∃v,σ[i]?=some (some v)/\Al K ct F H m.lv d v:=by
 obtain⟨fp,s,_,_⟩:=r.sl
 exact s.get r.fh r.bh hm e
theorem SL.put {ms:List Mo}{ρ:Env}{σ:St}{fp:List af}{i k:Nat}(h0:SL K ct F B H ms ρ σ fp):ms[i]?=some (.ow k) ->
  ∃f1 fr:List af,(∀a∈f1,a∈fp)/\(∀a∈fr,a∈fp)/\(fp.Nodup->f1.Nodup/\fr.Nodup/\∀a∈f1,a∉fr)/\(∀d,ρ[i]?=some (some d)->∃v,σ[i]?=some (some v)/\Ow K ct F H k d v f1) /\
   ∀(F' H':Hp) (d':D) (v':V) (f':List af),bK F F'->(∀a∈fr,H' a=H a/\F' a=none)->Ow K ct F' H' k d' v' f' ->
    ∃gF,SL K ct F' B H' ms (ρ.set i (some d')) (σ.set i (some v')) gF/\(∀a∈gF,a∈f'\/a∈fr)/\(f'.Nodup->fr.Nodup->(∀a∈f',a∉fr)->gF.Nodup):=by
 induction h0 generalizing i with
 |nil=>
  intro e
  simp at e
 |@no m0 o0 ms ρ σ fp t ih=>
  intro e
  cases i with
  |zero=>
   simp at e;subst e
   refine⟨[],fp,λa z=>(by cases z),λa z=>z,λn=>⟨bz,n,λa z=>(by cases z)⟩,λd q=>(by simp at q),λF' H' d' v' f' s kf h=>⟨f'++fp,.ow h (t.frame s kf),λa z=>aU.mp z,λn1 n2 dj=>?_⟩⟩
   exact bn.mpr ⟨n1,n2,λa z b zb e=>dj a z (e▸zb)⟩
  |succ i=>
   obtain⟨f1,fr,h1,h2,h3,h4,h5⟩:=ih (i:=i) (by simpa using e)
   refine⟨f1,fr,h1,h2,h3,λd q=>by simpa using h4 d (by simpa using q),λF' H' d' v' f' s kf h=>?_⟩
   obtain⟨gF,q1,q2,q3⟩:=h5 F' H' d' v' f' s kf h
   exact⟨gF,.no q1,q2,q3⟩
 |@al n0 d0 v0 ms ρ σ fp h t ih=>
  intro e
  cases i with
  |zero=>
   simp at e
  |succ i=>
   obtain⟨f1,fr,h1,h2,h3,h4,h5⟩:=ih (i:=i) (by simpa using e)
   refine⟨f1,fr,h1,h2,h3,λd q=>by simpa using h4 d (by simpa using q),λF' H' d' v' f' s kf h'=>?_⟩
   obtain⟨gF,q1,q2,q3⟩:=h5 F' H' d' v' f' s kf h'
   exact⟨gF,.al (h.mono s (.refl _)) q1,q2,q3⟩
 |@px d0 v0 ms ρ σ fp h t ih=>
  intro e
  cases i with
  |zero=>
   simp at e
  |succ i=>
   obtain⟨f1,fr,h1,h2,h3,h4,h5⟩:=ih (i:=i) (by simpa using e)
   refine⟨f1,fr,h1,h2,h3,λd q=>by simpa using h4 d (by simpa using q),λF' H' d' v' f' s kf h'=>?_⟩
   obtain⟨gF,q1,q2,q3⟩:=h5 F' H' d' v' f' s kf h'
   exact⟨gF,.px (h.mono s (.refl _)) q1,q2,q3⟩
 |@so d0 x ms ρ σ fp h t ih=>
  intro e
  cases i with
  |zero=>
   simp at e
  |succ i=>
   obtain⟨f1,fr,h1,h2,h3,h4,h5⟩:=ih (i:=i) (by simpa using e)
   refine⟨f1,x::fr,λa z=>aj _ (h1 a z),λa z=>(av.mp z).elim (λz=>by rw[z];exact ak) λz=>aj _ (h2 a z),λn=>?_,λd q=>by simpa using h4 d (by simpa using q),λF' H' d' v' f' s kf h'=>?_⟩
   ·obtain⟨n1,n2⟩:=bp.mp n
    obtain⟨m1,m2,m3⟩:=h3 n2
    refine⟨m1,bp.mpr ⟨λz=>n1 (h2 x z),m2⟩,λa z zb=>?_⟩
    rcases av.mp zb with zb|zb
    ·rw[zb]at z;exact n1 (h1 x z)
    ·exact m3 a z zb
   ·obtain⟨gF,q1,q2,q3⟩:=h5 F' H' d' v' f' s (λa z=>kf a (aj _ z)) h'
    refine⟨x::gF,.so (h.frame s λa z=>kf a (by rw[aN]at z;rw[z];exact ak)) q1,λa z=>?_,λn1 n2 dj=>?_⟩
    ·rcases av.mp z with z|z
     ·exact .inr (by rw[z];exact ak)
     ·exact(q2 a z).imp id λz=>aj _ z
    ·obtain⟨m1,m2⟩:=bp.mp n2
     refine bp.mpr ⟨λz=>?_,q3 n1 m2 λa z zb=>dj a z (aj _ zb)⟩
     rcases q2 x z with z|z
     ·exact dj x z ak
     ·exact m1 z
 |@ow n0 d0 v0 ms ρ σ f fp h t ih=>
  intro e
  cases i with
  |zero=>
   simp at e;subst e
   refine⟨f,fp,λa z=>bx _ z,λa z=>aB _ z,λn=>?_,λd q=>?_,λF' H' d' v' f' s kf h=>⟨f'++fp,.ow h (t.frame s kf),λa z=>aU.mp z,λn1 n2 dj=>?_⟩⟩
   ·obtain⟨n1,n2,n3⟩:=bn.mp n
    exact⟨n1,n2,λa z zb=>n3 a z a zb rfl⟩
   ·simp at q;subst q;exact⟨_,rfl,h⟩
   ·exact bn.mpr ⟨n1,n2,λa z b zb e=>dj a z (e▸zb)⟩
  |succ i=>
   obtain⟨f1,fr,h1,h2,h3,h4,h5⟩:=ih (i:=i) (by simpa using e)
   refine⟨f1,f++fr,λa z=>aB _ (h1 a z),λa z=>(aU.mp z).elim (λz=>bx _ z) λz=>aB _ (h2 a z),λn=>?_,λd q=>by simpa using h4 d (by simpa using q),λF' H' d' v' f' s kf h'=>?_⟩
   ·obtain⟨n1,n2,n3⟩:=bn.mp n
    obtain⟨m1,m2,m3⟩:=h3 n2
    refine⟨m1,bn.mpr ⟨n1,m2,λa z b zb=>n3 a z b (h2 b zb)⟩,λa z zb=>?_⟩
    rcases aU.mp zb with zb|zb
    ·exact n3 a zb a (h1 a z) rfl
    ·exact m3 a z zb
   ·obtain⟨gF,q1,q2,q3⟩:=h5 F' H' d' v' f' s (λa z=>kf a (aB _ z)) h'
    refine⟨f++gF,.ow (h.frame s λa z=>kf a (bx _ z)) q1,λa z=>?_,λn1 n2 dj=>?_⟩
    ·rcases aU.mp z with z|z
     ·exact .inr (bx _ z)
     ·exact(q2 a z).imp id λz=>aB _ z
    ·obtain⟨m1,m2,m3⟩:=bn.mp n2
     refine bn.mpr ⟨m1,q3 n1 m2 λa z zb=>dj a z (aB _ zb),λa z b zb e=>?_⟩
     subst e
     rcases q2 a zb with zb|zb
     ·exact dj a zb (bx _ z)
     ·exact m3 a z a zb rfl
end
abbrev EF:=Env->Option D
inductive jN (K:ae)(ct:Nat->af)(F G:Hp):List Nat->List D->List V->Prop
 |nil:jN K ct F G [] [] []
 |cons {n:Nat} {d:D} {v:V} {ns:List Nat} {ds:List D} {vs:List V}:Al K ct F G n d v->jN K ct F G ns ds vs->jN K ct F G (n::ns) (d::ds) (v::vs)
theorem jN.mono {K:ae}{ct:Nat->af}{F F' G G':Hp}(sF:bK F F')(sG:bK G G'){ns:List Nat}{ds:List D}{vs:List V}(h:jN K ct F G ns ds vs):jN K ct F' G' ns ds vs:=by
 induction h with
 |nil=>exact .nil
 |cons h t ih=>exact .cons (h.mono sF sG) ih
theorem jN.length {K:ae}{ct:Nat->af}{F G:Hp}{ns:List Nat}{ds:List D}{vs:List V}(h:jN K ct F G ns ds vs):vs.length=ns.length:=by
 induction h with
 |nil=>rfl
 |cons h t ih=>rw[aF,aF,ih]
theorem jN.length' {K:ae}{ct:Nat->af}{F G:Hp}{ns:List Nat}{ds:List D}{vs:List V}(h:jN K ct F G ns ds vs):ds.length=vs.length:=by
 induction h with
 |nil=>rfl
 |cons h t ih=>rw[aF,aF,ih]
theorem jN.append {K:ae}{ct:Nat->af}{F G:Hp}{nc:List Nat}{qH:List D}{M8:List V}(q:jN K ct F G nc qH M8){ns:List Nat}{ds:List D}{vs:List V}(h:jN K ct F G ns ds vs):jN K ct F G (ns++nc) (ds++qH) (vs++M8):=by
 induction h with
 |nil=>exact q
 |cons h t ih=>exact .cons h ih
section
variable (X:Cx)(ct:Nat->af)(ms:List Mo)
def XE (n:Nat)(e:Expr)(f:EF):Prop:=∃t,PE X e t/\∀(F0 B F H:Hp) (ρ:Env) (σ:St) (d:D) (Q:VK),RS X.K ct F0 B ms F H ρ σ->f ρ=some d ->
 (∀v F' H',fL F H F' H'->Al X.K ct F' H' n d v->Q v H')->t σ H Q
def XO (k:Nat)(e:Expr)(f:EF):Prop:=∃t,PE X e t/\∀(F0 B F H:Hp) (ρ:Env) (σ:St) (d:D) (Q:VK),RS X.K ct F0 B ms F H ρ σ->f ρ=some d ->
 (∀v F' H' fp,fL F H F' H'->Ow X.K ct F' H' k d v fp->fp.Nodup->(∀a∈fp,H a=none)->Q v H')->t σ H Q
def XT (e:Expr)(f:Env->Option Bool):Prop:=∃t,PT X e t/\∀(F0 B F H:Hp) (ρ:Env) (σ:St) (b:Bool) (Q:Bool->Hp->Prop),RS X.K ct F0 B ms F H ρ σ->f ρ=some b ->
 (∀F' H',fL F H F' H'->Q b H')->t σ H Q
def XW (e:Expr)(f:Env->Option Bool):Prop:=∃t,PW X e t/\∀(F0 B F H:Hp) (ρ:Env) (σ:St) (b:Bool) (Q:Bool->Hp->Prop),RS X.K ct F0 B ms F H ρ σ->f ρ=some b ->
 (∀F' H',fL F H F' H'->Q b H')->t σ H Q
def XA (es:List Expr)(ns:List Nat)(f:Env->Option (List D)):Prop:=∃t,PA X es t/\(∀ρ ds,f ρ=some ds->ds.length=es.length)/\∀(F0 B F H:Hp) (ρ:Env) (σ:St) (ds:List D) (Q:List V->Hp->Prop),RS X.K ct F0 B ms F H ρ σ->f ρ=some ds ->
 (∀vs F' H',fL F H F' H'->jN X.K ct F' H' ns ds vs->Q vs H')->t σ H Q
end
def e2 (op:D->D->Option D)(f g:EF):EF:=λρ=>(f ρ).bind λx=>(g ρ).bind λy=>op x y
def e1 (op:D->Option D)(f:EF):EF:=λρ=>(f ρ).bind op
def eN (op:List D->Option D)(f:Env->Option (List D)):EF:=λρ=>(f ρ).bind op
def eC (d:D):EF:=λ_=>some d
def eV (i:Nat):EF:=λρ=>(ρ[i]?).join
def aNil:Env->Option (List D):=λ_=>some []
def aCons (f:EF)(g:Env->Option (List D)):Env->Option (List D):=λρ=>(f ρ).bind λx=>(g ρ).bind λxs=>some (x::xs)
theorem dZ {α β γ:Type}{o:Option α}{p:Option β}{op:α->β->Option γ}{r:γ}(h:(o.bind λx=>p.bind λy=>op x y)=some r):∃x y,o=some x/\p=some y/\op x y=some r:=by
 cases o with
 |none=>cases h
 |some x=>
  cases p with
  |none=>cases h
  |some y=>exact⟨x,y,rfl,rfl,h⟩
theorem bg {α β:Type}{o:Option α}{op:α->Option β}{r:β}(h:o.bind op=some r):∃x,o=some x/\op x=some r:=by
 cases o with
 |none=>cases h
 |some x=>exact⟨x,rfl,h⟩
theorem x6 {α:Type}{o:Option (Option α)}{x:α}(h:o.join=some x):o=some (some x):=by
 cases o with
 |none=>cases h
 |some y=>exact congrArg some h
def lV (K:ae)(ct:Nat->af)(n m k:Nat)(r:R2)(op:D->D->Option D):Prop :=
 ∀(F H:Hp) (x y:V) (d1 d2 d:D) (Q:VK),bK F H->Al K ct F H n d1 x->Al K ct F H m d2 y->op d1 d2=some d->(∀v F' H',fL F H F' H'->Al K ct F' H' k d v->Q v H')->r x y H Q
def AT (K:ae)(ct:Nat->af)(n m k:Nat)(r:R2)(op:D->D->Option D):Prop :=
 ∀(F H:Hp) (x y:V) (d1 d2 d:D) (Q:VK),bK F H->Al K ct F H n d1 x->Al K ct F H m d2 y->op d1 d2=some d ->
  (∀v F' H' fp,fL F H F' H'->Ow K ct F' H' k d v fp->fp.Nodup->(∀a∈fp,H a=none)->Q v H')->r x y H Q
def wJ (K:ae)(ct:Nat->af)(ns:List Nat)(k:Nat)(r:List V->Hp->VK->Prop)(op:List D->Option D):Prop :=
 ∀(F H:Hp) (vs:List V) (ds:List D) (d:D) (Q:VK),bK F H->jN K ct F H ns ds vs->op ds=some d->(∀v F' H',fL F H F' H'->Al K ct F' H' k d v->Q v H')->r vs H Q
def AU (K:ae)(ct:Nat->af)(ns:List Nat)(k:Nat)(r:List V->Hp->VK->Prop)(op:List D->Option D):Prop :=
 ∀(F H:Hp) (vs:List V) (ds:List D) (d:D) (Q:VK),bK F H->jN K ct F H ns ds vs->op ds=some d ->
  (∀v F' H' fp,fL F H F' H'->Ow K ct F' H' k d v fp->fp.Nodup->(∀a∈fp,H a=none)->Q v H')->r vs H Q
section
variable {X:Cx}{ct:Nat->af}{ms:List Mo}{n m k:Nat}{a b c e:Expr}{f g h:EF}{pos:cB}
theorem XE.up (he:XE X ct ms n e f)(hk:n<=k):XE X ct ms k e f:=by
 obtain⟨t,p,q⟩:=he
 exact⟨t,p,λF0 B F H ρ σ d Q r e w=>q F0 B F H ρ σ d Q r e λv F' H' x l=>w v F' H' x (l.up hk)⟩
theorem XO.sh (he:XO X ct ms k e f):XE X ct ms n e f:=by
 obtain⟨t,p,q⟩:=he
 refine⟨t,p,λF0 B F H ρ σ d Q r e w=>q F0 B F H ρ σ d Q r e λv F' H' fp x o nd hf=>?_⟩
 obtain⟨F2,x2,h2⟩:=o.freeze x hf
 exact w v F2 H' x2 (Al.of h2)
theorem XE.ow (he:XE X ct ms 0 e f):XO X ct ms 0 e f:=by
 obtain⟨t,p,q⟩:=he
 exact⟨t,p,λF0 B F H ρ σ d Q r e w=>q F0 B F H ρ σ d Q r e λv F' H' x l=>w v F' H' [] x ⟨l,rfl⟩ bz λa z=>(by cases z)⟩
theorem za (i n:Nat){x:aP}{m:Mo}(hm:ms[i]?=some m:=by rfl)(hl:m.lv=n:=by rfl)(hN:X.N[i]?=some x:=by rfl)(hv:pJ X.env.scope x:=by first|exact Or.inl rfl|exact Or.inr (Or.inl rfl)|exact Or.inr (Or.inr rfl))(hd:(x==("__debug__":aP))=false:=by decide)
  (iU:(x==("__classdict__":aP))=false:=by decide):XE X ct ms n (.Name x pos) (eV i):=by
 subst hl
 refine⟨_,jz hN hv hd iU,λF0 B F H ρ σ d Q r e w=>?_⟩
 obtain⟨v,hv,l⟩:=r.get hm (x6 e)
 exact⟨v,hv,w v F H (.refl r.fh) l⟩
theorem zsl {i:Int}{j}:XE X ct ms n (.Constant (.int i) j pos) (eC (.int i)):=⟨_,Zi,λF0 B F H ρ σ d Q r e w=>by cases e;exact w _ F H (.refl r.fh) (Al.of (.int i))⟩
theorem j3 {i:Bool}{j}:XE X ct ms n (.Constant (.bool i) j pos) (eC (.bl i)):=⟨_,ztw,λF0 B F H ρ σ d Q r e w=>by cases e;exact w _ F H (.refl r.fh) (Al.of (.bl i))⟩
theorem v6 {i:aP}{j}:XE X ct ms n (.Constant (.str i) j pos) (eC (.str i)):=⟨_,Zk,λF0 B F H ρ σ d Q r e w=>by cases e;exact w _ F H (.refl r.fh) (Al.of (.str i))⟩
theorem zsm {j}:XE X ct ms n (.Constant .none j pos) (eC .non):=⟨_,Zj,λF0 B F H ρ σ d Q r e w=>by cases e;exact w _ F H (.refl r.fh) (Al.of .non)⟩
theorem XE.bin (ha:XE X ct ms n a f)(hb:XE X ct ms m b g):∃ta tb,PE X a ta/\PE X b tb/\∀(F0 B F H:Hp) (ρ:Env) (σ:St) (d1 d2:D) (R:V->V->Hp->Prop),RS X.K ct F0 B ms F H ρ σ->f ρ=some d1->g ρ=some d2 ->
  (∀x y F' H',fL F H F' H'->Al X.K ct F' H' n d1 x->Al X.K ct F' H' m d2 y->R x y H')->ta σ H λx H1=>tb σ H1 λy H2=>R x y H2:=by
 obtain⟨ta,pa,qa⟩:=ha
 obtain⟨tb,pb,qb⟩:=hb
 refine⟨ta,tb,pa,pb,λF0 B F H ρ σ d1 d2 R r e1 e2 w=>qa F0 B F H ρ σ d1 _ r e1 λx F1 H1 x1 l1=>?_⟩
 exact qb F0 B F1 H1 ρ σ d2 _ (r.ext x1) e2 λy F2 H2 x2 l2=>w x y F2 H2 (x1.trans x2) (l1.mono x2.ff x2.hh) l2
theorem ye {op:i6}{r:R2}{o:D->D->Option D}(ho:fS X (dL op) r)(hs:lV X.K ct n m k r o)(ha:XE X ct ms n a f)(hb:XE X ct ms m b g):XE X ct ms k (.BinOp a op b pos) (e2 o f g):=by
 obtain⟨ta,tb,pa,pb,q⟩:=ha.bin hb
 refine⟨_,GM ho pa pb,λF0 B F H ρ σ d Q rs e w=>?_⟩
 obtain⟨d1,d2,h1,h2,h3⟩:=dZ e
 exact q F0 B F H ρ σ d1 d2 _ rs h1 h2 λx y F' H' x1 l1 l2=>hs F' H' x y d1 d2 d Q x1.fh l1 l2 h3 λv F2 H2 x2 l=>w v F2 H2 (x1.trans x2) l
theorem PQ {op:i6}{r:R2}{o:D->D->Option D}(ho:fS X (dL op) r)(hs:AT X.K ct n m k r o)(ha:XE X ct ms n a f)(hb:XE X ct ms m b g):XO X ct ms k (.BinOp a op b pos) (e2 o f g):=by
 obtain⟨ta,tb,pa,pb,q⟩:=ha.bin hb
 refine⟨_,GM ho pa pb,λF0 B F H ρ σ d Q rs e w=>?_⟩
 obtain⟨d1,d2,h1,h2,h3⟩:=dZ e
 exact q F0 B F H ρ σ d1 d2 _ rs h1 h2 λx y F' H' x1 l1 l2=>hs F' H' x y d1 d2 d Q x1.fh l1 l2 h3 λv F2 H2 fp x2 l nd hf=>w v F2 H2 fp (x1.trans x2) l nd λz hz=>x1.hh.free (hf z hz)
theorem uF {op:lE}{r:R2}{o:D->D->Option D}(ho:fS X (cE op) r)(hs:lV X.K ct n m k r o)(ha:XE X ct ms n a f)(hb:XE X ct ms m b g)(hm:dF op b=false):XE X ct ms k (.Compare a [op] [b] pos) (e2 o f g):=by
 obtain⟨ta,tb,pa,pb,q⟩:=ha.bin hb
 refine⟨_,Yu ho pa pb hm,λF0 B F H ρ σ d Q rs e w=>?_⟩
 obtain⟨d1,d2,h1,h2,h3⟩:=dZ e
 exact q F0 B F H ρ σ d1 d2 _ rs h1 h2 λx y F' H' x1 l1 l2=>hs F' H' x y d1 d2 d Q x1.fh l1 l2 h3 λv F2 H2 x2 l=>w v F2 H2 (x1.trans x2) l
theorem wG {r:R2}{o:D->D->Option D}(hr:sW X r)(hs:lV X.K ct n m k r o)(ha:XE X ct ms n a f)(hb:XE X ct ms m b g)(hp:lM b):XE X ct ms k (.Subscript a b pos) (e2 o f g):=by
 obtain⟨ta,tb,pa,pb,q⟩:=ha.bin hb
 refine⟨_,PN hr pa pb hp,λF0 B F H ρ σ d Q rs e w=>?_⟩
 obtain⟨d1,d2,h1,h2,h3⟩:=dZ e
 exact q F0 B F H ρ σ d1 d2 _ rs h1 h2 λx y F' H' x1 l1 l2=>hs F' H' x y d1 d2 d Q x1.fh l1 l2 h3 λv F2 H2 x2 l=>w v F2 H2 (x1.trans x2) l
theorem zua {op:UnaryOp}{r:V->Hp->VK->Prop}{o:D->Option D}(ho:Fk X (unaryOp op) r)
  (hs:∀(F H:Hp) (x:V) (d1 d:D) (Q:VK),bK F H->Al X.K ct F H n d1 x->o d1=some d->(∀v F' H',fL F H F' H'->Al X.K ct F' H' k d v->Q v H')->r x H Q) (ha:XE X ct ms n a f):XE X ct ms k (.UnaryOp op a pos) (e1 o f):=by
 obtain⟨ta,pa,qa⟩:=ha
 refine⟨_,ztz ho pa,λF0 B F H ρ σ d Q rs e w=>?_⟩
 obtain⟨d1,h1,h2⟩:=bg e
 exact qa F0 B F H ρ σ d1 _ rs h1 λx F' H' x1 l1=>hs F' H' x d1 d Q x1.fh l1 h2 λv F2 H2 x2 l=>w v F2 H2 (x1.trans x2) l
theorem zh:XA X ct ms [] [] aNil:=⟨_,vX,λρ ds e=>(by cases e;rfl),λF0 B F H ρ σ ds Q r e w=>by cases e;exact w [] F H (.refl r.fh) .nil⟩
theorem zc {es:List Expr}{ns:List Nat}{fs:Env->Option (List D)}(ha:XE X ct ms n a f)(hr:XA X ct ms es ns fs)(hs:ay (a::es) X.env=(false,bS a X.env)::ay es X.env:=by rfl):XA X ct ms (a::es) (n::ns) (aCons f fs):=by
 obtain⟨ta,pa,qa⟩:=ha
 obtain⟨tb,pb,lb,qb⟩:=hr
 refine⟨_,ul pa pb hs,λρ ds e=>(by obtain⟨x,xs,h1,h2,h3⟩:=dZ e;cases h3;rw[aF,aF,lb _ _ h2]),λF0 B F H ρ σ ds Q r e w=>?_⟩
 obtain⟨x,xs,h1,h2,h3⟩:=dZ e
 cases h3
 refine qa F0 B F H ρ σ x _ r h1 λv F1 H1 x1 l1=>?_
 exact qb F0 B F1 H1 ρ σ xs _ (r.ext x1) h2 λvs F2 H2 x2 l2=>w (v::vs) F2 H2 (x1.trans x2) (.cons (l1.mono x2.ff x2.hh) l2)
def AW (X:Cx)(ct:Nat->af)(ms:List Mo)(k:Nat)(es:List Expr)(f:Env->Option (List D)):Prop:=∃t,PA X es t/\(∀ρ ds,f ρ=some ds->ds.length=es.length)/\∀(F0 B F H:Hp) (ρ:Env) (σ:St) (ds:List D) (Q:List V->Hp->Prop),RS X.K ct F0 B ms F H ρ σ->f ρ=some ds ->
 (∀vs F' H' fp,fL F H F' H'->dY (Ow X.K ct F' H' k) ds vs fp->fp.Nodup->(∀a∈fp,H a=none)->Q vs H')->t σ H Q
theorem zz:AW X ct ms k [] aNil:=⟨_,vX,λρ ds e=>(by cases e;rfl),λF0 B F H ρ σ ds Q r e w=>by cases e;exact w [] F H [] (.refl r.fh) .nil bz λa z=>(by cases z)⟩
theorem zg {es:List Expr}{fs:Env->Option (List D)}(ha:XO X ct ms k a f)(hr:AW X ct ms k es fs)(hs:ay (a::es) X.env=(false,bS a X.env)::ay es X.env:=by rfl):AW X ct ms k (a::es) (aCons f fs):=by
 obtain⟨ta,pa,qa⟩:=ha
 obtain⟨tb,pb,lb,qb⟩:=hr
 refine⟨_,ul pa pb hs,λρ ds e=>(by obtain⟨x,xs,h1,h2,h3⟩:=dZ e;cases h3;rw[aF,aF,lb _ _ h2]),λF0 B F H ρ σ ds Q r e w=>?_⟩
 obtain⟨x,xs,h1,h2,h3⟩:=dZ e
 cases h3
 refine qa F0 B F H ρ σ x _ r h1 λv F1 H1 f1 x1 l1 n1 a1=>?_
 refine qb F0 B F1 H1 ρ σ xs _ (r.ext x1) h2 λvs F2 H2 f2 x2 l2 n2 a2=>w (v::vs) F2 H2 (f1++f2) (x1.trans x2) (.cons (l1.ext x2) l2) (bn.mpr ⟨n1,n2,λz hz y hy e=>?_⟩) λz hz=>?_
 ·subst e
  obtain⟨_,o,ho,_⟩:=l1.cells z hz
  rw[a2 z hy]at ho
  cases ho
 ·rcases aU.mp hz with hz|hz
  ·exact a1 z hz
  ·exact x1.hh.free (a2 z hz)
end
end L3
namespace L3
open PySem PySem.Spec L2
open PyProof.Rows hiding St
def Fp:D->Option Bool
 |.bl b=>some b
 |_=>none
theorem qp {d:D}{b:Bool}(h:Fp d=some b):d=.bl b:=by cases d<;>simp[Fp]at h;subst h;rfl
abbrev BF:=Env->Option Bool
def tb (f:EF):BF:=λρ=>(f ρ).bind Fp
def bNot (f:BF):BF:=λρ=>(f ρ).bind λb=>some (!b)
def bAnd (f g:BF):BF:=λρ=>(f ρ).bind λb=>if b=true then g ρ else some false
def bOr (f g:BF):BF:=λρ=>(f ρ).bind λb=>if b=true then some true else g ρ
def eB (f:BF):EF:=λρ=>(f ρ).bind λb=>some (.bl b)
def eIf (c:BF)(f g:EF):EF:=λρ=>(c ρ).bind λb=>if b=true then f ρ else g ρ
section
variable {X:Cx}{ct:Nat->af}{ms:List Mo}{n m k:Nat}{a b c e:Expr}{f g h:EF}{p q:BF}{pos:cB}
theorem vb (he:XE X ct ms n e f)(hi:∀whole,qW e X.env whole=(do let v ← whole;gu e.pos;d6 [v] (truthy v)):=by intro _;rfl):XT X ct ms e (tb f):=by
 obtain⟨t,pt,qt⟩:=he
 refine⟨_,ZT pt hi,λF0 B F H ρ σ b Q r e w=>?_⟩
 obtain⟨d,h1,h2⟩:=bg e
 rw[qp h2]at h1
 exact qt F0 B F H ρ σ _ _ r h1 λv F' H' x l=>⟨b,l.bl,w F' H' x⟩
theorem yq {op:lE}{r:R2}{o:D->D->Option D}(ho:fS X (cE op) r)(hs:lV X.K ct n m k r o)(ha:XE X ct ms n a f)(hb:XE X ct ms m b g)(hm:dF op b=false):XT X ct ms (.Compare a [op] [b] pos) (tb (e2 o f g)):=by
 obtain⟨ta,tb,pa,pb,q⟩:=ha.bin hb
 refine⟨_,Yv ho pa pb hm,λF0 B F H ρ σ b Q rs e w=>?_⟩
 obtain⟨d,h0,h4⟩:=bg e
 rw[qp h4]at h0
 obtain⟨d1,d2,h1,h2,h3⟩:=dZ h0
 exact q F0 B F H ρ σ d1 d2 _ rs h1 h2 λx y F' H' x1 l1 l2=>hs F' H' x y d1 d2 _ _ x1.fh l1 l2 h3 λv F2 H2 x2 l=>⟨b,l.bl,w F2 H2 (x1.trans x2)⟩
theorem XW.t (h:XW X ct ms e p):XT X ct ms e p:=by
 obtain⟨t,pt,qt⟩:=h
 exact⟨t,pt.pt,qt⟩
theorem O0 (ha:XT X ct ms a p):XW X ct ms (.BoolOp .And [a] pos) p:=by
 obtain⟨t,pt,qt⟩:=ha
 exact⟨t,Yr pt,qt⟩
theorem tG (ha:XT X ct ms a p):XW X ct ms (.BoolOp .Or [a] pos) p:=by
 obtain⟨t,pt,qt⟩:=ha
 exact⟨t,ZU pt,qt⟩
theorem KO {rest:List Expr}(ha:XT X ct ms a p)(hb:XW X ct ms (.BoolOp .And (b::rest) pos) q):XW X ct ms (.BoolOp .And (a::b::rest) pos) (bAnd p q):=by
 obtain⟨t,pt,qt⟩:=ha
 obtain⟨u,pu,qu⟩:=hb
 refine⟨_,ZV pt pu,λF0 B F H ρ σ r Q rs e w=>?_⟩
 obtain⟨x,h1,h2⟩:=bg e
 refine qt F0 B F H ρ σ x _ rs h1 λF1 H1 x1=>?_
 cases x with
 |true=>rw[if_pos rfl];exact qu F0 B F1 H1 ρ σ r _ (rs.ext x1) h2 λF2 H2 x2=>w F2 H2 (x1.trans x2)
 |false=>cases h2;rw[if_neg aO];exact w F1 H1 x1
theorem rE {rest:List Expr}(ha:XT X ct ms a p)(hb:XW X ct ms (.BoolOp .Or (b::rest) pos) q):XW X ct ms (.BoolOp .Or (a::b::rest) pos) (bOr p q):=by
 obtain⟨t,pt,qt⟩:=ha
 obtain⟨u,pu,qu⟩:=hb
 refine⟨_,ztx pt pu,λF0 B F H ρ σ r Q rs e w=>?_⟩
 obtain⟨x,h1,h2⟩:=bg e
 refine qt F0 B F H ρ σ x _ rs h1 λF1 H1 x1=>?_
 cases x with
 |true=>cases h2;rw[if_pos rfl];exact w F1 H1 x1
 |false=>rw[if_neg aO];exact qu F0 B F1 H1 ρ σ r _ (rs.ext x1) h2 λF2 H2 x2=>w F2 H2 (x1.trans x2)
theorem u6 (ha:XT X ct ms a p):XT X ct ms (.UnaryOp .Not a pos) (bNot p):=by
 obtain⟨t,pt,qt⟩:=ha
 refine⟨_,ZW pt,λF0 B F H ρ σ r Q rs e w=>?_⟩
 obtain⟨x,h1,h2⟩:=bg e
 cases h2
 exact qt F0 B F H ρ σ x _ rs h1 λF1 H1 x1=>w F1 H1 x1
theorem zso (ha:XE X ct ms n a f):XE X ct ms k (.UnaryOp .Not a pos) (eB (bNot (tb f))):=by
 obtain⟨t,pt,qt⟩:=ha
 refine⟨_,ZZ pt,λF0 B F H ρ σ r Q rs e w=>?_⟩
 obtain⟨x,h1,h2⟩:=bg e
 obtain⟨y,h3,h4⟩:=bg h1
 obtain⟨z,h5,h6⟩:=bg h3
 cases h2;cases h4
 rw[qp h6]at h5
 exact qt F0 B F H ρ σ _ _ rs h5 λv F1 H1 x1 l=>⟨y,l.bl,w _ F1 H1 x1 (Al.of (.bl _))⟩
theorem Ac {op}(ha:XE X ct ms n a f):XE X ct ms k (.BoolOp op [a] pos) (eB (tb f)):=by
 obtain⟨t,pt,qt⟩:=ha
 refine⟨_,ZX pt,λF0 B F H ρ σ r Q rs e w=>?_⟩
 obtain⟨y,h3,h4⟩:=bg e
 obtain⟨z,h5,h6⟩:=bg h3
 cases h4
 rw[qp h6]at h5
 exact qt F0 B F H ρ σ _ _ rs h5 λv F1 H1 x1 l=>w _ F1 H1 x1 (by rw[l.bl];exact Al.of (.bl _))
theorem AF {rest:List Expr}(ha:XE X ct ms n a f)(hb:XE X ct ms k (.BoolOp .And (b::rest) pos) (eB q)):XE X ct ms k (.BoolOp .And (a::b::rest) pos) (eB (bAnd (tb f) q)):=by
 obtain⟨t,pt,qt⟩:=ha
 obtain⟨u,pu,qu⟩:=hb
 refine⟨_,ZY pt pu,λF0 B F H ρ σ r Q rs e w=>?_⟩
 obtain⟨y,h3,h4⟩:=bg e
 obtain⟨x,h1,h2⟩:=bg h3
 obtain⟨z,h5,h6⟩:=bg h1
 cases h4
 rw[qp h6]at h5
 refine qt F0 B F H ρ σ _ _ rs h5 λv F1 H1 x1 l=>⟨x,l.bl,?_⟩
 cases x with
 |true=>rw[if_pos rfl];exact qu F0 B F1 H1 ρ σ _ _ (rs.ext x1) (show(q ρ).bind _=_ by rw[if_pos rfl]at h2;rw[h2];rfl) λv F2 H2 x2 l=>w v F2 H2 (x1.trans x2) l
 |false=>rw[if_neg aO]at h2 ⊢;cases h2;exact w _ F1 H1 x1 (Al.of (.bl _))
theorem zub {rest:List Expr}(ha:XE X ct ms n a f)(hb:XE X ct ms k (.BoolOp .Or (b::rest) pos) (eB q)):XE X ct ms k (.BoolOp .Or (a::b::rest) pos) (eB (bOr (tb f) q)):=by
 obtain⟨t,pt,qt⟩:=ha
 obtain⟨u,pu,qu⟩:=hb
 refine⟨_,zty pt pu,λF0 B F H ρ σ r Q rs e w=>?_⟩
 obtain⟨y,h3,h4⟩:=bg e
 obtain⟨x,h1,h2⟩:=bg h3
 obtain⟨z,h5,h6⟩:=bg h1
 cases h4
 rw[qp h6]at h5
 refine qt F0 B F H ρ σ _ _ rs h5 λv F1 H1 x1 l=>⟨x,l.bl,?_⟩
 cases x with
 |true=>rw[if_pos rfl]at h2 ⊢;cases h2;exact w _ F1 H1 x1 (Al.of (.bl _))
 |false=>rw[if_neg aO];exact qu F0 B F1 H1 ρ σ _ _ (rs.ext x1) (show(q ρ).bind _=_ by rw[if_neg aO]at h2;rw[h2];rfl) λv F2 H2 x2 l=>w v F2 H2 (x1.trans x2) l
theorem KY (hc:XT X ct ms c p)(ha:XE X ct ms k a f)(hb:XE X ct ms k b g):XE X ct ms k (.IfExp c a b pos) (eIf p f g):=by
 obtain⟨s,ps,qs⟩:=hc
 obtain⟨t,pt,qt⟩:=ha
 obtain⟨u,pu,qu⟩:=hb
 refine⟨_,Xf ps pt pu,λF0 B F H ρ σ r Q rs e w=>?_⟩
 obtain⟨x,h1,h2⟩:=bg e
 refine qs F0 B F H ρ σ x _ rs h1 λF1 H1 x1=>?_
 cases x with
 |true=>rw[if_pos rfl]at h2 ⊢;exact qt F0 B F1 H1 ρ σ _ _ (rs.ext x1) h2 λv F2 H2 x2 l=>w v F2 H2 (x1.trans x2) l
 |false=>rw[if_neg aO]at h2 ⊢;exact qu F0 B F1 H1 ρ σ _ _ (rs.ext x1) h2 λv F2 H2 x2 l=>w v F2 H2 (x1.trans x2) l
theorem vZ {es:List Expr}{fs:Env->Option (List D)}{x1}(h:AW X ct ms k es fs)(hl:es.length<=1000:=by decide):XO X ct ms (k+1) (.Tuple es x1 pos) (λρ=>(fs ρ).bind λds=>some (.tup ds)):=by
 obtain⟨t,pt,lt,qt⟩:=h
 refine⟨_,zrt pt,λF0 B F H ρ σ r Q rs e w=>?_⟩
 obtain⟨ds,h1,h2⟩:=bg e
 cases h2
 refine qt F0 B F H ρ σ ds _ rs h1 λvs F1 H1 fp x1 l nd hf=>⟨?_,λp hp=>?_⟩
 ·rw[←l.length,lt _ _ h1];exact small hl
 ·have x2:=fL.newS x1.fh hp (.tup vs)
  exact w _ _ _ fp (x1.trans x2) (.inr (.tup yr (l.mono λ_ _ _ _ o=>o.ext x2))) nd hf
theorem dY.cellsOf {K:ae}{F H:Hp}{ds:List D}{vs:List V}{fp:List af}(l:dY (Ow K ct F H k) ds vs fp):∀a∈fp,F a=none/\∃o,H a=some o/\jV o:=dY.cells0 (λd v f q=>Ow.cells q) l
theorem O1 {K:ae}{F H:Hp}{ds:List D}{vs:List V}{fp:List af}{p:af}(s:bK F H)(l:dY (Ow K ct F H k) ds vs fp)(hp:H p=none):Ow K ct F (upd H p (.lst vs)) (k+1) (.lst ds) (.ref p) (p::fp)/\(fp.Nodup->(p::fp).Nodup) :=
 ⟨.inr (.lst (s.free hp) yr (l.mono λ_ _ _ _ o=>o.ext (fL.newO s hp _))),λnd=>bp.mpr ⟨λz=>(by
  obtain⟨_,o,ho,_⟩:=dY.cellsOf l p z
  rw[hp]at ho
  cases ho),nd⟩⟩
theorem xz {es:List Expr}{fs:Env->Option (List D)}(h:AW X ct ms k es fs)(hl:es.length<=1000:=by decide):XO X ct ms (k+1) (.List es pos) (λρ=>(fs ρ).bind λds=>some (.lst ds)):=by
 obtain⟨t,pt,lt,qt⟩:=h
 refine⟨_,zru pt,λF0 B F H ρ σ r Q rs e w=>?_⟩
 obtain⟨ds,h1,h2⟩:=bg e
 cases h2
 refine qt F0 B F H ρ σ ds _ rs h1 λvs F1 H1 fp x1 l nd hf=>⟨?_,λp hp=>?_⟩
 ·rw[←l.length,lt _ _ h1];exact small hl
 ·obtain⟨o,n2⟩:=O1 x1.fh l hp
  refine w _ _ _ (p::fp) (x1.trans (fL.newO x1.fh hp _)) o (n2 nd) λz hz=>?_
  rcases av.mp hz with rfl|hz
  ·exact x1.hh.free hp
  ·exact hf z hz
theorem XD:XO X ct ms (k+1) (.Dict [] [] pos) (eC (.dK [] [])):=by
 refine⟨_,W3,λF0 B F H ρ σ r Q rs e w p hp=>?_⟩
 cases e
 refine w _ F _ [p] (fL.newO rs.fh hp _) (.inr (sX.dK (vs:=[]) (rs.fh.free hp) yr rfl .nil)) (by simp) λz hz=>?_
 rw[aN]at hz;subst hz;exact hp
theorem XF:XO X ct ms (k+1) (.Dict [] [] pos) (eC (.dT [] [])):=by
 refine⟨_,Xv,λF0 B F H ρ σ r Q rs e w p hp=>?_⟩
 cases e
 refine w _ F _ [p] (fL.newO rs.fh hp _) (.inr (sX.dT (vs:=[]) (rs.fh.free hp) yr rfl .nil)) (by simp) λz hz=>?_
 rw[aN]at hz;subst hz;exact hp
def gH (K:ae)(ct:Nat->af)(pm:List Nat)(rk:Nat)(m:List D->Option D):Sp:=λvs H Q _=>∃(F:Hp) (ds:List D) (d:D),bK F H/\jN K ct F H pm ds vs/\m ds=some d /\
 ∀v F' H' fp,fL F H F' H'->Ow K ct F' H' rk d v fp->fp.Nodup->(∀a∈fp,H a=none)->Q v H'
theorem gH.len {K:ae}{ct:Nat->af}{pm:List Nat}{rk:Nat}{m:List D->Option D}{ps:List aP}(h:pm.length=ps.length):∀vs H Q E,gH K ct pm rk m vs H Q E->vs.length=ps.length:=by
 rintro vs H Q E ⟨F,ds,d,_,l,_⟩
 rw[l.length,h]
variable {kk:Nat}{fa:af}{fd:aM}{ps:List aP}{pm:List Nat}{rk:Nat}{mf:List D->Option D}{x:aP}{pp:cB}
theorem Y1 {es:List Expr}{ns nd:List Nat}{fs:Env->Option (List D)}{iy:List V}{kN:List D}{mU:List aa}(Fn:cI X.prog X.w X.K X.mg X.base eP kk fa fd ps (gH X.K ct (ns++nd) rk mf))(hr:ee kk X.A)(hg:Gl X x)(hm:X.mg x=some (.ref fa))(hk:ar X.K (.ref fa)=true)
  (hb:bE X.K fd ps mU) (hd:bR iy mU) (tP:∀F G,jN X.K ct F G nd kN iy) (ha:XA X ct ms (e::es) ns fs)
  (mJ:(x==("__debug__":aP))=false:=by decide) (he:ay (e::es) X.env=(false,bS e X.env)::ay es X.env:=by rfl) (fT:(cL pos (ay es X.env)).any (·.1)=false:=by rfl) :
  XO X ct ms rk (.Call (.Name x pp) (e::es) [] pos) (λρ=>(fs ρ).bind λds=>mf (ds++kN)):=by
 obtain⟨t,pt,_,qt⟩:=ha
 refine⟨_,Yz Fn hr hg hm hk hb hd ou pt mJ he fT,λF0 B F H ρ σ r Q rs e w=>?_⟩
 obtain⟨ds,h1,h2⟩:=bg e
 refine qt F0 B F H ρ σ ds _ rs h1 λvs F1 H1 x1 l=>⟨F1,ds++kN,r,x1.fh,jN.append (tP F1 H1) l,h2,λv F2 H2 fp x2 o nd hf=>?_⟩
 exact w v F2 H2 fp (x1.trans x2) o nd λz hz=>x1.hh.free (hf z hz)
theorem ww {es:List Expr}{ns:List Nat}{fs:Env->Option (List D)}{id:String}{r:List V->Hp->VK->Prop}{op:List D->Option D}(hc:eE X (.builtin id) r)(hs:wJ X.K ct ns k r op)(hg:Gl X x)(hm:X.mg x=none)(hv:bN x=some (.builtin id))(ha:XA X ct ms (e::es) ns fs)
  (hn:x≠"__name__":=by decide) (mJ:(x==("__debug__":aP))=false:=by decide) (he:ay (e::es) X.env=(false,bS e X.env)::ay es X.env:=by rfl) (fT:(cL pos (ay es X.env)).any (·.1)=false:=by rfl) :
  XE X ct ms k (.Call (.Name x pp) (e::es) [] pos) (eN op fs):=by
 obtain⟨t,pt,_,qt⟩:=ha
 refine⟨_,Gm hc hg hm hv pt hn mJ he fT,λF0 B F H ρ σ r Q rs e w=>?_⟩
 obtain⟨ds,h1,h2⟩:=bg e
 exact qt F0 B F H ρ σ ds _ rs h1 λvs F1 H1 x1 l=>hs F1 H1 vs ds r Q x1.fh l h2 λv F2 H2 x2 l2=>w v F2 H2 (x1.trans x2) l2
theorem u7 {es:List Expr}{ns:List Nat}{fs:Env->Option (List D)}{id:String}{r:List V->Hp->VK->Prop}{op:List D->Option D}(hc:eE X (.type id) r)(hs:AU X.K ct ns k r op)(hg:Gl X x)(hm:X.mg x=none)(hv:bN x=some (.type id))(ha:XA X ct ms (e::es) ns fs)
  (hn:x≠"__name__":=by decide) (mJ:(x==("__debug__":aP))=false:=by decide) (he:ay (e::es) X.env=(false,bS e X.env)::ay es X.env:=by rfl) (fT:(cL pos (ay es X.env)).any (·.1)=false:=by rfl) :
  XO X ct ms k (.Call (.Name x pp) (e::es) [] pos) (eN op fs):=by
 obtain⟨t,pt,_,qt⟩:=ha
 refine⟨_,NL hc hg hm hv pt hn mJ he fT,λF0 B F H ρ σ r Q rs e w=>?_⟩
 obtain⟨ds,h1,h2⟩:=bg e
 exact qt F0 B F H ρ σ ds _ rs h1 λvs F1 H1 x1 l=>hs F1 H1 vs ds r Q x1.fh l h2 λv F2 H2 fp x2 l2 nd hf=>w v F2 H2 fp (x1.trans x2) l2 nd λz hz=>x1.hh.free (hf z hz)
theorem PE.or {t u:TE}(h1:PE X e t)(h2:PE X e u):PE X e (λσ H Q=>t σ H Q\/u σ H Q):=λai s σ H Q I h=>h.elim (h1 ai s σ H Q I) (h2 ai s σ H Q I)
theorem PR (ha:XO X ct ms k e f)(hb:XO X ct ms k e g):XO X ct ms k e (λρ=>(f ρ).or (g ρ)):=by
 obtain⟨t,pt,qt⟩:=ha
 obtain⟨u,pu,qu⟩:=hb
 refine⟨_,PE.or pt pu,λF0 B F H ρ σ r Q rs e w=>?_⟩
 dsimp only at e ⊢
 cases h:f ρ with
 |some d=>
  rw[h]at e
  cases e
  exact .inl (qt F0 B F H ρ σ _ Q rs h w)
 |none=>
  rw[h]at e
  exact .inr (qu F0 B F H ρ σ r Q rs e w)
def cK (cs:List Nat)(x:aP):D->Option D
 |.obj c ns ds=>if cs.contains c=true then(ns.zip ds).lookup x else none
 |_=>none
theorem Nx {R:D->V->Prop}{x:aP}{d:D}:∀{ns:List aP} {ds:List D} {vs:List V},Pr R ds vs->(ns.zip ds).lookup x=some d->∃v,(ns.zip vs).lookup x=some v/\R d v
 |[],_,_,_,e=>by simp at e
 |_::_,_,_,.nil,e=>by simp at e
 |y::ns,_,_,.cons h t,e=>by
  rw[eT,bq]at e
  rw[eT,bq]
  cases q:x==y with
  |true=>rw[q]at e;cases e;exact⟨_,rfl,h⟩
  |false=>rw[q]at e;exact Nx t e
theorem Kf {vs:List V}{x:aP}:∀{ns:List aP} {vs:List V},ns.contains x=false->(ns.zip vs).lookup x=none
 |[],_,_=>by simp
 |_::_,[],_=>by simp
 |y::ns,_::vs,h=>by
  rw[pU,oU]at h
  rw[eT,bq,h.1]
  exact Kf (vs:=vs) h.2
theorem yx {x:aP}{cs:List Nat}(he:XE X ct ms n e f)(hc:∀c∈cs,lc X.K (ct c)/\el X.K (ct c) x)(hb:eZ e x X.env (bS e X.env)=bS e X.env):XE X ct ms (n-1) (.Attribute e x pos) (e1 (cK cs x) f):=by
 obtain⟨t,pt,qt⟩:=he
 refine⟨_,Z8 pt hb,λF0 B F H ρ σ r Q rs e w=>?_⟩
 obtain⟨o,h1,h2⟩:=bg e
 refine qt F0 B F H ρ σ o _ rs h1 λv F1 H1 x1 l=>?_
 cases o with
 |obj c ns ds=>
  obtain⟨a,dx,vs,rfl,ha,hl,CJ⟩:=l.obj x1.fh
  unfold cK at h2
  dsimp only at h2
  by_cases yG:cs.contains c=true
  ·rw[if_pos yG]at h2
   obtain⟨u,hu,du⟩:=Nx CJ h2
   have hh:=hc c (by simpa using yG)
   exact⟨a,_,dx,_,u,rfl,ha,hh.1,hh.2,hu,w u F1 H1 x1 du⟩
  ·rw[if_neg yG]at h2;cases h2
 |_=>cases h2
def jK (c0:Nat)(m:aP)(mf:List D->Option D)(o:D)(ds:List D):Option D:=match o with
 |.obj c ns _=>if c=c0/\ns.contains m=false then mf (o::ds)else none
 |_=>none
theorem KD {o:Expr}{x:aP}{dh:cB}{pl:ip Bool}{es:List Expr}{ns nd:List Nat}{fs:Env->Option (List D)}{iy:List V}{kN:List D}{mU:List aa}{c0:Nat}(ho:XE X ct ms n o f)(c:lc X.K (ct c0))(hm:o8 X.K (ct c0) x fa)(Fn:cI X.prog X.w X.K X.mg X.base eP kk fa fd ps (gH X.K ct (n::(ns++nd)) rk mf))(hr:ee kk X.A)
  (hb:bE X.K fd ps mU) (hd:bR iy mU) (tP:∀F G,jN X.K ct F G nd kN iy) (ha:XA X ct ms (e::es) ns fs)
  (lW:ay (e::es) X.env=(false,bS e X.env)::ay es X.env:=by rfl) (fT:(cL pos (ay es X.env)).any (·.1)=false:=by rfl)
  (ht:bS (.Call (.Attribute o x dh) (e::es) [] pos) X.env=(do
   let ov ← bS o X.env
   gu dh.atName
   let(f,first) ← d6 [ov] (gq ov x pl)
   i7 pos f first (cL pos (ay (e::es) X.env)) (e8 pos (dG [] X.env))):=by rfl) :
  XO X ct ms rk (.Call (.Attribute o x dh) (e::es) [] pos) (λρ=>(f ρ).bind λo=>(fs ρ).bind λds=>jK c0 x mf o (ds++kN)):=by
 obtain⟨u,pu,qu⟩:=ho
 obtain⟨t,pt,_,qt⟩:=ha
 refine⟨_,YA pu c hm Fn hr hb hd ou pt lW fT ht,λF0 B F H ρ σ r Q rs e w=>?_⟩
 obtain⟨o,ds,h1,h2,h3⟩:=dZ e
 refine qu F0 B F H ρ σ o _ rs h1 λv F1 H1 x1 l=>?_
 cases o with
 |obj c1 nc qH=>
  unfold jK at h3
  dsimp only at h3
  split at h3
  ·rename_i hc
   obtain⟨rfl,rC⟩:=hc
   obtain⟨a,dx,vs,rfl,ha,hl,CJ⟩:=l.obj x1.fh
   refine⟨a,dx,_,rfl,ha,Kf (vs:=vs) rC,?_⟩
   refine qt F0 B F1 H1 ρ σ ds _ (rs.ext x1) h2 λus F2 H2 x2 l2=>⟨F2,_,r,x2.fh,.cons (l.mono x2.ff x2.hh) (jN.append (tP F2 H2) l2),h3,λv F3 H3 fp x3 o nd hf=>?_⟩
   exact w v F3 H3 fp ((x1.trans x2).trans x3) o nd λz hz=>(x1.trans x2).hh.free (hf z hz)
  ·cases h3
 |_=>cases h3
theorem EV {o:Expr}{x:aP}{dh:cB}{pl:ip Bool}{nd:List Nat}{iy:List V}{kN:List D}{mU:List aa}{c0:Nat}(ho:XE X ct ms n o f)(c:lc X.K (ct c0))(hm:o8 X.K (ct c0) x fa)(Fn:cI X.prog X.w X.K X.mg X.base eP kk fa fd ps (gH X.K ct (n::nd) rk mf))(hr:ee kk X.A)
  (hb:bE X.K fd ps mU) (hd:bR iy mU) (tP:∀F G,jN X.K ct F G nd kN iy)
  (ht:bS (.Call (.Attribute o x dh) [] [] pos) X.env=(do
   let ov ← bS o X.env
   gu dh.atName
   let(f,first) ← d6 [ov] (gq ov x pl)
   i7 pos f first (cL pos (ay [] X.env)) (e8 pos (dG [] X.env))):=by rfl) :
  XO X ct ms rk (.Call (.Attribute o x dh) [] [] pos) (λρ=>(f ρ).bind λo=>jK c0 x mf o kN):=by
 obtain⟨u,pu,qu⟩:=ho
 refine⟨_,WW pu c hm Fn hr hb hd ou ht,λF0 B F H ρ σ r Q rs e w=>?_⟩
 obtain⟨o,h1,h3⟩:=bg e
 refine qu F0 B F H ρ σ o _ rs h1 λv F1 H1 x1 l=>?_
 cases o with
 |obj c1 nc qH=>
  unfold jK at h3
  dsimp only at h3
  split at h3
  ·rename_i hc
   obtain⟨rfl,rC⟩:=hc
   obtain⟨a,dx,vs,rfl,ha,hl,CJ⟩:=l.obj x1.fh
   refine⟨a,dx,_,rfl,ha,Kf (vs:=vs) rC,F1,_,r,x1.fh,.cons l (tP F1 H1),h3,λv F3 H3 fp x3 o nd hf=>?_⟩
   exact w v F3 H3 fp (x1.trans x3) o nd λz hz=>x1.hh.free (hf z hz)
  ·cases h3
 |_=>cases h3
end
end L3
namespace L3
open PySem PySem.Spec L2
open PyProof.Rows hiding St
inductive Out where
 |nx (ρ:Env)|rt (d:D)|bk (ρ:Env)|ct (ρ:Env)
abbrev SF:=Env->Option Out
def lm (K:ae)(cl:Nat->af)(F0 B:Hp)(ms:List Mo)(rk:Nat)(E:lF):Out->Prop
 |.nx ρ=>∀σ F H,RS K cl F0 B ms F H ρ σ->E.nx σ H
 |.bk ρ=>∀σ F H,RS K cl F0 B ms F H ρ σ->E.bk σ H
 |.ct ρ=>∀σ F H,RS K cl F0 B ms F H ρ σ->E.ct σ H
 |.rt d=>∀v F H fp,bK F0 F->bK B H->bK F H->(∀a o,B a=some o->jV o->F0 a=none->F a=none)->Ow K cl F H rk d v fp->fp.Nodup->(∀a∈fp,B a=none)->E.rt v H
section
variable (X:Cx)(ct:Nat->af)(ms:List Mo)(rk:Nat)
def XS (st:bG)(f:SF):Prop:=∃t,PS X st t/\∀(F0 B F H:Hp) (ρ:Env) (σ:St) (o:Out) (E:lF),RS X.K ct F0 B ms F H ρ σ->f ρ=some o->lm X.K ct F0 B ms rk E o->t E σ H
def qF (st:List bG)(f:SF):Prop:=∃t,pI X st t/\∀(F0 B F H:Hp) (ρ:Env) (σ:St) (o:Out) (E:lF),RS X.K ct F0 B ms F H ρ σ->f ρ=some o->lm X.K ct F0 B ms rk E o->t E σ H
end
def sSkip:SF:=λρ=>some (.nx ρ)
def sSeq (f g:SF):SF:=λρ=>(f ρ).bind λo=>match o with
 |.nx ρ'=>g ρ'
 |o=>some o
def sIf (c:BF)(f g:SF):SF:=λρ=>(c ρ).bind λb=>if b=true then f ρ else g ρ
def sSet (i:Nat)(f:EF):SF:=λρ=>(f ρ).bind λd=>some (.nx (ρ.set i (some d)))
def sRet (f:EF):SF:=λρ=>(f ρ).bind λd=>some (.rt d)
def sRetN:SF:=λ_=>some (.rt .non)
def sDrop (f:EF):SF:=λρ=>(f ρ).bind λ_=>some (.nx ρ)
def kP:SF:=λ_=>none
def oY:Nat:=2 ^ 9000
def kR (c:BF)(b:SF):Nat->SF
 |0,_=>none
 |n+1,ρ=>(c ρ).bind λt=>if t=true then(b ρ).bind λo=>match o with
   |.nx ρ'=>kR c b n ρ'
   |.ct ρ'=>kR c b n ρ'
   |.bk ρ'=>some (.nx ρ')
   |.rt d=>some (.rt d)
  else some (.nx ρ)
def pB (c:BF)(b:SF):SF:=kR c b oY
def gm (g:D->Env->Option Env)(b:SF):List D->SF
 |[],ρ=>some (.nx ρ)
 |d::ds,ρ=>(g d ρ).bind λρ1=>(b ρ1).bind λo=>match o with
   |.nx ρ'=>gm g b ds ρ'
   |.ct ρ'=>gm g b ds ρ'
   |.bk ρ'=>some (.nx ρ')
   |.rt d=>some (.rt d)
def sFor (f:Env->Option (List D))(g:D->Env->Option Env)(b:SF):SF:=λρ=>(f ρ).bind λds=>gm g b ds ρ
section
variable {X:Cx}{ct:Nat->af}{ms:List Mo}{rk n m k:Nat}{st:bG}{rest:List bG}{a b c e:Expr}{f g h:EF}{p q:BF}{u w:SF}{pos:cB}
theorem yf:qF X ct ms rk [] sSkip:=⟨_,OF,λF0 B F H ρ σ o E rs e w=>by cases e;exact w σ F H rs⟩
theorem ze (h1:XS X ct ms rk st u)(h2:qF X ct ms rk rest w):qF X ct ms rk (st::rest) (sSeq u w):=by
 obtain⟨t,pt,qt⟩:=h1
 obtain⟨t2,nJ,sK⟩:=h2
 refine⟨_,Xg pt nJ,λF0 B F H ρ σ o E rs e z=>?_⟩
 obtain⟨o1,e1,e2⟩:=bg e
 refine qt F0 B F H ρ σ o1 _ rs e1 ?_
 cases o1 with
 |nx ρ'=>exactλσ' F' H' TY=>sK F0 B F' H' ρ' σ' o E TY e2 z
 |rt d=>cases e2;exact z
 |bk ρ'=>cases e2;exact z
 |ct ρ'=>cases e2;exact z
theorem zf (h1:XS X ct ms rk st u):qF X ct ms rk [st] u:=by
 obtain⟨t,pt,qt⟩:=h1
 exact⟨_,Ky pt,qt⟩
theorem EW:XS X ct ms rk st kP:=⟨_,Xh,λF0 B F H ρ σ o E rs e w=>by cases e⟩
theorem ya (he:XO X ct ms rk e f):XS X ct ms rk (.Return (some e) pos) (sRet f):=by
 obtain⟨t,pt,qt⟩:=he
 refine⟨_,GC pt,λF0 B F H ρ σ o E rs e w=>?_⟩
 obtain⟨d,h1,h2⟩:=bg e
 cases h2
 refine qt F0 B F H ρ σ d _ rs h1 λv F' H' fp x l nd hf=>?_
 have r:=rs.ext x
 exact w v F' H' fp r.f0 r.bh r.fh r.nf l nd λz hz=>rs.bh.free (hf z hz)
theorem wt {MV tF:List bG}(hc:XT X ct ms c p)(h1:qF X ct ms rk MV u)(h2:qF X ct ms rk tF w):XS X ct ms rk (.If c MV tF pos) (sIf p u w):=by
 obtain⟨t,pt,qt⟩:=hc
 obtain⟨t1,zI,zJ⟩:=h1
 obtain⟨t2,nJ,sK⟩:=h2
 refine⟨_,PL pt zI nJ,λF0 B F H ρ σ o E rs e z=>?_⟩
 obtain⟨x,h1,h2⟩:=bg e
 refine qt F0 B F H ρ σ x _ rs h1 λF1 H1 x1=>?_
 cases x with
 |true=>rw[if_pos rfl]at h2 ⊢;exact zJ F0 B F1 H1 ρ σ o E (rs.ext x1) h2 z
 |false=>rw[if_neg aO]at h2 ⊢;exact sK F0 B F1 H1 ρ σ o E (rs.ext x1) h2 z
theorem RS.put {K:ae}{F0 B F H F' H':Hp}{ρ:Env}{σ:St}{i:Nat}(rs:RS K ct F0 B ms F H ρ σ)(hm:ms[i]?=some (.ow k)) :
  ∃f1 fr:List af,f1.Nodup/\(∀a∈f1,B a=none)/\(∀a∈f1,a∉fr)/\(∀d,ρ[i]?=some (some d)->∃v,σ[i]?=some (some v)/\Ow K ct F H k d v f1)/\(∀a∈fr,F a=none/\∃o,H a=some o/\jV o) /\
   ∀(F' H':Hp) (d':D) (v':V) (f':List af),bK F F'->bK B H'->bK F' H'->(∀a o,B a=some o->jV o->F0 a=none->F' a=none)->(∀a∈fr,H' a=H a/\F' a=none)->Ow K ct F' H' k d' v' f'->f'.Nodup->(∀a∈f',a∉fr)->(∀a∈f',B a=none) ->
    RS K ct F0 B ms F' H' (ρ.set i (some d')) (σ.set i (some v')):=by
 obtain⟨fp,sl,nd,hb⟩:=rs.sl
 obtain⟨f1,fr,i1,i2,i3,i4,i5⟩:=sl.put hm
 obtain⟨n1,n2,n3⟩:=i3 nd
 refine⟨f1,fr,n1,λa z=>hb a (i1 a z),n3,i4,λa z=>sl.cells a (i2 a z),λF' H' d' v' f' s1 s2 s3 s4 kf o Sn dj Ry=>?_⟩
 obtain⟨gF,q1,q2,q3⟩:=i5 F' H' d' v' f' s1 kf o
 exact⟨rs.f0.trans s1,s2,s3,s4,gF,q1,q3 Sn n2 dj,λa z=>(q2 a z).elim (Ry a) λz=>hb a (i2 a z)⟩
theorem RS.set {K:ae}{F0 B F H F' H':Hp}{ρ:Env}{σ:St}{i:Nat}{d:D}{v:V}{fp:List af}(rs:RS K ct F0 B ms F H ρ σ)(hm:ms[i]?=some (.ow k))(x:fL F H F' H')(o:Ow K ct F' H' k d v fp)(nd:fp.Nodup)(hf:∀a∈fp,H a=none) :
  RS K ct F0 B ms F' H' (ρ.set i (some d)) (σ.set i (some v)):=by
 have r:=rs.ext x
 obtain⟨f1,fr,n1,b1,n3,i4,cf,put⟩:=rs.put (F':=F') (H':=H') hm
 refine put F' H' d v fp x.ff r.bh x.fh r.nf (λa z=>?_) o nd (λa z zb=>?_) λa z=>rs.bh.free (hf a z)
 ·obtain⟨hn,o,ho,nt⟩:=cf a z
  exact⟨(x.hh _ _ ho).trans ho.symm,x.nf a o ho nt hn⟩
 ·obtain⟨hn,o,ho,nt⟩:=cf a zb
  rw[hf a z]at ho
  cases ho
theorem zsq {i:Nat}{x:aP}{pos':cB}(hm:ms[i]?=some (.ow k))(hN:X.N.Nodup)(hi:X.N[i]?=some x)(hx:Loc X.env.scope x)(he:XO X ct ms k e f)(hs:d8 e (some (.Name x pos')) pos.line X.env=pure false:=by rfl)
  (hf:X.fn x=true\/X.env.scope.names.lookup x=some .local:=by first|exact .inl rfl|exact .inr rfl|assumption):XS X ct ms rk (.Assign [.Name x pos'] e pos) (sSet i f):=by
 obtain⟨t,pt,qt⟩:=he
 refine⟨_,Pp hN hi hx pt hs hf,λF0 B F H ρ σ o E rs e w=>?_⟩
 obtain⟨d,h1,h2⟩:=bg e
 cases h2
 exact qt F0 B F H ρ σ d _ rs h1 λv F' H' fp x l nd hf=>w _ F' H' (rs.set hm x l nd hf)
theorem XH (hc:XT X ct ms c p)(hb:qF X ct ms rk rest u)(hp:bV (aS X.prog X.w) X.A X.env X.xe):XS X ct ms rk (.While c rest [] pos) (pB p u):=by
 obtain⟨t,pt,qt⟩:=hc
 obtain⟨t1,zI,zJ⟩:=hb
 refine⟨_,Xi hp pt zI,λF0 B F H ρ σ o E rs e z=>?_⟩
 refine⟨λm σ H=>∃F ρ,RS X.K ct F0 B ms F H ρ σ/\kR p u m ρ=some o,⟨oY,F,ρ,rs,e⟩,?_⟩
 rintro m σ H ⟨F,ρ,rs,e⟩
 cases m with
 |zero=>cases e
 |succ m=>
  obtain⟨x,h1,h2⟩:=bg e
  refine qt F0 B F H ρ σ x _ rs h1 λF1 H1 x1=>?_
  cases x with
  |true=>
   rw[if_pos rfl]at h2 ⊢
   obtain⟨o1,h3,h4⟩:=bg h2
   refine⟨λσ H=>∃F ρ,RS X.K ct F0 B ms F H ρ σ/\kR p u m ρ=some o,λσ' H' h=>⟨m,fQ m,h⟩,?_⟩
   refine zJ F0 B F1 H1 ρ σ o1 _ (rs.ext x1) h3 ?_
   cases o1 with
   |nx ρ'=>exactλσ' F' H' r=>⟨F',ρ',r,h4⟩
   |ct ρ'=>exactλσ' F' H' r=>⟨F',ρ',r,h4⟩
   |bk ρ'=>cases h4;exact z
   |rt d=>cases h4;exact z
  |false=>
   rw[if_neg aO]at h2 ⊢
   cases h2
   exact z σ F1 H1 (rs.ext x1)
theorem RS.re {K:ae}{F0 B F H:Hp}{ρ:Env}{σ:St}(r:RS K ct F0 B ms F H ρ σ):RS K ct F B ms F H ρ σ:=⟨.refl _,r.bh,r.fh,λ_ _ _ _ h=>h,r.sl⟩
theorem RS.back {K:ae}{F0 B F H F' H':Hp}{ρ ρ':Env}{σ σ':St}(r:RS K ct F0 B ms F H ρ σ)(q:RS K ct F B ms F' H' ρ' σ'):RS K ct F0 B ms F' H' ρ' σ' :=
 ⟨r.f0.trans q.f0,q.bh,q.fh,λa o h t n=>q.nf a o h t (r.nf a o h t n),q.sl⟩
theorem lm.re {K:ae}{F0 B F H:Hp}{ρ:Env}{σ:St}{E:lF}{o:Out}(r:RS K ct F0 B ms F H ρ σ)(z:lm K ct F0 B ms rk E o):lm K ct F B ms rk E o:=by
 cases o with
 |nx ρ=>exactλσ' F' H' q=>z σ' F' H' (r.back q)
 |bk ρ=>exactλσ' F' H' q=>z σ' F' H' (r.back q)
 |ct ρ=>exactλσ' F' H' q=>z σ' F' H' (r.back q)
 |rt d=>exactλv F' H' fp s1 s2 s3 s4=>z v F' H' fp (r.f0.trans s1) s2 s3 λa o h t n=>s4 a o h t (r.nf a o h t n)
def rP (K:ae)(ct:Nat->af)(F B:Hp)(n:Nat)(J:It)(ds:List D):Prop :=
 ∀(i:Nat) (F' H':Hp),bK F F'->bK B H'->bK F' H'->(∀d,ds[i]?=some d->J.go i H'/\∀x H2,J.yld i H' x H2->∃F2,fL F' H' F2 H2/\Al K ct F2 B n d x)/\(ds.length<=i->J.stop i H')
def XI (X:Cx)(ct:Nat->af)(ms:List Mo)(n:Nat)(tg iter:Expr)(f:Env->Option (List D)):Prop:=∃wi,PI X tg iter wi/\∀(F0 B F H:Hp) (ρ:Env) (σ:St) (ds:List D) (R:It->Hp->Prop),RS X.K ct F0 B ms F H ρ σ->f ρ=some ds ->
 (∀J F' H',fL F H F' H'->rP X.K ct F' B n J ds->R J H')->wi σ H R
def uQ (X:Cx)(ct:Nat->af)(ms:List Mo)(n:Nat)(tg iter:Expr)(f:Env->Option (List D)):Prop:=∃wi,PI X tg iter wi/\∀(F0 B F H:Hp) (ρ:Env) (σ:St) (ds:List D) (R:It->Hp->Prop),RS X.K ct F0 B ms F H ρ σ->f ρ=some ds ->
 (∀J F' H',fL F H F' H'->rP X.K ct F' H' n J ds->R J H')->wi σ H R
def XG (X:Cx)(ct:Nat->af)(ms:List Mo)(n:Nat)(tg:Expr)(g:D->Env->Option Env):Prop:=∃t,PG X tg t/\∀(F0 B F H:Hp) (ρ ρ':Env) (σ:St) (d:D) (v:V) (Q:St->Hp->Prop),RS X.K ct F0 B ms F H ρ σ->Al X.K ct F B n d v->g d ρ=some ρ' ->
 (∀σ',RS X.K ct F0 B ms F H ρ' σ'->Q σ' H)->t v σ H Q
theorem vm {tg iter:Expr}{fi:Env->Option (List D)}{gg:D->Env->Option Env}(hi:XI X ct ms n tg iter fi)(hg:XG X ct ms n tg gg)(hb:qF X ct ms rk rest u)(hp:bV (aS X.prog X.w) X.A X.env X.xe)(hc:X.calm=true)
  (hs:∀x,cW iter X.env x=pure x:=by intro _;rfl):XS X ct ms rk (.For tg iter rest [] pos) (sFor fi gg u):=by
 obtain⟨wi,pi,qi⟩:=hi
 obtain⟨M4,pg,qg⟩:=hg
 obtain⟨t1,zI,zJ⟩:=hb
 refine⟨_,Ps hp hc pi pg zI hs,λF0 B F H ρ σ o E rs e z=>?_⟩
 obtain⟨ds,h1,h2⟩:=bg e
 refine qi F0 B F H ρ σ ds _ rs h1 λJ F1 H1 x1 ok=>?_
 refine⟨λi m σ H=>m=ds.length-i/\i<=ds.length/\∃F ρ,bK F1 F/\RS X.K ct F0 B ms F H ρ σ/\gm gg u (ds.drop i) ρ=some o,⟨ds.length,rfl,cH _,F1,ρ,.refl _,rs.ext x1,h2⟩,?_⟩
 rintro i m σ H ⟨rfl,Ap,F,ρ,s1,rs,e⟩
 obtain⟨k1,k2⟩:=ok i F H s1 rs.bh rs.fh
 by_cases iC:i<ds.length
 ·right
  have hd:ds[i]?=some ds[i]:=by simp[iC]
  obtain⟨go,yl⟩:=k1 _ hd
  rw[gQ iC]at e
  obtain⟨ρ1,h3,h4⟩:=bg e
  obtain⟨o1,h5,h6⟩:=bg h4
  refine⟨go,λσ H=>i+1<=ds.length/\∃F ρ,bK F1 F/\RS X.K ct F0 B ms F H ρ σ/\gm gg u (ds.drop (i+1)) ρ=some o,λσ' H' h=>⟨ds.length-(i+1),by omega,rfl,h⟩,λx H2 y=>?_⟩
  obtain⟨F2,x2,l⟩:=yl x H2 y
  refine qg F0 B F2 H2 ρ ρ1 σ _ x _ (rs.ext x2) l h3 λσ' r=>?_
  have s2:=s1.trans x2.ff
  refine zJ F2 B F2 H2 ρ1 σ' o1 _ r.re h5 ?_
  cases o1 with
  |nx ρ'=>exactλσ' F' H' q=>⟨iC,F',ρ',s2.trans q.f0,r.back q,h6⟩
  |ct ρ'=>exactλσ' F' H' q=>⟨iC,F',ρ',s2.trans q.f0,r.back q,h6⟩
  |bk ρ'=>cases h6;exactλσ' F' H' q=>z σ' F' H' (r.back q)
  |rt d=>cases h6;exact lm.re (o:=.rt d) r z
 ·left
  refine⟨k2 (by omega),?_⟩
  have:ds.drop i=[]:=iE (by omega)
  rw[this]at e
  cases e
  exact z σ F H rs
def gV (i:Nat):D->Env->Option Env:=λd ρ=>some (ρ.set i (some d))
theorem Y2 {i:Nat}{x:aP}(hm:ms[i]?=some (.ow 0))(hN:X.N.Nodup)(hi:X.N[i]?=some x)(hx:Loc X.env.scope x)
  (hf:X.fn x=true\/X.env.scope.names.lookup x=some .local:=by first|exact .inl rfl|exact .inr rfl|assumption):XG X ct ms 0 (.Name x pos) (gV i):=by
 refine⟨_,Gw hN hi hx hf,λF0 B F H ρ ρ' σ d v Q rs l e w=>?_⟩
 cases e
 exact w _ (rs.set hm (.refl rs.fh) (Ow.zero l) bz λa z=>(by cases z))
theorem SL.setA {K:ae}{F B H:Hp}{d:D}{v:V}(l:Al K ct F B n d v){ms:List Mo}{ρ:Env}{σ:St}{fp:List af}{i:Nat}(h0:SL K ct F B H ms ρ σ fp):ms[i]?=some (.al n)->SL K ct F B H ms (ρ.set i (some d)) (σ.set i (some v)) fp:=by
 induction h0 generalizing i with
 |nil=>
  intro e
  simp at e
 |@no m0 o0 ms ρ σ fp t ih=>
  intro e
  cases i with
  |zero=>
   simp at e;subst e;exact .al l t
  |succ i=>
   exact .no (ih (by simpa using e))
 |@al n0 d0 v0 ms ρ σ fp h t ih=>
  intro e
  cases i with
  |zero=>
   simp at e;subst e;exact .al l t
  |succ i=>
   exact .al h (ih (by simpa using e))
 |@px d0 v0 ms ρ σ fp h t ih=>
  intro e
  cases i with
  |zero=>
   simp at e
  |succ i=>
   exact .px h (ih (by simpa using e))
 |@so d0 x0 ms ρ σ Q9 h t ih=>
  intro e
  cases i with
  |zero=>
   simp at e
  |succ i=>
   exact .so h (ih (by simpa using e))
 |@ow n0 d0 v0 ms ρ σ f0 Q9 h t ih=>
  intro e
  cases i with
  |zero=>
   simp at e
  |succ i=>
   exact .ow h (ih (by simpa using e))
def Fm (X:Cx)(ct:Nat->af)(ms:List Mo)(n:Nat)(kc:List Expr)(g:List D->Env->Option Env):Prop:=∃t,Ah X kc t/\(∀ds ρ ρ',g ds ρ=some ρ'->ds.length=kc.length)/\∀(F0 B F H:Hp) (ρ ρ':Env) (σ:St) (ds:List D) (vs:List V) (Q:St->Hp->Prop),RS X.K ct F0 B ms F H ρ σ->Pr (Al X.K ct F B n) ds vs->g ds ρ=some ρ' ->
 (∀σ',RS X.K ct F0 B ms F H ρ' σ'->Q σ' H)->t vs σ H Q
def gsNil:List D->Env->Option Env:=λds ρ=>match ds with
 |[]=>some ρ
 |_=>none
def gsCons (g:D->Env->Option Env)(gs:List D->Env->Option Env):List D->Env->Option Env:=λds ρ=>match ds with
 |d::ds=>(g d ρ).bind λρ'=>gs ds ρ'
 |[]=>none
theorem Gu:Fm X ct ms n [] gsNil:=by
 refine⟨_,OH,λds ρ ρ' e=>?_,λF0 B F H ρ ρ' σ ds vs Q rs l e w=>?_⟩
 ·cases ds with
  |nil=>rfl
  |cons d ds=>cases e
 ·cases l with
  |nil=>cases e;exact⟨rfl,w σ rs⟩
  |cons _ _=>cases e
theorem wu {tg:Expr}{kc:List Expr}{gg:D->Env->Option Env}{gs:List D->Env->Option Env}(h1:XG X ct ms n tg gg)(h2:Fm X ct ms n kc gs)
  (hs:(cV (tg::kc) X.env).map (·.2)=hG tg X.env::(cV kc X.env).map (·.2):=by rfl):Fm X ct ms n (tg::kc) (gsCons gg gs):=by
 obtain⟨t,pt,qt⟩:=h1
 obtain⟨t2,nJ,Jj,sK⟩:=h2
 refine⟨_,Og pt nJ hs,λds ρ ρ' e=>?_,λF0 B F H ρ ρ' σ ds vs Q rs l e w=>?_⟩
 ·cases ds with
  |nil=>cases e
  |cons d ds=>
   obtain⟨ρ1,h3,h4⟩:=bg e
   rw[aF,aF,Jj _ _ _ h4]
 ·cases l with
  |nil=>cases e
  |cons h t=>
   obtain⟨ρ1,h3,h4⟩:=bg e
   exact⟨_,_,rfl,qt F0 B F H ρ ρ1 σ _ _ _ rs h h3 λσ1 r1=>sK F0 B F H ρ1 ρ' σ1 _ _ _ r1 t h4 w⟩
def gT (gs:List D->Env->Option Env):D->Env->Option Env:=λd ρ=>match d with
 |.tup ds=>gs ds ρ
 |_=>none
theorem GH {kc:List Expr}{j:Nat}{gs:List D->Env->Option Env}(hc:X.calm=true)(h:Fm X ct ms (n-1) kc gs)(hl:(cV kc X.env).length=kc.length:=by rfl)(lW:(cV kc X.env).findIdx? (·.1)=none:=by rfl):XG X ct ms n (.Tuple kc j pos) (gT gs):=by
 obtain⟨t,pt,lt,qt⟩:=h
 refine⟨_,Pn (n:=kc.length) hc pt hl lW,λF0 B F H ρ ρ' σ d v Q rs l e w=>?_⟩
 cases d with
 |tup ds=>
  have l':Al X.K ct F H n (.tup ds) v:=l.mono (.refl _) rs.bh
  have:∃a vs,v=.ref a/\kx X.K H a vs/\Pr (Al X.K ct F B (n-1)) ds vs:=by
   cases n with
   |zero=>
    have l:Dt X.K ct F (.tup ds) v:=l
    cases l with
    |tup q t=>exact⟨_,_,rfl,kx.of (rs.fh _ _ q),t.pr⟩
   |succ n=>
    rcases l with l|l
    ·cases l with
     |tup q t=>exact⟨_,_,rfl,kx.of (rs.fh _ _ q),t.pr.mono λ_ _=>Al.of⟩
    ·cases l with
     |tup q t=>exact⟨_,_,rfl,kx.of (rs.fh _ _ q),t⟩
  obtain⟨a,vs,rfl,ha,hp⟩:=this
  exact⟨a,vs,rfl,ha,hp.length.symm.trans (lt _ _ _ e),qt F0 B F H ρ ρ' σ ds vs Q rs hp e w⟩
 |_=>cases e
def startD (N:List aP)(ds:List D):Env:=ds.map some++aJ (N.length-ds.length) none
def mOf (N:List aP)(b:SF)(ds:List D):Option D:=(b (startD N ds)).bind λo=>match o with
 |.rt d=>some d
 |.nx _=>some .non
 |_=>none
theorem SL.start {K:ae}{F B H:Hp}:∀{pm:List Nat} {ds:List D} {vs:List V} {ms:List Mo} (j:Nat),jN K ct F B pm ds vs->(∀(i n:Nat),pm[i]?=some n->ms[i]?=some (Mo.al n)\/(n=0/\ms[i]?=some (Mo.ow 0)))->ms.length=pm.length+j ->
  SL K ct F B H ms (ds.map some++aJ j none) (vs.map some++aJ j none) []
 |_,_,_,ms,j,.nil,_,hl=>by
  have:∀(j:Nat) (ms:List Mo),ms.length=j->SL K ct F B H ms (aJ j none) (aJ j none) []:=by
   intro j
   induction j with
   |zero=>intro ms h;cases ms with
    |nil=>exact .nil
    |cons _ _=>simp at h
   |succ j ih=>intro ms h;cases ms with
    |nil=>simp at h
    |cons m ms=>exact .no (ih ms (by simpa using h))
  simpa using this j ms (by simpa using hl)
 |_,_,_,[],j,.cons h t,_,hl=>by simp at hl;omega
 |_,_,_,m::ms,j,.cons (n:=n) h t,hm,hl=>by
  have ih:=SL.start (ms:=ms) (H:=H) j t (λi n e=>by simpa using hm (i+1) n (by simpa using e)) (by simp at hl;omega)
  rcases hm 0 n rfl with e|⟨rfl,e⟩
  ·simp at e;subst e;exact .al h ih
  ·simp at e;subst e;exact SL.ow (f:=[]) (Ow.zero h) ih
structure Fun2 (K:ae)(x qual:aP)(st:bG)(f:af)(fd:aM):Prop where
 ex:∃(oc:aa) (od:Option af) (dV kV doc pm:aa) (an:Option af) (ix ct:aa) (zD:Array (Option aa)),
  fd=gb x qual (lN st) (gL st) (aY st) dV kV doc pm an ix ct/\K.lookup f=some ⟨oc,od,.func fd,zD⟩/\aD K ix qual=true
 kp:ar K (.ref f)=true
theorem Fun2.ok {P:aW}{w:bv}{K:ae}{mg:aP->Option aa}{base:aI}{x qual:aP}{st:bG}{f:af}{fd:aM}{N ps:List aP}{k:Nat}{sp:Sp}(F:Fun2 K x qual st f fd)(S:bA N ps (aY st))(len:∀vs H Q E,sp vs H Q E->vs.length=ps.length)
    (rZ:∀(ix:aa) (A:bo) (outer:List PySem.Env) (s:ah) (H:Hp) (vs:List V) (Q:VK) (E:XK),ee k (A.deeper (envOfC qual (aY st) s.heap.objs.size f ix))->sp vs H Q E ->
      ∃t,pI (nB eP P w K mg base N qual (aY st) f ix A outer s H E).nox (gL st) t/\t { nx:=λ_ H'=>Q .non H',rt:=Q } (L2.start N vs) H):cI P w K mg base eP (k+1) f fd ps sp:=by
  obtain⟨oc,od,dV,kV,doc,pm,an,ix,ct,zD,rfl,lk,iU⟩:=F.ex
  refine zt2 lk iU S len λA outer s H vs Q E hr vJ=>?_
  obtain⟨t,h,q⟩:=rZ ix A outer s H vs Q E hr vJ
  exact⟨t,h.nox,q⟩
theorem lift {P:aW}{w:bv}{K:ae}{mg:aP->Option aa}{base:aI}{x qual:aP}{st:bG}{fa:af}{fd:aM}{N ps:List aP}{kk:Nat}{pm:List Nat}{bf:SF}(Fn:Fun2 K x qual st fa fd)(S:bA N ps (aY st))(CV:pm.length=ps.length)(CQ:ms.length=N.length)(oP:ps.length<=N.length)
  (CP:∀(i n:Nat),pm[i]?=some n->ms[i]?=some (Mo.al n)\/(n=0/\ms[i]?=some (Mo.ow 0)))
  (body:∀(ix:aa) (A:bo) (outer:List PySem.Env) (s:ah) (H:Hp) (E:XK),ee kk (A.deeper (envOfC qual (aY st) s.heap.objs.size fa ix))->qF (nB eP P w K mg base N qual (aY st) fa ix A outer s H E).nox ct ms rk (gL st) bf) :
  cI P w K mg base eP (kk+1) fa fd ps (gH K ct pm rk (mOf N bf)):=by
 refine Fn.ok S (gH.len CV) λix A outer s H vs Q E hr h=>?_
 obtain⟨F,ds,d,sF,l,hm,q⟩:=h
 obtain⟨t,pt,qt⟩:=body ix A outer s H E hr
 refine⟨t,pt,?_⟩
 obtain⟨o,h1,h2⟩:=bg hm
 have hvl:vs.length=pm.length:=l.length
 have uX:ds.length=vs.length:=l.length'
 refine qt F H F H (startD N ds) (L2.start N vs) o _ ⟨.refl _,.refl _,sF,λ_ _ _ _ h=>h,[],?_,bz,λa z=>(by cases z)⟩ h1 ?_
 ·unfold startD L2.start
  rw[uX]
  exact SL.start _ l CP (by omega)
 ·cases o with
  |nx ρ=>
   cases h2
   exactλσ F' H' r=>q .non F' H' [] ⟨r.f0,r.bh,r.fh,r.nf⟩ (Ow.scal .non rfl) bz λa z=>(by cases z)
  |rt d'=>
   cases h2
   exactλv F' H' fp s1 s2 s3 s4 o nd hf=>q v F' H' fp ⟨s1,s2,s3,s4⟩ o nd hf
  |bk ρ=>cases h2
  |ct ρ=>cases h2
end
end L3
namespace L3
open PySem PySem.Spec L2
open PyProof.Rows hiding St
theorem fS.or {X:Cx}{f:aa->aa->ip aa}{r r':R2}(h:fS X f r)(h':fS X f r'):fS X f (λx y H Q=>r x y H Q\/r' x y H Q) :=
 λai s σ H x y v u Q I rx ry q=>q.elim (h ai s σ H x y v u Q I rx ry) (h' ai s σ H x y v u Q I rx ry)
section
variable {K:ae}{ct:Nat->af}{n m k:Nat}
def i2 (g:Int->Int->D):D->D->Option D
 |.int i,.int j=>some (g i j)
 |_,_=>none
def sr (C:Int->Int->Prop)[∀i j,Decidable (C i j)](g:Int->Int->D):D->D->Option D
 |.int i,.int j=>if C i j then some (g i j)else none
 |_,_=>none
theorem GN {g:Int->Int->D}{gv:Int->Int->V}(hg:∀i j F,Dt K ct F (g i j) (gv i j)):lV K ct n m k (oR gv) (i2 g):=by
 intro F H x y d1 d2 d Q s l1 l2 e w
 cases d1 with
 |int i=>
  cases d2 with
  |int j=>cases e;exact⟨i,j,l1.int,l2.int,w _ F H (.refl s) (Al.of (hg i j F))⟩
  |_=>cases e
 |_=>cases e
theorem GI {C C':Int->Int->Prop}[∀i j,Decidable (C i j)]{g:Int->Int->D}{gv:Int->Int->V}(hC:∀i j,C i j->C' i j)(hg:∀i j F,Dt K ct F (g i j) (gv i j)):lV K ct n m k (rI C' gv) (sr C g):=by
 intro F H x y d1 d2 d Q s l1 l2 e w
 cases d1 with
 |int i=>
  cases d2 with
  |int j=>
   unfold sr at e
   dsimp only at e
   by_cases h:C i j
   ·rw[if_pos h]at e;cases e;exact⟨i,j,l1.int,l2.int,hC i j h,w _ F H (.refl s) (Al.of (hg i j F))⟩
   ·rw[if_neg h]at e;cases e
  |_=>cases e
 |_=>cases e
def K1:Nat:=2 ^ 9000
def AO:Nat:=2 ^ 100000
def kQ:D->D->Option D:=i2 λi j=>.int (i-j)
theorem uo:lV K ct n m k (oR λi j=>.int (i-j)) kQ:=GN λ_ _ _=>.int _
def lq (i j:Int):Prop:=(-18446744073709551616<i/\i<18446744073709551616)\/(-18446744073709551616<j/\j<18446744073709551616)\/(i.natAbs<AO/\j.natAbs<AO)
instance (i j:Int):Decidable (lq i j):=by unfold lq;infer_instance
def fI:D->D->Option D:=sr lq λi j=>.int (i*j)
theorem lq.ok {i j:Int}(h:lq i j):mQ i j:=by
 rcases h with h|h|h
 ·exact .inl (.inl ⟨by have:=h.1;omega,by have:=h.2;omega⟩)
 ·exact .inl (.inr ⟨by have:=h.1;omega,by have:=h.2;omega⟩)
 ·exact .inr h
theorem Y3:lV K ct n m k (rI mQ λi j=>.int (i*j)) fI:=GI (λ_ _=>lq.ok) λ_ _ _=>.int _
def D.v:D->V
 |.bl b=>.bl b
 |.int i=>.int i
 |.str x=>.str x
 |_=>.non
theorem Dt.v {F:Hp}{d:D}{v:V}(h:Dt K ct F d v)(hs:d.sc=true):v=d.v:=by
 cases h<;>first|rfl|cases hs
theorem Al.v {F G:Hp}{d:D}{v:V}(h:Al K ct F G n d v)(hs:d.sc=true):v=d.v:=Dt.v (Al.scal (F':=F) h hs) hs
theorem D.flat {d:D}(hs:d.sc=true):jP d.v=true:=by cases d<;>first|rfl|cases hs
theorem Pr.vs {F G:Hp}:∀{ds:List D} {vs:List V},Pr (Al K ct F G n) ds vs->ds.all D.sc=true->vs=ds.map D.v
 |_,_,.nil,_=>rfl
 |d::ds,v::vs,.cons h t,e=>by
  rw[eM,bw]at e
  rw[bu,Al.v h e.1,Pr.vs t e.2]
def fO:D->D->Option D
 |.int i,.int j=>if 0<j/\j<4611686018427387904 then some (.int (i/j))else if j≠0/\j.natAbs<K1 then some (.int (i.fdiv j))else none
 |_,_=>none
theorem wv:lV K ct n m k (rI (λ_ j=>j≠0/\Sz 9000 j) λi j=>.int (i.fdiv j)) fO:=by
 intro F H x y d1 d2 d Q s l1 l2 e w
 cases d1 with
 |int i=>
  cases d2 with
  |int j=>
   unfold fO at e
   dsimp only at e
   by_cases h:0<j/\j<4611686018427387904
   ·rw[if_pos h]at e
    cases e
    refine⟨i,j,l1.int,l2.int,⟨by omega,?_⟩,?_⟩
    ·have:Sz 62 j:=by unfold Sz;omega
     exact this.mono (by decide)
    ·show Q (.int (i.fdiv j)) H
     rw[mN i (by omega)]
     exact w _ F H (.refl s) (Al.of (.int _))
   ·rw[if_neg h]at e
    by_cases h:j≠0/\j.natAbs<K1
    ·rw[if_pos h]at e
     cases e
     exact⟨i,j,l1.int,l2.int,h,w _ F H (.refl s) (Al.of (.int _))⟩
    ·rw[if_neg h]at e;cases e
  |_=>cases e
 |_=>cases e
def d7:D->D->Option D
 |.int i,.int j=>if 0<j then some (.int (i%j))else if j≠0 then some (.int (i.fmod j))else none
 |_,_=>none
theorem y0:lV K ct n m k (rI (λ_ j=>j≠0) λi j=>.int (i.fmod j)) d7:=by
 intro F H x y d1 d2 d Q s l1 l2 e w
 cases d1 with
 |int i=>
  cases d2 with
  |int j=>
   unfold d7 at e
   dsimp only at e
   by_cases h:0<j
   ·rw[if_pos h]at e
    cases e
    refine⟨i,j,l1.int,l2.int,by omega,?_⟩
    show Q (.int (i.fmod j)) H
    rw[Int.fmod_eq_emod_of_nonneg i (by omega)]
    exact w _ F H (.refl s) (Al.of (.int _))
   ·rw[if_neg h]at e
    by_cases h:j≠0
    ·rw[if_pos h]at e
     cases e
     exact⟨i,j,l1.int,l2.int,h,w _ F H (.refl s) (Al.of (.int _))⟩
    ·rw[if_neg h]at e;cases e
  |_=>cases e
 |_=>cases e
def nh (i j:Int):Prop:=0<=j/\j<=1000000/\i.natAbs<18446744073709551616
instance (i j:Int):Decidable (nh i j):=by unfold nh;infer_instance
def oy:D->D->Option D:=sr nh λi j=>.int (i ^ j.toNat)
theorem EZ:lV K ct n m k (rI tI λi j=>.int (i ^ j.toNat)) oy:=GI (λ_ _ h=>⟨h.1,h.2.1,by have:=h.2.2;omega⟩) λ_ _ _=>.int _
def t6:D->D->Option D:=sr nh λi j=>.int (i*2 ^ j.toNat)
theorem Y4:lV K ct n m k (rI tI λi j=>.int (i*2 ^ j.toNat)) t6:=GI (λ_ _ h=>⟨h.1,h.2.1,by have:=h.2.2;omega⟩) λ_ _ _=>.int _
def qL:D->D->Option D:=sr (λ_ j=>0<=j) λi j=>.int (i/2 ^ j.toNat)
theorem O2:lV K ct n m k (rI (λ_ j=>0<=j) λi j=>.int (i/2 ^ j.toNat)) qL:=GI (λ_ _ h=>h) λ_ _ _=>.int _
def mK:D->D->Option D:=i2 λi j=>.bl (decide (i<j))
def sZ:D->D->Option D:=i2 λi j=>.bl (decide (j<i))
def HX:D->D->Option D:=i2 λi j=>.bl (decide (j<=i))
theorem wA:lV K ct n m k (oR λi j=>.bl (decide (i<j))) mK:=GN λ_ _ _=>.bl _
theorem wB:lV K ct n m k (oR λi j=>.bl (decide (j<i))) sZ:=GN λ_ _ _=>.bl _
theorem zsr:lV K ct n m k (oR λi j=>.bl (decide (j<=i))) HX:=GN λ_ _ _=>.bl _
def zM:R2:=λx y H Q=>∃i j,x=.str i/\y=.str j/\Q (.bl (!(decide (j.cps.toList<i.cps.toList)))) H
theorem zss {X:Cx}:fS X (cE .LtE) zM:=by
 intro ai s σ H x y v u Q I rx ry h
 obtain⟨i,j,rfl,rfl,q⟩:=h
 obtain⟨t,rfl⟩:=rx
 obtain⟨t',rfl⟩:=ry
 exact PySem.P.le_str ⟨.bl _,H,I,rfl,q⟩
def vM:D->D->Option D
 |.int i,.int j=>some (.bl (decide (i<=j)))
 |.str i,.str j=>some (.bl (!(decide (j.cps.toList<i.cps.toList))))
 |_,_=>none
theorem Ay:lV K ct n m k (λx y H Q=>oR (λi j=>.bl (decide (i<=j))) x y H Q\/zM x y H Q) vM:=by
 intro F H x y d1 d2 d Q s l1 l2 e w
 cases d1 with
 |int i=>
  cases d2 with
  |int j=>cases e;exact .inl ⟨i,j,l1.int,l2.int,w _ F H (.refl s) (Al.of (.bl _))⟩
  |_=>cases e
 |str i=>
  cases d2 with
  |str j=>cases e;exact .inr ⟨i,j,l1.str,l2.str,w _ F H (.refl s) (Al.of (.bl _))⟩
  |_=>cases e
 |_=>cases e
theorem AG {X:Cx}:fS X (cE .LtE) (λx y H Q=>oR (λi j=>.bl (decide (i<=j))) x y H Q\/zM x y H Q):=fS.or zt0 zss
def D.isN:D->Bool
 |.non=>true
 |_=>false
def D.isB (b:Bool):D->Bool
 |.bl c=>c==b
 |_=>false
def tu (neg:Bool):D->D->Option D
 |d,.non=>some (.bl (if neg then !d.isN else d.isN))
 |d,.bl b=>some (.bl (if neg then !d.isB b else d.isB b))
 |_,_=>none
theorem Al.ref {F G:Hp}{d:D}{v:V}(h:Al K ct F G n d v)(hs:d.sc=false):∃a,v=.ref a:=by
 cases n with
 |zero=>cases(show Dt K ct F d v from h)<;>first|cases hs;done|exact⟨_,rfl⟩
 |succ n=>rcases h with h|h<;>cases h<;>first|cases hs;done|exact⟨_,rfl⟩
theorem Al.isn {F G:Hp}{d:D}{v:V}(h:Al K ct F G n d v):decide (v=.non)=d.isN:=by
 cases hs:d.sc with
 |true=>
  have:=Al.v h hs
  subst this
  cases d<;>first|rfl|cases hs
 |false=>
  obtain⟨a,rfl⟩:=h.ref hs
  cases d<;>first|rfl|cases hs
theorem Al.isb {F G:Hp}{d:D}{v:V}{b:Bool}(h:Al K ct F G n d v):decide (v=.bl b)=d.isB b:=by
 cases hs:d.sc with
 |true=>
  have:=Al.v h hs
  subst this
  cases d<;>first|rfl|(cases hs;done)|(rename_i c;cases b<;>cases c<;>rfl)
 |false=>
  obtain⟨a,rfl⟩:=h.ref hs
  cases d<;>first|rfl|cases hs
def MS:R2:=λx y H Q=>(y=.non/\Q (.bl (decide (x=.non))) H)\/∃b,y=.bl b/\Q (.bl (decide (x=.bl b))) H
def sL:R2:=λx y H Q=>(y=.non/\Q (.bl (!decide (x=.non))) H)\/∃b,y=.bl b/\Q (.bl (!decide (x=.bl b))) H
theorem GO {X:Cx}:fS X (cE .Is) MS:=fS.or Z7 ZP
theorem XJ {X:Cx}:fS X (cE .IsNot) sL:=fS.or Yt WG
theorem GJ:lV K ct n m k MS (tu false):=by
 intro F H x y d1 d2 d Q s l1 l2 e w
 cases d2 with
 |non=>
  cases e
  refine .inl ⟨l2.non,?_⟩
  rw[l1.isn]
  exact w _ F H (.refl s) (Al.of (.bl _))
 |bl b=>
  cases e
  refine .inr ⟨b,l2.bl,?_⟩
  rw[l1.isb]
  exact w _ F H (.refl s) (Al.of (.bl _))
 |_=>cases e
theorem WP:lV K ct n m k sL (tu true):=by
 intro F H x y d1 d2 d Q s l1 l2 e w
 cases d2 with
 |non=>
  cases e
  refine .inl ⟨l2.non,?_⟩
  rw[l1.isn]
  exact w _ F H (.refl s) (Al.of (.bl _))
 |bl b=>
  cases e
  refine .inr ⟨b,l2.bl,?_⟩
  rw[l1.isb]
  exact w _ F H (.refl s) (Al.of (.bl _))
 |_=>cases e
mutual
def D.py:D->Option bM
 |.non=>some .none
 |.bl b=>some (.bool b)
 |.int i=>some (.int i)
 |.str x=>some (.str x)
 |.lst xs=>(D.pys xs).bind λys=>some (.list ys)
 |.tup xs=>(D.pys xs).bind λys=>some (.tuple ys)
 |_=>none
def D.pys:List D->Option (List bM)
 |[]=>some []
 |d::ds=>(D.py d).bind λx=>(D.pys ds).bind λxs=>some (x::xs)
end
theorem Dt.toPy {F H:Hp}(s:bK F H){d:D}{v:V}{e:bM}(h:Dt K ct F d v)(q:d.py=some e):L2.Dt K H v e:=by
 refine Dt.rec (motive_1:=λd v _=>∀e,d.py=some e->L2.Dt K H v e) (motive_2:=λds vs _=>∀es,D.pys ds=some es->L2.Dts K H vs es) ?_ ?_ ?_ ?_ ?_ ?_ ?_ ?_ ?_ ?_ ?_ ?_ ?_ h e q
 ·intro e h;rw[D.py]at h;cases h;exact .non
 ·intro b e h;rw[D.py]at h;cases h;exact .bl b
 ·intro b e h;rw[D.py]at h;cases h;exact .int b
 ·intro b e h;rw[D.py]at h;cases h;exact .str b
 ·intro _ _ _ q _ t e h
  rw[D.py]at h
  obtain⟨ys,h1,h2⟩:=bg h
  cases h2
  exact .lst (s.seq q) (t _ h1)
 ·intro _ _ _ q _ t e h
  rw[D.py]at h
  obtain⟨ys,h1,h2⟩:=bg h
  cases h2
  exact .tup (kx.of (s _ _ q)) (t _ h1)
 ·intro _ _ _ _ _ _ _ _ e h;simp only[D.py]at h;cases h
 ·intro _ _ _ _ _ _ _ _ e h;simp only[D.py]at h;cases h
 ·intro _ _ _ _ _ _ _ _ _ _ e h;simp only[D.py]at h;cases h
 ·intro _ _ _ _ e h;simp only[D.py]at h;cases h
 ·intro _ _ _ _ _ _ _ _ _ _ _ _ e h;simp only[D.py]at h;cases h
 ·intro e h;rw[D.pys]at h;cases h;exact .nil
 ·intro _ _ _ _ _ _ p t e h
  rw[D.pys]at h
  obtain⟨y,ys,h1,h2,h3⟩:=dZ h
  cases h3
  exact .cons (p _ h1) (t _ h2)
theorem Pr.toPy {H:Hp}{R:D->V->Prop}(f:∀d v e,R d v->d.py=some e->L2.Dt K H v e){ds:List D}{vs:List V}{es:List bM}(h:Pr R ds vs)(e:D.pys ds=some es):L2.Dts K H vs es:=by
 induction h generalizing es with
 |nil=>rw[D.pys]at e;cases e;exact .nil
 |cons h t ih=>
  rw[D.pys]at e
  obtain⟨y,ys,h1,h2,h3⟩:=dZ e
  cases h3
  exact .cons (f _ _ _ h h1) (ih h2)
theorem Al.toPy {F H:Hp}(s:bK F H){n:Nat}{d:D}{v:V}{e:bM}(h:Al K ct F H n d v)(q:d.py=some e):L2.Dt K H v e:=by
 induction n generalizing d v e with
 |zero=>exact Dt.toPy s h q
 |succ n ih=>
  cases h with
  |inl h=>exact Dt.toPy s h q
  |inr h=>
   cases h with
   |lst h t=>
    rw[D.py]at q
    obtain⟨ys,h1,h2⟩:=bg q
    cases h2
    exact .lst (eR.of h) (Pr.toPy (λ_ _ _=>ih) t h1)
   |tup h t=>
    rw[D.py]at q
    obtain⟨ys,h1,h2⟩:=bg q
    cases h2
    exact .tup (kx.of (s _ _ h)) (Pr.toPy (λ_ _ _=>ih) t h1)
   |_=>simp only[D.py]at q;cases q
def nK (a:bM):Bool:=a.canLay0&&decide (a.depth<=60)
def gA (neg:Bool)(x y:D):Option D:=x.py.bind λa=>y.py.bind λb=>if nK a=true/\nK b=true then some (.bl (if neg then !bM.eqv a b else bM.eqv a b))else none
theorem vd {neg:Bool}:lV K ct n m k (zL K neg) (gA neg):=by
 intro F H x y d1 d2 d Q s l1 l2 e w
 obtain⟨a,b,h1,h2,h3⟩:=dZ e
 by_cases h:nK a=true/\nK b=true
 ·rw[if_pos h]at h3
  cases h3
  have o1:=h.1
  have o2:=h.2
  unfold nK at o1 o2
  rw[bw,decide_eq_true_iff]at o1 o2
  exact⟨a,b,Al.toPy s l1 h1,Al.toPy s l2 h2,o1.1,o2.1,bD (Nat.min_le_left _ _) o1.2,w _ F H (.refl s) (Al.of (.bl _))⟩
 ·rw[if_neg h]at h3;cases h3
end
end L3
namespace L3
open PySem PySem.Spec L2
open PyProof.Rows hiding St
section
variable {K:ae}{ct:Nat->af}{n m k:Nat}{X:Cx}
theorem Pr.atI {R:D->V->Prop}{ds:List D}{vs:List V}{i:Int}{d:D}(h:Pr R ds vs)(e:atI ds i=some d):∃v,atI vs i=some v/\R d v:=by
 unfold L2.atI at e ⊢
 rw[←h.length]
 obtain⟨j,h1,h2⟩:=bg e
 obtain⟨v,h3,h4⟩:=h.get' h2
 exact⟨v,by rw[h1];exact h3,h4⟩
def tW:D->Option eF
 |.int i=>some (.inl i)
 |.str x=>some (.inr x)
 |_=>none
def m9:List D->Option (List eF)
 |[]=>some []
 |d::ds=>(tW d).bind λk=>(m9 ds).bind λks=>some (k::ks)
def iT {κ:Type}[DecidableEq κ](ks:List κ)(ds:List D)(k:κ):Option D:=((ks.zip ds).find? λp=>decide (p.1=k)).map (·.2)
def RO (R:D->V->Prop):Option D->Option V->Prop
 |some d,some u=>R d u
 |none,none=>True
 |_,_=>False
theorem RO.some_of {R:D->V->Prop}{d:D}{q:Option V}(h:RO R (some d) q):∃u,q=some u/\R d u:=by
 cases q with
 |none=>exact h.elim
 |some u=>exact⟨u,rfl,h⟩
theorem RO.none_of {R:D->V->Prop}{q:Option V}(h:RO R none q):q=none:=by
 cases q with
 |none=>rfl
 |some u=>exact h.elim
theorem Kg {κ:Type}[DecidableEq κ]{R:D->V->Prop}{k:κ}:∀{ks:List κ} {ds:List D} {vs:List V},Pr R ds vs->RO R (iT ks ds k) (iA (ks.zip vs) k)
 |[],_,_,_=>by simp[iT,iA,RO]
 |_::_,_,_,.nil=>by simp[iT,iA,RO]
 |y::ks,d::ds,v::vs,.cons h t=>by
  by_cases e:y=k
  ·have h1:iT (y::ks) (d::ds) k=some d:=by simp[iT,cU,e]
   have h2:iA ((y::ks).zip (v::vs)) k=some v:=by simp[iA,cU,e]
   rw[h1,h2]
   exact h
  ·have h1:iT (y::ks) (d::ds) k=iT ks ds k:=by simp[iT,cU,e]
   have h2:iA ((y::ks).zip (v::vs)) k=iA (ks.zip vs) k:=by simp[iA,cU,e]
   rw[h1,h2]
   exact Kg t
theorem KP {F G:Hp}{d:D}{v:V}{k:eF}(e:tW d=some k)(h:Al K ct F G n d v):v=kV k:=by
 cases d with
 |int i=>cases e;exact h.int
 |str i=>cases e;exact h.str
 |_=>cases e
theorem O3 {F G:Hp}{ds:List D}{vs:List V}{ks:List eF}(e:m9 ds=some ks)(h:Pr (Al K ct F G n) ds vs):vs=ks.map kV:=by
 induction h generalizing ks with
 |nil=>cases e;rfl
 |cons h t ih=>
  unfold m9 at e
  obtain⟨k,ks,h1,h2,h3⟩:=dZ e
  cases h3
  rw[KP h1 h,ih h2];rfl
def ky (o y:D):Option (Option D):=match o with
 |.dK ks ds=>(tW y).bind λk=>some (iT ks ds k)
 |.dT ks ds=>(match y with|.tup ys=>(m9 ys).bind λk=>some (iT ks ds k)|_=>none)
 |_=>none
theorem KF {F G:Hp}{o y:D}{x v:V}(s:bK F G)(l1:Al K ct F G n o x)(l2:Al K ct F G m y v){r:Option D}(e:ky o y=some r) :
  ∃a q,x=.ref a/\mE G a v q/\Ag G a/\RO (Al K ct F G (n-1)) r q:=by
 cases o with
 |dK ks ds=>
  obtain⟨a,vs,rfl,ha,hl,hp⟩:=l1.dK s
  obtain⟨k,h1,h2⟩:=bg e
  cases h2
  have hv:=KP h1 l2
  subst hv
  exact⟨a,_,rfl,mE.k ha,.inl ⟨_,.inl ha⟩,Kg hp⟩
 |dT ks ds=>
  obtain⟨a,vs,rfl,ha,hl,hp⟩:=l1.dT s
  cases y with
  |tup ys=>
   obtain⟨k,h1,h2⟩:=bg e
   cases h2
   obtain⟨b,us,rfl,hb,IP⟩:=l2.tup s
   have hv:=O3 h1 IP
   subst hv
   exact⟨a,_,rfl,.inr ⟨_,_,_,ha,rfl,hb,rfl⟩,.inr ⟨_,ha⟩,Kg hp⟩
  |_=>cases e
 |_=>cases e
def d5:D->D->Option D
 |.lst ds,.int i=>atI ds i
 |.tup ds,.int i=>atI ds i
 |.str x,.int i=>if x.length<=16777216 then(atI x.cps.toList i).bind λc=>some (.str ⟨#[c]⟩)else none
 |_,_=>none
theorem wC:lV K ct n m (n-1) (MT K) d5:=by
 intro F H x y d1 d2 d Q s l1 l2 e w
 cases d1 with
 |lst ds=>
  cases d2 with
  |int i=>
   obtain⟨a,vs,rfl,ha,hp⟩:=l1.lst s
   obtain⟨v,h1,h2⟩:=hp.atI e
   exact .inl ⟨a,vs,i,v,rfl,l2.int,ha,h1,w v F H (.refl s) h2⟩
  |_=>cases e
 |tup ds=>
  cases d2 with
  |int i=>
   obtain⟨a,vs,rfl,ha,hp⟩:=l1.tup s
   obtain⟨v,h1,h2⟩:=hp.atI e
   exact .inr (.inl ⟨a,vs,i,v,rfl,l2.int,kx.of ha,h1,w v F H (.refl s) h2⟩)
  |_=>cases e
 |str z=>
  cases d2 with
  |int i=>
   unfold d5 at e
   dsimp only at e
   by_cases h:z.length<=16777216
   ·rw[if_pos h]at e
    obtain⟨c,h1,h2⟩:=bg e
    cases h2
    exact .inr (.inr ⟨z,i,c,l1.str,l2.int,by rw[bC];exact h,h1,w _ F H (.refl s) (Al.of (.str _))⟩)
   ·rw[if_neg h]at e;cases e
  |_=>cases e
 |_=>cases e
theorem Y5 {ms:List Mo}{o e:Expr}{f g:EF}{dh dN:cB}(hu:X.A.units+1<gR)(ho:XE X ct ms n o f)(he:XE X ct ms m e g)(h1:M1 X o "get" dh e dN):XE X ct ms (n-1) (.Call (.Attribute o "get" dh) [e] [] dN) (λρ=>(f ρ).bind λx=>(g ρ).bind λy=>(ky x y).bind λr=>some (r.getD .non)):=by
 obtain⟨ta,pa,qa⟩:=ho
 obtain⟨tb,pb,qb⟩:=he
 refine⟨_,Xw hu pa pb h1,λF0 B F H ρ σ d Q rs e w=>?_⟩
 obtain⟨d1,d2,e1,e2,e3⟩:=dZ e
 obtain⟨r,e4,e5⟩:=bg e3
 cases e5
 refine qa F0 B F H ρ σ d1 _ rs e1 λx F1 H1 x1 l1=>?_
 have:∃a,x=.ref a/\Ag H1 a:=by
  cases d1 with
  |dK ks ds=>obtain⟨a,vs,rfl,ha,_⟩:=l1.dK x1.fh;exact⟨a,rfl,.inl ⟨_,.inl ha⟩⟩
  |dT ks ds=>obtain⟨a,vs,rfl,ha,_⟩:=l1.dT x1.fh;exact⟨a,rfl,.inr ⟨_,ha⟩⟩
  |_=>cases e4
 obtain⟨a,rfl,Jb⟩:=this
 refine⟨a,rfl,Jb,qb F0 B F1 H1 ρ σ d2 _ (rs.ext x1) e2 λy F2 H2 x2 l2=>?_⟩
 obtain⟨a',o,ea,gg,_,h⟩:=KF (r:=r) x2.fh (l1.mono x2.ff x2.hh) l2 e4
 cases ea
 refine⟨o,gg,?_⟩
 cases r with
 |none=>rw[h.none_of];exact w _ F2 H2 (x1.trans x2) (Al.of .non)
 |some d=>obtain⟨u,rfl,FN⟩:=h.some_of;exact w _ F2 H2 (x1.trans x2) FN
theorem Y6 {ms:List Mo}{o e z:Expr}{f g h:EF}{dh dN:cB}(hu:X.A.units+1<gR)(ho:XE X ct ms n o f)(he:XE X ct ms m e g)(hz:XE X ct ms (n-1) z h)(h1:M2 X o "get" dh e z dN):XE X ct ms (n-1) (.Call (.Attribute o "get" dh) [e,z] [] dN) (λρ=>(f ρ).bind λx=>(g ρ).bind λy=>(h ρ).bind λz=>(ky x y).bind λr=>some (r.getD z)):=by
 obtain⟨ta,pa,qa⟩:=ho
 obtain⟨tb,pb,qb⟩:=he
 obtain⟨tc,pc,qc⟩:=hz
 refine⟨_,Xx hu pa pb pc h1,λF0 B F H ρ σ d Q rs e w=>?_⟩
 obtain⟨d1,d2,e1,e2,e3⟩:=dZ e
 obtain⟨d3,e6,e7⟩:=bg e3
 obtain⟨r,e4,e5⟩:=bg e7
 cases e5
 refine qa F0 B F H ρ σ d1 _ rs e1 λx F1 H1 x1 l1=>?_
 have:∃a,x=.ref a/\Ag H1 a:=by
  cases d1 with
  |dK ks ds=>obtain⟨a,vs,rfl,ha,_⟩:=l1.dK x1.fh;exact⟨a,rfl,.inl ⟨_,.inl ha⟩⟩
  |dT ks ds=>obtain⟨a,vs,rfl,ha,_⟩:=l1.dT x1.fh;exact⟨a,rfl,.inr ⟨_,ha⟩⟩
  |_=>cases e4
 obtain⟨a,rfl,Jb⟩:=this
 refine⟨a,rfl,Jb,qb F0 B F1 H1 ρ σ d2 _ (rs.ext x1) e2 λy F2 H2 x2 l2=>?_⟩
 refine qc F0 B F2 H2 ρ σ d3 _ (rs.ext (x1.trans x2)) e6 λz F3 H3 x3 l3=>?_
 have lz:=x2.trans x3
 obtain⟨a',o,ea,gg,_,h⟩:=KF (r:=r) lz.fh (l1.mono lz.ff lz.hh) (l2.mono x3.ff x3.hh) e4
 cases ea
 refine⟨o,gg,?_⟩
 cases r with
 |none=>rw[h.none_of];exact w _ F3 H3 (x1.trans lz) l3
 |some d=>obtain⟨u,rfl,FN⟩:=h.some_of;exact w _ F3 H3 (x1.trans lz) FN
def Lw:D->D->Bool
 |.non,.non=>true
 |.bl a,.bl b=>a==b
 |.bl a,.int b=>(if a then 1 else 0)==b
 |.int a,.bl b=>a==(if b then 1 else 0)
 |.int a,.int b=>a==b
 |.str a,.str b=>a==b
 |_,_=>false
theorem zuc {x y:D}(hx:x.sc=true)(hy:y.sc=true):tO x.v y.v=Lw x y:=by
 cases x<;>first|cases hx;done|(cases y<;>first|cases hy;done|rfl)
def tq (x:D)(ds:List D):Bool:=ds.any λy=>Lw y x
theorem KZ {x:D}(hx:x.sc=true):∀{ds:List D},ds.all D.sc=true->FR x.v (ds.map D.v)=tq x ds
 |[],_=>rfl
 |d::ds,h=>by
  rw[eM,bw]at h
  have ih:=KZ hx h.2
  unfold FR tq at ih ⊢
  rw[bu,dP,dP,ih,zuc h.1 hx]
theorem Kk:∀{ds:List D},ds.all D.sc=true->(ds.map D.v).all jP=true
 |[],_=>rfl
 |d::ds,h=>by
  rw[eM,bw]at h
  rw[bu,eM,D.flat h.1,Kk h.2];rfl
def inD (neg:Bool)(x y:D):Option D:=match y with
 |.lst ds=>if x.sc=true/\ds.all D.sc=true then some (.bl (if neg then !tq x ds else tq x ds))else none
 |.tup ds=>if x.sc=true/\ds.all D.sc=true then some (.bl (if neg then !tq x ds else tq x ds))else none
 |_=>none
theorem Pj {neg:Bool}:lV K ct n m k (MR K neg) (inD neg):=by
 intro F H x y d1 d2 d Q s l1 l2 e w
 cases d2 with
 |lst ds=>
  unfold inD at e
  dsimp only at e
  by_cases h:d1.sc=true/\ds.all D.sc=true
  ·rw[if_pos h]at e
   cases e
   obtain⟨a,vs,rfl,ha,hp⟩:=l2.lst s
   have hv:=hp.vs h.2
   subst hv
   have hx:=Al.v l1 h.1
   subst hx
   refine⟨a,_,rfl,.inl ha,D.flat h.1,Kk h.2,?_⟩
   rw[KZ h.1 h.2]
   exact w _ F H (.refl s) (Al.of (.bl _))
  ·rw[if_neg h]at e;cases e
 |tup ds=>
  unfold inD at e
  dsimp only at e
  by_cases h:d1.sc=true/\ds.all D.sc=true
  ·rw[if_pos h]at e
   cases e
   obtain⟨a,vs,rfl,ha,hp⟩:=l2.tup s
   have hv:=hp.vs h.2
   subst hv
   have hx:=Al.v l1 h.1
   subst hx
   refine⟨a,_,rfl,.inr (kx.of ha),D.flat h.1,Kk h.2,?_⟩
   rw[KZ h.1 h.2]
   exact w _ F H (.refl s) (Al.of (.bl _))
  ·rw[if_neg h]at e;cases e
 |_=>cases e
def eA:List D->Option D
 |[.lst ds]=>some (.int ds.length)
 |[.tup ds]=>some (.int ds.length)
 |[.dK ks _]=>some (.int ks.length)
 |[.str x]=>if x.length<=16777216 then some (.int x.length)else none
 |_=>none
def Ey (K:ae):List V->Hp->VK->Prop:=λxs H Q=>(∃p ys,xs=[.ref p]/\(eR K H p ys\/kx K H p ys)/\Q (.int ys.length) H)\/(∃z,xs=[.str z]/\z.length<=sizeLine/\Q (.int z.length) H)\/∃a cn,xs=[V.ref a]/\H a=some (.dK cn)/\Q (.int cn.length) H
theorem WQ:eE X (.builtin "len") (Ey X.K):=Vl.or (Vm.or WF)
theorem Y7:wJ K ct [n] k (Ey K) eA:=by
 intro F H vs ds d Q s l e w
 cases l with
 |cons h t=>
  cases t
  rename_i d1 v
  cases d1 with
  |lst xs=>
   cases e
   obtain⟨a,us,rfl,ha,hp⟩:=h.lst s
   refine .inl ⟨a,us,rfl,.inl ha,?_⟩
   rw[←hp.length]
   exact w _ F H (.refl s) (Al.of (.int _))
  |tup xs=>
   cases e
   obtain⟨a,us,rfl,ha,hp⟩:=h.tup s
   refine .inl ⟨a,us,rfl,.inr (kx.of ha),?_⟩
   rw[←hp.length]
   exact w _ F H (.refl s) (Al.of (.int _))
  |str x=>
   unfold eA at e
   dsimp only at e
   by_cases hz:x.length<=16777216
   ·rw[if_pos hz]at e
    cases e
    exact .inr (.inl ⟨x,by rw[h.str],by rw[bC];exact hz,w _ F H (.refl s) (Al.of (.int _))⟩)
   ·rw[if_neg hz]at e;cases e
  |dK ks xs=>
   cases e
   obtain⟨a,us,rfl,ha,hl,hp⟩:=h.dK s
   refine .inr (.inr ⟨a,_,rfl,ha,?_⟩)
   rw[eQ,←hl,kW]
   exact w _ F H (.refl s) (Al.of (.int _))
  |_=>cases e
end
end L3
namespace L3
open PySem PySem.Spec L2
open PyProof.Rows hiding St
section
variable {ct:Nat->af}{K:ae}
theorem zud {ι:Type}{Xs:ι->Cx}{ms:List Mo}{n:Nat}{e:Expr}{f:EF}(hK:∀i,(Xs i).K=K)(h:∀i,XO (Xs i) ct ms n e f):∃t,(∀i,PE (Xs i) e t)/\∀(F0 B F H:Hp) (ρ:Env) (σ:St) (d:D) (Q:VK),RS K ct F0 B ms F H ρ σ->f ρ=some d ->
  (∀v F' H' fp,fL F H F' H'->Ow K ct F' H' n d v fp->fp.Nodup->(∀a∈fp,H a=none)->Q v H')->t σ H Q:=by
 refine⟨λσ H Q=>∀i,(h i).choose σ H Q,λi ai s σ H Q I q=>(h i).choose_spec.1 ai s σ H Q I (q i),λF0 B F H ρ σ d Q rs e w i=>?_⟩
 exact(h i).choose_spec.2 F0 B F H ρ σ d Q (by rw[hK i];exact rs) e λv F' H' fp x l=>w v F' H' fp x (by rw[←hK i];exact l)
def wN (X:Cx)(ct:Nat->af)(ms:List Mo)(ifs:List Expr)(f:BF):Prop:=∃t,uO X ifs t/\∀(F0 B F H:Hp) (ρ:Env) (σ:St) (b:Bool) (Q:Bool->Hp->Prop),RS X.K ct F0 B ms F H ρ σ->f ρ=some b->(∀F' H',fL F H F' H'->Q b H')->t σ H Q
def iR:BF:=λ_=>some true
theorem j4 {X:Cx}{ms:List Mo}:wN X ct ms [] iR:=⟨_,Yi,λF0 B F H ρ σ b Q rs e w=>by cases e;exact w F H (.refl rs.fh)⟩
theorem zZ {X:Cx}{ms:List Mo}{c:Expr}{p:BF}(h:XT X ct ms c p):wN X ct ms [c] p:=by
 obtain⟨t,pt,qt⟩:=h
 exact⟨t,Yj pt,qt⟩
theorem zue {ι:Type}{Xs:ι->Cx}{ms:List Mo}{ifs:List Expr}{f:BF}(hK:∀i,(Xs i).K=K)(h:∀i,wN (Xs i) ct ms ifs f):∃t,(∀i,uO (Xs i) ifs t)/\∀(F0 B F H:Hp) (ρ:Env) (σ:St) (b:Bool) (Q:Bool->Hp->Prop),RS K ct F0 B ms F H ρ σ->f ρ=some b ->
  (∀F' H',fL F H F' H'->Q b H')->t σ H Q:=by
 refine⟨λσ H Q=>∀i,(h i).choose σ H Q,λi ai s σ H Q I q=>(h i).choose_spec.1 ai s σ H Q I (q i),λF0 B F H ρ σ d Q rs e w i=>?_⟩
 exact(h i).choose_spec.2 F0 B F H ρ σ d Q (by rw[hK i];exact rs) e w
def vQ {α:Type}(g:α->St->Hp->(St->Hp->Prop)->Prop):Prop:=∀v σ H Q Q',(∀σ' H',Q σ' H'->Q' σ' H')->g v σ H Q->g v σ H Q'
def sY (X:Cx)(ct:Nat->af)(ms:List Mo)(own n:Nat)(tg:Expr)(g:D->Env->Option Env):Prop:=∃t,PG X tg t/\fH own t/\vQ t/\∀(F0 B F H:Hp) (ρ ρ':Env) (σ:St) (d:D) (v:V) (Q:St->Hp->Prop),RS X.K ct F0 B ms F H ρ σ->Al X.K ct F B n d v->g d ρ=some ρ' ->
 (∀σ',RS X.K ct F0 B ms F H ρ' σ'->Q σ' H)->t v σ H Q
theorem zuf {ι:Type}{Xs:ι->Cx}{ms:List Mo}{own n:Nat}{tg:Expr}{g:D->Env->Option Env}(hK:∀i,(Xs i).K=K)(h:∀i,sY (Xs i) ct ms own n tg g):∃t,(∀i,PG (Xs i) tg t)/\fH own t/\∀(F0 B F H:Hp) (ρ ρ':Env) (σ:St) (d:D) (v:V) (Q:St->Hp->Prop),RS K ct F0 B ms F H ρ σ->Al K ct F B n d v->g d ρ=some ρ' ->
  (∀σ',RS K ct F0 B ms F H ρ' σ'->Q σ' H)->t v σ H Q:=by
 refine⟨λv σ H Q=>∀i,(h i).choose v σ H Q,λi ai s σ H v u Q I r q=>(h i).choose_spec.1 ai s σ H v u Q I r (q i),λv σ H Q q i=>(h i).choose_spec.2.1 v σ H Q (q i),λF0 B F H ρ ρ' σ d v Q rs l e w i=>?_⟩
 exact(h i).choose_spec.2.2.2 F0 B F H ρ ρ' σ d v Q (by rw[hK i];exact rs) (by rw[hK i];exact l) e λσ' r=>w σ' (by rw[←hK i];exact r)
theorem XM {X:Cx}{ms:List Mo}{own i:Nat}{x:aP}{pos:cB}(ho:i<own)(hm:ms[i]?=some (.ow 0))(hN:X.N.Nodup)(hi:X.N[i]?=some x)(hx:Loc X.env.scope x)
  (hf:X.fn x=true\/X.env.scope.names.lookup x=some .local:=by first|exact .inl rfl|exact .inr rfl|assumption):sY X ct ms own 0 (.Name x pos) (gV i):=by
 refine⟨_,Gw hN hi hx hf,Nw i own ho,λv σ H Q Q' m q=>m _ _ q,λF0 B F H ρ ρ' σ d v Q rs l e w=>?_⟩
 cases e
 exact w _ (rs.set hm (.refl rs.fh) (Ow.zero l) bz λa z=>(by cases z))
theorem WR {X:Cx}{ms:List Mo}{own i n:Nat}{x:aP}{pos:cB}(ho:i<own)(hm:ms[i]?=some (.al n))(hN:X.N.Nodup)(hi:X.N[i]?=some x)(hx:Loc X.env.scope x)
  (hf:X.fn x=true\/X.env.scope.names.lookup x=some .local:=by first|exact .inl rfl|exact .inr rfl|assumption):sY X ct ms own n (.Name x pos) (gV i):=by
 refine⟨_,Gw hN hi hx hf,Nw i own ho,λv σ H Q Q' m q=>m _ _ q,λF0 B F H ρ ρ' σ d v Q rs l e w=>?_⟩
 cases e
 obtain⟨fp,sl,nd,hb⟩:=rs.sl
 exact w _ ⟨rs.f0,rs.bh,rs.fh,rs.nf,fp,sl.setA l hm,nd,hb⟩
def yZ (own:Nat)(g:uP):Prop:=∀v σ H Q,g v σ H Q->g v σ H λσ' H'=>Q σ' H'/\σ'.length = σ.length/\∀i,own<=i->σ'[i]? = σ[i]?
def tJ (X:Cx)(ct:Nat->af)(ms:List Mo)(own n:Nat)(kc:List Expr)(g:List D->Env->Option Env):Prop:=∃t,Ah X kc t/\yZ own t/\vQ t/\(∀ds ρ ρ',g ds ρ=some ρ'->ds.length=kc.length)/\∀(F0 B F H:Hp) (ρ ρ':Env) (σ:St) (ds:List D) (vs:List V) (Q:St->Hp->Prop),RS X.K ct F0 B ms F H ρ σ->Pr (Al X.K ct F B n) ds vs->g ds ρ=some ρ' ->
 (∀σ',RS X.K ct F0 B ms F H ρ' σ'->Q σ' H)->t vs σ H Q
theorem Ou {X:Cx}{ms:List Mo}{own n:Nat}:tJ X ct ms own n [] gsNil:=by
 refine⟨_,OH,λv σ H Q q=>⟨q.1,q.2,rfl,λ_ _=>rfl⟩,λv σ H Q Q' m q=>⟨q.1,m _ _ q.2⟩,λds ρ ρ' e=>?_,λF0 B F H ρ ρ' σ ds vs Q rs l e w=>?_⟩
 ·cases ds with
  |nil=>rfl
  |cons d ds=>cases e
 ·cases l with
  |nil=>cases e;exact⟨rfl,w σ rs⟩
  |cons _ _=>cases e
theorem Gk {X:Cx}{ms:List Mo}{own n:Nat}{tg:Expr}{kc:List Expr}{gg:D->Env->Option Env}{gs:List D->Env->Option Env}(h1:sY X ct ms own n tg gg)(h2:tJ X ct ms own n kc gs)
  (hs:(cV (tg::kc) X.env).map (·.2)=hG tg X.env::(cV kc X.env).map (·.2):=by rfl):tJ X ct ms own n (tg::kc) (gsCons gg gs):=by
 obtain⟨t,pt,kt,mt,qt⟩:=h1
 obtain⟨t2,nJ,Sl,MB,Jj,sK⟩:=h2
 refine⟨_,Og pt nJ hs,λvs σ H Q q=>?_,λvs σ H Q Q' m q=>?_,λds ρ ρ' e=>?_,λF0 B F H ρ ρ' σ ds vs Q rs l e w=>?_⟩
 ·obtain⟨v,r,e,q⟩:=q
  refine⟨v,r,e,mt _ _ _ _ _ (λσ' H' z=>?_) (kt v σ H _ q)⟩
  obtain⟨z1,z2,z3⟩:=z
  refine MB _ _ _ _ _ (λσ2 H2 y=>?_) (Sl r σ' H' Q z1)
  exact⟨y.1,y.2.1.trans z2,λi hi=>(y.2.2 i hi).trans (z3 i hi)⟩
 ·obtain⟨v,r,e,q⟩:=q
  exact⟨v,r,e,mt _ _ _ _ _ (λσ' H' z=>MB _ _ _ _ _ m z) q⟩
 ·cases ds with
  |nil=>cases e
  |cons d ds=>
   obtain⟨ρ1,h3,h4⟩:=bg e
   rw[aF,aF,Jj _ _ _ h4]
 ·cases l with
  |nil=>cases e
  |cons h t'=>
   obtain⟨ρ1,h3,h4⟩:=bg e
   exact⟨_,_,rfl,qt F0 B F H ρ ρ1 σ _ _ _ rs h h3 λσ1 r1=>sK F0 B F H ρ1 ρ' σ1 _ _ _ r1 t' h4 w⟩
theorem O4 {X:Cx}{ms:List Mo}{own n:Nat}{kc:List Expr}{j:Nat}{pos:cB}{gs:List D->Env->Option Env}(hc:X.calm=true)(h:tJ X ct ms own (n-1) kc gs)(hl:(cV kc X.env).length=kc.length:=by rfl)(lW:(cV kc X.env).findIdx? (·.1)=none:=by rfl):sY X ct ms own n (.Tuple kc j pos) (gT gs):=by
 obtain⟨t,pt,kt,mt,lt,qt⟩:=h
 refine⟨_,Pn (n:=kc.length) hc pt hl lW,λv σ H Q q=>?_,λv σ H Q Q' m q=>?_,λF0 B F H ρ ρ' σ d v Q rs l e w=>?_⟩
 ·obtain⟨a,xs,e,h1,h2,q⟩:=q
  exact⟨a,xs,e,h1,h2,kt _ _ _ _ q⟩
 ·obtain⟨a,xs,e,h1,h2,q⟩:=q
  exact⟨a,xs,e,h1,h2,mt _ _ _ _ _ m q⟩
 cases d with
 |tup ds=>
  have:∃a vs,v=.ref a/\kx X.K H a vs/\Pr (Al X.K ct F B (n-1)) ds vs:=by
   cases n with
   |zero=>
    have l:Dt X.K ct F (.tup ds) v:=l
    cases l with
    |tup q t=>exact⟨_,_,rfl,kx.of (rs.fh _ _ q),t.pr⟩
   |succ n=>
    rcases l with l|l
    ·cases l with
     |tup q t=>exact⟨_,_,rfl,kx.of (rs.fh _ _ q),t.pr.mono λ_ _=>Al.of⟩
    ·cases l with
     |tup q t=>exact⟨_,_,rfl,kx.of (rs.fh _ _ q),t⟩
  obtain⟨a,vs,rfl,ha,hp⟩:=this
  exact⟨a,vs,rfl,ha,hp.length.symm.trans (lt _ _ _ e),qt F0 B F H ρ ρ' σ ds vs Q rs hp e w⟩
 |_=>cases e
def eY (ρ:Env)(cap:List Nat):Env:=cap.map λi=>(ρ[i]?).join
def gx (ms:List Mo)(cap:List Nat):List Mo:=cap.map λi=>.al (((ms[i]?).map Mo.lv).getD 0)
def mT (g:D->Env->Option Env)(p:BF)(f:EF)(ρ0:Env):List D->Option (List D)
 |[]=>some []
 |d::ds=>(g d ρ0).bind λρ1=>(p ρ1).bind λb=>if b=true then(f ρ1).bind λy=>(mT g p f ρ0 ds).bind λys=>some (y::ys)else mT g p f ρ0 ds
def eG (fi:Env->Option (List D))(own:Nat)(cap:List Nat)(g:D->Env->Option Env)(p:BF)(f:EF):EF:=λρ=>(fi ρ).bind λds=>if ds.length<=16777216 then(mT g p f (aJ own none++eY ρ cap) ds).bind λys=>some (.lst ys)else none
theorem SL.caps {F B H:Hp}{ms:List Mo}{ρ:Env}{σ:St}(rs:RS K ct F0 B ms F H ρ σ):∀{cap:List Nat},(∀i∈cap,i<ms.length)->SL K ct F H H (gx ms cap) (eY ρ cap) (fG σ cap) []
 |[],_=>.nil
 |i::cap,h=>by
  have ih:=SL.caps rs (cap:=cap) λj hj=>h j (aj _ hj)
  have hi:i<ms.length:=h i ak
  have hm:ms[i]?=some ms[i]:=by simp[hi]
  show SL K ct F H H (.al (((ms[i]?).map Mo.lv).getD 0)::gx ms cap) ((ρ[i]?).join::eY ρ cap) ((σ[i]?).join::fG σ cap) []
  cases e:(ρ[i]?).join with
  |none=>exact .no ih
  |some d=>
   obtain⟨v,hv,l⟩:=rs.get hm (x6 e)
   rw[hv,hm]
   exact .al l ih
theorem SL.nones {F B H:Hp}{ms Jk:List Mo}{ρ:Env}{σ:St}{fp:List af}(t:SL K ct F B H ms ρ σ fp):∀{om:List Mo},SL K ct F B H (om++ms) (aJ om.length none ++ ρ) (aJ om.length none ++ σ) fp
 |[]=>t
 |m::om=>.no (SL.nones (Jk:=Jk) t)
theorem Ov {X:Cx}{ms om:List Mo}{n k:Nat}{jB iter tg:Expr}{ifs:List Expr}{scope:fF}{pos:cB}{N:List aP}{own:Nat}{cap:List Nat}{fi:Env->Option (List D)}{gg:D->Env->Option Env}{p:BF}{f:EF}
  (B:kn X scope N own cap) (hc:X.calm=true) (ho:om.length=own) (jI:∀i∈cap,i<ms.length) (hi:uQ X ct ms n tg iter fi)
  (hg:∀cl C fp s₀ H₀,sY (hV X scope cl N C fp s₀ H₀) ct (om++gx ms cap) own n tg gg) (ht:∀cl C fp s₀ H₀,wN (hV X scope cl N C fp s₀ H₀) ct (om++gx ms cap) ifs p) (he:∀cl C fp s₀ H₀,XO (hV X scope cl N C fp s₀ H₀) ct (om++gx ms cap) k jB f)
  :
  ∃wi g tt te,PI X tg iter wi/\fH own g/\(∀cl C fp s₀ H₀,PG (hV X scope cl N C fp s₀ H₀) tg g)/\(∀cl C fp s₀ H₀,uO (hV X scope cl N C fp s₀ H₀) ifs tt)/\(∀cl C fp s₀ H₀,PE (hV X scope cl N C fp s₀ H₀) jB te) /\
   ∀(F0 B F H:Hp) (ρ:Env) (σ:St) (d:D) (Q:VK),RS X.K ct F0 B ms F H ρ σ->eG fi own cap gg p f ρ=some d->(∀v F' H' fp,fL F H F' H'->Ow X.K ct F' H' (k+1) d v fp->fp.Nodup->(∀a∈fp,H a=none)->Q v H')->pR wi own cap g tt te σ H Q:=by
 obtain⟨wi,pi,qi⟩:=hi
 obtain⟨M4,pg,kg,qg⟩:=zuf (K:=X.K) (Xs:=λz:List (aP×af)×af×List af×ah×Hp=>hV X scope z.1 N z.2.1 z.2.2.1 z.2.2.2.1 z.2.2.2.2) (λ_=>rfl) (λz=>hg z.1 z.2.1 z.2.2.1 z.2.2.2.1 z.2.2.2.2)
 obtain⟨tt,pt,qt⟩:=zue (K:=X.K) (Xs:=λz:List (aP×af)×af×List af×ah×Hp=>hV X scope z.1 N z.2.1 z.2.2.1 z.2.2.2.1 z.2.2.2.2) (λ_=>rfl) (λz=>ht z.1 z.2.1 z.2.2.1 z.2.2.2.1 z.2.2.2.2)
 obtain⟨te,pe,qe⟩:=zud (K:=X.K) (Xs:=λz:List (aP×af)×af×List af×ah×Hp=>hV X scope z.1 N z.2.1 z.2.2.1 z.2.2.2.1 z.2.2.2.2) (λ_=>rfl) (λz=>he z.1 z.2.1 z.2.2.1 z.2.2.2.1 z.2.2.2.2)
 refine⟨wi,M4,tt,te,pi,kg,(λcl C fp s₀ H₀=>pg (cl,C,fp,s₀,H₀)),(λcl C fp s₀ H₀=>pt (cl,C,fp,s₀,H₀)),(λcl C fp s₀ H₀=>pe (cl,C,fp,s₀,H₀)),λF0 B F H ρ σ r Q rs e w=>?_⟩
 obtain⟨ds,h1,h2⟩:=bg e
 by_cases hz:ds.length<=16777216
 case neg=>rw[if_neg hz]at h2;cases h2
 rw[if_pos hz]at h2
 obtain⟨ys,h3,h4⟩:=bg h2
 cases h4
 refine qi F0 B F H ρ σ ds _ rs h1 λJ F1 H1 x1 ok A hA=>?_
 have lu:=rs.ext x1
 refine⟨λi m us H2=>m=ds.length-i/\i<=ds.length/\us.length<=i/\H2 A=some (.lst us)/\∃F2 yd zd fp,fL F1 H1 F2 H2/\F2 A=none/\dY (Ow X.K ct F2 H2 k) yd us fp/\fp.Nodup/\(∀a∈fp,H1 a=none/\a≠A)/\mT gg p f (aJ own none++eY ρ cap) (ds.drop i)=some zd/\yd++zd=ys,
  ⟨ds.length,rfl,cH _,aH _,yr,F1,[],ys,[],fL.newO x1.fh hA _,x1.fh.free hA,.nil,bz,λa z=>(by cases z),h3,rfl⟩,?_⟩
 rintro i m us H2 ⟨rfl,Ap,R8,FH,F2,yd,zd,fp,x2,fA,ol,nd,hf,iU,FQ⟩
 refine⟨FH,?_⟩
 have Ga:=lu.ext x2
 obtain⟨k1,k2⟩:=ok i F2 H2 x2.ff x2.hh x2.fh
 by_cases iC:i<ds.length
 ·right
  have hd:ds[i]?=some ds[i]:=by simp[iC]
  obtain⟨go,yl⟩:=k1 _ hd
  rw[gQ iC]at iU
  obtain⟨ρ1,h5,h6⟩:=bg iU
  obtain⟨b,h7,h8⟩:=bg h6
  refine⟨go,by rw[bC];omega,λx H3 y=>?_⟩
  obtain⟨F3,x3,l⟩:=yl x H3 y
  have TZ:=Ga.ext x3
  have sl:=SL.nones (Jk:=[]) (SL.caps TZ jI) (om:=om)
  rw[ho]at sl
  have T3:RS X.K ct F3 H3 (om++gx ms cap) F3 H3 (aJ own none++eY ρ cap) (aJ own none++fG σ cap):=⟨.refl _,.refl _,x3.fh,λ_ _ _ _ h=>h,[],sl,bz,λa z=>(by cases z)⟩
  have A3:H3 A=some (.lst us):=x3.hh _ _ FH
  have Ly:F3 A=none:=x3.nf A _ FH nofun fA
  refine qg F3 H3 F3 H3 _ ρ1 _ _ x _ T3 (l.mono (.refl _) (x2.trans x3).hh) h5 λσ1 r1=>?_
  refine qt F3 H3 F3 H3 ρ1 σ1 b _ r1 h7 λF4 H4 x4=>?_
  cases b with
  |false=>
   rw[if_neg aO]at h8 ⊢
   have M9:=x3.trans x4
   refine⟨ds.length-(i+1),by omega,rfl,iC,by omega,x4.hh _ _ A3,F4,yd,zd,fp,x2.trans M9,x4.nf A _ A3 nofun Ly,ol.mono λ_ _ _ _ o=>o.ext M9,nd,hf,h8,FQ⟩
  |true=>
   rw[if_pos rfl]at h8 ⊢
   obtain⟨yv,h9,Rh⟩:=bg h8
   obtain⟨zs,Ri,Rj⟩:=bg Rh
   cases Rj
   refine qe F3 H3 F4 H4 ρ1 σ1 yv _ (r1.ext x4) h9 λv F5 H5 f5 x5 o5 n5 Iq=>?_
   have JN:=(x3.trans x4).trans x5
   have Na:=x4.trans x5
   have A5:H5 A=some (.lst us):=Na.hh _ _ A3
   have Lz:F5 A=none:=Na.nf A _ A3 nofun Ly
   have A4:H4 A=some (.lst us):=x4.hh _ _ A3
   have LD:∀a∈f5,a≠A:=λa z e=>by rw[e]at z;rw[Iq A z]at A4;cases A4
   refine⟨A5,ds.length-(i+1),by omega,rfl,iC,by rw[aT,fK];omega,yr,F5,yd++[yv],zs,fp++(f5++[]),?_,Lz,?_,?_,?_,Ri,by rw[cC];exact FQ⟩
   ·have Gj:=x2.trans JN
    refine⟨Gj.ff,λa o h=>?_,λa o h=>?_,Gj.nf⟩
    ·rw[zn (yy h hA)];exact Gj.hh _ _ h
    ·rw[zn (λz=>by rw[z]at h;rw[Lz]at h;cases h)];exact Gj.fh _ _ h
   ·refine(ol.mono λ_ _ f RG o=>?_).append (.cons ?_ .nil)
    ·refine(o.ext JN).frame (.refl _) λa z=>⟨zn (hf a (RG a z)).2,((o.ext JN).cells a z).1⟩
    ·exact o5.frame (.refl _) λa z=>⟨zn (LD a z),(o5.cells a z).1⟩
   ·rw[cr]
    refine bn.mpr ⟨nd,n5,λa z c hc e=>?_⟩
    subst e
    have:∃o,H2 a=some o:=let⟨o,h,_⟩:=(dY.cellsOf ol a z).2;⟨o,h⟩
    obtain⟨o,ho⟩:=this
    have:=x4.hh _ _ (x3.hh _ _ ho)
    rw[Iq a hc]at this
    cases this
   ·intro a z
    rw[cr]at z
    rcases aU.mp z with z|z
    ·exact hf a z
    ·refine⟨?_,LD a z⟩
     have UU:=x2.trans (x3.trans x4)
     exact UU.hh.free (Iq a z)
 ·left
  refine⟨k2 (by omega),?_⟩
  have:ds.drop i=[]:=iE (by omega)
  rw[this]at iU
  cases iU
  rw[cr]at FQ
  subst FQ
  refine w _ F2 H2 (A::fp) (x1.trans x2) (.inr (.lst fA FH ol)) (bp.mpr ⟨λz=>(hf A z).2 rfl,nd⟩) λa z=>?_
  rcases av.mp z with rfl|z
  ·exact x1.hh.free hA
  ·exact x1.hh.free (hf a z).1
theorem Y8 {X:Cx}{ms om:List Mo}{n k:Nat}{jB iter tg:Expr}{ifs:List Expr}{scope:fF}{pos:cB}{N:List aP}{own:Nat}{cap:List Nat}{fi:Env->Option (List D)}{gg:D->Env->Option Env}{p:BF}{f:EF}
  (B:kn X scope N own cap) (hc:X.calm=true) (ho:om.length=own) (jI:∀i∈cap,i<ms.length) (hi:uQ X ct ms n tg iter fi)
  (hg:∀cl C fp s₀ H₀,sY (hV X scope cl N C fp s₀ H₀) ct (om++gx ms cap) own n tg gg) (ht:∀cl C fp s₀ H₀,wN (hV X scope cl N C fp s₀ H₀) ct (om++gx ms cap) ifs p) (he:∀cl C fp s₀ H₀,XO (hV X scope cl N C fp s₀ H₀) ct (om++gx ms cap) k jB f)
  (hs:∀x,cW iter X.env x=pure x:=by intro _;rfl):XO X ct ms (k+1) (.ListComp jB [⟨tg,iter,ifs,0⟩] scope pos) (eG fi own cap gg p f):=by
 obtain⟨wi,g,tt,te,pi,kg,pg,pt,pe,q⟩:=Ov (k:=k) (pos:=pos) B hc ho jI hi hg ht he
 exact⟨_,Yk B hc pi kg pg pt pe hs,q⟩
end
end L3
namespace L3
open PySem PySem.Spec L2
open PyProof.Rows hiding St
section
variable {X:Cx}{ct:Nat->af}{ms:List Mo}{rk n m k:Nat}{st:bG}{rest:List bG}{a b c e tg:Expr}{f g h:EF}{p q:BF}{u w:SF}{pos:cB}
def Fs:D->Option (List D)
 |.lst ds=>some ds
 |_=>none
theorem Ox {d:D}{ds:List D}(h:Fs d=some ds):d=.lst ds:=by cases d<;>simp[Fs]at h;subst h;rfl
def lsD (f:EF):Env->Option (List D):=λρ=>(f ρ).bind Fs
theorem KQ {K:ae}{F B G:Hp}{a:af}{vs:List V}{ds:List D}(hp:Pr (Al K ct F B n) ds vs)(keep:∀F' H',bK F F'->bK B H'->bK F' H'->eR K H' a vs):rP K ct F B n (GU K a) ds:=by
 intro i F' H' s1 s2 s3
 have hs:eR K H' a vs:=keep F' H' s1 s2 s3
 refine⟨λd hd=>?_,λhl=>⟨vs,hs,by rw[←hp.length];exact hl⟩⟩
 obtain⟨v,hv,l⟩:=hp.get' hd
 refine⟨⟨vs,v,hs,hv⟩,λx H2 y=>?_⟩
 obtain⟨e,y⟩:=y
 subst e
 have:=y vs hs
 rw[hv]at this
 cases this
 exact⟨F',.refl s3,l.mono s1 (.refl _)⟩
theorem Dt.lst_inv {K:ae}{F:Hp}{ds:List D}{v:V}(h:Dt K ct F (.lst ds) v):∃a vs,v=.ref a/\eR K F a vs/\Dts K ct F ds vs:=by
 cases h with
 |lst q t=>exact⟨_,_,rfl,q,t⟩
theorem vn (he:XE X ct ms 0 e f):XI X ct ms 0 tg e (lsD f):=by
 obtain⟨t,pt,qt⟩:=he
 refine⟨_,Kz pt,λF0 B F H ρ σ ds R rs e w=>?_⟩
 obtain⟨d,h1,h2⟩:=bg e
 rw[Ox h2]at h1
 refine qt F0 B F H ρ σ _ _ rs h1 λv F' H' x l=>?_
 obtain⟨a,vs,rfl,ha,hp⟩:=Dt.lst_inv l
 exact⟨a,rfl,⟨vs,x.fh.seq ha⟩,w _ F' H' x (KQ (G:=H') (n:=0) (hp.pr) λF2 H2 s1 s2 s3=>s3.seq (s1.seq ha))⟩
theorem jf (he:XE X ct ms n e f):uQ X ct ms (n-1) tg e (lsD f):=by
 obtain⟨t,pt,qt⟩:=he
 refine⟨_,Kz pt,λF0 B F H ρ σ ds R rs e w=>?_⟩
 obtain⟨d,h1,h2⟩:=bg e
 rw[Ox h2]at h1
 refine qt F0 B F H ρ σ _ _ rs h1 λv F' H' x l=>?_
 obtain⟨a,vs,rfl,ha,hp⟩:=l.lst x.fh
 exact⟨a,rfl,⟨vs,ha⟩,w _ F' H' x (KQ (G:=H') hp λF2 H2 s1 s2 s3=>s2.seq ha)⟩
theorem XI.cc {fi:Env->Option (List D)}(h:XI X ct ms n tg e fi):uQ X ct ms n tg e fi:=by
 obtain⟨t,pt,qt⟩:=h
 refine⟨t,pt,λF0 B F H ρ σ ds R rs e w=>qt F0 B F H ρ σ ds R rs e λJ F' H' x ok=>w J F' H' x λi F2 H2 s1 s2 s3=>?_⟩
 obtain⟨k1,k2⟩:=ok i F2 H2 s1 ((rs.ext x).bh.trans s2) s3
 refine⟨λd hd=>?_,k2⟩
 obtain⟨go,yl⟩:=k1 d hd
 refine⟨go,λv H3 y=>?_⟩
 obtain⟨F3,x3,l⟩:=yl v H3 y
 exact⟨F3,x3,l.mono (.refl _) (rs.ext x).bh⟩
def kG (lo:Int)(j:Nat):List D:=(aV j).map λ(t:Nat)=>.int (lo+(t:Int))
def hE:List D->Option (List D)
 |[.int j]=>if -4611686018427387904<=j/\j<4611686018427387904 then some (kG 0 j.toNat)else none
 |_=>none
theorem zst {K:ae}{F B:Hp}{lo:Int}{j:Nat}:rP K ct F B n (Fh lo j) (kG lo j):=by
 intro i F' H' s1 s2 s3
 unfold kG
 refine⟨λd hd=>?_,λhl=>(show j<=i by simpa using hl)⟩
 rw[bi]at hd
 by_cases h:i<j
 ·rw[dR h]at hd
  cases hd
  refine⟨h,λx H2 y=>?_⟩
  obtain⟨e,y⟩:=y
  subst e
  subst y
  exact⟨F',.refl s3,Al.of (.int _)⟩
 ·rw[ck (by simpa using h)]at hd
  cases hd
theorem ve {fs:Env->Option (List D)}{pp:cB}(hm:X.mg "range"=none)(ha:XA X ct ms [a] [m] fs)(hg:Gl X "range":=by rfl)(hs:ay [a] X.env=[(false,bS a X.env)]:=by rfl):XI X ct ms n tg (.Call (.Name "range" pp) [a] [] pos) (λρ=>(fs ρ).bind hE):=by
 obtain⟨t,pt,_,qt⟩:=ha
 refine⟨_,Wx hg hm pt hs,λF0 B F H ρ σ ds R rs e w=>?_⟩
 obtain⟨qH,h1,h2⟩:=bg e
 refine qt F0 B F H ρ σ _ _ rs h1 λvs F' H' x l=>?_
 cases l with
 |cons h t=>
  cases t
  rename_i d v
  cases d with
  |int j=>
   unfold hE at h2
   dsimp only at h2
   by_cases hj:-4611686018427387904<=j/\j<4611686018427387904
   ·rw[if_pos hj]at h2
    cases h2
    exact⟨j,by rw[h.int],by omega,by omega,w _ F' H' x zst⟩
   ·rw[if_neg hj]at h2;cases h2
  |_=>cases h2
def eJ (i:Nat):List D->List D
 |[]=>[]
 |d::ds=>.tup [.int i,d]::eJ (i+1) ds
theorem J5:∀{ds:List D} {j i:Nat} {d:D},(eJ j ds)[i]?=some d->∃x,ds[i]?=some x/\d=.tup [.int (j+i:Nat),x]
 |[],_,_,_,h=>by simp[eJ]at h
 |x::ds,j,0,d,h=>by simp[eJ]at h;subst h;exact⟨x,rfl,rfl⟩
 |x::ds,j,i+1,d,h=>by
  obtain⟨y,h1,h2⟩:=J5 (ds:=ds) (j:=j+1) (i:=i) (d:=d) (by simpa[eJ]using h)
  exact⟨y,by simpa using h1,by rw[h2,Nat.add_assoc,Nat.add_comm 1 i]⟩
theorem NW:∀{ds:List D} {j:Nat},(eJ j ds).length=ds.length
 |[],_=>rfl
 |_::ds,j=>by simp[eJ,NW (ds:=ds)]
theorem Pl {K:ae}{F B:Hp}{a:af}{vs:List V}{ds:List D}(hp:Pr (Al K ct F B n) ds vs)(keep:∀F' H',bK F F'->bK B H'->bK F' H'->eR K H' a vs):rP K ct F B (n+1) (GS K a) (eJ 0 ds):=by
 intro i F' H' s1 s2 s3
 have hs:eR K H' a vs:=keep F' H' s1 s2 s3
 refine⟨λd hd=>?_,λhl=>⟨vs,hs,by rw[←hp.length];rw[NW]at hl;exact hl⟩⟩
 obtain⟨x,hx,rfl⟩:=J5 hd
 obtain⟨v,hv,l⟩:=hp.get' hx
 refine⟨⟨vs,v,hs,hv⟩,λz H2 y=>?_⟩
 obtain⟨r,y',hr,rfl,rfl,y⟩:=y
 have:=y vs hs
 rw[hv]at this
 cases this
 refine⟨_,fL.newS s3 hr _,.inr (.tup yr (.cons (Al.of ?_) (.cons (l.mono (s1.trans (EU (s3.free hr) _)) (.refl _)) .nil)))⟩
 rw[oK]
 exact .int _
theorem Y9 {fs:Env->Option (List D)}{nD:List Expr}{kt:Nat}{pt pp:cB}(hm:X.mg "enumerate"=none)(ha:XA X ct ms [a] [0] fs)(hg:Gl X "enumerate":=by rfl)(hs:ay [a] X.env=[(false,bS a X.env)]:=by rfl) :
  XI X ct ms 1 (.Tuple nD kt pt) (.Call (.Name "enumerate" pp) [a] [] pos) (λρ=>(fs ρ).bind λds=>match ds with|[.lst xs]=>some (eJ 0 xs)|_=>none):=by
 obtain⟨t,pt,_,qt⟩:=ha
 refine⟨_,OC hg hm pt hs,λF0 B F H ρ σ ds R rs e w=>?_⟩
 obtain⟨qH,h1,h2⟩:=bg e
 refine qt F0 B F H ρ σ _ _ rs h1 λvs F' H' x l=>?_
 cases l with
 |cons h t=>
  cases t
  rename_i d v
  cases d with
  |lst xs=>
   cases h2
   obtain⟨a,vs,rfl,ha,hp⟩:=Dt.lst_inv h
   exact⟨a,rfl,⟨vs,x.fh.seq ha⟩,w _ F' H' x (Pl (n:=0) hp.pr λF2 H2 s1 s2 s3=>s3.seq (s1.seq ha))⟩
  |_=>cases h2
theorem N6 {fs:Env->Option (List D)}{nD:List Expr}{kt:Nat}{pt pp:cB}(hm:X.mg "enumerate"=none)(ha:XA X ct ms [a] [n] fs)(hg:Gl X "enumerate":=by rfl)(hs:ay [a] X.env=[(false,bS a X.env)]:=by rfl) :
  uQ X ct ms (n-1+1) (.Tuple nD kt pt) (.Call (.Name "enumerate" pp) [a] [] pos) (λρ=>(fs ρ).bind λds=>match ds with|[.lst xs]=>some (eJ 0 xs)|_=>none):=by
 obtain⟨t,pt,_,qt⟩:=ha
 refine⟨_,OC hg hm pt hs,λF0 B F H ρ σ ds R rs e w=>?_⟩
 obtain⟨qH,h1,h2⟩:=bg e
 refine qt F0 B F H ρ σ _ _ rs h1 λvs F' H' x l=>?_
 cases l with
 |cons h t=>
  cases t
  rename_i d v
  cases d with
  |lst xs=>
   cases h2
   obtain⟨a,vs,rfl,ha,hp⟩:=h.lst x.fh
   exact⟨a,rfl,⟨vs,ha⟩,w _ F' H' x (Pl hp λF2 H2 s1 s2 s3=>s2.seq ha)⟩
  |_=>cases h2
end
end L3
namespace L3
open PySem PySem.Spec L2
open PyProof.Rows hiding St
section
variable {X:Cx}{ct:Nat->af}{ms:List Mo}{rk n m k:Nat}{st:bG}{rest:List bG}{a b c e tg:Expr}{f g h:EF}{p q:BF}{u w:SF}{pos:cB}
theorem Ow.lst_inv {K:ae}{F H:Hp}{ds:List D}{v:V}{fp:List af}(h:Ow K ct F H (k+1) (.lst ds) v fp):∃a vs fr,v=.ref a/\fp=a::fr/\F a=none/\H a=some (.lst vs)/\dY (Ow K ct F H k) ds vs fr:=by
 rcases h with⟨h,_⟩|h
 ·cases h
 ·cases h with
  |lst h1 h2 h3=>exact⟨_,_,_,rfl,rfl,h1,h2,h3⟩
theorem Ow.dK_inv {K:ae}{F H:Hp}{ks:List eF}{ds:List D}{v:V}{fp:List af}(h:Ow K ct F H (k+1) (.dK ks ds) v fp):∃a vs fr,v=.ref a/\fp=a::fr/\F a=none/\H a=some (.dK (ks.zip vs))/\ks.length=vs.length/\dY (Ow K ct F H k) ds vs fr:=by
 rcases h with⟨h,_⟩|h
 ·cases h
 ·cases h with
  |dK h1 h2 h3 h4=>exact⟨_,_,_,rfl,rfl,h1,h2,h3,h4⟩
theorem Ow.dT_inv {K:ae}{F H:Hp}{ks:List (List eF)}{ds:List D}{v:V}{fp:List af}(h:Ow K ct F H (k+1) (.dT ks ds) v fp):∃a vs fr,v=.ref a/\fp=a::fr/\F a=none/\H a=some (.dT (ks.zip vs))/\ks.length=vs.length/\dY (Ow K ct F H k) ds vs fr:=by
 rcases h with⟨h,_⟩|h
 ·cases h
 ·cases h with
  |dT h1 h2 h3 h4=>exact⟨_,_,_,rfl,rfl,h1,h2,h3,h4⟩
theorem RS.change {K:ae}{F0 B F H F' H':Hp}{ρ:Env}{σ:St}{i:Nat}{d':D}{v:V}{f1 fr fn:List af}{ad:af}{o:HO}(rs:RS K ct F0 B ms F H ρ σ)(hm:ms[i]?=some (.ow k))(x:fL F H F' H')
  (hσ:σ[i]?=some (some v)) (b1:∀a∈f1,B a=none) (dj:∀a∈f1,a∉fr) (cf:∀a∈fr,F a=none/\∃o,H a=some o/\jV o)
  (put:∀(F' H':Hp) (d':D) (v':V) (f':List af),bK F F'->bK B H'->bK F' H'->(∀a o,B a=some o->jV o->F0 a=none->F' a=none)->(∀a∈fr,H' a=H a/\F' a=none)->Ow K ct F' H' k d' v' f'->f'.Nodup->(∀a∈f',a∉fr)->(∀a∈f',B a=none) ->
    RS K ct F0 B ms F' H' (ρ.set i (some d')) (σ.set i (some v')))
  (LP:ad∈f1) (Q7:F' ad=none) (o':Ow K ct F' (upd H' ad o) k d' v fn) (nd:fn.Nodup) (An:∀a∈fn,a∈f1\/H a=none):RS K ct F0 B ms F' (upd H' ad o) (ρ.set i (some d')) σ:=by
 have r:=rs.ext x
 have hB:B ad=none:=b1 ad LP
 have res:=put F' (upd H' ad o) d' v fn x.ff (λz u h=>by rw[zn (λe=>by rw[e,hB]at h;cases h)];exact r.bh _ _ h) (λz u h=>by rw[zn (λe=>by rw[e,Q7]at h;cases h)];exact x.fh _ _ h) r.nf
  (λz hz=>by
   obtain⟨hn,o,ho,nt⟩:=cf z hz
   refine⟨?_,x.nf z o ho nt hn⟩
   have ne:z≠ad:=λe=>dj ad LP (by rw[←e];exact hz)
   rw[zn ne]
   exact(x.hh _ _ ho).trans ho.symm) o' nd
  (λz hz zr=>by
   rcases An z hz with h|h
   ·exact dj z h zr
   ·obtain⟨_,o,ho,nt⟩:=cf z zr
    rw[h]at ho
    cases ho)
  (λz hz=>(An z hz).elim (b1 z) λh=>rs.bh.free h)
 have e:σ.set i (some v) = σ:=by
  apply fm
  intro j
  by_cases hj:i=j
  ·subst hj
   rw[cx (by
    have:=aX.mp hσ
    exact this.1),hσ]
  ·rw[eu hj]
 rw[e]at res
 exact res
def sApp (i:Nat)(f:EF):SF:=λρ=>(eV i ρ).bind λo=>(f ρ).bind λd=>match o with
 |.lst ds=>if ds.length<16777216 then some (.nx (ρ.set i (some (.lst (ds++[d])))))else none
 |_=>none
theorem v7 (i:Nat){x:aP}{p1 dh dN:cB}(hm:ms[i]?=some (.ow (k+1)))(he:XO X ct ms k e f)(hN:X.N[i]?=some x:=by rfl)(hv:pJ X.env.scope x:=by first|exact Or.inl rfl|exact Or.inr (Or.inl rfl)|exact Or.inr (Or.inr rfl))(hd:(x==("__debug__":aP))=false:=by decide)
  (iU:(x==("__classdict__":aP))=false:=by decide) (lW:ay [e] X.env=(false,bS e X.env)::ay [] X.env:=by rfl)
  (rY:eZ (.Name x p1) "append" X.env (bS (.Name x p1) X.env)=bS (.Name x p1) X.env:=by rfl)
  (yJ:((cL dN (ay [e] X.env)).all (λx=>!x.1)&&(e8 dN (dG [] X.env)).all (λx=>x.1.isSome)
   && decide ([e].length+([]:List iF).length+(if([]:List iF).isEmpty then 0 else 1)<30))=true:=by rfl)
  (sk:(dh.endLine==dN.line)=true:=by rfl) (pf:(cL dN (ay [] X.env)).any (·.1)=false:=by rfl)
  (yU:d8 (.Call (.Attribute (.Name x p1) "append" dh) [e] [] dN) none pos.line X.env=pure false:=by rfl) :
  XS X ct ms rk (.Expr (.Call (.Attribute (.Name x p1) "append" dh) [e] [] dN) pos) (sApp i f):=by
 obtain⟨t,pt,qt⟩:=he
 refine⟨_,OG (zt3 PySem.F.plainAttrs_list PySem.F.slot_list_append PySem.F.type_list_append J2 (jz hN hv hd iU) (ul pt vX lW) rY yJ sk lW pf) yU,λF0 B F H ρ σ o E rs e z=>?_⟩
 obtain⟨d1,d2,h1,h2,h3⟩:=dZ e
 obtain⟨f1,fr,n1,b1,dj,i4,cf,put⟩:=rs.put (F':=F) (H':=H) hm
 obtain⟨v,hσ,ow⟩:=i4 d1 (x6 h1)
 refine⟨v,hσ,?_⟩
 cases d1 with
 |lst ds=>
  dsimp only at h3
  by_cases hz:ds.length<16777216
  ·rw[if_pos hz]at h3
   cases h3
   obtain⟨ad,vs,rl,rfl,rfl,hF,hH,ol⟩:=ow.lst_inv
   refine⟨.inl ⟨rfl,_,eR.of hH⟩,qt F0 B F H ρ σ d2 _ rs h2 λv2 F' H' fp x1 o2 Jl yI=>?_⟩
   have hA:H' ad=some (.lst vs):=x1.hh _ _ hH
   have fA:F' ad=none:=x1.nf ad _ hH nofun hF
   have nA:∀a∈fp,a≠ad:=λa hz e=>by rw[e]at hz;rw[yI ad hz]at hH;cases hH
   have Au:=bp.mp n1
   refine⟨ad,vs,v2,rfl,rfl,hA,by rw[←ol.length,bC];exact hz,?_⟩
   refine z σ F' _ (rs.change hm x1 hσ b1 dj cf put ak fA (.inr (.lst fA yr ((ol.mono λ_ _ f' hi o'=>?_).append (.cons (f:=fp) ?_ .nil)))) (fn:=ad::(rl++(fp++[]))) ?_ ?_)
   ·refine(o'.ext x1).frame (.refl _) λa ha=>⟨zn λe=>Au.1 (e▸hi a ha),((o'.ext x1).cells a ha).1⟩
   ·exact o2.frame (.refl _) λa ha=>⟨zn (nA a ha),(o2.cells a ha).1⟩
   ·rw[cr]
    refine bp.mpr ⟨λhz=>?_,bn.mpr ⟨Au.2,Jl,λa ha b hb e=>?_⟩⟩
    ·rcases aU.mp hz with hz|hz
     ·exact Au.1 hz
     ·exact nA ad hz rfl
    ·subst e
     obtain⟨_,o,ho,_⟩:=dY.cellsOf ol a ha
     rw[yI a hb]at ho
     cases ho
   ·intro a ha
    rw[cr]at ha
    rcases av.mp ha with rfl|ha
    ·exact .inl ak
    ·rcases aU.mp ha with ha|ha
     ·exact .inl (aj _ ha)
     ·exact .inr (yI a ha)
  ·rw[if_neg hz]at h3;cases h3
 |_=>cases h3
def mj (ds:List D)(i:Int)(d:D):Option (List D):=(ixN ds.length i).bind λj=>some (ds.set j d)
def fP {κ:Type}[DecidableEq κ](ks:List κ)(ds:List D)(k:κ)(d:D):List κ×List D:=if ks.contains k=true then(ks,(ks.zip ds).map λp=>if p.1=k then d else p.2)else(ks++[k],ds++[d])
theorem dY.set0 {R:D->V->List af->Prop}{d:D}{v:V}(r:R d v [])(z:∀d v f,R d v f->f=[]):∀{ds:List D} {vs:List V} {fp:List af} (i:Nat),dY R ds vs fp->dY R (ds.set i d) (vs.set i v) []
 |_,_,_,_,.nil=>.nil
 |_,_,_,0,.cons h t=>by
  have:=dY.cons (f:=[]) (g:=[]) r (dY.ofPr (t.pr λd v f _ q=>by have:=z _ _ _ q;subst this;exact q))
  exact this
 |_,_,_,i+1,.cons h t=>by
  have e:=z _ _ _ h
  subst e
  exact dY.cons (f:=[]) (g:=[]) h (dY.set0 r z i t)
theorem Ow.nil0 {K:ae}{F H:Hp}{d:D}{v:V}{fp:List af}(h:Ow K ct F H 0 d v fp):fp=[]:=h.2
theorem dY.nil0 {K:ae}{F H:Hp}{ds:List D}{vs:List V}{fp:List af}(h:dY (Ow K ct F H 0) ds vs fp):fp=[]:=by
 induction h with
 |nil=>rfl
 |cons h t ih=>rw[h.nil0,ih];rfl
end
end L3
namespace L3
open PySem PySem.Spec L2
open PyProof.Rows hiding St
section
variable {X:Cx}{ct:Nat->af}{ms:List Mo}{rk n m k:Nat}{st:bG}{rest:List bG}{a b c e tg:Expr}{f g h:EF}{p q:BF}{u w:SF}{pos:cB}{K:ae}
theorem Ji {ai:List (af×cJ)}{σ:St}{H:Hp}{s:ah}{l:af}{xs:List V}(I:Inv X ai σ H s)(hH:Rd H l (.lst xs)):xs.length<=sizeLine/\∃(bT:List aa) (n:Nat),bR xs bT/\xs.length=bT.length/\s.heap.get? l=some { cls:=.type "list",data:=.seq bT.toArray n }:=by
  obtain⟨z,bT,n,r,e⟩:=hH.ok I.hok
  exact⟨z,bT,n,r,r.length,e⟩
def vS (K:ae):R2:=λx y H Q=>∃l b xs zs,x=.ref l/\y=.ref b/\eR K H l xs/\eR K H b zs/\xs.length+zs.length<=sizeLine/\∀p,H p=none->Q (.ref p) (upd H p (.lst (xs++zs)))
theorem Za:fS X (dL .Add) (vS X.K):=by
 intro ai s σ H x y v u Q I rx ry h
 obtain⟨l,b,xs,zs,rfl,rfl,hH,hB,hz,q⟩:=h
 cases rx
 cases ry
 obtain⟨bT,r,⟨⟨cls,dd,data,sl⟩,n,e,c1,c2,c3⟩,z⟩:=I.list hH
 obtain⟨tV,r2,⟨⟨Hn,Fw,data2,vU⟩,n2,e2,c4,c5,c6⟩,z2⟩:=I.list hB
 simp only at c1 c3 c4 c6
 subst c1 c3 c4 c6
 have hl:=r.length
 have yK:=r2.length
 refine qV ⟨_,e,rfl⟩ ⟨_,e2,rfl⟩ noFill_list_add seq_list_add PySem.F.slot_list_add PySem.F.entry_list_add (PySem.F.args_list_add_2 _ _) (list_addW l b bT.toArray tV.toArray n n2 dd Fw sl vU (by rw[aK,aK];omega)) ⟨e,e2,?_⟩
 have ea:bT.toArray++tV.toArray=(bT++tV).toArray:=by simp
 rw[ea]
 exact⟨.ref _,_,I.lnew (t':=s.toks) (r.append r2) (by rw[aT];omega),rfl,q _ I.fresh⟩
def Es:R2:=λx y H Q=>∃i j,x=.str i/\y=.str j/\i.length+j.length<=sizeLine/\Q (.str (i++j)) H
def zK (K:ae):R2:=λx y H Q=>oR (λi j=>.int (i+j)) x y H Q\/Es x y H Q\/vS K x y H Q\/vT K x y H Q
theorem KG:fS X (dL .Add) (zK X.K):=fS.or Z4 (fS.or Wc (fS.or Za YE))
def ez:D->D->Option D
 |.int i,.int j=>some (.int (i+j))
 |.str x,.str y=>if x.length+y.length<=16777216 then some (.str (x++y))else none
 |.lst xs,.lst ys=>if xs.length+ys.length<=16777216 then some (.lst (xs++ys))else none
 |.tup xs,.tup ys=>if xs.isEmpty=false/\ys.isEmpty=false/\xs.length+ys.length<=1000000 then some (.tup (xs++ys))else none
 |_,_=>none
theorem Pr.ow0 {F G H:Hp}{ds:List D}{vs:List V}(h:Pr (Al K ct F G 0) ds vs):dY (Ow K ct F H 0) ds vs []:=dY.ofPr (h.mono λ_ _ q=>⟨q,rfl⟩)
theorem Al.lst1 {F G:Hp}{ds:List D}{v:V}(hn:n<=1)(h:Al K ct F G n (.lst ds) v)(s:bK F G):∃a vs,v=.ref a/\eR K G a vs/\Pr (Al K ct F G 0) ds vs:=by
 obtain⟨a,vs,e,h1,h2⟩:=h.lst s
 have:n-1=0:=by omega
 rw[this]at h2
 exact⟨a,vs,e,h1,h2⟩
theorem Al.tup1 {F G:Hp}{ds:List D}{v:V}(hn:n<=1)(h:Al K ct F G n (.tup ds) v)(s:bK F G):∃a vs,v=.ref a/\G a=some (.tup vs)/\Pr (Al K ct F G 0) ds vs:=by
 obtain⟨a,vs,e,h1,h2⟩:=h.tup s
 have:n-1=0:=by omega
 rw[this]at h2
 exact⟨a,vs,e,h1,h2⟩
theorem Az {F H:Hp}{ds:List D}{vs:List V}{Q:VK}(s:bK F H)(hp:Pr (Al K ct F H 0) ds vs)(w:∀v F' H' fp,fL F H F' H'->Ow K ct F' H' 1 (.lst ds) v fp->fp.Nodup->(∀a∈fp,H a=none)->Q v H'):∀p,H p=none->Q (.ref p) (upd H p (.lst vs)):=λp h0=>by
 obtain⟨o,nd⟩:=O1 s (hp.ow0 (H:=H)) h0
 exact w _ F _ [p] (fL.newO s h0 _) o (nd bz) λa z=>by rw[aN]at z;subst z;exact h0
theorem O5 (hn:n<=1)(hm:m<=1):AT K ct n m 1 (zK K) ez:=by
 intro F H x y d1 d2 d Q s l1 l2 e w
 have ws:∀d v,d.sc=true->Dt K ct F d v->(∀v F' H' fp,fL F H F' H'->Ow K ct F' H' 1 d v fp->fp.Nodup->(∀a∈fp,H a=none)->Q v H')->Q v H:=λd v hs hd w=>w v F H [] (.refl s) (Ow.scal hd hs) bz λa z=>(by cases z)
 cases d1 with
 |int i=>
  cases d2 with
  |int j=>cases e;exact .inl ⟨i,j,l1.int,l2.int,ws _ _ rfl (.int _) w⟩
  |_=>cases e
 |str i=>
  cases d2 with
  |str j=>
   unfold ez at e
   dsimp only at e
   by_cases hz:i.length+j.length<=16777216
   ·rw[if_pos hz]at e
    cases e
    exact .inr (.inl ⟨i,j,l1.str,l2.str,by rw[bC];exact hz,ws _ _ rfl (.str _) w⟩)
   ·rw[if_neg hz]at e;cases e
  |_=>cases e
 |lst xs=>
  cases d2 with
  |lst ys=>
   unfold ez at e
   dsimp only at e
   by_cases hz:xs.length+ys.length<=16777216
   ·rw[if_pos hz]at e
    cases e
    obtain⟨a,vs,rfl,ha,hp⟩:=Al.lst1 hn l1 s
    obtain⟨b,us,rfl,hb,hq⟩:=Al.lst1 hm l2 s
    exact .inr (.inr (.inl ⟨a,b,vs,us,rfl,rfl,ha,hb,by rw[←hp.length,←hq.length,bC];exact hz,Az s (hp.append hq) w⟩))
   ·rw[if_neg hz]at e;cases e
  |_=>cases e
 |tup xs=>
  cases d2 with
  |tup ys=>
   unfold ez at e
   dsimp only at e
   by_cases hz:xs.isEmpty=false/\ys.isEmpty=false/\xs.length+ys.length<=1000000
   ·rw[if_pos hz]at e
    cases e
    obtain⟨a,vs,rfl,ha,hp⟩:=Al.tup1 hn l1 s
    obtain⟨b,us,rfl,hb,hq⟩:=Al.tup1 hm l2 s
    have hl:=hp.length
    have yK:=hq.length
    have e1:vs≠[]:=λz=>by
     rw[z]at hl
     have:=ig.mp hl
     rw[this]at hz
     exact absurd hz.1 (by decide)
    have e2:us≠[]:=λz=>by
     rw[z]at yK
     have:=ig.mp yK
     rw[this]at hz
     exact absurd hz.2.1 (by decide)
    refine .inr (.inr (.inr ⟨a,b,vs,us,rfl,rfl,kx.of ha,kx.of hb,e1,by rw[←hl,←yK,bC];omega,λz=>absurd z e2,λ_ p h0=>?_⟩))
    have x2:=fL.newS s h0 (.tup (vs++us))
    exact w _ _ _ [] x2 (.inr (.tup yr (dY.ofPr ((hp.append hq).mono λ_ _ q=>⟨Dt.mono x2.ff q,rfl⟩)))) bz λa z=>(by cases z)
   ·rw[if_neg hz]at e;cases e
  |_=>cases e
 |_=>cases e
def Ez:R2:=λx y H Q=>∃l k xs,x=.ref l/\y=.int k/\Rd H l (.lst xs)/\-(2 ^ 63)<=k/\k<2 ^ 63/\xs.length*k.toNat<=sizeLine /\
 ∀p,H p=none->Q (.ref p) (upd H p (.lst (aJ k.toNat xs).flatten))
theorem YG:fS X (dL .Mult) Ez:=by
 intro ai s σ H x y v u Q I rx ry h
 obtain⟨l,k,xs,rfl,rfl,hH,h1,h2,hz,q⟩:=h
 cases rx
 obtain⟨t,rfl⟩:=ry
 obtain⟨z,bT,n,r,hl,e⟩:=Ji I hH
 have d4:bT.toArray.size*k.toNat<=sizeLine:=by rw[aK,←hl];exact hz
 have jI:¬bT.toArray.size*k.toNat > (2 ^ 63-1)/8:=by
  have:(sizeLine:Nat)<=(2 ^ 63-1)/8:=by decide
  omega
 have Ir:¬(!Builtin.List.listFitsIndex k)=true:=by
  rw[fitsIndex_both h1 h2]
  exact aO
 have CO:¬Builtin.List.listTooLong (bT.toArray.size*k.toNat)=true:=by
  rw[sC d4]
  exact aO
 have yN:pW (λx1 x2=>x1++x2) #[] (aJ (if bT.toArray.isEmpty=true then 0 else k.toNat) bT.toArray)=(aJ k.toNat bT).flatten.toArray:=by
  have f0:∀m:Nat,pW (λx1 x2=>x1++x2) #[] (aJ m bT.toArray)=(aJ m bT).flatten.toArray:=λm=>by
   have:=foldl_rep bT m []
   rw[lS]at this
   exact this
  rw[f0]
  cases bT with
  |nil=>simp
  |cons a r'=>rw[if_neg (by simp)]
 refine wpAny_binaryOp_repeat_ref (T:="list") (U:="int") (by decide) ⟨_,e,rfl⟩ (λs'=>uM s' k t) noFill_list_mul F.fills_int_mul F.slot_int_rmul repeat_list F.slot_int_index.lookup
  (uL F.slot_int_rmul (uM s k t) F.entry_int_rmul (F.args_int_rmul_2 _ _) (int___rmul___int_list k t l bT.toArray n)
   ⟨e,rfl,⟨_,e,rfl⟩,uL F.slot_list_mul ⟨_,e,rfl⟩ F.entry_list_mul (F.args_list_mul_2 _ _) (AutoListH.list___mul___list_int_3 l bT.toArray n k t Ir jI CO) ⟨e,?_⟩⟩)
 rw[yN]
 exact⟨.ref _,_,I.lnew (t':=s.toks) (r.rep k.toNat) (by rw[Yg,Nat.mul_comm];exact hz),rfl,q _ I.fresh⟩
theorem vx:lV K ct n m k (rI mQ λi j=>.int (i*j)) fI:=Y3
def mh:D->D->Option D
 |.lst xs,.int j=>if -1000000<j/\j<1000000/\xs.length<=16 then some (.lst (aJ j.toNat xs).flatten)else none
 |_,_=>none
theorem KR (ha:XO X ct ms 1 a f)(hb:XE X ct ms m b g):XO X ct ms 1 (.BinOp a .Mult b pos) (e2 mh f g):=by
 obtain⟨ta,pa,qa⟩:=ha
 obtain⟨tb,pb,qb⟩:=hb
 refine⟨_,GM YG pa pb,λF0 B F H ρ σ d Q rs e w=>?_⟩
 obtain⟨d1,d2,h1,h2,h3⟩:=dZ e
 refine qa F0 B F H ρ σ d1 _ rs h1 λv F1 H1 fp x1 o nd hf=>?_
 refine qb F0 B F1 H1 ρ σ d2 _ (rs.ext x1) h2 λv2 F2 H2 x2 l2=>?_
 cases d1 with
 |lst xs=>
  cases d2 with
  |int j=>
   unfold mh at h3
   dsimp only at h3
   by_cases hz:-1000000<j/\j<1000000/\xs.length<=16
   ·rw[if_pos hz]at h3
    cases h3
    obtain⟨ad,vs,fr,rfl,rfl,hF,hH,ol⟩:=(o.ext x2).lst_inv
    have hp:Pr (Al X.K ct F2 H2 0) xs vs:=ol.pr λ_ _ _ _ q=>q.1
    have x12:=x1.trans x2
    refine⟨ad,j,vs,rfl,l2.int,.inl hH,by omega,by omega,?_,Az x2.fh (hp.rep _) λv F' H' fp x o nd hf=>w v F' H' fp (x12.trans x) o nd λz hz=>x12.hh.free (hf z hz)⟩
    rw[←hp.length,bC]
    have h1:j.toNat<=1000000:=by omega
    have h2:xs.length*j.toNat<=16*1000000:=mP hz.2.2 h1
    omega
   ·rw[if_neg hz]at h3;cases h3
  |_=>cases h3
 |_=>cases h3
def oq:D->Option D
 |.int i=>some (.int (-i))
 |_=>none
theorem AH (ha:XE X ct ms n a f):XE X ct ms k (.UnaryOp .USub a pos) (e1 oq f):=by
 refine zua Z6 (λF H x d1 d Q s l e w=>?_) ha
 cases d1 with
 |int i=>cases e;exact⟨i,l.int,w _ F H (.refl s) (Al.of (.int _))⟩
 |_=>cases e
theorem AB {x:aP}{d:D}{u:aa}(hg:Gl X x)(hm:X.mg x=some u)(hs:d.sc=true)(r:RelV d.v u)(hd:(x==("__debug__":aP))=false:=by decide):XE X ct ms n (.Name x pos) (eC d):=by
 refine⟨_,OE hg hm r hd,λF0 B F H ρ σ d' Q rs e w=>?_⟩
 cases e
 refine w _ F H (.refl rs.fh) (Al.of ?_)
 cases d with
 |non=>exact .non
 |bl b=>exact .bl b
 |int b=>exact .int b
 |str b=>exact .str b
 |_=>cases hs
def gM:List D->Option D
 |[.lst ds]=>some (.lst ds)
 |[.tup ds]=>some (.lst ds)
 |_=>none
theorem qq (hn:n<=1):AU K ct [n] 1 (λxs H Q=>∃p ys,xs=[.ref p]/\(eR K H p ys\/kx K H p ys)/\∀l,H l=none->Q (.ref l) (upd H l (.lst ys))) gM:=by
 intro F H vs ds d Q s l e w
 cases l with
 |cons h t=>
  cases t
  rename_i d1 v
  cases d1 with
  |lst xs=>
   cases e
   obtain⟨a,us,rfl,ha,hp⟩:=Al.lst1 hn h s
   exact⟨a,us,rfl,.inl ha,Az s hp w⟩
  |tup xs=>
   cases e
   obtain⟨a,us,rfl,ha,hp⟩:=Al.tup1 hn h s
   exact⟨a,us,rfl,.inr (kx.of ha),Az s hp w⟩
  |_=>cases e
abbrev PF:=Env->Option (Option Int)
def pNo:PF:=λ_=>some none
def pInt (f:EF):PF:=λρ=>(f ρ).bind λd=>match d with
 |.int i=>some (some i)
 |_=>none
def XP (X:Cx)(ct:Nat->af)(ms:List Mo)(e:Option Expr)(f:PF):Prop:=∃t,PO X e t/\∀(F0 B F H:Hp) (ρ:Env) (σ:St) (o:Option Int) (Q:Option Int->Hp->Prop),RS X.K ct F0 B ms F H ρ σ->f ρ=some o->(∀F' H',fL F H F' H'->Q o H')->t σ H Q
theorem zug:XP X ct ms none pNo:=⟨_,YC,λF0 B F H ρ σ o Q rs e w=>by cases e;exact w F H (.refl rs.fh)⟩
theorem E4 (h:XE X ct ms n e f):XP X ct ms (some e) (pInt f):=by
 obtain⟨t,pt,qt⟩:=h
 refine⟨_,YD pt,λF0 B F H ρ σ o Q rs e w=>?_⟩
 obtain⟨d,h1,h2⟩:=bg e
 refine qt F0 B F H ρ σ d _ rs h1 λv F' H' x l=>?_
 cases d with
 |int i=>cases h2;exact⟨i,l.int,w F' H' x⟩
 |_=>cases h2
def cutD (xs:List D)(lo hi:Option Int):List D:=(xs.drop (HT.sIx xs.length 0 lo)).take (HT.sIx xs.length xs.length hi-HT.sIx xs.length 0 lo)
theorem YH {R:D->V->Prop}{ds:List D}{vs:List V}{lo hi:Option Int}(h:Pr R ds vs):Pr R (cutD ds lo hi) (qG vs lo hi):=by
 unfold cutD qG
 rw[h.length]
 exact(h.drop _).take _
def iZ (d:D)(lo hi:Option Int):Option D:=match d with
 |.lst xs=>some (.lst (cutD xs lo hi))
 |_=>none
theorem Kl {lo hi:Option Expr}{pl ph:PF}{p1}(hn:n<=1)(he:XE X ct ms n e f)(hl:XP X ct ms lo pl)(hh:XP X ct ms hi ph):XO X ct ms 1 (.Subscript e (.Slice lo hi none p1) pos) (λρ=>(f ρ).bind λd=>(pl ρ).bind λl=>(ph ρ).bind λh=>iZ d l h):=by
 obtain⟨t,pt,qt⟩:=he
 obtain⟨t1,zI,zJ⟩:=hl
 obtain⟨t2,nJ,sK⟩:=hh
 refine⟨_,WY YF pt zI nJ,λF0 B F H ρ σ r Q rs e w=>?_⟩
 obtain⟨d,l,h1,h2,h3⟩:=dZ e
 obtain⟨hh,h4,h5⟩:=bg h3
 refine qt F0 B F H ρ σ d _ rs h1 λv F1 H1 x1 l1=>?_
 refine zJ F0 B F1 H1 ρ σ l _ (rs.ext x1) h2 λF2 H2 x2=>?_
 refine sK F0 B F2 H2 ρ σ hh _ ((rs.ext x1).ext x2) h4 λF3 H3 x3=>?_
 cases d with
 |lst xs=>
  cases h5
  have lz:=x2.trans x3
  obtain⟨a,vs,rfl,ha,hp⟩:=Al.lst1 hn (l1.mono lz.ff lz.hh) lz.fh
  exact⟨a,vs,rfl,ha,Az lz.fh (YH hp) λv F' H' fp x o nd hf=>w v F' H' fp ((x1.trans lz).trans x) o nd λz hz=>(x1.trans lz).hh.free (hf z hz)⟩
 |_=>cases h5
def GZ:List D->Option D
 |[.int i]=>some (.int (if i<0 then -i else i))
 |_=>none
def ii (g:Int->Int->D):List D->Option D
 |[.int i,.int j]=>some (g i j)
 |_=>none
theorem Pm {g:Int->Int->D}{gv:Int->Int->V}(hg:∀i j F,Dt K ct F (g i j) (gv i j)):wJ K ct [n,m] k (λxs H Q=>∃i j,xs=[.int i,.int j]/\Q (gv i j) H) (ii g):=by
 intro F H vs ds d Q s l e w
 cases l with
 |cons h t=>
  cases t with
  |cons h' t=>
   cases t
   rename_i d1 v d2 v2
   cases d1 with
   |int i=>
    cases d2 with
    |int j=>cases e;exact⟨i,j,by rw[h.int,h'.int],w _ F H (.refl s) (Al.of (hg i j F))⟩
    |_=>cases e
   |_=>cases e
def gN:List D->Option D:=ii λi j=>.int (if j > i then j else i)
def jQ:List D->Option D:=ii λi j=>.int (if j<i then j else i)
theorem EX:wJ K ct [n,m] k (λxs H Q=>∃i j,xs=[.int i,.int j]/\Q (.int (if j > i then j else i)) H) gN:=Pm λ_ _ _=>.int _
theorem Km:wJ K ct [n,m] k (λxs H Q=>∃i j,xs=[.int i,.int j]/\Q (.int (if j<i then j else i)) H) jQ:=Pm λ_ _ _=>.int _
def zN (i:Nat)(o:D->D->Option D)(f:EF):SF:=λρ=>(eV i ρ).bind λx=>(f ρ).bind λy=>(o x y).bind λd=>some (.nx (ρ.set i (some d)))
theorem zsu {op:i6}{i:Nat}{x:aP}{pos':cB}{gi:Int->Int->Int}(ho:Ai X op (FT gi))(hm:ms[i]?=some (.ow k))(hN:X.N.Nodup)(hi:X.N[i]?=some x)(hx:Loc X.env.scope x)(he:XE X ct ms n e f)(hf:X.fn x=true\/X.env.scope.names.lookup x=some .local:=by first|exact .inl rfl|exact .inr rfl|assumption) :
  XS X ct ms rk (.AugAssign (.Name x pos') op e pos) (zN i (i2 λi j=>.int (gi i j)) f):=by
 obtain⟨t,pt,qt⟩:=he
 refine⟨_,Z2 hN hi hx pt ho hf,λF0 B F H ρ σ o E rs e z=>?_⟩
 obtain⟨d1,d2,h1,h2,h3⟩:=dZ e
 obtain⟨d,h4,h5⟩:=bg h3
 cases h5
 obtain⟨v,hv,l⟩:=rs.get hm (x6 h1)
 refine⟨v,hv,qt F0 B F H ρ σ d2 _ rs h2 λy F' H' x1 l2=>?_⟩
 cases d1 with
 |int i'=>
  cases d2 with
  |int j'=>
   cases h4
   exact⟨i',j',l.int,l2.int,z _ F' H' (rs.set hm x1 (Ow.scal (.int _) rfl) bz λa z=>(by cases z))⟩
  |_=>cases h4
 |_=>cases h4
def sPar (i j:Nat)(fs:Env->Option (List D)):SF:=λρ=>(fs ρ).bind λds=>match ds with
 |[x,y]=>some (.nx ((ρ.set i (some x)).set j (some y)))
 |_=>none
theorem Py {i j:Nat}{x y:aP}{fs:Env->Option (List D)}{px py pt:cB}{kt k2 nJ}(RR:ms[i]?=some (.ow 0))(RT:ms[j]?=some (.ow 0))(hc:X.calm=true)(hN:X.N.Nodup)(hi:X.N[i]?=some x)(hj:X.N[j]?=some y)(Iv:i≠j)
  (hx:X.env.scope.names.lookup x=some .local) (hy:X.env.scope.names.lookup y=some .local) (ha:XA X ct ms [a,b] [0,0] fs)
  (hw:iJ [.Tuple [.Name x px,.Name y py] kt pt] (.Tuple [a,b] k2 nJ) X.env=pure (some [x,y]))
  (hs:iK [.Tuple [.Name x px,.Name y py] kt pt] (.Tuple [a,b] k2 nJ) pos.line X.env=pure false:=by rfl) :
  XS X ct ms rk (.Assign [.Tuple [.Name x px,.Name y py] kt pt] (.Tuple [a,b] k2 nJ) pos) (sPar i j fs):=by
 obtain⟨t,pt,_,qt⟩:=ha
 refine⟨_,Z1 hc hN hi hj Iv hx hy pt hw hs,λF0 B F H ρ σ o E rs e z=>?_⟩
 obtain⟨ds,h1,h2⟩:=bg e
 refine qt F0 B F H ρ σ ds _ rs h1 λvs F' H' x1 l=>?_
 cases l with
 |cons l1 l=>
  cases l with
  |cons l2 l=>
   cases l
   cases h2
   have r1:=rs.set RR x1 (Ow.zero l1) bz λa z=>(by cases z)
   exact⟨_,_,rfl,z _ F' H' (r1.set RT (.refl x1.fh) (Ow.zero l2) bz λa z=>(by cases z))⟩
def sAsg (g:D->Env->Option Env)(f:EF):SF:=λρ=>(f ρ).bind λd=>(g d ρ).bind λρ'=>some (.nx ρ')
theorem zsv {gg:D->Env->Option Env}(he:XE X ct ms 0 e f)(hg:XG X ct ms 0 tg gg)(hs:iK [tg] e pos.line X.env=pure false:=by rfl)(hw:iJ [tg] e X.env=pure none:=by rfl)
  (h1:(cV [tg] X.env).map (·.2)=[hG tg X.env]:=by rfl):XS X ct ms rk (.Assign [tg] e pos) (sAsg gg f):=by
 obtain⟨t,pt,qt⟩:=he
 obtain⟨t2,nJ,sK⟩:=hg
 refine⟨_,Po pt nJ hs hw h1,λF0 B F H ρ σ o E rs e z=>?_⟩
 obtain⟨d,h1,h2⟩:=bg e
 obtain⟨ρ',h3,h4⟩:=bg h2
 cases h4
 exact qt F0 B F H ρ σ d _ rs h1 λv F' H' x l=>sK F0 B F' H' ρ ρ' σ d v _ (rs.ext x) l h3 λσ' r=>z σ' F' H' r
end
end L3
namespace L3
open PySem PySem.Spec L2
open PyProof.Rows hiding St
def gO:List Nat->List Mo->Bool
 |[],_=>true
 |n::ns,.al m::ms=>decide (n=m)&&gO ns ms
 |n::ns,.ow m::ms=>decide (n=0)&&decide (m=0)&&gO ns ms
 |_,_=>false
theorem uc:∀{pm:List Nat} {ms:List Mo},gO pm ms=true->∀(i n:Nat),pm[i]?=some n->ms[i]?=some (Mo.al n)\/(n=0/\ms[i]?=some (Mo.ow 0))
 |[],_,_,i,n,e=>by simp at e
 |x::ns,.al m::ms,h,i,n,e=>by
  simp only[gO,bw,decide_eq_true_eq]at h
  cases i with
  |zero=>simp at e;subst e;rw[h.1];exact .inl rfl
  |succ i=>simpa using uc h.2 i n (by simpa using e)
 |x::ns,.ow m::ms,h,i,n,e=>by
  simp only[gO,bw,decide_eq_true_eq]at h
  cases i with
  |zero=>simp at e;subst e;rw[h.1.1,h.1.2];exact .inr ⟨rfl,rfl⟩
  |succ i=>simpa using uc h.2 i n (by simpa using e)
 |_::_,[],h,_,_,_=>by simp[gO]at h
 |_::_,.px _::_,h,_,_,_=>by simp[gO]at h
 |_::_,.so _::_,h,_,_,_=>by simp[gO]at h
def uR (X:Cx)(scope:fF)(N:List aP)(own:Nat)(cap:List Nat):Bool :=
 decide (scope.kind=.function)&&scope.names.all (λx=>(decide (x.2≠.cell) || decide (scope.names.lookup x.1=some .cell))&&(decide (x.2≠.local) || decide (scope.names.lookup x.1=some .local))&&(decide (x.2≠.free) || (decide (X.env.kindOf x.1=some .cell) || decide (X.env.kindOf x.1=some .free)))) &&
 decide (N.length=own+cap.length)&&(aV cap.length).all λj=>match N[own+j]?,cap[j]? with
  |some x,some i=>decide (X.N[i]?=some x)&&decide (scope.names.lookup x=some .free)
  |_,_=>false
theorem Ad {X:Cx}{scope:fF}{N:List aP}{own:Nat}{cap:List Nat}(h:uR X scope N own cap=true):kn X scope N own cap:=by
 unfold uR at h
 simp only[bw,decide_eq_true_eq,cZ,Bool.or_eq_true]at h
 obtain⟨⟨⟨h1,h2⟩,h3⟩,h4⟩:=h
 refine⟨h1,λx hx hl=>((h2 x hx).1.1).elim (λz=>absurd hl z) id,λx hx hl=>((h2 x hx).1.2).elim (λz=>absurd hl z) id,λx hx hf=>((h2 x hx).2).elim (λz=>absurd hf z) id,h3,λj x hj=>?_⟩
 have Iy:j<cap.length:=by
  have:=(aX.mp hj).1
  omega
 have q:=h4 j (bX.mpr Iy)
 rw[hj]at q
 have hc:cap[j]?=some cap[j]:=by simp[Iy]
 rw[hc]at q
 simp only[bw,decide_eq_true_eq]at q
 exact⟨_,hc,q.1,q.2⟩
def Gi:D->Option String
 |.non=>some "NoneType"
 |.bl _=>some "bool"
 |.int _=>some "int"
 |.str _=>some "str"
 |.lst _=>some "list"
 |.tup _=>some "tuple"
 |.dK _ _=>some "dict"
 |_=>none
def M6 (K:ae)(H:Hp)(v:V)(t:String):Prop:=jX K H v (.type t)\/(t = "list"/\∃a xs,v=.ref a/\eR K H a xs)
theorem Al.ty {K:ae}{ct:Nat->af}{F H:Hp}{n:Nat}{d:D}{v:V}{t:String}(s:bK F H)(h:Al K ct F H n d v)(e:Gi d=some t):M6 K H v t:=by
 cases d with
 |non=>cases e;rw[h.non];exact .inl .non
 |bl b=>cases e;rw[h.bl];exact .inl (.bl b)
 |int b=>cases e;rw[h.int];exact .inl (.int b)
 |str b=>cases e;rw[h.str];exact .inl (.str b)
 |lst xs=>
  cases e
  obtain⟨a,vs,rfl,ha,_⟩:=h.lst s
  exact .inr ⟨rfl,a,vs,rfl,ha⟩
 |tup xs=>
  cases e
  obtain⟨a,vs,rfl,ha,_⟩:=h.tup s
  exact .inl (.tup ha)
 |dK ks xs=>
  cases e
  obtain⟨a,vs,rfl,ha,_⟩:=h.dK s
  exact .inl (.dK ha)
 |_=>cases e
theorem WS {X:Cx}:eE X (.builtin "isinstance") (λxs H Q=>∃x c t b,xs=[x,.ty c]/\M6 X.K H x t/\bB X.K (.type t) (.type c)=some b/\Q (.bl b) H):=by
 intro ai s σ H xs us Q I r h
 obtain⟨x,c,t,b,rfl,ty,e,q⟩:=h
 rcases ty with ty|⟨rfl,a,ys,rfl,hq⟩
 ·exact Xy ai s σ H _ us Q I r ⟨x,c,_,b,rfl,ty,e,q⟩
 ·obtain⟨u,w',rfl,ru,oz⟩:=vals2 r
  cases(show w'=aa.type c from oz)
  cases(show u=aa.ref a from ru)
  obtain⟨bT,rv,⟨o,n,h1,h2,_⟩,_⟩:=I.list hq
  exact cp jZ I.kIn ⟨o,h1,h2⟩ e (λz=>nomatch z) λtk=>⟨.bl b,H,I.tok tk,rfl,q⟩
def C5 (t c:String):Bool:=t==c || (t == "bool" && c == "int")
theorem YI {K:ae}:∀t∈(["NoneType","bool","int","str","list","tuple","dict"]:List String),∀c∈(["bool","int","str","list","tuple","dict"]:List String),bB K (.type t) (.type c)=some (C5 t c):=by
 intro t ht c hc
 simp only[av,bQ,or_false]at ht hc
 rcases ht with rfl|rfl|rfl|rfl|rfl|rfl|rfl<;>rcases hc with rfl|rfl|rfl|rfl|rfl|rfl<;>rfl
theorem YJ {d:D}{t:String}(e:Gi d=some t):t∈(["NoneType","bool","int","str","list","tuple","dict"]:List String):=by
 cases d<;>simp[Gi]at e<;>subst e<;>decide
section
variable {X:Cx}{ct:Nat->af}{ms:List Mo}{rk n m k:Nat}{a b c e tg:Expr}{f g h:EF}{pos:cB}
def lX (c:String)(d:D):Option D:=(Gi d).bind λt=>some (.bl (C5 t c))
theorem Ae {c:String}{pp p2:cB}(hc:c∈(["bool","int","str","list","tuple","dict"]:List String))(hm:X.mg "isinstance"=none)(rB:X.mg c=none)(hb:bN c=some (.type c))(he:XE X ct ms n e f)(hg:Gl X "isinstance":=by rfl)(mX:Gl X c:=by rfl)(vE:aP.ofString c≠"__name__":=by decide)(hd2:(aP.ofString c==("__debug__":aP))=false:=by decide)
  (vH:ay [e,.Name c p2] X.env=(false,bS e X.env)::ay [.Name c p2] X.env:=by rfl) (oQ:ay [.Name c p2] X.env=(false,bS (.Name c p2) X.env)::ay [] X.env:=by rfl) (fT:(cL pos (ay [.Name c p2] X.env)).any (·.1)=false:=by rfl) :
  XE X ct ms k (.Call (.Name "isinstance" pp) [e,.Name c p2] [] pos) (e1 (lX c) f):=by
 obtain⟨t,pt,qt⟩:=he
 refine⟨_,Gm WS hg hm Nf (ul pt (ul (Yq (v:=.ty c) mX rB hb rfl vE hd2) vX oQ) vH) (by decide) (by decide) vH fT,λF0 B F H ρ σ d Q rs e w=>?_⟩
 obtain⟨d1,h1,h2⟩:=bg e
 obtain⟨ty,h3,h4⟩:=bg h2
 cases h4
 exact qt F0 B F H ρ σ d1 _ rs h1 λv F' H' x l=>⟨v,c,ty,_,rfl,l.ty x.fh h3,YI _ (YJ h3) _ hc,w _ F' H' x (Al.of (.bl _))⟩
end
end L3
namespace L3
open PySem PySem.Spec L2
open PyProof.Rows hiding St
def nj (K:ae):Sp:=λvs H Q _=>∃(a:af) (ns:List Int),vs=[.ref a]/\eR K H a (ns.map V.int)/\ns.length<=63/\∀H',Q (.bl true) H'
theorem Dts.ints {K:ae}{ct:Nat->af}{F:Hp}:∀ns:List Int,Dts K ct F (ns.map D.int) (ns.map V.int)
 |[]=>.nil
 |n::ns=>.cons (.int n) (Dts.ints ns)
theorem zsw {P:aW}{w:bv}{K:ae}{mg:aP->Option aa}{base:aI}{k:Nat}{f:af}{fd:aM}{ps:List aP}{ct:Nat->af}{m:List D->Option D}(Fn:cI P w K mg base eP k f fd ps (gH K ct [0] 0 m))
  (h:∀ns:List Int,ns.length<=63->m [.lst (ns.map .int)]=some (.bl true)):cI P w K mg base eP k f fd ps (nj K):=by
 have to:∀vs H Q E,nj K vs H Q E->gH K ct [0] 0 m vs H Q E:=by
  rintro vs H Q E ⟨a,ns,rfl,hS,hl,q⟩
  refine⟨H,[.lst (ns.map .int)],.bl true,.refl _,.cons (Dt.lst hS (Dts.ints ns)) .nil,h ns hl,λv F' H' fp x o nd hf=>?_⟩
  have hv:v=.bl true:=by
   have o:Dt K ct F' (.bl true) v/\fp=[]:=o
   cases o.1
   rfl
  subst hv
  exact q H'
 exact⟨λvs H Q E z=>Fn.len vs H Q E (to vs H Q E z),λA outer s H args us vs Q E hr e0 hb hv z=>Fn.run A outer s H args us vs Q E hr e0 hb hv (to vs H Q E z)⟩
theorem NX {g:D->Env->Option Env}{b:SF}(I:List D->Env->Prop)(all:List D)(st:∀pre d post ρ,all=pre++d::post->I pre ρ->∃ρ1 ρ2,g d ρ=some ρ1/\(b ρ1=some (.nx ρ2)\/b ρ1=some (.ct ρ2))/\I (pre++[d]) ρ2):∀(ds pre:List D) (ρ:Env),all=pre++ds->I pre ρ ->
  ∃ρ',gm g b ds ρ=some (.nx ρ')/\I all ρ'
 |[],pre,ρ,e,h=>⟨ρ,rfl,by rw[e,cr];exact h⟩
 |d::ds,pre,ρ,e,h=>by
  obtain⟨ρ1,ρ2,h1,h2,h3⟩:=st pre d ds ρ e h
  obtain⟨ρ',h4,h5⟩:=NX I all st ds (pre++[d]) ρ2 (by rw[e];simp) h3
  refine⟨ρ',?_,h5⟩
  show(g d ρ).bind _=_
  rw[h1]
  show(b ρ1).bind _=_
  rcases h2 with h2|h2<;>(rw[h2];exact h4)
theorem jg {g:D->Env->Option Env}{b:SF}(I:List D->Env->Prop){ds:List D}{ρ:Env}(h:I [] ρ)(st:∀pre d post ρ,ds=pre++d::post->I pre ρ->∃ρ1 ρ2,g d ρ=some ρ1/\(b ρ1=some (.nx ρ2)\/b ρ1=some (.ct ρ2))/\I (pre++[d]) ρ2) :
  ∃ρ',gm g b ds ρ=some (.nx ρ')/\I ds ρ':=NX I ds st ds [] ρ rfl h
theorem Fc {α:Type}{all pre post:List α}{d:α}(h:all=pre++d::post):all[pre.length]?=some d:=by subst h;simp
theorem J6 {α S:Type}{g:D->Env->Option Env}{b:SF}(enc:α->D)(st:S->Env)(f:S->α->S)(P:S->Prop):∀(xs:List α) (s:S),P s ->
  (∀s x,x∈xs->P s->∃ρ1,g (enc x) (st s)=some ρ1/\(b ρ1=some (.nx (st (f s x)))\/b ρ1=some (.ct (st (f s x))))/\P (f s x))->gm g b (xs.map enc) (st s)=some (.nx (st (xs.foldl f s)))/\P (xs.foldl f s)
 |[],s,hp,_=>⟨rfl,hp⟩
 |x::xs,s,hp,h=>by
  obtain⟨ρ1,h1,h2,h3⟩:=h s x ak hp
  have ih:=J6 enc st f P xs (f s x) h3 λs y hy=>h s y (aj _ hy)
  refine⟨?_,ih.2⟩
  show(g (enc x) (st s)).bind _=_
  rw[h1]
  show(b ρ1).bind _=_
  rcases h2 with h2|h2<;>(rw[h2];exact ih.1)
theorem NY {g:D->Env->Option Env}{b:SF}(I:Nat->Env->Prop)(lo:Int):∀(n k:Nat) (ρ:Env),I k ρ ->
  (∀j ρ,k<=j->j<k+n->I j ρ->∃ρ1 ρ2,g (.int (lo+(j:Int))) ρ=some ρ1/\(b ρ1=some (.nx ρ2)\/b ρ1=some (.ct ρ2))/\I (j+1) ρ2) ->
  ∃ρ',gm g b ((List.range' k n).map λ(t:Nat)=>D.int (lo+(t:Int))) ρ=some (.nx ρ')/\I (k+n) ρ'
 |0,k,ρ,h,_=>⟨ρ,rfl,h⟩
 |n+1,k,ρ,h,st=>by
  obtain⟨ρ1,ρ2,h1,h2,h3⟩:=st k ρ (aH _) (by omega) h
  obtain⟨ρ',h4,h5⟩:=NY I lo n (k+1) ρ2 h3 λj ρ hj hl hI=>st j ρ (by omega) (by omega) hI
  refine⟨ρ',?_,by rw[show k+(n+1)=k+1+n by omega];exact h5⟩
  rw[List.range'_succ,bu]
  show(g _ ρ).bind _=_
  rw[h1]
  show(b ρ1).bind _=_
  rcases h2 with h2|h2<;>(rw[h2];exact h4)
theorem qr {g:D->Env->Option Env}{b:SF}(I:Nat->Env->Prop){lo:Int}{n:Nat}{ρ:Env}(h:I 0 ρ)
  (st:∀j ρ,j<n->I j ρ->∃ρ1 ρ2,g (.int (lo+(j:Int))) ρ=some ρ1/\(b ρ1=some (.nx ρ2)\/b ρ1=some (.ct ρ2))/\I (j+1) ρ2):∃ρ',gm g b (kG lo n) ρ=some (.nx ρ')/\I n ρ':=by
 obtain⟨ρ',h1,h2⟩:=NY (g:=g) (b:=b) I lo n 0 ρ h λj ρ _ hj hI=>st j ρ (by omega) hI
 rw[oK]at h2
 exact⟨ρ',by unfold kG;rw[List.range_eq_range'];exact h1,h2⟩
theorem Ny {c:BF}{b:SF}(I:Env->Prop)(μ:Env->Nat)(st:∀ρ,I ρ->∃t,c ρ=some t/\(t=true->∃ρ',(b ρ=some (.nx ρ')\/b ρ=some (.ct ρ'))/\I ρ'/\μ ρ' < μ ρ)) :
  ∀(n:Nat) (ρ:Env),I ρ->μ ρ<n->∃ρ',kR c b n ρ=some (.nx ρ')/\I ρ'/\c ρ'=some false
 |0,_,_,h=>absurd h (by omega)
 |n+1,ρ,hI,h=>by
  obtain⟨t,h1,h2⟩:=st ρ hI
  cases t with
  |false=>exact⟨ρ,by show(c ρ).bind _=_;rw[h1];rfl,hI,h1⟩
  |true=>
   obtain⟨ρ',h3,h4,h5⟩:=h2 rfl
   obtain⟨ρ2,h6,h7,h8⟩:=Ny I μ st n ρ' h4 (by omega)
   refine⟨ρ2,?_,h7,h8⟩
   show(c ρ).bind _=_
   rw[h1]
   show(b ρ).bind _=_
   rcases h3 with h3|h3<;>(rw[h3];exact h6)
theorem YK {n k:Nat}(h:n<2 ^ k)(hk:k<=9000):n<oY:=bt h (fZ (by decide) hk)
theorem YL {n:Nat}(h:n<1048576):n<oY:=YK (k:=20) h (by decide)
theorem zav {i j:Int}(h1:0<j)(h2:j<4611686018427387904):fO (.int i) (.int j)=some (.int (i/j)):=by unfold fO;simp[h1,h2]
theorem wx {i j:Int}(h:0<j):d7 (.int i) (.int j)=some (.int (i%j)):=by unfold d7;simp[h]
theorem zob {i j:Int}(h1:-18446744073709551616<j)(h2:j<18446744073709551616):fI (.int i) (.int j)=some (.int (i*j)):=by simp[fI,sr,lq,h1,h2]
theorem zaw {i j:Int}(h1:-18446744073709551616<i)(h2:i<18446744073709551616):fI (.int i) (.int j)=some (.int (i*j)):=by simp[fI,sr,lq,h1,h2]
theorem zax {i j:Int}(h1:0<=j)(h2:j<=1000000)(h3:i.natAbs<18446744073709551616):oy (.int i) (.int j)=some (.int (i ^ j.toNat)):=by simp[oy,sr,nh,h1,h2,h3]
theorem zmq {i j:Int}(h1:0<=j)(h2:j<=1000000)(h3:i.natAbs<18446744073709551616):t6 (.int i) (.int j)=some (.int (i*2 ^ j.toNat)):=by simp[t6,sr,nh,h1,h2,h3]
theorem zh1 {i j:Int}(h1:0<=j):qL (.int i) (.int j)=some (.int (i/2 ^ j.toNat)):=by simp[qL,sr,h1]
theorem zay (i j:Int):ez (.int i) (.int j)=some (.int (i+j)):=rfl
theorem XN {xs ys:List D}(h:xs.length+ys.length<=16777216):ez (.lst xs) (.lst ys)=some (.lst (xs++ys)):=by simp[ez,h]
theorem zb3 (i j:Int):kQ (.int i) (.int j)=some (.int (i-j)):=rfl
theorem zgu (i j:Int):mK (.int i) (.int j)=some (.bl (decide (i<j))):=rfl
theorem zp6 (i j:Int):vM (.int i) (.int j)=some (.bl (decide (i<=j))):=rfl
theorem zp7 (i j:Int):sZ (.int i) (.int j)=some (.bl (decide (j<i))):=rfl
theorem zp8 (i j:Int):HX (.int i) (.int j)=some (.bl (decide (j<=i))):=rfl
theorem zed (i:Int):oq (.int i)=some (.int (-i)):=rfl
theorem jh (ds:List D):eA [.lst ds]=some (.int ds.length):=rfl
theorem zms (ds:List D):eA [.tup ds]=some (.int ds.length):=rfl
theorem zmt (i:Int):GZ [.int i]=some (.int (if i<0 then -i else i)):=rfl
theorem zfk (i j:Int):gN [.int i,.int j]=some (.int (if j > i then j else i)):=rfl
theorem zky (i j:Int):jQ [.int i,.int j]=some (.int (if j<i then j else i)):=rfl
theorem zgv (neg:Bool)(d:D):tu neg d .non=some (.bl (if neg then !d.isN else d.isN)):=by cases d<;>rfl
theorem zsx (neg b:Bool)(d:D):tu neg d (.bl b)=some (.bl (if neg then !d.isB b else d.isB b)):=by cases d<;>rfl
theorem jx (b:Bool):Fp (.bl b)=some b:=rfl
theorem zp9 (ds:List D):Fs (.lst ds)=some ds:=rfl
theorem zdj (ds:List D)(l h:Option Int):iZ (.lst ds) l h=some (.lst (cutD ds l h)):=rfl
theorem EY {j:Int}(h1:-4611686018427387904<=j)(h2:j<4611686018427387904):hE [.int j]=some (kG 0 j.toNat):=by simp[hE,h1,h2]
theorem O6 (ds:List D)(i:Int):d5 (.lst ds) (.int i)=atI ds i:=rfl
theorem Gz {α:Type}(enc:α->D){xs:List α}{i:Int}{j:Nat}{x:α}(hi:i=(j:Int)\/i=(j:Int)-xs.length)(h:xs[j]?=some x):atI (xs.map enc) i=some (enc x):=by
 have hj:=(aX.mp h).1
 unfold L2.atI L2.ixN
 rw[aA]
 rcases hi with rfl|rfl
 ·rw[if_pos (by omega),if_pos (by omega)]
  simp[h]
 ·rw[if_neg (by omega),if_pos (by omega)]
  have:((j:Int)-(xs.length:Int)+(xs.length:Int)).toNat=j:=by omega
  simp[this,h]
theorem WI (xs:List D)(k:Nat):cutD xs (some (k:Int)) none=xs.drop k:=by
 unfold cutD
 rw[HT.sIx_none,HT.sIx_nat]
 rcases oJ k xs.length with h|h
 ·rw[mq h,fu (by rw[eI];omega)]
 ·rw[lL h,fk (aH _),fk h]
  simp
theorem N7 (xs:List D)(k l:Nat):cutD xs (some (k:Int)) (some (l:Int))=(xs.drop k).take (l-k):=by
 unfold cutD
 rw[HT.sIx_nat,HT.sIx_nat]
 rcases oJ k xs.length with h|h
 ·rw[mq h]
  rcases oJ l xs.length with g|g
  ·rw[mq g]
  ·rw[lL g,fu (by rw[eI];omega),fu (by rw[eI];omega)]
 ·rw[lL h,fk (aH _),fk h]
  simp
theorem NZ {α:Type}{g:D->Env->Option Env}{p:BF}{f:EF}{ρ0:Env}(enc:α->D)(q:α->Bool)(h:α->D):∀(xs:List α),(∀x∈xs,∃ρ1,g (enc x) ρ0=some ρ1/\p ρ1=some (q x)/\(q x=true->f ρ1=some (h x)))->mT g p f ρ0 (xs.map enc)=some ((xs.filter q).map h)
 |[],_=>rfl
 |x::xs,H=>by
  obtain⟨ρ1,h1,h2,h3⟩:=H x ak
  have ih:=NZ enc q h xs λy hy=>H y (aj _ hy)
  show(g (enc x) ρ0).bind _=_
  rw[h1]
  show(p ρ1).bind _=_
  rw[h2]
  cases hq:q x with
  |false=>
   rw[bY,if_neg aO,nP (by rw[hq];exact aO)]
   exact ih
  |true=>
   rw[bY,if_pos rfl,h3 hq,nQ hq]
   show(mT g p f ρ0 (xs.map enc)).bind _=_
   rw[ih]
   rfl
end L3
namespace L3
open PySem PySem.Spec L2
structure iO (α:Type)[DecidableEq α] where
 enc:α->D
 py:α->bM
 dep:Nat
 is:∀x,(enc x).py=some (py x)
 lay:∀x,(py x).canLay0=true
 dp:∀x,(py x).depth<=dep
 eqv:∀x y,bM.eqv (py x) (py y)=decide (x=y)
section
variable {α β γ δ ε:Type}[DecidableEq α][DecidableEq β][DecidableEq γ][DecidableEq δ][DecidableEq ε]
theorem iO.eq (E:iO α)(h:E.dep<=60){neg:Bool}(x y:α):gA neg (E.enc x) (E.enc y)=some (.bl (if neg then !decide (x=y)else decide (x=y))):=by
 have h1:nK (E.py x)=true:=by unfold nK;rw[E.lay x,decide_eq_true (bD (E.dp x) h)];rfl
 have h2:nK (E.py y)=true:=by unfold nK;rw[E.lay y,decide_eq_true (bD (E.dp y) h)];rfl
 unfold gA
 rw[E.is x,E.is y]
 simp only[bY]
 rw[if_pos ⟨h1,h2⟩,E.eqv]
def Ei:iO Int:=⟨.int,.int,0,λ_=>by simp[D.py],λ_=>rfl,λ_=>by simp[bM.depth],λx y=>by show(x==y)=_;by_cases h:x=y<;>simp[h]⟩
def Eb:iO Bool:=⟨.bl,.bool,0,λ_=>by simp[D.py],λ_=>rfl,λ_=>by simp[bM.depth],λx y=>by cases x<;>cases y<;>rfl⟩
def gZ:Option Int->D
 |none=>.non
 |some i=>.int i
theorem ON (E:iO α):∀xs:List α,D.pys (xs.map E.enc)=some (xs.map E.py)
 |[]=>by simp[D.pys]
 |x::xs=>by simp[D.pys,E.is x,ON E xs]
theorem Nz (E:iO α):∀xs:List α,bM.canLayAll0 (xs.map E.py)=true
 |[]=>by simp[bM.canLayAll0]
 |x::xs=>by simp[bM.canLayAll0,E.lay x,Nz E xs]
theorem NA (E:iO α):∀xs:List α,bM.depthAll (xs.map E.py)<=E.dep
 |[]=>by simp[bM.depthAll]
 |x::xs=>by
  have:=NA E xs
  have:=E.dp x
  simp only[bu,bM.depthAll]
  omega
theorem NB (E:iO α):∀xs ys:List α,bM.eqvAll (xs.map E.py) (ys.map E.py)=decide (xs=ys)
 |[],[]=>by simp[bM.eqvAll]
 |[],_::_=>by simp[bM.eqvAll]
 |_::_,[]=>by simp[bM.eqvAll]
 |x::xs,y::ys=>by
  simp only[bu,bM.eqvAll,E.eqv,NB E xs ys]
  by_cases h:x=y<;>by_cases g:xs=ys<;>simp[h,g]
def El (E:iO α):iO (List α):=⟨λxs=>.lst (xs.map E.enc),λxs=>.list (xs.map E.py),E.dep+1,λxs=>by simp[D.py,ON],λxs=>by simp[bM.canLay0,Nz],λxs=>by have:=NA E xs;simp only[bM.depth];omega,λxs ys=>by simp only[bM.eqv,NB]⟩
def E2 (A:iO α)(B:iO β):iO (α×β):=⟨λp=>.tup [A.enc p.1,B.enc p.2],λp=>.tuple [A.py p.1,B.py p.2],max A.dep B.dep+1,λp=>by simp[D.py,D.pys,A.is,B.is],λp=>by simp[bM.canLay0,bM.canLayAll0,A.lay,B.lay],
 λp=>by have:=A.dp p.1;have:=B.dp p.2;simp only[bM.depth,bM.depthAll];omega,λp q=>by
  simp only[bM.eqv,bM.eqvAll,A.eqv,B.eqv]
  obtain⟨a,b⟩:=p
  obtain⟨c,d⟩:=q
  by_cases h:a=c<;>by_cases g:b=d<;>simp[h,g]⟩
def E3 (A:iO α)(B:iO β)(C:iO γ):iO (α×β×γ):=⟨λp=>.tup [A.enc p.1,B.enc p.2.1,C.enc p.2.2],λp=>.tuple [A.py p.1,B.py p.2.1,C.py p.2.2],max (max A.dep B.dep) C.dep+1,λp=>by simp[D.py,D.pys,A.is,B.is,C.is],λp=>by simp[bM.canLay0,bM.canLayAll0,A.lay,B.lay,C.lay],
 λp=>by have:=A.dp p.1;have:=B.dp p.2.1;have:=C.dp p.2.2;simp only[bM.depth,bM.depthAll];omega,λp q=>by
  simp only[bM.eqv,bM.eqvAll,A.eqv,B.eqv,C.eqv]
  obtain⟨a,b,c⟩:=p
  obtain⟨a',b',c'⟩:=q
  by_cases h:a=a'<;>by_cases g:b=b'<;>by_cases k:c=c'<;>simp[h,g,k]⟩
end
theorem zcq {neg:Bool}(a b:Int):gA neg (.int a) (.int b)=some (.bl (if neg then !decide (a=b)else decide (a=b))):=Ei.eq (by decide) a b
theorem zsy {neg:Bool}(a b:Bool):gA neg (.bl a) (.bl b)=some (.bl (if neg then !decide (a=b)else decide (a=b))):=Eb.eq (by decide) a b
end L3
namespace L3
open PySem PySem.Spec L2
open PyProof.Rows hiding St
section
variable {X:Cx}{ct:Nat->af}{K:ae}{n m k:Nat}
theorem IntsAre.of {ns:List Int}{us:List aa}(h:bR (ns.map V.int) us):IntsAre us ns:=Wi h
theorem WJ (hc:X.calm=true):eE X (.builtin "max") (λxs H Q=>∃(a:af) (ns:List Int),xs=[.ref a]/\eR X.K H a (ns.map V.int)/\ns≠[]/\∀M,M∈ns->(∀z∈ns,z<=M)->Q (.int M) H):=by
 intro ai s σ H xs us Q I r h
 obtain⟨a,ns,rfl,hq,nH,q⟩:=h
 obtain⟨u,rfl,ru⟩:=r.one
 cases(show u=aa.ref a from ru)
 obtain⟨bT,rv,pl,hz⟩:=I.list hq
 have hi:=IntsAre.of rv
 obtain⟨ys,e⟩:=hi.allInts.items
 have rC:ns=ys.toList.map (·.1):=by rw[←hi.numsOf,←nums_intItems,←e]
 have hsz:0<ys.size:=by
  have h3:0<ns.length:=List.length_pos_iff.mpr nH
  rw[rC,aA,aZ]at h3;exact h3
 have IE:s.heap.IsList a (intItems ys):=e▸pl.isList
 refine max_intList (I.ok.hd hc) IE hsz λv h' tk hv hk=>?_
 obtain⟨t,rfl⟩:=intItems_at hv
 obtain⟨h1,h2⟩:=argBest_gt (numAt ys) (ys.size-1)
 refine⟨.int (numAt ys (argBest (λi j=>decide (numAt ys i > numAt ys j)) (ys.size-1))),H,I.kept (t':=tk) hk,⟨_,rfl⟩,q _ ?_ λz hz=>?_⟩
 ·rw[rC,numAt_eq];exact getD_mem (by rw[aA,aZ];omega)
 ·rw[rC]at hz
  obtain⟨j,hj,rfl⟩:=mem_getD hz
  rw[aA,aZ]at hj
  rw[←numAt_eq];exact h2 j (by omega)
theorem N1:∀{bs:List Bool} {us:List aa},bR (bs.map V.bl) us->us=bs.map aa.bool
 |[],_,.nil=>rfl
 |b::bs,_,.cons r t=>by rw[N1 t];cases(show _=aa.bool b from r);rfl
theorem N2 (hc:X.calm=true):eE X (.builtin "all") (λxs H Q=>∃(a:af) (bs:List Bool),xs=[.ref a]/\eR X.K H a (bs.map V.bl)/\Q (.bl (bs.all id)) H):=by
 intro ai s σ H xs us Q I r h
 obtain⟨a,bs,rfl,hq,q⟩:=h
 obtain⟨u,rfl,ru⟩:=r.one
 cases(show u=aa.ref a from ru)
 obtain⟨bT,rv,pl,hz⟩:=I.list hq
 have hb:=N1 rv
 subst hb
 have hl:=pl.isList
 have iC:a<s.heap.objs.size:=by obtain⟨_,e,_⟩:=hl;exact aG e
 refine PySem.call_all_walk (my hl ?_)
 refine⟨s.heap.objs.size,[s.heap.objs.size,a],[s.heap.objs.size],(bs.map aa.bool).toArray.size,_,_,λi=>(bs[i]?).getD true,rfl,Walks.list (A:=X.A.in1) (I.ok.hd hc) _ a (bj iC) (bs.map aa.bool).toArray,
  ⟨⟨_,ba _ rfl,rfl,rfl⟩,hl.push _⟩,λi v s' Q' E' hP hQ=>?_,λh' tk hk=>?_⟩
 ·have hP:(bs.map aa.bool)[i]?=some v:=by simpa using hP
  rw[bi]at hP
  obtain⟨b,hb,rfl⟩:=bW.mp hP
  simp only[hb,p9]at hQ
  exact dU hQ
 ·have e:((aV (bs.map aa.bool).toArray.size).all λi=>(bs[i]?).getD true)=bs.all id:=by
   rw[aK,aA];exact PyProof.Rows.LSm.range_all bs
  rw[e]
  refine⟨.bl (bs.all id),H,I.kept (t':=tk) λb o Ii=>hk b o (λhm=>?_) (ap _ Ii),rfl,q⟩
  rw[aN.mp hm]at Ii
  exact ef _ (aG Ii)
def gc:List D->Option (List Int)
 |[]=>some []
 |.int i::ds=>(gc ds).bind λns=>some (i::ns)
 |_=>none
theorem JX:∀{ds:List D} {ns:List Int},gc ds=some ns->ds=ns.map .int
 |[],_,e=>by cases e;rfl
 |d::ds,ns,e=>by
  cases d with
  |int i=>
   obtain⟨ms,h1,h2⟩:=bg (show(gc ds).bind _=_ from e)
   cases h2
   rw[JX h1];rfl
  |_=>cases e
theorem WK:∀ns:List Int,gc (ns.map .int)=some ns
 |[]=>rfl
 |n::ns=>by show(gc (ns.map .int)).bind _=_;rw[WK ns];rfl
theorem Pr.intV {F G:Hp}:∀{ns:List Int} {vs:List V},Pr (Al K ct F G n) (ns.map .int) vs->vs=ns.map V.int
 |[],_,.nil=>rfl
 |i::ns,_,.cons h t=>by rw[Pr.intV t,h.int];rfl
def iS:List D->Option (List Bool)
 |[]=>some []
 |.bl i::ds=>(iS ds).bind λns=>some (i::ns)
 |_=>none
theorem Nt:∀{ds:List D} {ns:List Bool},iS ds=some ns->ds=ns.map .bl
 |[],_,e=>by cases e;rfl
 |d::ds,ns,e=>by
  cases d with
  |bl i=>
   obtain⟨ms,h1,h2⟩:=bg (show(iS ds).bind _=_ from e)
   cases h2
   rw[Nt h1];rfl
  |_=>cases e
theorem Pr.blV {F G:Hp}:∀{ns:List Bool} {vs:List V},Pr (Al K ct F G n) (ns.map .bl) vs->vs=ns.map V.bl
 |[],_,.nil=>rfl
 |i::ns,_,.cons h t=>by rw[Pr.blV t,h.bl];rfl
def DK:List Int->Option Int
 |[]=>none
 |x::xs=>some (xs.foldl max x)
theorem N3:∀(xs:List Int) (x:Int),(xs.foldl max x=x\/xs.foldl max x∈xs)/\x<=xs.foldl max x/\∀z∈xs,z<=xs.foldl max x
 |[],x=>⟨.inl rfl,gY _,λz h=>by cases h⟩
 |y::xs,x=>by
  obtain⟨h1,h2,h3⟩:=N3 xs (max x y)
  refine⟨?_,by show x<=xs.foldl max (max x y);omega,λz hz=>?_⟩
  ·rcases h1 with h1|h1
   ·show xs.foldl max (max x y)=x\/xs.foldl max (max x y)∈y::xs
    rw[h1]
    rcases Int.le_total x y with h|h
    ·rw[Int.max_eq_right h];exact .inr ak
    ·rw[Int.max_eq_left h];exact .inl rfl
   ·exact .inr (aj _ h1)
  ·rcases av.mp hz with rfl|hz
   ·show z<=xs.foldl max (max x z);omega
   ·exact h3 z hz
theorem XQ {ns:List Int}{M:Int}(h:DK ns=some M):M∈ns/\∀z∈ns,z<=M:=by
 cases ns with
 |nil=>cases h
 |cons x xs=>
  cases h
  obtain⟨h1,h2,h3⟩:=N3 xs x
  refine⟨?_,λz hz=>?_⟩
  ·rcases h1 with h1|h1
   ·rw[h1];exact ak
   ·exact aj _ h1
  ·rcases av.mp hz with rfl|hz
   ·exact h2
   ·exact h3 z hz
def UE:List D->Option D
 |[.lst ds]=>(gc ds).bind λns=>some (.int ns.sum)
 |_=>none
def tY:List D->Option D
 |[.lst ds]=>(gc ds).bind λns=>(DK ns).bind λM=>some (.int M)
 |_=>none
def rS:List D->Option D
 |[.lst ds]=>(iS ds).bind λbs=>some (.bl (bs.all id))
 |_=>none
def insI (x:Int):List Int->List Int
 |[]=>[x]
 |y::ys=>if x<=y then x::y::ys else y::insI x ys
def ni:List Int->List Int
 |[]=>[]
 |x::xs=>insI x (ni xs)
theorem J7 (x:Int):∀ys,(insI x ys).Perm (x::ys)
 |[]=>.refl _
 |y::ys=>by
  unfold insI
  by_cases h:x<=y
  ·rw[if_pos h]
  ·rw[if_neg h]
   exact((J7 x ys).cons y).trans (.swap x y ys)
theorem JY:∀xs,(ni xs).Perm xs
 |[]=>.refl _
 |x::xs=>(J7 x _).trans ((JY xs).cons x)
theorem Nu (x:Int):∀{ys:List Int},ys.Pairwise (·<=·)->(insI x ys).Pairwise (·<=·)
 |[],_=>List.pairwise_singleton _ _
 |y::ys,h=>by
  obtain⟨h1,h2⟩:=cQ.mp h
  unfold insI
  by_cases hx:x<=y
  ·rw[if_pos hx]
   exact cQ.mpr ⟨λz hz=>by
    rcases av.mp hz with rfl|hz
    ·exact hx
    ·exact Int.le_trans hx (h1 z hz),h⟩
  ·rw[if_neg hx]
   refine cQ.mpr ⟨λz hz=>?_,Nu x h2⟩
   have:=(J7 x ys).mem_iff.mp hz
   rcases av.mp this with rfl|hz
   ·omega
   ·exact h1 z hz
theorem j5:∀xs,(ni xs).Pairwise (·<=·)
 |[]=>jY.nil
 |x::xs=>Nu x (j5 xs)
theorem JR:∀{xs ys:List Int},xs.Perm ys->xs.Pairwise (·<=·)->ys.Pairwise (·<=·)->xs=ys
 |[],ys,p,_,_=>(p.nil_eq).symm▸rfl
 |x::xs,[],p,_,_=>absurd p.symm.nil_eq (by simp)
 |x::xs,y::ys,p,hx,hy=>by
  obtain⟨h1,h2⟩:=cQ.mp hx
  obtain⟨h3,h4⟩:=cQ.mp hy
  have e:x=y:=by
   have a:=p.mem_iff.mp (ak:x∈x::xs)
   have b:=p.mem_iff.mpr (ak:y∈y::ys)
   have a':y<=x:=by
    rcases av.mp a with rfl|a
    ·exact gY _
    ·exact h3 x a
   have b':x<=y:=by
    rcases av.mp b with rfl|b
    ·exact gY _
    ·exact h1 y b
   omega
  subst e
  rw[JR ((List.perm_cons x).mp p) h2 h4]
theorem XR {F H:Hp}{vs:List V}{ds:List D}{ns:List Int}(s:bK F H)(l:jN K ct F H [n] [.lst ds] vs)(e:gc ds=some ns):∃a,vs=[.ref a]/\eR K H a (ns.map V.int):=by
 cases l with
 |cons h t=>
  cases t
  obtain⟨a,us,rfl,ha,hp⟩:=h.lst s
  have:=JX e
  subst this
  have:=hp.intV
  subst this
  exact⟨a,rfl,ha⟩
theorem Zl:wJ K ct [n] k (λxs H Q=>∃(a:af) (ns:List Int),xs=[.ref a]/\eR K H a (ns.map V.int)/\ns≠[]/\∀M,M∈ns->(∀z∈ns,z<=M)->Q (.int M) H) tY:=by
 intro F H vs ds d Q s l e w
 match ds,l,e with
 |[.lst xs],l,e=>
  obtain⟨ns,h1,h2⟩:=bg (show(gc xs).bind _=_ from e)
  obtain⟨M,h3,h4⟩:=bg h2
  cases h4
  obtain⟨a,rfl,ha⟩:=XR s l h1
  obtain⟨m1,m2⟩:=XQ h3
  refine⟨a,ns,rfl,ha,(λz=>by rw[z]at m1;cases m1),λM' h5 h6=>?_⟩
  have:M'=M:=Int.le_antisymm (m2 M' h5) (h6 M m1)
  subst this
  exact w _ F H (.refl s) (Al.of (.int _))
theorem OO:wJ K ct [n] k (λxs H Q=>∃(a:af) (bs:List Bool),xs=[.ref a]/\eR K H a (bs.map V.bl)/\Q (.bl (bs.all id)) H) rS:=by
 intro F H vs ds d Q s l e w
 match ds,l,e with
 |[.lst xs],l,e=>
  obtain⟨bs,h1,h2⟩:=bg (show(iS xs).bind _=_ from e)
  cases h2
  cases l with
  |cons h t=>
   cases t
   obtain⟨a,us,rfl,ha,hp⟩:=h.lst s
   have:=Nt h1
   subst this
   have:=hp.blV
   subst this
   exact⟨a,bs,rfl,ha,w _ F H (.refl s) (Al.of (.bl _))⟩
theorem Pr.ofInts {F H:Hp}:∀ns:List Int,Pr (Al K ct F H 0) (ns.map .int) (ns.map V.int)
 |[]=>.nil
 |n::ns=>.cons (show Dt K ct F (.int n) (.int n)from .int n) (Pr.ofInts ns)
end
end L3
namespace L3
open PySem PySem.Spec L2
open PyProof.Rows hiding St
def pP (H:Hp)(x:af):Hp:=λb=>if b=x then none else H b
theorem N8 (H:Hp)(x:af):bK (pP H x) H:=λb o h=>by
 unfold pP at h
 by_cases e:b=x
 ·rw[if_pos e]at h;cases h
 ·rw[if_neg e]at h;exact h
theorem zsz (H:Hp)(x:af):pP H x x=none:=if_pos rfl
theorem Fd {H:Hp}{x b:af}(h:b≠x):pP H x b=H b:=if_neg h
def rh (K:ae)(ct:Nat->af)(cs:List Nat)(pm:List Nat)(mi:Nat->List D->Option D):Sp:=λvs H Q _=>∃(F:Hp) (c:Nat) (ds:List D) (d:D) (x dx:af) (us:List V),c∈cs/\vs=.ref x::us/\H x=some (.ins (ct c) dx [])/\F x=none/\bK F H/\jN K ct F (pP H x) pm ds us/\mi c ds=some d /\
 ∀F' H',bK F F'->bK (pP H x) H'->bK F' H'->(∀a o,pP H x a=some o->jV o->F a=none->F' a=none)->F' x=none->Ow K ct F' H' 1 d (.ref x) [x]->Q .non H'
theorem rh.len {K:ae}{ct:Nat->af}{cs pm:List Nat}{mi:Nat->List D->Option D}{ps:List aP}(h:pm.length+1=ps.length):∀vs H Q E,rh K ct cs pm mi vs H Q E->vs.length=ps.length:=by
 rintro vs H Q E ⟨F,c,ds,d,x,dx,us,_,rfl,_,_,_,l,_⟩
 rw[aF,l.length,h]
def tU (N:List aP)(b:SF)(c:Nat)(ds:List D):Option D:=(b (some (.obj c [] [])::startD N.tail ds)).bind λo=>match o with
 |.nx ρ=>(ρ[0]?).join
 |_=>none
section
variable {X:Cx}{ct:Nat->af}{ms:List Mo}{rk n m k:Nat}{a b c e tg:Expr}{f g h:EF}{u w:SF}{pos:cB}
theorem u8 {P:aW}{w:bv}{K:ae}{mg:aP->Option aa}{base:aI}{x qual:aP}{st:bG}{fa:af}{fd:aM}{N0:aP}{N ps:List aP}{kk:Nat}{cs pm:List Nat}{bf:SF}(Fn:Fun2 K x qual st fa fd)(S:bA (N0::N) ps (aY st))(CV:pm.length+1=ps.length)(CQ:ms.length=N.length)(oP:pm.length<=N.length)
  (CP:∀(i n:Nat),pm[i]?=some n->ms[i]?=some (Mo.al n)\/(n=0/\ms[i]?=some (Mo.ow 0)))
  (body:∀(x:af) (ix:aa) (A:bo) (outer:List PySem.Env) (s:ah) (H:Hp) (E:XK),ee kk (A.deeper (envOfC qual (aY st) s.heap.objs.size fa ix))->qF (nB eP P w K mg base (N0::N) qual (aY st) fa ix A outer s H E).nox ct (.so x::ms) rk (gL st) bf) :
  cI P w K mg base eP (kk+1) fa fd ps (rh K ct cs pm (tU (N0::N) bf)):=by
 refine Fn.ok S (rh.len CV) λix A outer s H vs Q E hr h=>?_
 obtain⟨F,c,ds,d,x,dx,us,hc,rfl,hx,hF,sF,l,hm,q⟩:=h
 obtain⟨t,pt,qt⟩:=body x ix A outer s H E hr
 refine⟨t,pt,?_⟩
 obtain⟨o,h1,h2⟩:=bg hm
 have uX:ds.length=us.length:=l.length'
 have R8:us.length=pm.length:=l.length
 have ow:Ow K ct F H 1 (.obj c [] []) (.ref x) [x]:=.inr (sX.obj (vs:=[]) hF hx rfl .nil)
 have sFB:bK F (pP H x):=λb o hb=>by
  rw[Fd (λe=>by rw[e,hF]at hb;cases hb)]
  exact sF _ _ hb
 refine qt F (pP H x) F H (some (.obj c [] [])::startD N ds) (L2.start (N0::N) (.ref x::us)) o _ ⟨.refl _,N8 H x,sF,λ_ _ _ _ h=>h,[x],?_,by simp,λa z=>by rw[aN]at z;subst z;exact zsz H _⟩ h1 ?_
 ·have e:L2.start (N0::N) (.ref x::us)=some (.ref x)::(us.map some++aJ (N.length-us.length) none):=by
   unfold L2.start
   simp
  rw[e]
  unfold startD
  rw[uX]
  exact SL.so (fp:=[]) ow (SL.start _ l CP (by omega))
 ·cases o with
  |nx ρ=>
   intro σ F' H' r
   obtain⟨fp,sl,nd,hb⟩:=r.sl
   cases sl with
   |no _=>cases h2
   |so MG _=>
    cases h2
    exact q F' H' r.f0 r.bh r.fh r.nf (MG.cells x ak).1 MG
  |rt d'=>cases h2
  |bk ρ=>cases h2
  |ct ρ=>cases h2
end
end L3
namespace L3
open PySem PySem.Spec L2
open PyProof.Rows hiding St
theorem N9 {f:aP}{y:V}:∀{ns:List aP} {vs:List V},ns.length=vs.length->ns.contains f=false->iG f y (ns.zip vs)=(ns++[f]).zip (vs++[y])
 |[],[],_,_=>rfl
 |[],_::_,h,_=>by simp at h
 |_::_,[],h,_=>by simp at h
 |n::ns,v::vs,h,hc=>by
  rw[pU,oU]at hc
  have hn:¬n=f:=λe=>by rw[e]at hc;simp at hc
  have ih:=N9 (f:=f) (y:=y) (ns:=ns) (vs:=vs) (by simpa using h) hc.2
  show iG f y ((n,v)::ns.zip vs)=(n,v)::(ns++[f]).zip (vs++[y])
  rw[←ih]
  show(if n=f then _ else _)=_
  rw[if_neg hn]
theorem Ow.obj_inv {ct:Nat->af}{K:ae}{F H:Hp}{c k:Nat}{ns:List aP}{ds:List D}{v:V}{fp:List af}(h:Ow K ct F H (k+1) (.obj c ns ds) v fp):∃a dx vs fr,v=.ref a/\fp=a::fr/\F a=none/\H a=some (.ins (ct c) dx (ns.zip vs))/\ns.length=vs.length/\dY (Ow K ct F H k) ds vs fr:=by
 rcases h with⟨h,_⟩|h
 ·cases h
 ·cases h with
  |obj h1 h2 h3 h4=>exact⟨_,_,_,_,rfl,rfl,h1,h2,h3,h4⟩
section
variable {X:Cx}{ct:Nat->af}{ms:List Mo}{rk n m k:Nat}{a b c e tg:Expr}{f g h:EF}{u w:SF}{pos:cB}{x0:af}
def gC (cs:List Nat)(x:aP)(f:EF):SF:=λρ=>(f ρ).bind λd=>(eV 0 ρ).bind λo=>match o with
 |.obj c ns ds=>if cs.contains c=true/\ns.contains x=false/\ns.length<900 then some (.nx (ρ.set 0 (some (.obj c (ns++[x]) (ds++[d])))))else none
 |_=>none
theorem RS.self {K:ae}{F0 B F H F' H':Hp}{ρ:Env}{σ:St}{d:D}(rs:RS K ct F0 B (.so x0::ms) F H ρ σ)(hd:ρ[0]?=some (some d)):σ[0]?=some (some (.ref x0))/\Ow K ct F H 1 d (.ref x0) [x0]/\B x0=none /\
  ∀(F' H':Hp) (d':D),bK F F'->bK B H'->bK F' H'->(∀a o,B a=some o->jV o->F0 a=none->F' a=none)->(∀a o,H a=some o->a≠x0->H' a=some o)->(∀a o,H a=some o->a≠x0->jV o->F a=none->F' a=none)->Ow K ct F' H' 1 d' (.ref x0) [x0]->RS K ct F0 B (.so x0::ms) F' H' (ρ.set 0 (some d')) σ:=by
 obtain⟨fp,sl,nd,hb⟩:=rs.sl
 cases sl with
 |no _=>simp at hd
 |so ow t=>
  simp at hd
  subst hd
  refine⟨rfl,ow,hb _ ak,λF' H' d' s1 s2 s3 s4 k1 k2 o'=>⟨rs.f0.trans s1,s2,s3,s4,_,.so o' (t.frame s1 λa z=>?_),nd,hb⟩⟩
  obtain⟨hn,o,ho,nt⟩:=t.cells a z
  have ne:a≠x0:=λe=>(bp.mp nd).1 (by rw[←e];exact z)
  exact⟨(k1 a o ho ne).trans ho.symm,k2 a o ho ne nt hn⟩
theorem uE {x s:aP}{cs:List Nat}{p1 pos':cB}(hc:∀c∈cs,lc X.K (ct c)/\el X.K (ct c) x)(he:XE X ct (.so x0::ms) 0 e f)(hN:X.N[0]?=some s:=by rfl)(hv:pJ X.env.scope s:=by first|exact Or.inl rfl|exact Or.inr (Or.inl rfl)|exact Or.inr (Or.inr rfl))(hd:(s==("__debug__":aP))=false:=by decide)
  (iU:(s==("__classdict__":aP))=false:=by decide) (hs:d8 e (some (.Attribute (.Name s p1) x pos')) pos.line X.env=pure false:=by rfl):XS X ct (.so x0::ms) rk (.Assign [.Attribute (.Name s p1) x pos'] e pos) (gC cs x f):=by
 obtain⟨t,pt,qt⟩:=he
 refine⟨_,Z9 (jz hN hv hd iU) pt hs,λF0 B F H ρ σ o E rs e z=>?_⟩
 obtain⟨d,h1,h2⟩:=bg e
 obtain⟨ob,h3,h4⟩:=bg h2
 refine qt F0 B F H ρ σ d _ rs h1 λy F1 H1 x1 l=>?_
 have lu:=rs.ext x1
 obtain⟨hσ,ow,hB,put⟩:=lu.self (F':=F) (H':=H) (x6 h3)
 refine⟨_,hσ,?_⟩
 cases ob with
 |obj c ns ds=>
  dsimp only at h4
  by_cases hz:cs.contains c=true/\ns.contains x=false/\ns.length<900
  ·rw[if_pos hz]at h4
   cases h4
   obtain⟨a,dx,vs,fr,e1,e2,hF,hH,hl,ol⟩:=ow.obj_inv
   cases e1
   cases e2
   have hh:=hc c (by simpa using hz.1)
   refine⟨x0,_,dx,_,rfl,hH,hh.1,hh.2,by rw[eQ,←hl,kW];omega,?_⟩
   rw[N9 hl hz.2.1]
   refine z σ F1 _ (put F1 _ _ (.refl _) (λb o h=>?_) (λb o h=>?_) lu.nf (λb o h ne=>by rw[zn ne];exact h) (λb o h ne _ hn=>hn) (.inr (sX.obj (vs:=vs++[y]) hF yr (by simp[hl]) ?_)))
   ·rw[zn (λe=>by rw[e,hB]at h;cases h)];exact lu.bh _ _ h
   ·rw[zn (λe=>by rw[e,hF]at h;cases h)];exact lu.fh _ _ h
   ·have o1:dY (Ow X.K ct F1 (upd H1 x0 (.ins (ct c) dx ((ns++[x]).zip (vs++[y])))) 0) ds vs []:=ol.mono λ_ _ _ _ q=>⟨q.1,q.2⟩
    have:=o1.append (dY.cons (f:=[]) (g:=[]) (R:=Ow X.K ct F1 (upd H1 x0 (.ins (ct c) dx ((ns++[x]).zip (vs++[y])))) 0) ⟨l,rfl⟩ .nil)
    exact this
  ·rw[if_neg hz]at h4;cases h4
 |_=>cases h4
variable {kk:Nat}{fa:af}{fd:aM}{ps:List aP}{pm cs:List Nat}{mi:Nat->List D->Option D}{x:aP}{pp:cB}
theorem E5 {c0:Nat}{es:List Expr}{ns nd:List Nat}{fs:Env->Option (List D)}{iy:List V}{kN:List D}{mU:List aa}(M:Mk X.K (ct c0) fa)(yG:c0∈cs)(Fn:cI X.prog X.w X.K X.mg X.base eP kk fa fd ps (rh X.K ct cs (ns++nd) mi))(hr:ee (kk+1) X.A)(hg:Gl X x)(hm:X.mg x=some (.ref (ct c0)))
  (hb:bE X.K fd ps mU) (hd:bR iy mU) (tP:∀F G,jN X.K ct F G nd kN iy) (ha:XA X ct ms (e::es) ns fs)
  (mJ:(x==("__debug__":aP))=false:=by decide) (he:ay (e::es) X.env=(false,bS e X.env)::ay es X.env:=by rfl) (fT:(cL pos (ay es X.env)).any (·.1)=false:=by rfl) :
  XO X ct ms 1 (.Call (.Name x pp) (e::es) [] pos) (λρ=>(fs ρ).bind λds=>mi c0 (ds++kN)):=by
 obtain⟨t,pt,_,qt⟩:=ha
 refine⟨_,YB M Fn hr hg hm hb hd ou pt mJ he fT,λF0 B F H ρ σ r Q rs e w=>?_⟩
 obtain⟨ds,h1,h2⟩:=bg e
 refine qt F0 B F H ρ σ ds _ rs h1 λvs F1 H1 x1 l y dy hy RC nH=>?_
 have sH:bK H1 (pP (upd (upd H1 dy (.own y)) y (.ins (ct c0) dy [])) y):=λb o h=>by
  have n1:b≠y:=yy h hy
  rw[Fd n1,zn n1,zn (yy h RC)]
  exact h
 have T5:bK H1 (upd (upd H1 dy (.own y)) y (.ins (ct c0) dy [])):=sH.trans (N8 _ _)
 refine⟨F1,c0,ds++kN,r,y,dy,vs++iy,yG,rfl,yr,x1.fh.free hy,x1.fh.trans T5,jN.mono (.refl _) sH (jN.append (tP F1 H1) l),h2,λF' H' s1 s2 s3 s4 hn ow=>⟨rfl,?_⟩⟩
 refine w _ F' H' [y] ⟨x1.ff.trans s1,(x1.hh.trans sH).trans s2,s3,λb o h t n=>s4 b o (sH _ _ (x1.hh _ _ h)) t (x1.nf b o h t n)⟩ ow (by simp) λb z=>?_
 rw[aN]at z
 subst z
 exact x1.hh.free hy
theorem XU {C:af}{sp:Sp}{iy:List V}{ds:List aa}{E:XK}{m:aP}{p dh:cB}{es:List Expr}{t:TA}{pl:ip Bool}{mc:aa}(Fn:cI X.prog X.w X.K X.mg X.base eP kk fa fd ps sp)(hr:ee kk X.A)(hg:Gl X x)(hm:X.mg x=some (.ref C))
  (h1:dg X.K (.ref C) "__getattribute__"=some (some (.builtin "type.__getattribute__"))) (h2:ir X.K C mc=true) (h3:iq X.K (.ref C) mc m=some (.val (.ref fa))) (hk:ar X.K (.ref fa)=true) (hb:bE X.K fd ps ds) (hd:bR iy ds) (hx:iP eP X E) (ha:PA X (e::es) t)
  (mJ:(x==("__debug__":aP))=false:=by decide) (lW:ay (e::es) X.env=(false,bS e X.env)::ay es X.env:=by rfl) (fT:(cL pos (ay es X.env)).any (·.1)=false:=by rfl)
  (ht:bS (.Call (.Attribute (.Name x p) m dh) (e::es) [] pos) X.env=(do
   let ov ← bS (.Name x p) X.env
   gu dh.atName
   let(f,first) ← d6 [ov] (gq ov m pl)
   i7 pos f first (cL pos (ay (e::es) X.env)) (e8 pos (dG [] X.env))):=by rfl) :
  PE X (.Call (.Attribute (.Name x p) m dh) (e::es) [] pos) (vV sp iy E t):=by
 intro ai s σ H Q I h
 refine fw (pl:=pl) (Gv I hg hm ?_ mJ) ht
 refine PySem.W.method_cls I.kIn h1 (PySem.W.cls_value I.kIn h2 h3 rfl ?_)
 have I1:Inv X ai σ H { s with toks:=s.toks+1 }:=I.tok _
 refine gr (first:=[]) (h₀:=X.base) I.ok.mod.kin hk (dk (ha pos ai _ σ H _ I1 h) λus s2 ⟨vs,H2,I2,r,q2⟩=>⟨I2.kIn,?_⟩) lW fT
 exact GF (us:=us) (vs:=vs) Fn hr hb hd hx I2 r q2
theorem jN.flat {K:ae}{F G G':Hp}{ns:List Nat}{ds:List D}{vs:List V}(h:jN K ct F G ns ds vs)(e:ns.all (· == 0)=true):jN K ct F G' ns ds vs:=by
 induction h with
 |nil=>exact .nil
 |cons h t ih=>
  rw[eM,bw]at e
  cases eq_of_beq e.1
  exact .cons h (ih e.2)
def nL (cs:List Nat)(fs:Env->Option (List D))(mi:Nat->List D->Option D):SF:=λρ=>(eV 0 ρ).bind λo=>(fs ρ).bind λds=>match o with
 |.obj c [] []=>if cs.contains c=true then(mi c ds).bind λd=>some (.nx (ρ.set 0 (some d)))else none
 |_=>none
theorem KH {C:af}{s m:aP}{p p1 dN dh:cB}{es:List Expr}{ns:List Nat}{fs:Env->Option (List D)}{pl:ip Bool}{mc:aa}(Fn:cI X.prog X.w X.K X.mg X.base eP kk fa fd ps (rh X.K ct cs ns mi))(hr:ee kk X.A)(hm:X.mg x=some (.ref C))
  (h1:dg X.K (.ref C) "__getattribute__"=some (some (.builtin "type.__getattribute__"))) (h2:ir X.K C mc=true) (h3:iq X.K (.ref C) mc m=some (.val (.ref fa))) (hk:ar X.K (.ref fa)=true) (hb:bE X.K fd ps []) (hz:ns.all (· == 0)=true) (ha:XA X ct (.so x0::ms) es ns fs)
  (hg:Gl X x:=by rfl) (hN:X.N[0]?=some s:=by rfl) (hv:pJ X.env.scope s:=by first|exact Or.inl rfl|exact Or.inr (Or.inl rfl)|exact Or.inr (Or.inr rfl)) (hd:(s==("__debug__":aP))=false:=by decide)
  (iU:(s==("__classdict__":aP))=false:=by decide) (mJ:(x==("__debug__":aP))=false:=by decide) (lW:ay (.Name s p1::es) X.env=(false,bS (.Name s p1) X.env)::ay es X.env:=by rfl) (fT:(cL dN (ay es X.env)).any (·.1)=false:=by rfl)
  (ht:bS (.Call (.Attribute (.Name x p) m dh) (.Name s p1::es) [] dN) X.env=(do
   let ov ← bS (.Name x p) X.env
   gu dh.atName
   let(f,first) ← d6 [ov] (gq ov m pl)
   i7 dN f first (cL dN (ay (.Name s p1::es) X.env)) (e8 dN (dG [] X.env))):=by rfl)
  (yU:d8 (.Call (.Attribute (.Name x p) m dh) (.Name s p1::es) [] dN) none pos.line X.env=pure false:=by rfl) :
  XS X ct (.so x0::ms) rk (.Expr (.Call (.Attribute (.Name x p) m dh) (.Name s p1::es) [] dN) pos) (nL cs fs mi):=by
 obtain⟨t,pt,_,qt⟩:=ha
 refine⟨_,OG (XU (E:=E0) Fn hr hg hm h1 h2 h3 hk hb .nil ou (ul (jz hN hv hd iU) pt lW) mJ lW fT ht) yU,λF0 B F H ρ σ o E rs e z=>?_⟩
 obtain⟨ob,ds,g1,g2,g3⟩:=dZ e
 obtain⟨hσ,ow,hB,put⟩:=rs.self (F':=F) (H':=H) (x6 g1)
 refine⟨_,hσ,qt F0 B F H ρ σ ds _ rs g2 λvs F1 H1 x1 l=>?_⟩
 have lu:=rs.ext x1
 obtain⟨hσ,ow,hB,put⟩:=lu.self (F':=F) (H':=H) (x6 g1)
 match ob,g3,ow with
 |.obj c [] [],g3,ow=>
  dsimp only at g3
  by_cases hc:cs.contains c=true
  ·rw[if_pos hc]at g3
   obtain⟨d,g4,g5⟩:=bg g3
   cases g5
   obtain⟨a,dx,us,fr,e1,e2,hF,hH,hl,ol⟩:=ow.obj_inv
   cases e1
   cases e2
   refine⟨F1,c,ds,d,x0,dx,vs++[],by simpa using hc,rfl,hH,hF,x1.fh,?_,g4,λF' H' s1 s2 s3 s4 hn o'=>?_⟩
   ·rw[cr];exact l.flat hz
   ·have sB:bK B (pP H1 x0):=λb o h=>by
     rw[Fd (λe=>by rw[e,hB]at h;cases h)]
     exact lu.bh _ _ h
    exact z σ F' H' (put F' H' d s1 (sB.trans s2) s3 (λb o h t n=>s4 b o (sB _ _ h) t (lu.nf b o h t n)) (λb o h ne=>s2 _ _ (by rw[Fd ne];exact h)) (λb o h ne t IH=>s4 b o (by rw[Fd ne];exact h) t IH) o')
  ·rw[if_neg hc]at g3;cases g3
end
end L3
namespace L3
open PySem PySem.Spec L2
open PyProof.Rows hiding St
structure kI (K:ae)(mg:aP->Option aa)(x:aP)(st:bG)(ps:List aP)(f:af)(fd:aM):Prop where
 fn:Fun2 K x x st f fd
 mgx:mg x=some (.ref f)
 bd:bE K fd ps []
structure Dm (K:ae)(C:af)(m qual:aP)(st:bG)(ps:List aP)(f:af)(fd:aM):Prop where
 fn:Fun2 K m qual st f fd
 me:o8 K C m f
 bd:bE K fd ps []
structure Dc (K:ae)(mg:aP->Option aa)(x:aP)(C:af):Prop where
 cl:lc K C
 mgx:mg x=some (.ref C)
 mks:dm K C=true
 kp:ar K (.ref C)=true
structure Dq (K:ae)(C:af)(m:aP)(f:af):Prop where
 sp:dg K (.ref C) "__getattribute__"=some (some (.builtin "type.__getattribute__"))
 rd:ir K C (.type "type")=true
 fc:iq K (.ref C) (.type "type") m=some (.val (.ref f))
theorem zo {K:ae}{x qual:aP}{st:bG}{f:af}{oc:aa}{od an:Option af}{zD:Array (Option aa)}{dV kV doc pm ix ct:aa}(l:K.lookup f=some ⟨oc,od,.func (gb x qual (lN st) (gL st) (aY st) dV kV doc pm an ix ct),zD⟩)
  (c:aD K ix qual=true) (k:ar K (.ref f)=true):Fun2 K x qual st f (gb x qual (lN st) (gL st) (aY st) dV kV doc pm an ix ct):=⟨⟨oc,od,dV,kV,doc,pm,an,ix,ct,zD,rfl,l,c⟩,k⟩
theorem Zm {K:ae}{fd:aM}{ps:List aP}{ds:List aa}{T:af}{o:cJ}{items:Array aa}{n:Nat}(hd:fd.defaults=.ref T)(ho:K.lookup T=some o)(hs:o.data=.seq items n)
  (h:∀us:List aa,(us++ds).length=ps.length->∃k,bindArgs fd ⟨us,[]⟩=seqItems? fd.defaults >>= k/\k (some items)=pure (ps.zip (us++ds))):bE K fd ps ds:=λs us X hl=>by
 obtain⟨k,h1,h2⟩:=h us hl
 exact PySem.W.binds_K X hd ho hs h1 h2
theorem AC (m:Nat){K:ae}{fd:aM}{ps:List aP}{ds:List aa}{T:af}{o:cJ}{items:Array aa}{n:Nat}(ho:K.lookup T=some o)(h:∀us:List aa,us.length=m->∃k,bindArgs fd ⟨us,[]⟩=seqItems? fd.defaults >>= k/\k (some items)=pure (ps.zip (us++ds)))(hd:fd.defaults=.ref T:=by rfl)(hs:o.data=.seq items n:=by rfl)(hm:m+ds.length=ps.length:=by rfl):bE K fd ps ds :=
 Zm hd ho hs λus hl=>h us (by rw[aT]at hl;omega)
end L3
namespace L3
open PySem PySem.Spec L2
open PyProof.Rows hiding St
def GV (x:aP):It:=⟨λi _=>∃c,x.cps[i]?=some c,λi H v H'=>H'=H/\∃c,x.cps[i]?=some c/\v=.str ⟨#[c]⟩,λi _=>x.cps[i]?=none⟩
theorem XX {P:aW}{w:bv}{K:ae}{tg:Expr}(x:aP)(t:Tok)(it:af):Turn P w K tg (GV x) [it] it (λi h=>h.IsStrIter it (cN x) x t i) where
 mem:=by simp
 obj:=λi h st b hb=>by
  have e:b=it:=by simpa using hb
  subst e
  obtain⟨o,e,c,d⟩:=st
  exact⟨o,e,λv z=>by rw[d]at z;cases z⟩
 keep:=λi h h' st k=>by
  obtain⟨o,e,c,d⟩:=st
  exact⟨o,k it (by simp) o e,c,d⟩
 item:=by
  intro X hP hw hK hc i ai s σ H E I hf st hg
  subst hP hw hK
  obtain⟨c,hx⟩:=hg
  obtain⟨f0,f1,f2,f3,f4,f5⟩:=hf it (by simp)
  have fin:∀h':aI,h'.IsStrIter it (cN x) x t (i+1)->cm it s.heap h'->aQ (aS X.prog X.w) X.A (gK tg (.ref it) (.str ⟨#[c]⟩ s.toks)) (λ_ s2=>∃v H',Inv X ai σ H' s2/\RelV v (.str ⟨#[c]⟩ s.toks)/\(GV x).yld i H v H'/\s2.heap.IsStrIter it (cN x) x t (i+1)/\∀b∈[it],H' b=none) E { s with heap:=h',toks:=s.toks+1 }:=λh' mz sb=>by
   have I1:Inv X ai σ H { s with heap:=h',toks:=s.toks+1 }:=I.turned (t':=s.toks+1) (λb o hb e=>(sb.2 b hb).trans e) f0 f1 f3 f4 f5
   obtain⟨o,e,cc,d⟩:=id mz
   refine KW (s:={ s with heap:=h',toks:=s.toks+1 }) e cc d ?_ ⟨.str ⟨#[c]⟩,H,I1,⟨_,rfl⟩,⟨rfl,c,hx,rfl⟩,mz,λb hb=>(hf b hb).1⟩
   unfold cN
   split<;>decide
  cases ha:x.cps.all (·<128)with
  |true=>
   have e:cN x = "str_ascii_iterator":=by unfold cN;rw[ha];rfl
   rw[e]at st fin
   exact wpAny_pyNext_ascii_item st hx λh' mz sb=>⟨_,rfl,by rw[e];exact fin h' mz sb⟩
  |false=>
   have e:cN x = "str_iterator":=by unfold cN;rw[ha];rfl
   rw[e]at st fin
   exact wpAny_pyNext_wide_item st hx λh' mz sb=>⟨_,rfl,by rw[e];exact fin h' mz sb⟩
 done:=by
  intro X hP hw hK hc i ai s σ H E I hf st hg
  subst hP hw hK
  obtain⟨f0,f1,f2,f3,f4,f5⟩:=hf it (by simp)
  cases ha:x.cps.all (·<128)with
  |true=>
   have e:cN x = "str_ascii_iterator":=by unfold cN;rw[ha];rfl
   rw[e]at st
   exact wpAny_pyNext_ascii_end (I.ok.hd hc) st hg λh' eb=>⟨rfl,I.turned (t':=s.toks) (λb o hb e=>eb b o hb e) f0 f1 f3 f4 f5⟩
  |false=>
   have e:cN x = "str_iterator":=by unfold cN;rw[ha];rfl
   rw[e]at st
   exact wpAny_pyNext_wide_end (I.ok.hd hc) st hg λh' eb=>⟨rfl,I.turned (t':=s.toks) (λb o hb e=>eb b o hb e) f0 f1 f3 f4 f5⟩
 self:=λA i s Q E st h=>by
  cases ha:x.cps.all (·<128)with
  |true=>
   have e:cN x = "str_ascii_iterator":=by unfold cN;rw[ha];rfl
   rw[e]at st
   exact wpAny_pyIter_striter_ascii st h
  |false=>
   have e:cN x = "str_iterator":=by unfold cN;rw[ha];rfl
   rw[e]at st
   exact wpAny_pyIter_striter_wide st h
def IZ (tl:TE):TI:=λσ H R=>tl σ H λx H1=>∃z,x=.str z/\R (GV z) H1
section
variable {X:Cx}{ct:Nat->af}{ms:List Mo}{rk n m k:Nat}{st:bG}{rest:List bG}{a b c e tg:Expr}{f g h:EF}{p q:BF}{u w:SF}{pos:cB}
theorem zs0 {l:Expr}{tl:TE}(hl:PE X l tl):PI X tg l (IZ tl):=by
 intro ai s σ H R I h
 refine dk (hl ai s σ H _ I h) λv s1 dq=>?_
 obtain⟨x,H1,I1,r,z,e,q⟩:=dq
 subst e
 obtain⟨t,rfl⟩:=r
 refine wpAny_pyIter_strU ?_
 refine⟨s1.heap.objs.size,[s1.heap.objs.size],_,_,H1,rfl,I1.kept (t':=s1.toks) λb o e=>ap _ e,XX z t _,⟨_,ba _ rfl,rfl,rfl⟩,λb hb=>?_,q⟩
 have e:b=s1.heap.objs.size:=by simpa using hb
 subst e
 exact I1.fpOk (aH _) (I1.hok.fresh (aH _))
def pC (x:aP):List D:=x.cps.toList.map λc=>.str ⟨#[c]⟩
def Ld:D->Option (List D)
 |.str x=>some (pC x)
 |_=>none
theorem zs1 (he:XE X ct ms m e f):XI X ct ms n tg e (λρ=>(f ρ).bind Ld):=by
 obtain⟨t,pt,qt⟩:=he
 refine⟨_,zs0 pt,λF0 B F H ρ σ ds R rs e w=>?_⟩
 obtain⟨d,h1,h2⟩:=bg e
 refine qt F0 B F H ρ σ _ _ rs h1 λv F' H' x l=>?_
 cases d with
 |str z=>
  cases h2
  refine⟨z,l.str,w _ F' H' x λi F2 H2 s1 s2 s3=>⟨λd hd=>?_,λhl=>?_⟩⟩
  ·unfold pC at hd
   rw[bi]at hd
   obtain⟨c,hc,rfl⟩:=bW.mp hd
   have uV:z.cps[i]?=some c:=by simpa using hc
   refine⟨⟨c,uV⟩,λy H3 hy=>?_⟩
   obtain⟨rfl,c2,h3,rfl⟩:=hy
   rw[uV]at h3
   cases h3
   exact⟨F2,.refl s3,Al.of (.str _)⟩
  ·unfold pC at hl
   rw[aA,aZ]at hl
   exact iB hl
 |_=>cases h2
theorem XY {κ:Type}[DecidableEq κ](k:κ)(v:V):∀{ks:List κ} {vs:List V},ks.length=vs.length->putK (ks.zip vs) k v=(if ks.contains k=true then ks.zip ((ks.zip vs).map λp=>if p.1=k then v else p.2)else(ks++[k]).zip (vs++[v])):=by
 intro ks vs hl
 unfold putK
 have e:((ks.zip vs).any λkv=>decide (kv.1=k))=ks.contains k:=by
  rw[Bool.eq_iff_iff,rH,oF]
  constructor
  ·rintro⟨p,hp,he⟩
   have:=decide_eq_true_iff.mp he
   rw[←this]
   exact(gj hp).1
  ·intro hk
   obtain⟨i,hi,rfl⟩:=List.getElem_of_mem hk
   exact⟨(ks[i],vs[i]'(by omega)),dM.mpr ⟨i,by simp;omega,by simp⟩,by simp⟩
 rw[e]
 by_cases h:ks.contains k=true
 ·rw[if_pos h,if_pos h]
  clear e h
  induction ks generalizing vs with
  |nil=>simp
  |cons y ks ih=>
   cases vs with
   |nil=>simp at hl
   |cons u vs=>
    simp only[eT,bu,ih (by simpa using hl)]
    by_cases hy:y=k<;>simp[hy]
 ·rw[if_neg h,if_neg h,sV hl]
  rfl
end
end L3
namespace L3
open PySem PySem.Spec L2
open PyProof.Rows hiding St
section
variable {X:Cx}{ct:Nat->af}{ms:List Mo}{rk n m k:Nat}{st:bG}{rest:List bG}{a b c e tg:Expr}{f g h:EF}{p q:BF}{u w:SF}{pos:cB}
def pQ (i:Nat)(fj f:EF):SF:=λρ=>(f ρ).bind λd=>(eV i ρ).bind λo=>(fj ρ).bind λj=>match o with
 |.dK ks ds=>(tW j).bind λk=>if ks.length<16777216 then some (.nx (ρ.set i (some (.dK (fP ks ds k d).1 (fP ks ds k d).2))))else none
 |.dT ks ds=>(match j with
  |.tup js=>(m9 js).bind λk=>if ks.length<16777216 then some (.nx (ρ.set i (some (.dT (fP ks ds k d).1 (fP ks ds k d).2))))else none
  |_=>none)
 |_=>none
theorem Oa {κ:Type}[DecidableEq κ]{R:D->V->Prop}{d:D}{v:V}(r:R d v)(k:κ){ks:List κ}{ds:List D}{vs:List V}(hl:ks.length=vs.length)(hp:Pr R ds vs) :
  ∃us,putK (ks.zip vs) k v=(fP ks ds k d).1.zip us/\(fP ks ds k d).1.length=us.length/\Pr R (fP ks ds k d).2 us:=by
 rw[XY k v hl]
 unfold fP
 by_cases h:ks.contains k=true
 ·rw[if_pos h,if_pos h]
  refine⟨_,rfl,by simp[hl],?_⟩
  clear h
  induction ks generalizing ds vs with
  |nil=>simp;exact .nil
  |cons y ks ih=>
   cases hp with
   |nil=>simp at hl
   |cons h t=>
    simp only[eT,bu]
    refine .cons ?_ (ih (by simpa using hl) t)
    by_cases hy:y=k
    ·rw[if_pos hy,if_pos hy];exact r
    ·rw[if_neg hy,if_neg hy];exact h
 ·rw[if_neg h,if_neg h]
  exact⟨_,rfl,by simp[hl],hp.append (.cons r .nil)⟩
theorem OP (i:Nat){x:aP}{j:Expr}{p1 jM:cB}{fj:EF}(hm:ms[i]?=some (.ow 1))(hu:X.A.units+1<gR)(hj:XE X ct ms 0 j fj)(he:XE X ct ms 0 e f)(hN:X.N[i]?=some x:=by rfl)(hv:pJ X.env.scope x:=by first|exact Or.inl rfl|exact Or.inr (Or.inl rfl)|exact Or.inr (Or.inr rfl))(hd:(x==("__debug__":aP))=false:=by decide)
  (iU:(x==("__classdict__":aP))=false:=by decide) (hs:d8 e (some (.Subscript (.Name x p1) j jM)) pos.line X.env=pure false:=by rfl) :
  XS X ct ms rk (.Assign [.Subscript (.Name x p1) j jM] e pos) (pQ i fj f):=by
 obtain⟨t,pt,qt⟩:=he
 obtain⟨tj,Eo,Er⟩:=hj
 refine⟨_,Yh hu (jz hN hv hd iU) Eo pt hs,λF0 B F H ρ σ o E rs e z=>?_⟩
 obtain⟨d,g1,g2⟩:=bg e
 obtain⟨d1,uS,g3,g4,g5⟩:=dZ g2
 refine qt F0 B F H ρ σ d _ rs g1 λv0 F1 H1 x1 l0=>?_
 have lu:=rs.ext x1
 obtain⟨f1,fr,n1,b1,dj,i4,cf,put⟩:=lu.put (F':=F) (H':=H) hm
 obtain⟨v,hσ,ow⟩:=i4 d1 (x6 g3)
 refine⟨v,hσ,Er F0 B F1 H1 ρ σ uS _ lu g4 λvj F2 H2 x2 lj=>?_⟩
 have Mx:Dt X.K ct F2 d v0:=Dt.mono x2.ff l0
 cases d1 with
 |dK ks ds=>
  dsimp only at g5
  obtain⟨key,g6,g7⟩:=bg g5
  by_cases hz:ks.length<16777216
  ·rw[if_pos hz]at g7
   cases g7
   obtain⟨ad,vs,rl,rfl,rfl,hF,hH,hl,ol⟩:=ow.dK_inv
   have hA:=x2.hh _ _ hH
   have fA:F2 ad=none:=x2.nf ad _ hH nofun hF
   have e0:=ol.nil0
   subst e0
   have hp:Pr (Dt X.K ct F2) ds vs:=ol.pr λ_ _ _ _ q=>q.1.mono x2.ff
   obtain⟨us,Ar,FO,IV⟩:=Oa Mx key hl hp
   have hk:=KP g6 lj
   subst hk
   refine⟨ad,_,rfl,n6.k hA (by rw[eQ,←hl,kW,bC];exact hz),?_⟩
   rw[Ar]
   refine z σ F2 _ (lu.change hm x2 hσ b1 dj cf put ak fA (.inr (.dK fA yr FO (dY.ofPr (IV.mono λ_ _ q=>⟨q,rfl⟩)))) (fn:=[ad]) (by simp) ?_)
   intro a ha
   rw[aN]at ha
   subst ha
   exact .inl ak
  ·rw[if_neg hz]at g7;cases g7
 |dT ks ds=>
  cases uS with
  |tup js=>
   dsimp only at g5
   obtain⟨key,g6,g7⟩:=bg g5
   by_cases hz:ks.length<16777216
   ·rw[if_pos hz]at g7
    cases g7
    obtain⟨ad,vs,rl,rfl,rfl,hF,hH,hl,ol⟩:=ow.dT_inv
    have hA:=x2.hh _ _ hH
    have fA:F2 ad=none:=x2.nf ad _ hH nofun hF
    have e0:=ol.nil0
    subst e0
    have hp:Pr (Dt X.K ct F2) ds vs:=ol.pr λ_ _ _ _ q=>q.1.mono x2.ff
    obtain⟨us,Ar,FO,IV⟩:=Oa Mx key hl hp
    obtain⟨bd,ws,rfl,hb,IP⟩:=lj.tup x2.fh
    have hk:=O3 g6 IP
    subst hk
    refine⟨ad,_,rfl,n6.t hA hb (by rw[eQ,←hl,kW,bC];exact hz),?_⟩
    rw[Ar]
    refine z σ F2 _ (lu.change hm x2 hσ b1 dj cf put ak fA (.inr (.dT fA yr FO (dY.ofPr (IV.mono λ_ _ q=>⟨q,rfl⟩)))) (fn:=[ad]) (by simp) ?_)
    intro a ha
    rw[aN]at ha
    subst ha
    exact .inl ak
   ·rw[if_neg hz]at g7;cases g7
  |_=>cases g5
 |_=>cases g5
def Et (K:ae):V->V->Hp->VK->Prop:=λo i H Q=>∃p xs k v,o=.ref p/\i=.int k/\eR K H p xs/\atI xs k=some v/\Q v H
theorem WL:AV X (Et X.K):=by
 intro ai s σ H o i ov iv Q I ro ri h
 obtain⟨p,xs,k,z,rfl,rfl,hq,he,q⟩:=h
 cases ro
 obtain⟨t,rfl⟩:=ri
 obtain⟨bT,r,pl,hz⟩:=I.list hq
 obtain⟨j,h1,h2,h3,h4,h5⟩:=Gy he
 obtain⟨w,ew,oz⟩:=r.get h2
 have hl:=r.length
 have hn:=iV
 have fin:EP X ai σ Q w s:=⟨z,H,I,oz,q⟩
 by_cases h0:0<=k
 ·have hj:k.toNat=j:=by
   rw[nr h0 h5]at h1
   exact Option.some.inj h1
  exact wpAny_getItem_list pl.isList h0 (by omega) (by rw[hj];simpa using ew) fin
 ·have hj:(k+(bT.toArray.size:Int)).toNat=j:=by
   rw[mw (by omega) h4]at h1
   rw[aK,←hl]
   exact Option.some.inj h1
  exact wpAny_getItem_list_neg pl.isList (by omega) (by rw[aK]<;>omega) (by omega) (by rw[hj];simpa using ew) fin
def oA (i:Nat)(fj:EF)(gi:Int->Int->Int)(f:EF):SF:=λρ=>(eV i ρ).bind λo=>(fj ρ).bind λj=>(f ρ).bind λy=>match o,j with
 |.lst ds,.int z=>(atI ds z).bind λx=>(match x,y with
  |.int a,.int b=>(mj ds z (.int (gi a b))).bind λqH=>some (.nx (ρ.set i (some (.lst qH))))
  |_,_=>none)
 |_,_=>none
theorem OQ (i:Nat){x:aP}{op:i6}{j:Expr}{p1 jM:cB}{fj:EF}{gi:Int->Int->Int}(ho:Ai X op (FT gi))(hm:ms[i]?=some (.ow 1))(hj:XE X ct ms n j fj)(he:XE X ct ms m e f)(hN:X.N[i]?=some x:=by rfl)(hv:pJ X.env.scope x:=by first|exact Or.inl rfl|exact Or.inr (Or.inl rfl)|exact Or.inr (Or.inr rfl))(hd:(x==("__debug__":aP))=false:=by decide)
  (iU:(x==("__classdict__":aP))=false:=by decide) (ha:∀ov iv new,augStore j ov iv new=(do d6 [new,ov,iv] (nZ ov iv new);release [new,ov,iv] [];pure .next):=by intros;rfl) :
  XS X ct ms rk (.AugAssign (.Subscript (.Name x p1) j jM) op e pos) (oA i fj gi f):=by
 obtain⟨t,pt,qt⟩:=he
 obtain⟨tj,Eo,Er⟩:=hj
 refine⟨_,Ys (jz hN hv hd iU) Eo WL pt ho Oi ha,λF0 B F H ρ σ o E rs e z=>?_⟩
 obtain⟨d1,uS,g3,g4,g5⟩:=dZ e
 obtain⟨d2,g6,g7⟩:=bg g5
 obtain⟨f1,fr,n1,b1,dj,i4,cf,put⟩:=rs.put (F':=F) (H':=H) hm
 obtain⟨v,hσ,ow⟩:=i4 d1 (x6 g3)
 refine⟨v,hσ,Er F0 B F H ρ σ uS _ rs g4 λvj F2 H2 x2 lj=>?_⟩
 cases d1<;>try (cases g7;done)
 rename_i ds
 cases uS<;>try (cases g7;done)
 rename_i zi
 ·skip
  dsimp only at g7
  obtain⟨da,g8,g9⟩:=bg g7
  obtain⟨ad,vs,rl,rfl,rfl,hF,hH,ol⟩:=ow.lst_inv
  have hA:H2 ad=some (.lst vs):=x2.hh _ _ hH
  have hp:Pr (Al X.K ct F2 H2 0) ds vs:=ol.pr λ_ _ _ _ q=>q.1.mono x2.ff
  obtain⟨va,Ru,Rv⟩:=hp.atI g8
  refine⟨ad,vs,zi,va,rfl,lj.int,eR.of hA,Ru,qt F0 B F2 H2 ρ σ d2 _ (rs.ext x2) g6 λvy F3 H3 x3 ly=>?_⟩
  have lz:=x2.trans x3
  cases da<;>try (cases g9;done)
  rename_i ia
  cases d2<;>try (cases g9;done)
  rename_i ib
  ·skip
   dsimp only at g9
   obtain⟨qH,Rc,Re⟩:=bg g9
   cases Re
   obtain⟨jn,Rf,Rg⟩:=bg Rc
   cases Rg
   have Rl:H3 ad=some (.lst vs):=x3.hh _ _ hA
   have fA:F3 ad=none:=lz.nf ad _ hH nofun hF
   have e0:=ol.nil0
   subst e0
   refine⟨ia,ib,Rv.int,ly.int,ad,vs,zi,jn,rfl,lj.int,Rl,by rw[←ol.length];exact Rf,?_⟩
   refine z σ F3 _ (rs.change hm lz hσ b1 dj cf put ak fA (.inr (.lst fA yr (dY.set0 ⟨.int _,rfl⟩ (λ_ _ _ q=>q.2) jn (ol.mono λ_ _ _ _ q=>⟨q.1.mono lz.ff,q.2⟩)))) (fn:=[ad]) (by simp) ?_)
   intro a ha
   rw[aN]at ha
   subst ha
   exact .inl ak
structure Ic (K:ae)(C:af):Prop where
 cl:lc K C
 ha:aq K (.ref C) "__class__"=some (some (.builtin "object.__class__"))
 hn:dg K (.builtin "object.__class__") "__get__"=some (some (.builtin "getset_descriptor.__get__"))
 ht:iu K (.builtin "object.__class__")=some true
 hm:dA K C (.type "object")=some true
def su (all sub:List Nat):D->Option D
 |.obj c _ _=>if all.contains c=true then some (.bl (sub.contains c))else none
 |_=>none
theorem OR {C:af}{x:aP}{all sub:List Nat}{pp p2:cB}(hI:∀c∈all,Ic X.K (ct c)/\bB X.K (.ref (ct c)) (.ref C)=some (sub.contains c))(hm:X.mg "isinstance"=none)(rB:X.mg x=some (.ref C))(he:XE X ct ms n e f)(hg:Gl X "isinstance":=by rfl)(mX:Gl X x:=by rfl)(hd2:(x==("__debug__":aP))=false:=by decide)
  (vH:ay [e,.Name x p2] X.env=(false,bS e X.env)::ay [.Name x p2] X.env:=by rfl) (oQ:ay [.Name x p2] X.env=(false,bS (.Name x p2) X.env)::ay [] X.env:=by rfl) (fT:(cL pos (ay [.Name x p2] X.env)).any (·.1)=false:=by rfl) :
  XE X ct ms k (.Call (.Name "isinstance" pp) [e,.Name x p2] [] pos) (e1 (su all sub) f):=by
 obtain⟨t,pt,qt⟩:=he
 refine⟨_,Gm WH hg hm Nf (ul pt (ul (OE (v:=.ref C) mX rB rfl hd2) vX oQ) vH) (by decide) (by decide) vH fT,λF0 B F H ρ σ d Q rs e w=>?_⟩
 obtain⟨d1,h1,h2⟩:=bg e
 refine qt F0 B F H ρ σ d1 _ rs h1 λv F' H' x l=>?_
 cases d1 with
 |obj c ns ds=>
  unfold su at h2
  dsimp only at h2
  by_cases hc:all.contains c=true
  ·rw[if_pos hc]at h2
   cases h2
   obtain⟨a,dx,vs,rfl,ha,_⟩:=l.obj x.fh
   obtain⟨ic,Sk⟩:=hI c (by simpa using hc)
   exact⟨_,C,_,_,rfl,.ins ha ic.cl ic.ha ic.hn ic.ht ic.hm,Sk,w _ F' H' x (Al.of (.bl _))⟩
  ·rw[if_neg hc]at h2;cases h2
 |_=>cases h2
end
end L3
namespace L3
open PySem PySem.Spec L2
section
variable {K:ae}{ct:Nat->af}{n m k:Nat}
end
end L3
namespace PySem
section
variable {prog:aW}{w:bv}{A:bo}{R:Result->ah->Prop}{I:af}{fp wr:List af}{n:Nat}{P:Nat->aa->Prop}{St:Nat->aI->Prop}{kw:List (aP×aa)}
end
section
variable {prog:aW}{w:bv}{A:bo}{E:aa->ah->Prop}{s:ah}
end
end PySem
namespace L3
open PySem PySem.Spec L2
section
variable {X:Cx}{ct:Nat->af}{ms:List Mo}{e b:Expr}{f g:EF}{n m k:Nat}
end
end L3
namespace L3
open PySem PySem.Spec L2
open PyProof.Rows hiding St
section
variable {X:Cx}{ct:Nat->af}{ms:List Mo}{rk n m k:Nat}{a b c e o:Expr}{f g h:EF}{pos:cB}
end
end L3
namespace L2
open PySem PyProof.Rows
theorem XZ {X:Cx}{ai:List (af×cJ)}{σ:St}{H:Hp}{s:ah}{QV:VK}{use:Option (aa->ip Unit)}{Q0:aa->ah->Prop}{jB iter tg:Expr}{ifs:List Expr}{scope:fF}{pos pz:cB}{N:List aP}{own:Nat}{cap:List Nat}{wi:TI}{g:TG}{tt:TT}{te:TE}(B:kn X scope N own cap)(hc:X.calm=true)(hi:PI X tg iter wi)
    (kg:fH own g)
    (hg:∀cl C fp s₀ H₀,PG (hV X scope cl N C fp s₀ H₀) tg g) (ht:∀cl C fp s₀ H₀,uO (hV X scope cl N C fp s₀ H₀) ifs tt) (he:∀cl C fp s₀ H₀,PE (hV X scope cl N C fp s₀ H₀) jB te)
    (hs:∀x,cW iter X.env x=pure x) (I:Inv X ai σ H s) (h:pR wi own cap g tt te σ H QV)
    (fin:∀(D C:af) (H5:Hp) (s6:ah) (r:Flow),QV (.ref D) H5->Inv X ai σ H5 s6->ko X ai H5 C->(∃m,s6.heap.Ns C m)->oO (aS X.prog X.w) X.A X.xe use Q0 (.ref D) C (.ok r) s6) :
    aQ (aS X.prog X.w) X.A (comprehension (.ListComp jB [⟨tg,iter,ifs,0⟩] scope pos) scope X.env pz (newList []) false (bS iter X.env) use) Q0 X.xe s:=by
  obtain⟨cl,uW,c1,c2,_⟩:=ql (env:=X.env) scope.names [] (λx hx hf=>I.ok.has x.1 (B.free x hx hf)) (λy c e=>by simp at e)
  have sd:oM scope X.env=pure cl:=by
    have e:oM scope X.env=(forIn scope.names ([]:List (aP×af)) (λ(x:aP×br) (cs:List (aP×af))=>if(x.2==br.free)=true then do let a ← cellOf X.env x.1;pure (ForInStep.yield ((x.1,a)::cs))else pure (ForInStep.yield cs)) >>= pure:ip (List (aP×af))):=rfl
    rw[e,uW]
    rfl
  refine wpAny_comprehension_free (use:=use) rfl hs sd B.kind B.locs (dk (hi ai s σ H _ I h) λv s1 h1=>dk h1 λFU s2 h2=>?_)
  obtain⟨it,fp,tn,J,H2,e,I2,T,tF,f2,W0⟩:=h2
  subst e
  obtain⟨W,⟨m0,w0⟩,nM⟩:=W0 s2.heap.objs.size (I2.hok.fresh (aH _))
  refine dS ?_
  have I3:Inv X ai σ (upd H2 s2.heap.objs.size (.lst [])) { s2 with heap:=s2.heap.push { cls:=.type "list",data:=.seq ([]:List aa).toArray } }:=I2.lnew .nil (cH _)
  generalize CZ:({ s2 with heap:=s2.heap.push { cls:=.type "list",data:=.seq ([]:List aa).toArray } }:ah)=s3 at I3
  have k3:∀b o,s2.heap.get? b=some o->s3.heap.get? b=some o:=λb o e=>by rw[←CZ];exact ap _ e
  have z3:s3.heap.objs.size=s2.heap.objs.size+1:=by rw[←CZ];exact dD _ _
  have pd:∀b∈fp,b<s2.heap.objs.size:=λb hb=>by
    obtain⟨o,e,_⟩:=T.obj _ _ tF b hb
    exact aG e
  have nH:∀b∈fp,b≠s2.heap.objs.size:=λb hb=>bj (pd b hb)
  have f3:∀b∈fp,ko X ai (upd H2 s2.heap.objs.size (.lst [])) b:=λb hb=>⟨by rw[zn (nH b hb)];exact(f2 b hb).1,(f2 b hb).2⟩
  have Gg:tn 0 s3.heap:=T.keep _ _ _ tF λb _ o e=>k3 b o e
  show aQ _ _ (kH scope X.env.globals cl [] X.env.qual none .none (some X.env)) _ _ _
  refine Nl λh₁ kk yO yH=>?_
  have IB:=NU (t':=s3.toks) B I3 c1 c2 f3 (λb hb=>by rw[z3];exact cG (pd b hb)) yO kk yH
  generalize cellsFrom (s3.heap.objs.size+1) scope.names cl=cl at IB ⊢
  generalize IS:({ s3 with heap:=h₁,toks:=s3.toks }:ah)=s4 at IB
  have ER:tn 0 s4.heap:=T.keep _ _ _ Gg λb _ o e=>by rw[←IS];exact kk b o e
  show fR (aS X.prog X.w) X.A (.compStart (.ListComp jB [⟨tg,iter,ifs,0⟩] scope pos) 0 (.ref it) (.ref s2.heap.objs.size) (oN scope cl s3.heap.objs.size X.env))
      (oO (aS X.prog X.w) X.A X.xe use Q0 (.ref s2.heap.objs.size) s3.heap.objs.size) s4
  have mn:∀{H':Hp},(∀b∈fp,H' b=none)->∀b∈fp,ko (hV X scope cl N s3.heap.objs.size fp s3 (upd H2 s2.heap.objs.size (.lst []))) [] H' b:=λhn b hb=>
    ⟨hn b hb,bj (by show b<s3.heap.objs.size;rw[z3];exact cG (pd b hb)),IB.ok.exfs b hb,.inl hb,λx c e=>(IB.ok.exf b hb).2 x c e,λp hp=>(nomatch hp)⟩
  have loop:fR (aS X.prog X.w) X.A (.compLoop (.ListComp jB [⟨tg,iter,ifs,0⟩] scope pos) 0 (.ref it) (.ref s2.heap.objs.size) (oN scope cl s3.heap.objs.size X.env))
      (oO (aS X.prog X.w) X.A X.xe use Q0 (.ref s2.heap.objs.size) s3.heap.objs.size) s4:=by
    refine Nk (λn s'=>∃i ys H',Inv (hV X scope cl N s3.heap.objs.size fp s3 (upd H2 s2.heap.objs.size (.lst []))) [] (aJ own none++fG σ cap) H' s'/\tn i s'.heap/\(∀b∈fp,H' b=none)/\W i n ys H') ?_ m0
      ⟨0,[],_,IB,ER,λb hb=>(f3 b hb).1,w0⟩
    rintro n s5 ⟨i,ys,H5,I5,t7,yB,w5⟩
    obtain⟨hD,uZ⟩:=nM i n ys H5 w5
    rcases uZ with⟨stop,qn⟩|⟨go,iC,step⟩
    · refine dk (T.done (hV X scope cl N s3.heap.objs.size fp s3 (upd H2 s2.heap.objs.size (.lst []))) rfl rfl rfl hc i [] s5 _ H5 (λ_ _=>False) I5 (mn yB) t7 stop) λr s6 dq=>?_
      obtain⟨hr,I6⟩:=dq
      subst hr
      obtain⟨m,hm,_⟩:=id I6.loc
      refine fin s2.heap.objs.size s3.heap.objs.size H5 s6 _ qn ?_ (I3.fpOk (aH _) I6.free) ⟨m,hm⟩
      have sb:cm s3.heap.objs.size s6.heap s6.heap:=⟨rfl,λ_ _=>rfl⟩
      have U:=I6.base
      have nC:∀b o,s3.heap.get? b=some o->b≠s3.heap.objs.size:=λb o e=>bj (aG e)
      have nT:∀b o,H5 b=some o->b≠s3.heap.objs.size:=λb o e z=>by
        have q:H5 s3.heap.objs.size=none:=I6.free
        rw[z,q]at e
        cases e
      refine I3.call' (ch:=fp) I6.os ?_ (λa o e=>(I6.hok a o e).stay (λb u hb q=>sb.extBut b u ?_ q) (λ_ q=>q) λ_ _ q=>q) I6.bare (λb hb=>⟨(f3 b hb).2.2.2.1,(f3 b hb).2.1,(f3 b hb).2.2.2.2.1,(f3 b hb).2.2.2.2.2⟩)
      · exact{
          keep:=λb o e z hb he=>sb.extBut b o (nC b o e) (U.keep b o e z hb he)
          slot:=λb o e z hb he=>by
            obtain⟨sl,q⟩:=U.slot b o e z hb he
            exact⟨sl,sb.extBut b _ (nC b o e) q⟩
          free:=U.free
          there:=λb o e he=>by
            obtain⟨o',q⟩:=U.there b o e he
            exact⟨o',sb.extBut b o' (nC b o e) q⟩
          tups:=U.tups
          frzs:=U.frzs
          tbls:=U.tbls }
      · rcases hb with rfl|hb
        · exact nT _ _ e
        · exact nT _ _ hb
    · refine dk (T.item (hV X scope cl N s3.heap.objs.size fp s3 (upd H2 s2.heap.objs.size (.lst []))) rfl rfl rfl hc i [] s5 _ H5 (λ_ _=>False) I5 (mn yB) t7 go) λr s6 dq=>?_
      obtain⟨u,hr,h6⟩:=dq
      subst hr
      refine dk h6 λ_ s7 dq=>?_
      obtain⟨x,H7,I7,r7,y7,zO,HS⟩:=dq
      have GR:=I7.pinned (mn HS) (T.obj _ _ zO)
      refine dk (hg cl s3.heap.objs.size fp s3 _ _ s7 _ H7 x u _ GR r7 (kg _ _ _ _ (step x H7 y7))) λ_ s8 dq=>?_
      obtain⟨σ8,H8,I8,q8,l8,p8⟩:=dq
      have back:∀{H9:Hp} {s9:ah},Inv (hV X scope cl N s3.heap.objs.size fp s3 (upd H2 s2.heap.objs.size (.lst []))) ([]++kO fp s7.heap) σ8 H9 s9 ->
          Inv (hV X scope cl N s3.heap.objs.size fp s3 (upd H2 s2.heap.objs.size (.lst []))) [] (aJ own none++fG σ cap) H9 s9/\tn (i+1) s9.heap/\∀b∈fp,H9 b=none:=λ{H9 s9} I9=>by
        refine⟨(I9.unpinned).weak l8.symm (λj v e=>?_),T.keep _ _ _ zO λb hb o e=>(I9.pin (b,o) (aB _ (aB _ (uj hb e)))).1,λb hb=>?_⟩
        · by_cases hj:j<own
          · rw[bO (by rw[cX];exact hj),eX,if_pos hj]at e
            cases e
          · rw[p8 j (by omega)];exact e
        · obtain⟨o,e,d⟩:=T.obj _ _ zO b hb
          exact(I9.pin (b,o) (aB _ (aB _ (uj hb e)))).2.1
      refine dk (ht cl s3.heap.objs.size fp s3 _ _ s8 σ8 H8 _ I8 q8) λok s9 dq=>?_
      obtain⟨H9,I9,q9⟩:=dq
      cases ok with
      |false=>
        rw[if_neg aO]
        rw[if_neg aO]at q9
        obtain⟨m',yM,w'⟩:=q9
        obtain⟨b1,b2,b3⟩:=back I9
        exact⟨m',yM,i+1,ys,H9,b1,b2,b3,w'⟩
      |true=>
        rw[if_pos rfl]
        rw[if_pos rfl]at q9
        refine dk (he cl s3.heap.objs.size fp s3 _ _ s9 σ8 H9 _ I9 q9) λuy Jv dq=>?_
        obtain⟨y,AM,GP,r10,yD,m',yM,w'⟩:=dq
        refine dk (J2 _ Jv σ8 AM (.ref s2.heap.objs.size) [y] (.ref s2.heap.objs.size) [uy] (λ_ AN=>AN=upd AM s2.heap.objs.size (.lst (ys++[y]))) GP rfl (.cons r10 .nil) ⟨_,ys,y,rfl,rfl,yD,iC,rfl⟩) λ_ T4 dq=>?_
        obtain⟨_,AN,GQ,_,Hu⟩:=dq
        subst Hu
        obtain⟨b1,b2,b3⟩:=back GQ
        exact⟨m',yM,i+1,ys++[y],_,b1,b2,b3,w'⟩
  exact codeAny_compStart_list loop (T.self X.A 0 s4 _ _ ER loop)
theorem Wq {X:Cx}{i:Nat}{x:aP}{pos' sO:cB}{jB iter tg:Expr}{ifs:List Expr}{scope:fF}{pos:cB}{N:List aP}{own:Nat}{cap:List Nat}{wi:TI}{g:TG}{tt:TT}{te:TE}(B:kn X scope N own cap)(hc:X.calm=true)(hi:PI X tg iter wi)
  (kg:fH own g)
  (hg:∀cl C fp s₀ H₀,PG (hV X scope cl N C fp s₀ H₀) tg g) (ht:∀cl C fp s₀ H₀,uO (hV X scope cl N C fp s₀ H₀) ifs tt) (he:∀cl C fp s₀ H₀,PE (hV X scope cl N C fp s₀ H₀) jB te)
  (hN:X.N.Nodup) (vA:X.N[i]?=some x) (hx:Loc X.env.scope x) (yU:d8 (.ListComp jB [⟨tg,iter,ifs,0⟩] scope pos) (some (.Name x pos')) sO.line X.env=pure true)
  (hs:∀x,cW iter X.env x=pure x:=by intro _;rfl) (hf:X.fn x=true\/X.env.scope.names.lookup x=some .local:=by first|exact .inl rfl|exact .inr rfl|assumption) :
  PS X (.Assign [.Name x pos'] (.ListComp jB [⟨tg,iter,ifs,0⟩] scope pos) sO) (zP (pR wi own cap g tt te) (pM i)):=by
 intro ai s σ H D I h
 rw[exec_Assign_Name_used _ _ _ _ yU]
 refine ao (iL (ao ?_))
 show aQ _ X.A (do let _ ← comprehension (.ListComp jB [⟨tg,iter,ifs,0⟩] scope pos) scope X.env _ (newList []) false (bS iter X.env) (some (hG (.Name x pos') X.env))) _ _ s
 refine ao (dX (XZ (use:=some (hG (.Name x pos') X.env)) (Q0:=λ_ s'=>∃σ' H',Inv X ai σ' H' s'/\D.nx σ' H') B hc hi kg hg ht he hs I h λDa C H5 s6 r q I6 fo hm=>?_) (λ_ s' hq=>aw (aw hq)) λ_ _ e=>e)
 show aQ _ X.A (hG (.Name x pos') X.env (.ref Da)) _ _ _
 refine wpAny_assign_Name (NN (v:=.ref Da) I6 hN vA hx rfl (λs7 I7 vI=>?_) hf)
 obtain⟨m,hm⟩:=hm
 obtain⟨a,sb,ha⟩:=vI
 obtain⟨f0,f1,f2,f3,f4,f5⟩:=fo
 have nH:C≠a:=by
  rcases ha with rfl|ha
  ·exact f1
  ·exactλz=>f4 x a ha z.symm
 refine⟨m,hm.sameBut sb nH,λh' T6=>⟨_,H5,I7.turned (t':=s7.toks) (it:=C) (λb o hb e=>T6.extBut b o hb e) f0 f1 f3 f4 f5,q⟩⟩
end L2
namespace L3
open PySem PySem.Spec L2
open PyProof.Rows hiding St
section
variable {X:Cx}{ct:Nat->af}{ms:List Mo}{rk n m k:Nat}{a b c e o:Expr}{f g h:EF}{pos:cB}
theorem uk {om:List Mo}{jB iter tg:Expr}{ifs:List Expr}{scope:fF}{N:List aP}{own:Nat}{cap:List Nat}{fi:Env->Option (List D)}{gg:D->Env->Option Env}{p:BF}{i:Nat}{x:aP}{pos' sO:cB}
  (hm:ms[i]?=some (.ow k)) (hN:X.N.Nodup) (vA:X.N[i]?=some x) (hx:Loc X.env.scope x)
  (B:kn X scope N own cap) (hc:X.calm=true) (ho:om.length=own) (jI:∀i∈cap,i<ms.length) (hi:uQ X ct ms n tg iter fi)
  (hg:∀cl C fp s₀ H₀,sY (hV X scope cl N C fp s₀ H₀) ct (om++gx ms cap) own n tg gg) (ht:∀cl C fp s₀ H₀,wN (hV X scope cl N C fp s₀ H₀) ct (om++gx ms cap) ifs p) (he:∀cl C fp s₀ H₀,XO (hV X scope cl N C fp s₀ H₀) ct (om++gx ms cap) (k-1) jB f)
  (yU:d8 (.ListComp jB [⟨tg,iter,ifs,0⟩] scope pos) (some (.Name x pos')) sO.line X.env=pure true:=by rfl)
  (hs:∀x,cW iter X.env x=pure x:=by intro _;rfl) (hf:X.fn x=true\/X.env.scope.names.lookup x=some .local:=by first|exact .inl rfl|exact .inr rfl|assumption) :
  XS X ct ms rk (.Assign [.Name x pos'] (.ListComp jB [⟨tg,iter,ifs,0⟩] scope pos) sO) (sSet i (eG fi own cap gg p f)):=by
 obtain⟨wi,g,tt,te,pi,kg,pg,pt,pe,q⟩:=Ov (k:=k-1) (pos:=pos) B hc ho jI hi hg ht he
 refine⟨_,Wq B hc pi kg pg pt pe hN vA hx yU hs hf,λF0 B F H ρ σ o E rs e w=>?_⟩
 obtain⟨d,h1,h2⟩:=bg e
 cases h2
 cases k with
 |succ k=>exact q F0 B F H ρ σ d _ rs h1 λv F' H' fp x l nd hf=>w _ F' H' (rs.set hm x l nd hf)
 |zero=>
  refine q F0 B F H ρ σ d _ rs h1 λv F' H' fp x l nd hf=>?_
  obtain⟨F2,x2,l2⟩:=l.freeze x hf
  exact w _ F2 H' (rs.set hm x2 (Ow.zero l2) bz λa z=>by cases z)
theorem AD {i:Nat}{x:aP}{pos':cB}(hm:ms[i]?=some (.ow k))(hN:X.N[i]?=some x:=by rfl)(hv:pJ X.env.scope x:=by first|exact Or.inl rfl|exact Or.inr (Or.inl rfl)|exact Or.inr (Or.inr rfl))(hd:(x==("__debug__":aP))=false:=by decide)
  (iU:(x==("__classdict__":aP))=false:=by decide):XS X ct ms 0 (.Return (some (.Name x pos')) pos) (sRet (eV i)):=by
 refine⟨_,GC (jz hN hv hd iU),λF0 B F H ρ σ o E rs e w=>?_⟩
 obtain⟨d,h1,h2⟩:=bg e
 cases h2
 obtain⟨fp,sl,nd,hb⟩:=rs.sl
 obtain⟨f1,fr,i1,i2,i3,i4,i5⟩:=sl.put hm
 obtain⟨v,vK,l⟩:=i4 d (x6 h1)
 obtain⟨F',x,l2⟩:=l.freeze (⟨rs.f0,rs.bh,rs.fh,rs.nf⟩:fL F0 B F H) (λz hz=>hb z (i1 z hz))
 exact⟨v,vK,w v F' H [] x.ff x.hh x.fh x.nf (Ow.zero l2) bz λz hz=>by cases hz⟩
theorem zs2 (hu:X.A.units+1<gR)(ha:XE X ct ms n a f)(hb:XE X ct ms m b g)(hm:dF .In b=false):XT X ct ms (.Compare a [.In] [b] pos) (tb λρ=>(f ρ).bind λx=>(g ρ).bind λy=>(ky y x).bind λr=>some (.bl r.isSome)):=by
 obtain⟨ta,tb',pa,pb,q⟩:=ha.bin hb
 refine⟨_,ZS (ZM hu pa pb) hm,λF0 B F H ρ σ t Q rs e w=>?_⟩
 obtain⟨d0,h0,h9⟩:=bg e
 obtain⟨d1,d2,h1,h2,h3⟩:=dZ h0
 obtain⟨r,h4,h5⟩:=bg h3
 cases h5
 cases h9
 refine q F0 B F H ρ σ d1 d2 _ rs h1 h2 λx y F' H' x1 l1 l2=>?_
 obtain⟨a,o,rfl,g,_,h⟩:=KF (r:=r) x1.fh l2 l1 h4
 refine⟨a,o,rfl,g,?_⟩
 cases r with
 |none=>rw[h.none_of];exact⟨_,rfl,w F' H' x1⟩
 |some d=>obtain⟨u,rfl,FN⟩:=h.some_of;exact⟨_,rfl,w F' H' x1⟩
end
end L3
namespace L2
open PySem PyProof.Rows
end L2
namespace L3
open PySem PySem.Spec L2
open PyProof.Rows hiding St
section
variable {X:Cx}{ct:Nat->af}{ms:List Mo}{rk n m k:Nat}{st:bG}{rest:List bG}{a b c e tg:Expr}{f g h:EF}{p q:BF}{u w:SF}{pos:cB}
end
end L3
namespace L3
open PySem PySem.Spec L2
open PyProof.Rows hiding St
theorem dY.upd {R R':D->V->List af->Prop}{d:D}{ds:List D}{vs:List V}{fp:List af}{i:Nat}(h:dY R ds vs fp)(e:ds[i]?=some d):∃v f,vs[i]?=some v/\R d v f/\(∀a∈f,a∈fp) /\
  ∀d',R' d' v f->fp.Nodup->(∀d v f',(∀a∈f',a∈fp)->(∀a∈f',a∉f)->R d v f'->R' d v f')->dY R' (ds.set i d') vs fp:=by
 induction h generalizing i with
 |nil=>cases e
 |@cons _ _ _ _ f g h t ih=>
  cases i with
  |zero=>
   cases e
   refine⟨_,f,rfl,h,λa ha=>bx _ ha,λd' hd nd ot=>?_⟩
   rw[bn]at nd
   exact .cons hd (t.mono λd v f' hi r=>ot d v f' (λa ha=>aB _ (hi a ha)) (λa ha hf=>nd.2.2 a hf a (hi a ha) rfl) r)
  |succ i=>
   obtain⟨v,f2,h1,h2,h3,h4⟩:=ih (i:=i) e
   refine⟨v,f2,h1,h2,λa ha=>aB _ (h3 a ha),λd' hd nd ot=>?_⟩
   rw[bn]at nd
   exact .cons (ot _ _ f (λa ha=>bx _ ha) (λa ha hf=>nd.2.2 a ha a (h3 a hf) rfl) h) (h4 d' hd nd.2.1 λd v f' hi hn r=>ot d v f' (λa ha=>aB _ (hi a ha)) hn r)
section
variable {X:Cx}{ct:Nat->af}{ms:List Mo}{rk n m k:Nat}{st:bG}{rest:List bG}{a b c e tg:Expr}{f g h:EF}{p q:BF}{u w:SF}{pos:cB}
def pA (i:Nat)(fj fl f:EF):SF:=λρ=>(f ρ).bind λd=>(eV i ρ).bind λo=>(fj ρ).bind λj=>(fl ρ).bind λl=>match o,j,l with
 |.lst rs,.int y,.int z=>(ixN rs.length y).bind λy'=>(rs[y']?).bind λr=>(match r with
  |.lst ds=>(mj ds z d).bind λqH=>some (.nx (ρ.set i (some (.lst (rs.set y' (.lst qH))))))
  |_=>none)
 |_,_,_=>none
theorem Xk (i:Nat){x:aP}{j l:Expr}{p1 p2 jM:cB}{fj fl:EF}(hm:ms[i]?=some (.ow 2))(hj:XE X ct ms n j fj)(hl:XE X ct ms m l fl)(hp:lM j)(he:XE X ct ms 0 e f)(hN:X.N[i]?=some x:=by rfl)(hv:pJ X.env.scope x:=by first|exact Or.inl rfl|exact Or.inr (Or.inl rfl)|exact Or.inr (Or.inr rfl))(hd:(x==("__debug__":aP))=false:=by decide)
  (iU:(x==("__classdict__":aP))=false:=by decide)
  (ha:∀v,hG (.Subscript (.Subscript (.Name x p1) j p2) l jM) X.env v=(do
   let ov ← d6 [v] (bS (.Subscript (.Name x p1) j p2) X.env)
   let iv ← d6 [v,ov] (bS l X.env)
   gu jM
   d6 [v,ov,iv] (nZ ov iv v)
   release [v,ov,iv] []):=by intro _;rfl)
  (hs:iK [.Subscript (.Subscript (.Name x p1) j p2) l jM] e pos.line X.env=pure false:=by rfl) (hw:iJ [.Subscript (.Subscript (.Name x p1) j p2) l jM] e X.env=pure none:=by rfl)
  (h1:(cV [.Subscript (.Subscript (.Name x p1) j p2) l jM] X.env).map (·.2)=[hG (.Subscript (.Subscript (.Name x p1) j p2) l jM) X.env]:=by rfl) :
  XS X ct ms rk (.Assign [.Subscript (.Subscript (.Name x p1) j p2) l jM] e pos) (pA i fj fl f):=by
 obtain⟨t,pt,qt⟩:=he
 obtain⟨tj,Eo,Er⟩:=hj
 obtain⟨tl,TR,TX⟩:=hl
 refine⟨_,Po pt (Z0 (PN OJ (jz hN hv hd iU) Eo hp) TR Oi ha) hs hw h1,λF0 B F H ρ σ o E rs e z=>?_⟩
 obtain⟨d,g1,g2⟩:=bg e
 obtain⟨d1,uS,g3,g4,g5⟩:=dZ g2
 obtain⟨Q5,g6,g7⟩:=bg g5
 refine qt F0 B F H ρ σ d _ rs g1 λv0 F1 H1 x1 l0=>?_
 have lu:=rs.ext x1
 obtain⟨f1,fr,n1,b1,dj,i4,cf,put⟩:=lu.put (F':=F) (H':=H) hm
 obtain⟨v,hσ,ow⟩:=i4 d1 (x6 g3)
 refine⟨v,hσ,Er F0 B F1 H1 ρ σ uS _ lu g4 λvj F2 H2 x2 lj=>?_⟩
 cases d1 with
 |lst rws=>
  cases uS with
  |int yi=>
   cases Q5 with
   |int zi=>
    obtain⟨y',k1,k2⟩:=bg g7
    obtain⟨r,k3,k4⟩:=bg k2
    cases r with
    |lst ds=>
     obtain⟨qH,k5,k6⟩:=bg k4
     cases k6
     obtain⟨jn,k8,k9⟩:=bg k5
     cases k9
     obtain⟨ad,vs,rl,rfl,rfl,hF,hH,ol⟩:=ow.lst_inv
     obtain⟨vr,f2,q1,q2,q3,q4⟩:=dY.upd (R':=Ow X.K ct F2 (upd H2 0 (.lst [])) 1) ol k3
     obtain⟨bd,us,HR,rfl,rfl,LG,CF,zC⟩:=q2.lst_inv
     clear q4
     have hA:H2 ad=some (.lst vs):=x2.hh _ _ hH
     refine⟨ad,vs,yi,.ref bd,rfl,lj.int,eR.of hA,?_,?_⟩
     ·unfold atI
      rw[←ol.length,k1]
      exact q1
     ·refine TX F0 B F2 H2 ρ σ _ _ (lu.ext x2) g6 λvl F3 H3 x3 ll=>?_
      have lz:=x2.trans x3
      have hB:H3 bd=some (.lst us):=lz.hh _ _ CF
      have fB:F3 bd=none:=lz.nf bd _ CF nofun LG
      have e0:=zC.nil0
      subst e0
      have Au:=bp.mp n1
      have LU:bd∈rl:=q3 bd ak
      have nH:ad≠bd:=λz=>Au.1 (z▸LU)
      refine⟨bd,us,zi,jn,rfl,ll.int,hB,by rw[←zC.length];exact k8,?_⟩
      obtain⟨vr',f2',MQ,TU,FZ,TV⟩:=dY.upd (R':=Ow X.K ct F3 (upd H3 bd (.lst (us.set jn v0))) 1) ol k3
      rw[q1]at MQ
      cases MQ
      obtain⟨bd',us',Ra,eb,rfl,_,LH,Jn⟩:=TU.lst_inv
      cases eb
      have e1:=Jn.nil0
      subst e1
      rw[CF]at LH
      cases LH
      refine z σ F3 _ (lu.change hm lz hσ b1 dj cf put (aj _ LU) fB (.inr (.lst (lz.nf ad _ hH nofun hF) (by rw[zn nH];exact lz.hh _ _ hH) (TV (.lst (ds.set jn d)) (.inr (.lst fB yr (dY.set0 ⟨Dt.mono lz.ff l0,rfl⟩ (λ_ _ _ q=>q.2) jn (zC.mono λ_ _ _ _ q=>⟨q.1.mono lz.ff,q.2⟩)))) Au.2 ?_))) (fn:=ad::rl) n1 λa ha=>.inl ha)
      intro d0 v1 f' jJ Im o'
      refine(o'.ext lz).frame (.refl _) λa' FJ=>⟨zn λe=>Im a' FJ (by rw[e];exact ak),((o'.ext lz).cells a' FJ).1⟩
    |_=>cases k4
   |_=>cases g7
  |_=>cases g7
 |_=>cases g7
end
end L3
namespace L3
open PySem PySem.Spec L2
open PyProof.Rows hiding St
section
variable {K:ae}{ct:Nat->af}{F F' H B F0:Hp}
theorem SL.fz {ms:List Mo}{ρ:Env}{σ:St}{fp:List af}{i k:Nat}(h0:SL K ct F B H ms ρ σ fp)(s:bK F H):fp.Nodup->ms[i]?=some (.ow k)->∃f1:List af,(∀a∈f1,a∈fp) /\
  ∃gF,SL K ct (gP F H f1) B H (ms.set i (.ow 0)) ρ σ gF/\gF.Nodup/\∀a∈gF,a∈fp/\a∉f1:=by
 induction h0 generalizing i with
 |nil=>
  intro _ e
  simp at e
 |@no m0 o0 ms ρ σ fp t ih=>
  intro nd e
  cases i with
  |zero=>
   obtain⟨w1,w2,w3⟩:=v5 (F:=F) (H:=H) (fp:=[]) s (λa z=>by cases z)
   exact⟨[],λa z=>(by cases z),fp,.no (t.frame w1 λa z=>⟨rfl,by unfold gP;rw[if_neg (by simp)];exact(t.cells a z).1⟩),nd,λa z=>⟨z,by simp⟩⟩
  |succ i=>
   obtain⟨f1,h1,gF,q1,q2,q3⟩:=ih (i:=i) nd (by simpa using e)
   exact⟨f1,h1,gF,.no q1,q2,q3⟩
 |@al n0 d0 v0 ms ρ σ fp h t ih=>
  intro nd e
  cases i with
  |zero=>
   simp at e
  |succ i=>
   obtain⟨f1,h1,gF,q1,q2,q3⟩:=ih (i:=i) nd (by simpa using e)
   obtain⟨w1,w2,w3⟩:=v5 (F:=F) (H:=H) (fp:=f1) s (λa z=>(t.cells a (h1 a z)).1)
   exact⟨f1,h1,gF,.al (h.mono w1 (.refl _)) q1,q2,q3⟩
 |@px d0 v0 ms ρ σ fp h t ih=>
  intro nd e
  cases i with
  |zero=>
   simp at e
  |succ i=>
   obtain⟨f1,h1,gF,q1,q2,q3⟩:=ih (i:=i) nd (by simpa using e)
   obtain⟨w1,w2,w3⟩:=v5 (F:=F) (H:=H) (fp:=f1) s (λa z=>(t.cells a (h1 a z)).1)
   exact⟨f1,h1,gF,.px (h.mono w1 (.refl _)) q1,q2,q3⟩
 |@so d0 x ms ρ σ fp h t ih=>
  intro nd e
  cases i with
  |zero=>
   simp at e
  |succ i=>
   obtain⟨n1,n2⟩:=bp.mp nd
   obtain⟨f1,h1,gF,q1,q2,q3⟩:=ih (i:=i) n2 (by simpa using e)
   obtain⟨w1,w2,w3⟩:=v5 (F:=F) (H:=H) (fp:=f1) s (λa z=>(t.cells a (h1 a z)).1)
   refine⟨f1,λa z=>aj _ (h1 a z),x::gF,.so (h.frame w1 λa z=>⟨rfl,?_⟩) q1,bp.mpr ⟨λz=>n1 (q3 x z).1,q2⟩,λa z=>?_⟩
   ·rw[aN]at z
    unfold gP
    rw[if_neg λq=>n1 (z▸h1 a q)]
    exact(h.cells a (by rw[z];exact ak)).1
   ·rcases av.mp z with z|z
    ·exact⟨z▸ak,λq=>n1 (z▸h1 a q)⟩
    ·exact⟨aj _ (q3 a z).1,(q3 a z).2⟩
 |@ow n0 d0 v0 ms ρ σ f fp h t ih=>
  intro nd e
  cases i with
  |zero=>
   obtain⟨w1,w2,w3⟩:=v5 (F:=F) (H:=H) (fp:=f) s (λa z=>(h.cells a z).1)
   obtain⟨n1,n2,n3⟩:=bn.mp nd
   refine⟨f,λa z=>bx _ z,[]++fp,.ow ⟨h.dt w1 w3,rfl⟩ (t.frame w1 λa z=>⟨rfl,?_⟩),n2,λa z=>⟨aB _ z,λq=>n3 a q a z rfl⟩⟩
   unfold gP
   rw[if_neg λq=>n3 a q a z rfl]
   exact(t.cells a z).1
  |succ i=>
   obtain⟨n1,n2,n3⟩:=bn.mp nd
   obtain⟨f1,h1,gF,q1,q2,q3⟩:=ih (i:=i) n2 (by simpa using e)
   obtain⟨w1,w2,w3⟩:=v5 (F:=F) (H:=H) (fp:=f1) s (λa z=>(t.cells a (h1 a z)).1)
   refine⟨f1,λa z=>aB _ (h1 a z),f++gF,.ow (h.frame w1 λa z=>⟨rfl,?_⟩) q1,bn.mpr ⟨n1,q2,λa z b zb=>n3 a z b (q3 b zb).1⟩,λa z=>?_⟩
   ·unfold gP
    rw[if_neg λq=>n3 a z a (h1 a q) rfl]
    exact(h.cells a z).1
   ·rcases aU.mp z with z|z
    ·exact⟨bx _ z,λq=>n3 a z a (h1 a q) rfl⟩
    ·exact⟨aB _ (q3 a z).1,(q3 a z).2⟩
theorem SL.forget (m':Mo){ms:List Mo}{ρ:Env}{σ:St}{fp:List af}(i:Nat)(h0:SL K ct F B H ms ρ σ fp):∃gF,SL K ct F B H (ms.set i m') (ρ.set i none) σ gF/\gF.Sublist fp:=by
 induction h0 generalizing i with
 |nil=>
  exact⟨[],.nil,.refl _⟩
 |@no m0 o0 ms ρ σ fp t ih=>
  cases i with
  |zero=>
   exact⟨fp,.no t,.refl _⟩
  |succ i=>
   obtain⟨gF,q1,q2⟩:=ih i
   exact⟨gF,.no q1,q2⟩
 |@al n0 d0 v0 ms ρ σ fp h t ih=>
  cases i with
  |zero=>
   exact⟨fp,.no t,.refl _⟩
  |succ i=>
   obtain⟨gF,q1,q2⟩:=ih i
   exact⟨gF,.al h q1,q2⟩
 |@px d0 v0 ms ρ σ fp h t ih=>
  cases i with
  |zero=>
   exact⟨fp,.no t,.refl _⟩
  |succ i=>
   obtain⟨gF,q1,q2⟩:=ih i
   exact⟨gF,.px h q1,q2⟩
 |@so d0 x ms ρ σ fp h t ih=>
  cases i with
  |zero=>
   exact⟨fp,.no t,List.sublist_cons_self _ _⟩
  |succ i=>
   obtain⟨gF,q1,q2⟩:=ih i
   exact⟨_,.so h q1,q2.cons₂ _⟩
 |@ow n0 d0 v0 ms ρ σ f fp h t ih=>
  cases i with
  |zero=>
   exact⟨fp,.no t,List.sublist_append_right _ _⟩
  |succ i=>
   obtain⟨gF,q1,q2⟩:=ih i
   exact⟨_,.ow h q1,(List.Sublist.refl _).append q2⟩
theorem RS.fz {ms:List Mo}{ρ:Env}{σ:St}{i k:Nat}(rs:RS K ct F0 B ms F H ρ σ)(hm:ms[i]?=some (.ow k)):∃F',RS K ct F0 B (ms.set i (.ow 0)) F' H ρ σ:=by
 obtain⟨fp,sl,nd,hb⟩:=rs.sl
 obtain⟨f1,h1,gF,q1,q2,q3⟩:=sl.fz rs.fh nd hm
 obtain⟨w1,w2,w3⟩:=v5 (F:=F) (H:=H) (fp:=f1) rs.fh (λa z=>(sl.cells a (h1 a z)).1)
 refine⟨gP F H f1,rs.f0.trans w1,rs.bh,w2,λa o ho nt hn=>?_,gF,q1,q2,λa z=>hb a (q3 a z).1⟩
 have:¬a∈f1:=λz=>by rw[hb a (h1 a z)]at ho;cases ho
 unfold gP;rw[if_neg this];exact rs.nf a o ho nt hn
theorem RS.forget {ms:List Mo}{ρ:Env}{σ:St}(m':Mo)(i:Nat)(rs:RS K ct F0 B ms F H ρ σ):RS K ct F0 B (ms.set i m') F H (ρ.set i none) σ:=by
 obtain⟨fp,sl,nd,hb⟩:=rs.sl
 obtain⟨gF,q1,q2⟩:=sl.forget m' i
 exact⟨rs.f0,rs.bh,rs.fh,rs.nf,gF,q1,q2.nodup nd,λa z=>hb a (q2.subset z)⟩
end
def sD (i:Nat):Out->Out
 |.nx ρ=>.nx (ρ.set i none)
 |.rt d=>.rt d
 |.bk ρ=>.bk (ρ.set i none)
 |.ct ρ=>.ct (ρ.set i none)
def sFz (i:Nat)(u:SF):SF:=λρ=>(u ρ).bind λo=>some (sD i o)
section
variable {X:Cx}{ct:Nat->af}{ms:List Mo}{rk k:Nat}
theorem Wr {ms:List Mo}{i k:Nat}(hm:ms[i]?=some (.ow k)):(ms.set i (.ow 0)).set i (.ow k)=ms:=by
 rw[nX]
 apply fm
 intro j
 rw[List.getElem?_set]
 split
 ·next h=>
  subst h
  rw[hm]
  have:=(aX.mp hm).1
  rw[if_pos this]
 ·rfl
theorem zuh {i:Nat}{t:lF->St->Hp->Prop}{w:SF}(hm:ms[i]?=some (.ow k))
  (q:∀(F0 B F H:Hp) (ρ:Env) (σ:St) (o:Out) (E:lF),RS X.K ct F0 B (ms.set i (.ow 0)) F H ρ σ->w ρ=some o->lm X.K ct F0 B (ms.set i (.ow 0)) rk E o->t E σ H)
  (F0 B F H:Hp) (ρ:Env) (σ:St) (o:Out) (E:lF) (rs:RS X.K ct F0 B ms F H ρ σ) (e:sFz i w ρ=some o) (z:lm X.K ct F0 B ms rk E o):t E σ H:=by
 obtain⟨F',r2⟩:=rs.fz hm
 obtain⟨o1,e1,e2⟩:=bg e
 refine q F0 B F' H ρ σ o1 E r2 e1 ?_
 have back:∀{ρ':Env} {σ':St} {F2 H2:Hp},RS X.K ct F0 B (ms.set i (.ow 0)) F2 H2 ρ' σ'->RS X.K ct F0 B ms F2 H2 (ρ'.set i none) σ':=λr=>by
  have:=r.forget (.ow k) i
  rw[Wr hm]at this
  exact this
 cases o1 with
 |nx ρ'=>cases e2;exactλσ' F2 H2 r=>z σ' F2 H2 (back r)
 |rt d=>cases e2;exact z
 |bk ρ'=>cases e2;exactλσ' F2 H2 r=>z σ' F2 H2 (back r)
 |ct ρ'=>cases e2;exactλσ' F2 H2 r=>z σ' F2 H2 (back r)
theorem zs3 {MX:List bG}{w:SF}{i:Nat}(hm:ms[i]?=some (.ow k))(h:qF X ct (ms.set i (.ow 0)) rk MX w):qF X ct ms rk MX (sFz i w):=by
 obtain⟨t,pt,qt⟩:=h
 exact⟨t,pt,zuh hm qt⟩
theorem zef {i:Nat}{d:D}:sD i (.rt d)=.rt d:=rfl
theorem zeg {i:Nat}{ρ:Env}:sD i (.nx ρ)=.nx (ρ.set i none):=rfl
end
end L3
namespace L3
open PySem PySem.Spec L2
open PyProof.Rows hiding St
section
variable {X:Cx}{ct:Nat->af}{ms:List Mo}{rk n m k:Nat}{a b c tg:Expr}{pos:cB}
end
end L3
namespace L2
open PySem PySem.Spec PyProof.Rows
section
variable {X:Cx}{nD:List Expr}{kt:Nat}{pt:cB}
end
end L2
namespace L3
open PySem PySem.Spec L2
open PyProof.Rows hiding St
section
variable {X:Cx}{ct:Nat->af}{ms:List Mo}{n:Nat}{a b:Expr}{pos:cB}
end
end L3
namespace L3
open PySem PySem.Spec L2
open PyProof.Rows hiding St
section
variable {K:ae}{ct:Nat->af}{n m k:Nat}
end
end L3
namespace L2
open PySem PySem.Spec PyProof.Rows
section
variable {X:Cx}{e sp:Expr}{te:TE}{tp:TO}{pos p2:cB}
end
end L2
namespace L3
open PySem PySem.Spec L2
open PyProof.Rows hiding St
section
variable {X:Cx}{ct:Nat->af}{ms:List Mo}{n m:Nat}{e sp:Expr}{f g:EF}{pos p1:cB}
end
end L3
namespace L3
open PySem PySem.Spec L2
open PyProof.Rows hiding St
def kg {α:Type}(p q:Nat)(rv:Bool)(us ws:List α):List α:=if us.length=p/\ws.length=q then us++(if rv then ws.reverse else ws)else[]
section
variable {X:Cx}{ct:Nat->af}{ms:List Mo}{rk n m k kk:Nat}{e a:Expr}{f:EF}{x:aP}{pp pos zA:cB}{fa:af}{fd:aM}{ps ks:List aP}{mf:List D->Option D}
end
end L3
namespace L3
open PySem PySem.Spec L2
open PyProof.Rows hiding St
section
variable {X:Cx}{ct:Nat->af}{ms:List Mo}{rk n m k:Nat}{st:bG}{rest:List bG}{a b c e tg:Expr}{f g h:EF}{p q:BF}{u w:SF}{pos:cB}
end
end L3
namespace L3
open PySem PySem.Spec L2
open PyProof.Rows hiding St
section
variable {X:Cx}{ct:Nat->af}{ms:List Mo}{rk n m k:Nat}{a e:Expr}{f:EF}{pos:cB}
end
end L3
namespace L3
open PySem PySem.Spec L2
open PyProof.Rows hiding St
section
variable {X:Cx}{ct:Nat->af}{ms:List Mo}{n m l k:Nat}{a b c:Expr}{f g h:EF}{pos:cB}
end
end L3
namespace L3
open PySem PySem.Spec L2
open PyProof.Rows hiding St
def Fx (f:EF):EF:=λρ=>(f ρ).bind λd=>if d.sc=true then some d else none
section
variable {X:Cx}{ct:Nat->af}{ms:List Mo}{rk n m k:Nat}{a b c e tg:Expr}{f g h:EF}{pos:cB}
theorem PP (he:XE X ct ms n e f):XO X ct ms k e (Fx f):=by
 obtain⟨t,p,q⟩:=he
 refine⟨t,p,λF0 B F H ρ σ d Q r e w=>?_⟩
 obtain⟨d0,h1,h2⟩:=bg e
 by_cases hs:d0.sc=true
 ·rw[if_pos hs]at h2
  cases h2
  exact q F0 B F H ρ σ d Q r h1 λv F' H' x l=>w v F' H' [] x (Ow.scal (Al.scal l hs) hs) bz λa z=>(by cases z)
 ·rw[if_neg hs]at h2;cases h2
end
end L3
namespace L3
open PySem PySem.Spec L2
open PyProof.Rows hiding St
section
variable {X:Cx}{ct:Nat->af}{ms:List Mo}{n:Nat}{e tg:Expr}{f:EF}{pos:cB}
end
end L3
namespace L3
open PySem PySem.Spec L2
open PyProof.Rows hiding St
section
variable {X:Cx}{K:ae}{ct:Nat->af}{ms:List Mo}{n k:Nat}
end
end L3
namespace L3
open PySem PySem.Spec L2
open PyProof.Rows hiding St
def Lv (ns:List Int):List Int:=firstMet (λi=>ns.getD i 0) ns.length
section
variable {X:Cx}{ct:Nat->af}{ms:List Mo}{rk n m k:Nat}{a b c e:Expr}{f g h:EF}{pos:cB}
end
end L3
namespace L3
open PySem PySem.Spec L2
open PyProof.Rows hiding St
section
variable {K:ae}{ct:Nat->af}{F F' H H' B F0:Hp}
end
section
variable {X:Cx}{ct:Nat->af}{ms:List Mo}{rk n m k:Nat}{st:bG}{rest:List bG}{a b c e tg:Expr}{f g h:EF}{p q:BF}{u w:SF}{pos:cB}
end
section
variable {X:Cx}{ct:Nat->af}{ms:List Mo}{rk n m k:Nat}{st:bG}{rest:List bG}{a b c e tg:Expr}{f g h:EF}{p q:BF}{u w:SF}{pos:cB}{i j:Nat}
variable {kk:Nat}{fa:af}{fd:aM}{ps:List aP}{mf:List D->Option D}{x:aP}{pp:cB}
end
end L3
namespace L2
open PySem PySem.Spec
open PyProof.Rows hiding St
section
variable {X:Cx}{pos:cB}
end
end L2
namespace L3
open PySem PySem.Spec L2
open PyProof.Rows hiding St
section
variable {X:Cx}{ct:Nat->af}{ms:List Mo}{n:Nat}{pos:cB}
end
end L3
namespace L3
open PySem PySem.Spec L2
open PyProof.Rows hiding St
section
variable {X:Cx}{ct:Nat->af}{ms:List Mo}{rk n m k i:Nat}{a b c e:Expr}{f g h:EF}{pos:cB}
end
end L3
namespace L3
open PySem PySem.Spec L2
open PyProof.Rows hiding St
section
variable {X:Cx}{ct:Nat->af}{ms:List Mo}{rk n m k:Nat}{a b c e o:Expr}{f g h:EF}{pos:cB}
end
end L3
namespace L2
open PySem PySem.Spec
open PyProof.Rows hiding St
section
variable {X:Cx}{CX:rf}{k:Nat}{f C:af}{fd:aM}{ps ks:List aP}{sp:Sp}{E:XK}{x m:aP}{p pos dh zA:cB}{e o:Expr}{es:List Expr}{kws:List iF}{te ta:TE}{t tk:TA}{nm:Option aP}
variable {g:List aa->List aa->List aa}{gV:List V->List V->List V}
end
end L2
namespace L3
open PySem PySem.Spec L2
open PyProof.Rows hiding St
section
variable {X:Cx}{ct:Nat->af}{ms:List Mo}{rk n m k kk:Nat}{e a:Expr}{f:EF}{x:aP}{pp pos zA:cB}{fa:af}{fd:aM}{ps ks:List aP}{pm cs:List Nat}{mi:Nat->List D->Option D}
end
end L3
namespace L3
open PySem PySem.Spec L2
open PyProof.Rows hiding St
section
variable {X:Cx}{ct:Nat->af}{ms:List Mo}{rk n m k i j:Nat}{a b c e:Expr}{f g h:EF}{pos:cB}
variable {kk:Nat}{fa:af}{fd:aM}{ps:List aP}{mf:List D->Option D}{x y:aP}{pp:cB}
end
end L3
namespace L3
open PySem PySem.Spec L2
open PyProof.Rows hiding St
open Classical in
open Classical in
section
variable {X:Cx}
end
section
variable {K:ae}{ct:Nat->af}{n m k:Nat}
end
section
variable {α:Type}[DecidableEq α]
end
end L3
namespace L3
open PySem PySem.Spec L2
open PyProof.Rows hiding St
section
variable {X:Cx}{ct:Nat->af}{ms:List Mo}{rk n m k:Nat}{st:bG}{rest:List bG}{a b c e tg:Expr}{f g h:EF}{p q:BF}{u w:SF}{pos:cB}{K:ae}
end
end L3
namespace L3
open PySem PySem.Spec L2
open PyProof.Rows hiding St
section
variable {X:Cx}{ct:Nat->af}{ms:List Mo}{rk n m k kk kq:Nat}{st:bG}{rest:List bG}{a b c e tg:Expr}{f g h:EF}{p q:BF}{u w:SF}{pos pp:cB}{K:ae}{x:aP}{fa:af}{fd:aM}{ps:List aP}{mf:List D->Option D}
theorem nE (h:XO X ct ms k e f):XO X ct ms 0 e f:=XE.ow (XO.sh (n:=0) h)
theorem oT {own i:Nat}(hN:X.N.Nodup)(ho:i<own:=by decide)(hm:ms[i]?=some (.ow 0):=by rfl)(hi:X.N[i]?=some x:=by rfl)(hx:Loc X.env.scope x:=by first|exact Or.inl rfl|exact Or.inr rfl)
  (hf:X.fn x=true\/X.env.scope.names.lookup x=some .local:=by first|exact .inl rfl|exact .inr rfl|assumption):sY X ct ms own 0 (.Name x pos) (gV i):=XM ho hm hN hi hx hf
theorem fY {i:Nat}{pos':cB}(hN:X.N.Nodup)(he:XO X ct ms k e f)(hm:ms[i]?=some (.ow k):=by rfl)(hi:X.N[i]?=some x:=by rfl)(hx:Loc X.env.scope x:=by first|exact Or.inl rfl|exact Or.inr rfl)
  (hs:d8 e (some (.Name x pos')) pos.line X.env=pure false:=by rfl)
  (hf:X.fn x=true\/X.env.scope.names.lookup x=some .local:=by first|exact .inl rfl|exact .inr rfl|assumption):XS X ct ms rk (.Assign [.Name x pos'] e pos) (sSet i f):=zsq hm hN hi hx he hs hf
theorem kK {i:Nat}(hN:X.N.Nodup)(hm:ms[i]?=some (.ow 0):=by rfl)(hi:X.N[i]?=some x:=by rfl)(hx:Loc X.env.scope x:=by first|exact Or.inl rfl|exact Or.inr rfl)
  (hf:X.fn x=true\/X.env.scope.names.lookup x=some .local:=by first|exact .inl rfl|exact .inr rfl|assumption):XG X ct ms 0 (.Name x pos) (gV i):=Y2 hm hN hi hx hf
theorem dE {es:List Expr}{ns:List Nat}{fs:Env->Option (List D)}(d:kI X.K X.mg x st ps fa fd)(Fn:cI X.prog X.w X.K X.mg X.base eP kk fa fd ps (gH X.K ct ns rk mf))(hr:ee kq X.A)(ha:XA X ct ms (e::es) ns fs)(oP:kk<=kq:=by decide)(hg:Gl X x:=by rfl)
  (mJ:(x==("__debug__":aP))=false:=by decide) (he:ay (e::es) X.env=(false,bS e X.env)::ay es X.env:=by rfl) (fT:(cL pos (ay es X.env)).any (·.1)=false:=by rfl) :
  XO X ct ms rk (.Call (.Name x pp) (e::es) [] pos) (λρ=>(fs ρ).bind λds=>mf (ds++[])) :=
 Y1 (ns:=ns) (nd:=[]) (kN:=[]) (by rw[cr];exact Fn) (hr.mono oP) hg d.mgx d.fn.kp d.bd .nil (λ_ _=>.nil) ha mJ he fT
theorem uG {om:List Mo}{jB iter:Expr}{ifs:List Expr}{scope:fF}{N:List aP}{own:Nat}{cap:List Nat}{fi:Env->Option (List D)}{gg:D->Env->Option Env}(hi:uQ X ct ms n tg iter fi)
  (hg:∀cl C fp s₀ H₀,sY (hV X scope cl N C fp s₀ H₀) ct (om++gx ms cap) own n tg gg) (ht:∀cl C fp s₀ H₀,wN (hV X scope cl N C fp s₀ H₀) ct (om++gx ms cap) ifs p) (he:∀cl C fp s₀ H₀,XO (hV X scope cl N C fp s₀ H₀) ct (om++gx ms cap) k jB f)
  (B:kn X scope N own cap:=by exact Ad (by rfl)) (hc:X.calm=true:=by rfl) (ho:om.length=own:=by rfl) (jI:∀i∈cap,i<ms.length:=by decide)
  (hs:∀x,cW iter X.env x=pure x:=by intro _;rfl):XO X ct ms (k+1) (.ListComp jB [⟨tg,iter,ifs,0⟩] scope pos) (eG fi own cap gg p f):=Y8 B hc ho jI hi hg ht he hs
theorem jC {P:aW}{w:bv}{mg:aP->Option aa}{base:aI}{qual:aP}{N:List aP}{pm:List Nat}{bf:SF}(Fn:Fun2 K x qual st fa fd)(S:bA N ps (aY st))
  (body:∀(ix:aa) (A:bo) (outer:List PySem.Env) (s:ah) (H:Hp) (E:XK),ee kk (A.deeper (envOfC qual (aY st) s.heap.objs.size fa ix))->qF (nB eP P w K mg base N qual (aY st) fa ix A outer s H E).nox ct ms rk (gL st) bf)
  (CV:pm.length=ps.length:=by rfl) (CQ:ms.length=N.length:=by rfl) (oP:ps.length<=N.length:=by decide) (CP:∀(i n:Nat),pm[i]?=some n->ms[i]?=some (Mo.al n)\/(n=0/\ms[i]?=some (Mo.ow 0)):=by exact uc (by decide)) :
  cI P w K mg base eP (kk+1) fa fd ps (gH K ct pm rk (mOf N bf)):=lift Fn S CV CQ oP CP body
theorem cu {i:Int}{j}:XE X ct ms 0 (.Constant (.int i) j pos) (eC (.int i)):=zsl
theorem zW {j}:XE X ct ms 0 (.Constant .none j pos) (eC .non):=zsm
theorem nk (ha:XE X ct ms 0 a f)(hb:XE X ct ms 0 b g):XO X ct ms 1 (.BinOp a .Add b pos) (e2 ez f g):=PQ KG (O5 (by decide) (by decide)) ha hb
theorem kh (ha:XE X ct ms 0 a f)(hb:XE X ct ms 0 b g)(hp:lM b:=by exactλ_ _=>rfl):XE X ct ms 0 (.Subscript a b pos) (e2 d5 f g):=wG (n:=0) vY wC ha hb hp
theorem nN {fs:Env->Option (List D)}(hm:X.mg "len"=none)(ha:XA X ct ms [e] [n] fs)(hg:Gl X "len":=by rfl)(he:ay [e] X.env=(false,bS e X.env)::ay [] X.env:=by rfl)(fT:(cL pos (ay [] X.env)).any (·.1)=false:=by rfl):XE X ct ms 0 (.Call (.Name "len" pp) [e] [] pos) (eN eA fs):=ww (k:=0) WQ Y7 hg hm Px ha (by decide) (by decide) he fT
theorem lA0 {P:List aa->Prop}(h:P [])(us:List aa)(e:us.length=0):P us:=by
 cases us with
 |nil=>exact h
 |cons a t=>cases e
theorem lA1 {P:List aa->Prop}(h:∀a1,P [a1])(us:List aa)(e:us.length=1):P us:=by
 cases us with
 |nil=>cases e
 |cons a t=>exact lA0 (P:=λt=>P (a::t)) (h a) t (Nat.succ.inj e)
theorem lA2 {P:List aa->Prop}(h:∀a1 a2,P [a1,a2])(us:List aa)(e:us.length=2):P us:=by
 cases us with
 |nil=>cases e
 |cons a t=>exact lA1 (P:=λt=>P (a::t)) (h a) t (Nat.succ.inj e)
theorem lA3 {P:List aa->Prop}(h:∀a1 a2 a3,P [a1,a2,a3])(us:List aa)(e:us.length=3):P us:=by
 cases us with
 |nil=>cases e
 |cons a t=>exact lA2 (P:=λt=>P (a::t)) (h a) t (Nat.succ.inj e)
theorem lA4 {P:List aa->Prop}(h:∀a1 a2 a3 a4,P [a1,a2,a3,a4])(us:List aa)(e:us.length=4):P us:=by
 cases us with
 |nil=>cases e
 |cons a t=>exact lA3 (P:=λt=>P (a::t)) (h a) t (Nat.succ.inj e)
theorem lA5 {P:List aa->Prop}(h:∀a1 a2 a3 a4 a5,P [a1,a2,a3,a4,a5])(us:List aa)(e:us.length=5):P us:=by
 cases us with
 |nil=>cases e
 |cons a t=>exact lA4 (P:=λt=>P (a::t)) (h a) t (Nat.succ.inj e)
theorem lA6 {P:List aa->Prop}(h:∀a1 a2 a3 a4 a5 a6,P [a1,a2,a3,a4,a5,a6])(us:List aa)(e:us.length=6):P us:=by
 cases us with
 |nil=>cases e
 |cons a t=>exact lA5 (P:=λt=>P (a::t)) (h a) t (Nat.succ.inj e)
end
end L3
namespace L3
open PySem PySem.Spec L2
open PyProof.Rows hiding St
section
variable {K:ae}{ct:Nat->af}{F B H:Hp}
end
section
variable {X:Cx}{ct:Nat->af}{ms:List Mo}{rk n m k i j:Nat}{a b c e:Expr}{f g h:EF}{p q:BF}{pos:cB}{K:ae}
end
end L3
set_option maxHeartbeats 1000000
namespace L3
open PySem PySem.Spec L2
open PyProof.Rows hiding St
inductive GX where
 |ok (d:D)|xc (d:D)
inductive GW where
 |ok (o:Out)|xc (ρ:Env) (d:D)
abbrev K3:=Env->Option GW
section
variable (X:Cx)(G:GK)(ct:Nat->af)(ms:List Mo)(rk:Nat)
end
section
variable {X:Cx}{G:GK}{ct:Nat->af}{ms:List Mo}{rk n m k:Nat}{st:bG}{rest:List bG}{a b c e:Expr}{f g h:EF}{p q:BF}{u w:K3}{pos:cB}
end
end L3
set_option maxHeartbeats 1000000
namespace L3
open PySem PySem.Spec L2
open PyProof.Rows hiding St
section
variable {X:Cx}{G:GK}{ct:Nat->af}{ms:List Mo}{rk n m k kk:Nat}{st:bG}{rest:List bG}{a b c e:Expr}{f g h:EF}{p q:BF}{u w:K3}{pos pp:cB}{fa:af}{fd:aM}{ps:List aP}{mf:List D->Option GX}{x:aP}
end
end L3
set_option maxHeartbeats 1000000
namespace L3
open PySem PySem.Spec L2
open PyProof.Rows hiding St
section
variable {X:Cx}{G:GK}{ct:Nat->af}{ms:List Mo}{rk n m k kk:Nat}{a b c e tg:Expr}{f g h:EF}{u w:SF}{pos pp:cB}{fa:af}{fd:aM}{ps:List aP}{x:aP}
end
end L3
set_option maxHeartbeats 1000000
namespace L2
open PySem PySem.Spec PyProof.Rows
section
variable {X:Cx}
end
end L2
namespace L3
open PySem PySem.Spec L2
open PyProof.Rows hiding St
section
variable {X:Cx}{ct:Nat->af}{ms:List Mo}{n m k:Nat}{e:Expr}{f:EF}{pos:cB}
end
end L3
set_option maxHeartbeats 1000000
namespace L3
open PySem PySem.Spec L2
open PyProof.Rows hiding St
end L3
set_option maxHeartbeats 1000000
namespace L3
open PySem PySem.Spec L2
open PyProof.Rows hiding St
end L3
set_option maxHeartbeats 1000000
namespace L2
open PySem PySem.Spec PyProof.Rows
section
variable {prog:aW}{w:bv}{A:bo}{E:aa->ah->Prop}{s:ah}{z TI TO i1 i2 i3 l1 l2 l3:af}{xs ys zs:Array aa}{k1 k2 k3:Nat}
end
end L2
set_option maxHeartbeats 1000000
namespace L2
open PySem PySem.Spec PyProof.Rows
section
variable {X:Cx}{nD:List Expr}{kt:Nat}{pt:cB}
end
end L2
namespace L3
open PySem PySem.Spec L2
open PyProof.Rows hiding St
section
variable {X:Cx}{ct:Nat->af}{ms:List Mo}{n:Nat}{a b c:Expr}{pos:cB}
end
end L3
set_option maxHeartbeats 1000000
namespace L2
open PySem PySem.Spec PyProof.Rows
section
variable {X:Cx}{k:Nat}{f:af}{fd:aM}{ps:List aP}{sp:Sp}{ds:List aa}{iy:List V}{E:XK}{x:aP}{p pos:cB}{e:Expr}{es:List Expr}{t:TA}
end
end L2
namespace L3
open PySem PySem.Spec L2
open PyProof.Rows hiding St
section
variable {X:Cx}{ct:Nat->af}{ms:List Mo}{rk kk:Nat}{fa:af}{fd:aM}{ps:List aP}{mf:List D->Option D}{x:aP}{pp pos:cB}{e:Expr}
end
end L3
namespace PySem
section
variable {prog:aW}{w:bv}{A:bo}{R:Result->ah->Prop}{I:af}{fp wr:List af}{n:Nat}{P:Nat->aa->Prop}{St:Nat->aI->Prop}{kw:List (aP×aa)}
end
section
variable {prog:aW}{w:bv}{A:bo}{E:aa->ah->Prop}{s:ah}
end
end PySem
namespace L3
open PySem PySem.Spec L2
section
variable {X:Cx}{ct:Nat->af}{ms:List Mo}{e b:Expr}{f g:EF}{n m k:Nat}
end
end L3
set_option maxHeartbeats 1000000
namespace L3
open PySem PySem.Spec L2
open PyProof.Rows hiding St
section
variable {X:Cx}{ct:Nat->af}{ms:List Mo}{n:Nat}{a b c:Expr}{pos:cB}
end
end L3
set_option maxHeartbeats 1000000
namespace L3
open PySem PySem.Spec L2
open PyProof.Rows hiding St
section
variable {X:Cx}{ct:Nat->af}{ms:List Mo}{n m k:Nat}{e o:Expr}{f g:EF}{pos:cB}
end
end L3
set_option maxHeartbeats 1000000
namespace L3
open PySem PySem.Spec L2
open PyProof.Rows hiding St
theorem foldl_rep (c:Nat):∀(n:Nat) (eU:Array Nat),(aJ n #[c]).foldl (· ++ ·) eU=eU++Array.replicate n c
 |0,eU=>by simp
 |n+1,eU=>by
  rw[cA,bP,foldl_rep c n,pE]
  congr 1
  apply Array.toList_inj.mp
  simp[cA]
section
variable {X:Cx}{ct:Nat->af}{K:ae}{ms:List Mo}{n m k:Nat}{e o:Expr}{f g:EF}{pos:cB}
end
end L3
set_option maxHeartbeats 1000000
namespace L3
open PySem PySem.Spec L2
open PyProof.Rows hiding St
section
variable {X:Cx}{ct:Nat->af}{ms:List Mo}{rk n m k i j:Nat}{e o:Expr}{f g:EF}{pos:cB}
end
end L3
set_option maxHeartbeats 1000000
namespace L3
open PySem PySem.Spec L2
open PyProof.Rows hiding St
section
variable {X:Cx}{ct:Nat->af}{ms:List Mo}{n m k rk:Nat}{a b e o:Expr}{f g:EF}{pos:cB}
end
end L3
set_option maxHeartbeats 1000000
namespace L2
open PySem PySem.Spec PyProof.Rows
section
variable {X:Cx}{e sl sp:Expr}{te:TE}{tl tp:TO}{pos p2:cB}
end
end L2
namespace L3
open PySem PySem.Spec L2
open PyProof.Rows hiding St
section
variable {X:Cx}{ct:Nat->af}{ms:List Mo}{n m k rk:Nat}{e o:Expr}{f g:EF}{pos:cB}
end
end L3
set_option maxHeartbeats 1000000
namespace L3
open PySem PySem.Spec L2
open PyProof.Rows hiding St
section
variable {K:ae}{ct:Nat->af}{a:af}{cn:List (List eF×V)}{u:HO}{F F' G H B F0:Hp}{ms:List Mo}{n rk:Nat}
end
section
variable {X:Cx}{ct:Nat->af}{ms:List Mo}{rk n:Nat}{rest:List bG}{e ty:Expr}{kc:List Expr}{j jj:Nat}{pt p1 pos:cB}{f:EF}{u:SF}{gs:List D->Env->Option Env}{gy:D->Env->Option Env}
end
end L3
set_option maxHeartbeats 1000000
namespace L3
open PySem PySem.Spec L2
open PyProof.Rows hiding St
section
variable {K:ae}{ct:Nat->af}{F H:Hp}{n:Nat}
end
end L3
set_option maxHeartbeats 1000000
namespace L3
open PySem PySem.Spec L2
open PyProof.Rows hiding St
section
variable {K:ae}{ct:Nat->af}{n:Nat}
end
end L3
set_option maxHeartbeats 4000000
namespace L3
open PySem L2
end L3
set_option maxHeartbeats 1000000
namespace L2
open PySem PySem.Spec PyProof.Rows
def sM (K:ae)(x:V)(H:Hp)(Q:VK):Prop:=∃(a:af) (qs:List (af×List V)) (π:List Nat),x=.ref a/\eR K H a (qs.map λq=>V.ref q.1)/\(∀q∈qs,eR K H q.1 q.2)/\qs.length<=1000/\π.length<=1000/\(∀i∈π,i<qs.length)/\TS.tsrt (qs.map λq=>(q.2.length:Int))=some π /\
 ∀p,H p=none->Q (.ref p) (upd H p (.lst (π.map λi=>V.ref (qs.getD i (0,[])).1)))
theorem NC:∀{qs:List (af×List V)} {bT:List aa},bR (qs.map λq=>V.ref q.1) bT->bT=qs.map λq=>aa.ref q.1
 |[],_,.nil=>rfl
 |q::qs,_,.cons r t=>by cases r;rw[NC t];rfl
theorem OS (qs:List (af×List V)):∀π:List Nat,(∀i∈π,i<qs.length)->bR (π.map λi=>V.ref (qs.getD i (0,[])).1) (π.map λi=>(qs.map λq=>aa.ref q.1).getD i aa.none)
 |[],_=>.nil
 |i::π,h=>.cons (by
   have hi:=h i ak
   show(qs.map λq=>aa.ref q.1).getD i aa.none=.ref _
   rw[aE,aE,bi,aR hi];rfl) (OS qs π λj hj=>h j (aj _ hj))
theorem Xl {X:Cx}{e:Expr}{ta:TE}{p p2 pos kp:cB}(hg:Gl X "sorted")(hm:X.mg "sorted"=none)(mX:Gl X "len")(rB:X.mg "len"=none)(ha:PE X e ta)(he:ay [e] X.env=(false,bS e X.env)::ay [] X.env:=by rfl) :
  PE X (.Call (.Name "sorted" p) [e] [⟨some "key",.Name "len" p2,kp⟩] pos) (λσ H Q=>ta σ H λx H1=>sM X.K x H1 Q):=by
 intro ai s σ H Q I h
 refine fD (Ab (u:=.builtin "sorted") I hg hm NS ?_ (by decide) (by decide))
 refine PyProof.Rows.callWith_kw (dk ((ul ha vX he) pos ai s σ H (λvs H1=>match vs with|[x]=>sM X.K x H1 Q|_=>False) I ?_) λus s1 ⟨vs,H1,I1,r,q⟩=>?_) (by rw[he];rfl) (by rw[he];rfl)
 ·exact h
 ·match vs,q with
  |[x],q=>
   obtain⟨u,rfl,ru⟩:=r.one
   show aQ _ _ (evalAll ((do let v ← bS (.Name "len" p2) X.env;gu pos;pure v)::[])) _ _ s1
   refine wpAny_evalAll_cons (ao (Ab (u:=.builtin "len") I1 mX rB Px ?_ (by decide) (by decide)))
   refine ao (iL (aw (wpAny_evalAll_nil ?_)))
   obtain⟨a,qs,π,rfl,hq,hl,hn,hπ,hb,ht,q⟩:=q
   cases(show u=aa.ref a from ru)
   obtain⟨bT,rv,pl,hz⟩:=I1.list hq
   have hits:=NC rv
   subst hits
   refine Wo (vs:=qs.map λq=>aa.ref q.1) pl.isList (by rw[aA];exact hn) (by rw[aA,aA]) hπ (λi v hv=>?_) ht λh' tk c keep yS=>?_
   ·rw[bi]at hv
    obtain⟨qi,h1,h2⟩:=bW.mp hv
    subst h2
    obtain⟨ts,rt,pt,tz⟩:=I1.list (hl qi (fV h1))
    refine⟨qi.1,ts.toArray,rfl,pt.isList,?_,?_⟩
    ·have:=rt.length;simp only[aK];omega
    ·rw[aE,bi,h1]
     have:=rt.length
     simp only[aK,eL,p9]
     omega
   ·refine⟨.ref _,_,I1.laid (a:=s1.heap.objs.size+1) (o:=.lst (π.map λi=>V.ref (qs.getD i (0,[])).1)) (t':=tk) (λb u hb=>keep b u hb) (eD _) ?_,rfl,q _ (I1.hok.fresh (eD _))⟩
    exact⟨by rw[aA,bC];omega,_,c,OS qs π hb,by simpa[seqObj]using yS⟩
end L2
namespace L3
open PySem PySem.Spec L2
def lY:List D->Option (List Int)
 |[]=>some []
 |.lst xs::ds=>(lY ds).bind λns=>some ((xs.length:Int)::ns)
 |_=>none
section
variable {X:Cx}{ct:Nat->af}{ms:List Mo}{e:Expr}{f:EF}
end
end L3
set_option maxHeartbeats 1000000
namespace L3
open PySem PySem.Spec L2
open PyProof.Rows hiding St
def wO:D->D->Option D
 |.lst xs,.lst ys=>if xs.length+ys.length<=16777216 then some (.lst (xs++ys))else none
 |_,_=>none
section
variable {X:Cx}{ct:Nat->af}{ms:List Mo}{rk n k:Nat}{e c:Expr}{f:EF}{p:BF}{pos:cB}
theorem Xm {i:Nat}{x:aP}{p1 p2 pos':cB}(hm:ms[i]?=some (.ow (k+1)))(hN:X.N.Nodup)(he:XO X ct ms (k+1) e f)(hi:X.N[i]?=some x:=by rfl)(hx:Loc X.env.scope x:=by first|exact Or.inl rfl|exact Or.inr rfl)
  (hv:pJ X.env.scope x:=by first|exact Or.inl rfl|exact Or.inr (Or.inl rfl)|exact Or.inr (Or.inr rfl)) (hd:(x==("__debug__":aP))=false:=by decide) (iU:(x==("__classdict__":aP))=false:=by decide)
  (hs:d8 (.BinOp (.Name x p1) .Add e p2) (some (.Name x pos')) pos.line X.env=pure false:=by rfl)
  (hf:X.fn x=true\/X.env.scope.names.lookup x=some .local:=by first|exact .inl rfl|exact .inr rfl|assumption):XS X ct ms rk (.Assign [.Name x pos'] (.BinOp (.Name x p1) .Add e p2) pos) (sSet i (e2 wO (eV i) f)):=by
 obtain⟨t,pt,qt⟩:=he
 refine⟨_,Pp hN hi hx (GM KG (jz hi hv hd iU) pt) hs hf,λF0 B F H ρ σ o E rs e w=>?_⟩
 obtain⟨d,h1,h2⟩:=bg e
 cases h2
 obtain⟨d1,d2,h3,h4,h5⟩:=dZ h1
 obtain⟨f1,fr,n1,b1,dj,i4,cf,put⟩:=rs.put (F':=F) (H':=H) hm
 obtain⟨v,hσ,ow⟩:=i4 d1 (x6 h3)
 refine⟨v,hσ,?_⟩
 refine qt F0 B F H ρ σ d2 _ rs h4 λy F' H' fp x1 o2 Jl yI=>?_
 have r:=rs.ext x1
 cases d1 with
 |lst xs=>
  cases d2 with
  |lst ys=>
   have h5:(if xs.length+ys.length<=16777216 then some (D.lst (xs++ys))else none)=some d:=h5
   by_cases hz:xs.length+ys.length<=16777216
   ·rw[if_pos hz]at h5
    cases h5
    obtain⟨ad,vs,rl,rfl,rfl,hF,hH,ol⟩:=ow.lst_inv
    obtain⟨bd,us,HR,rfl,rfl,LG,CF,zC⟩:=o2.lst_inv
    have hA:H' ad=some (.lst vs):=x1.hh _ _ hH
    refine .inr (.inr (.inl ⟨ad,bd,vs,us,rfl,rfl,eR.of hA,eR.of CF,by rw[←ol.length,←zC.length,bC];omega,λq hq=>?_⟩))
    have ne:∀a o,H' a=some o->a≠q:=λa o h e=>by rw[e,hq]at h;cases h
    have c1:∀a∈rl,F' a=none/\∃o,H' a=some o:=λa ha=>by
     obtain⟨q1,o,q2,q3⟩:=dY.cellsOf ol a ha
     exact⟨x1.nf a o q2 q3 q1,o,x1.hh _ _ q2⟩
    have c2:∀a∈HR,F' a=none/\∃o,H' a=some o:=λa ha=>by
     obtain⟨q1,o,q2,q3⟩:=dY.cellsOf zC a ha
     exact⟨q1,o,q2⟩
    have fq:F' q=none:=x1.fh.free hq
    refine w _ F' _ (put F' (upd H' q (.lst (vs++us))) (.lst (xs++ys)) (.ref q) (q::(rl++HR)) x1.ff (λa o h=>?_) (λa o h=>?_) r.nf (λa ha=>?_) (.inr (.lst fq yr ((ol.mono λ_ _ f' rA o'=>?_).append (zC.mono λ_ _ f' rA o'=>?_)))) ?_ ?_ ?_)
    ·have:=r.bh _ _ h
     rw[zn (ne a o this)];exact this
    ·have:=x1.fh _ _ h
     rw[zn (ne a o this)];exact this
    ·obtain⟨q1,o,q2,q3⟩:=cf a ha
     have q4:=x1.hh _ _ q2
     exact⟨by rw[zn (ne a o q4),q4,q2],x1.nf a o q2 q3 q1⟩
    ·refine(o'.ext x1).frame (.refl _) λa ha=>?_
     obtain⟨q1,o,q2⟩:=c1 a (rA a ha)
     exact⟨zn (ne a o q2),q1⟩
    ·refine o'.frame (.refl _) λa ha=>?_
     obtain⟨q1,o,q2⟩:=c2 a (rA a ha)
     exact⟨zn (ne a o q2),q1⟩
    ·refine bp.mpr ⟨λh=>?_,bn.mpr ⟨(bp.mp n1).2,(bp.mp Jl).2,λa ha b hb e=>?_⟩⟩
     ·rcases aU.mp h with h|h
      ·obtain⟨_,o,q2⟩:=c1 q h;exact ne q o q2 rfl
      ·obtain⟨_,o,q2⟩:=c2 q h;exact ne q o q2 rfl
     ·subst e
      obtain⟨_,o,ho,_⟩:=dY.cellsOf ol a ha
      rw[yI a (aj _ hb)]at ho
      cases ho
    ·intro a ha hr
     obtain⟨_,o,ho,_⟩:=cf a hr
     rcases av.mp ha with rfl|ha
     ·exact ne a o (x1.hh _ _ ho) rfl
     ·rcases aU.mp ha with ha|ha
      ·exact dj a (aj _ ha) hr
      ·rw[yI a (aj _ ha)]at ho;cases ho
    ·intro a ha
     rcases av.mp ha with rfl|ha
     ·exact r.bh.free hq
     ·rcases aU.mp ha with ha|ha
      ·exact b1 a (aj _ ha)
      ·exact rs.bh.free (yI a (aj _ ha))
   ·rw[if_neg hz]at h5;cases h5
  |_=>cases h5
 |_=>cases h5
theorem dY.at {R:D->V->List af->Prop}:∀{ds:List D} {vs:List V} {fp:List af},dY R ds vs fp->∃fs:List (List af),fs.length=ds.length/\fs.flatten=fp/\∀(i:Nat) (hi:i<ds.length),R (ds.getD i .non) (vs.getD i .non) (fs.getD i [])
 |_,_,_,.nil=>⟨[],rfl,rfl,λi h=>by simp at h⟩
 |_,_,_,.cons (f:=f) (g:=g) h t=>by
  obtain⟨fs,e1,e2,e3⟩:=dY.at t
  refine⟨f::fs,by simp[e1],by rw[cD,e2],λi hi=>?_⟩
  cases i with
  |zero=>exact h
  |succ i=>exact e3 i (by simpa using hi)
theorem dY.pick {R:D->V->List af->Prop}{ds:List D}{vs:List V}{fs:List (List af)}(h:∀(i:Nat) (hi:i<ds.length),R (ds.getD i .non) (vs.getD i .non) (fs.getD i [])):∀π:List Nat,(∀i∈π,i<ds.length)->dY R (π.map λi=>ds.getD i .non) (π.map λi=>vs.getD i .non) (π.map λi=>fs.getD i []).flatten
 |[],_=>.nil
 |i::π,hi=>.cons (h i (hi i ak)) (dY.pick h π λj hj=>hi j (aj _ hj))
theorem Ob:∀{fs:List (List af)},fs.flatten.Nodup->∀{i j:Nat} {a:af},a∈fs.getD i []->a∈fs.getD j []->i=j
 |[],_,i,j,a,h,_=>by simp at h
 |f::fs,nd,i,j,a,h1,h2=>by
  rw[cD,bn]at nd
  have Mm:∀k,a∈fs.getD k []->a∈fs.flatten:=λk h=>by
   by_cases hk:k<fs.length
   ·rw[aE,aR hk]at h
    exact ij.mpr ⟨_,lB hk,h⟩
   ·rw[aE,ck (by omega)]at h;cases h
  cases i with
  |zero=>
   cases j with
   |zero=>rfl
   |succ j=>exact absurd rfl (nd.2.2 a h1 a (Mm j h2))
  |succ i=>
   cases j with
   |zero=>exact absurd rfl (nd.2.2 a h2 a (Mm i h1))
   |succ j=>rw[Ob nd.2.1 (i:=i) (j:=j) h1 h2]
theorem Kn:∀{fs:List (List af)},fs.flatten.Nodup->∀i:Nat,(fs.getD i []).Nodup
 |[],_,i=>by simp
 |f::fs,nd,i=>by
  rw[cD,bn]at nd
  cases i with
  |zero=>exact nd.1
  |succ i=>exact Kn nd.2.1 i
theorem ND {fs:List (List af)}(nd:fs.flatten.Nodup):∀{π:List Nat},π.Nodup->(π.map λi=>fs.getD i []).flatten.Nodup
 |[],_=>bz
 |i::π,h=>by
  obtain⟨h1,h2⟩:=bp.mp h
  rw[bu,cD,bn]
  refine⟨Kn nd i,ND nd h2,λa ha b hb e=>?_⟩
  subst e
  obtain⟨g,hg,pN⟩:=ij.mp hb
  obtain⟨j,hj,rfl⟩:=dc.mp hg
  exact h1 (by rw[Ob nd ha pN];exact hj)
theorem Gp {fs:List (List af)}{π:List Nat}{a:af}(h:a∈(π.map λi=>fs.getD i []).flatten):a∈fs.flatten:=by
 obtain⟨g,hg,pN⟩:=ij.mp h
 obtain⟨j,hj,rfl⟩:=dc.mp hg
 by_cases hk:j<fs.length
 ·rw[aE,aR hk]at pN
  exact ij.mpr ⟨_,lB hk,pN⟩
 ·rw[aE,ck (by omega)]at pN;cases pN
noncomputable def kE:D->Option D
 |.lst ds=>(lY ds).bind λks=>(TS.tsrt ks).bind λπ=>if(ds.length<=1000/\π.length<=1000/\∀i∈π,i<ds.length)/\π.Nodup then some (.lst (π.map λi=>ds.getD i .non))else none
 |_=>none
theorem sx {K:ae}{F H:Hp}:∀{ds:List D} {vs:List V} {ks:List Int} {fp:List af},dY (Ow K ct F H (k+1)) ds vs fp->lY ds=some ks->∃qs:List (af×List V),vs=qs.map (λq=>V.ref q.1)/\ks=qs.map (λq=>(q.2.length:Int))/\∀q∈qs,eR K H q.1 q.2
 |[],_,_,_,.nil,e=>by cases e;exact⟨[],rfl,rfl,nofun⟩
 |d::ds,_,ks,_,.cons (v:=v) h t,e=>by
  cases d with
  |lst xs=>
   obtain⟨ns,h1,h2⟩:=bg (show(lY ds).bind _=_ from e)
   cases h2
   obtain⟨qs,e1,e2,e3⟩:=sx t h1
   obtain⟨ad,us,fr,rfl,_,_,hH,ol⟩:=h.lst_inv
   exact⟨(ad,us)::qs,by rw[e1];rfl,by rw[e2,ol.length];rfl,λq hq=>by
    rcases av.mp hq with rfl|hq
    ·exact eR.of hH
    ·exact e3 q hq⟩
  |_=>cases e
theorem VW {i:Nat}{x:aP}{pn p p2 pz kp:cB}(hm:ms[i]?=some (.ow (k+2)))(hg:Gl X "sorted")(CQ:X.mg "sorted"=none)(mX:Gl X "len")(rB:X.mg "len"=none)(hN:X.N[i]?=some x:=by rfl)
  (hv:pJ X.env.scope x:=by first|exact Or.inl rfl|exact Or.inr (Or.inl rfl)|exact Or.inr (Or.inr rfl)) (hd:(x==("__debug__":aP))=false:=by decide) (iU:(x==("__classdict__":aP))=false:=by decide)
  (he:ay [.Name x pn] X.env=(false,bS (.Name x pn) X.env)::ay [] X.env:=by rfl) :
  XS X ct ms (k+2) (.Return (some (.Call (.Name "sorted" p) [.Name x pn] [⟨some "key",.Name "len" p2,kp⟩] pz)) pos) (sRet (e1 kE (eV i))):=by
 refine⟨_,GC (Xl hg CQ mX rB (jz hN hv hd iU) he),λF0 B F H ρ σ o E rs e w=>?_⟩
 obtain⟨d0,g1,g2⟩:=bg e
 cases g2
 obtain⟨d,h1,h2⟩:=bg g1
 obtain⟨fp,sl,nd,hb⟩:=rs.sl
 obtain⟨f1,fr,i1,i2,i3,i4,i5⟩:=sl.put hm
 obtain⟨v,vK,ow⟩:=i4 d (x6 h1)
 refine⟨v,vK,?_⟩
 cases d with
 |lst ds=>
  obtain⟨ks,h3,h4⟩:=bg (show(lY ds).bind _=_ from h2)
  obtain⟨π,h5,h6⟩:=bg h4
  by_cases hz:(ds.length<=1000/\π.length<=1000/\∀i∈π,i<ds.length)/\π.Nodup
  ·rw[if_pos hz]at h6
   cases h6
   obtain⟨ad,vs,rl,rfl,rfl,hF,hH,ol⟩:=ow.lst_inv
   obtain⟨qs,rfl,rfl,hq⟩:=sx ol h3
   obtain⟨fs,_,e2,e3⟩:=dY.at ol
   have hl:ds.length=qs.length:=by have:=ol.length;rwa[aA]at this
   have Sq:=(bp.mp (i3 nd).1).2
   refine⟨ad,qs,π,rfl,eR.of hH,hq,by omega,hz.1.2.1,λi hi=>by have:=hz.1.2.2 i hi;omega,h5,λq IQ=>?_⟩
   have ne:∀a o,H a=some o->a≠q:=λa o h e=>by rw[e,IQ]at h;cases h
   have fq:F q=none:=rs.fh.free IQ
   have cl:∀a∈rl,F a=none/\∃o,H a=some o:=λa ha=>by
    obtain⟨q1,o,q2,q3⟩:=dY.cellsOf ol a ha
    exact⟨q1,o,q2⟩
   have vp:(π.map λi=>(qs.map λq=>V.ref q.1).getD i .non) = π.map λi=>V.ref (qs.getD i (0,[])).1:=dz λi hi=>by
    have:=hz.1.2.2 i hi
    rw[aE,aE,bi,aR (by omega)];rfl
   have op:=dY.pick (vs:=qs.map λq=>V.ref q.1) e3 π hz.1.2.2
   rw[vp]at op
   refine w _ F (upd H q (.lst (π.map λi=>V.ref (qs.getD i (0,[])).1))) (q::(π.map λi=>fs.getD i []).flatten) rs.f0 (λa o h=>?_) (λa o h=>?_) rs.nf (.inr (.lst fq yr (op.mono λ_ _ f' rA o'=>?_))) ?_ ?_
   ·have:=rs.bh _ _ h
    rw[zn (ne a o this)];exact this
   ·have:=rs.fh _ _ h
    rw[zn (ne a o this)];exact this
   ·refine o'.frame (.refl _) λa ha=>?_
    obtain⟨q1,o,q2⟩:=cl a (by rw[←e2];exact Gp (rA a ha))
    exact⟨zn (ne a o q2),q1⟩
   ·refine bp.mpr ⟨λh=>?_,ND (by rw[e2];exact Sq) hz.2⟩
    obtain⟨_,o,q2⟩:=cl q (by rw[←e2];exact Gp h)
    exact ne q o q2 rfl
   ·intro a ha
    rcases av.mp ha with rfl|ha
    ·exact rs.bh.free IQ
    ·exact hb a (i1 a (aj _ (by rw[←e2];exact Gp ha)))
  ·rw[if_neg hz]at h6;cases h6
 |_=>cases h2
def Mo.flat:Mo->Bool
 |.al _=>true
 |.ow 0=>true
 |_=>false
theorem SL.flat {K:ae}{F B B' H:Hp}{ρ:Env}{σ:St}{fp:List af}{ms:List Mo}(h:SL K ct F B H ms ρ σ fp)(s:bK B B'):(∀m∈ms,m.flat=true)->SL K ct F B' H ms ρ σ []/\fp=[]:=by
 induction h with
 |nil=>exactλ_=>⟨.nil,rfl⟩
 |no t ih=>exactλhm=>⟨.no (ih λm h=>hm m (aj _ h)).1,(ih λm h=>hm m (aj _ h)).2⟩
 |al l t ih=>exactλhm=>⟨.al (l.mono (.refl _) s) (ih λm h=>hm m (aj _ h)).1,(ih λm h=>hm m (aj _ h)).2⟩
 |px l t ih=>exactλhm=>absurd (hm _ ak) (by simp[Mo.flat])
 |so o t ih=>exactλhm=>absurd (hm _ ak) (by simp[Mo.flat])
 |@ow n d v ms ρ σ f fp o t ih=>
  intro hm
  have h0:=hm _ ak
  cases n with
  |succ n=>cases h0
  |zero=>
   obtain⟨i1,i2⟩:=ih λm h=>hm m (aj _ h)
   have e:=Ow.nil0 o
   subst e i2
   exact⟨SL.ow (f:=[]) (fp:=[]) o i1,rfl⟩
theorem RS.base {K:ae}{F0 B F1 H1 F H:Hp}{ρ:Env}{σ:St}{ms:List Mo}(IJ:∀m∈ms,m.flat=true)(r:RS K ct F0 B ms F H ρ σ)(s:bK B H1)(x:fL F1 H1 F H):RS K ct F1 H1 ms F H ρ σ:=by
 obtain⟨fp,sl,nd,hb⟩:=r.sl
 exact⟨x.ff,x.hh,x.fh,x.nf,[],(sl.flat s IJ).1,bz,nofun⟩
theorem SL.slot {K:ae}{F B H:Hp}{ρ:Env}{σ:St}{fp:List af}{ms:List Mo}(h:SL K ct F B H ms ρ σ fp):∀{i:Nat} {o:Option V},ρ[i]?=some Option.none->SL K ct F B H ms ρ (σ.set i o) fp:=by
 induction h with
 |nil=>intro i o h;cases h
 |no t ih=>
  intro i o h
  cases i with
  |zero=>exact .no t
  |succ i=>exact .no (ih h)
 |al l t ih=>
  intro i o h
  cases i with
  |zero=>cases h
  |succ i=>exact .al l (ih h)
 |px l t ih=>
  intro i o h
  cases i with
  |zero=>cases h
  |succ i=>exact .px l (ih h)
 |so q t ih=>
  intro i o h
  cases i with
  |zero=>cases h
  |succ i=>exact .so q (ih h)
 |ow q t ih=>
  intro i o h
  cases i with
  |zero=>cases h
  |succ i=>exact .ow q (ih h)
theorem RS.slot {K:ae}{F0 B F H:Hp}{ρ:Env}{σ:St}{ms:List Mo}{i:Nat}{o:Option V}(r:RS K ct F0 B ms F H ρ σ)(h:ρ[i]?=some none):RS K ct F0 B ms F H ρ (σ.set i o):=by
 obtain⟨fp,sl,nd,hb⟩:=r.sl
 exact⟨r.f0,r.bh,r.fh,r.nf,fp,sl.slot h,nd,hb⟩
def mV (i:Nat)(p:BF)(ρ:Env):List D->Option Out
 |[]=>some (.nx (ρ.set i none))
 |d::ds=>(p (ρ.set i (some d))).bind λb=>if b=true then some (.rt d)else mV i p ρ ds
def oB (i:Nat)(f:EF)(p:BF):SF:=λρ=>if i < ρ.length then(f ρ).bind λd=>match d with
 |.lst ds=>mV i p ρ ds
 |_=>none else none
theorem Zn {i:Nat}{x:aP}{p1 p2 p3 p4:cB}(hm:ms[i]?=some (.al (k+1)))(IJ:∀m∈ms,m.flat=true)(hN:X.N.Nodup)(he:XO X ct ms (k+2) e f)(hc:XT X ct ms c p)(hp:bV (aS X.prog X.w) X.A X.env X.xe)(uW:X.calm=true)(hi:X.N[i]?=some x:=by rfl)
  (hx:Loc X.env.scope x:=by first|exact Or.inl rfl|exact Or.inr rfl) (hv:pJ X.env.scope x:=by first|exact Or.inl rfl|exact Or.inr (Or.inl rfl)|exact Or.inr (Or.inr rfl)) (hd:(x==("__debug__":aP))=false:=by decide) (iU:(x==("__classdict__":aP))=false:=by decide)
  (hf:X.fn x=true\/X.env.scope.names.lookup x=some .local:=by first|exact .inl rfl|exact .inr rfl|assumption) (hs:∀x,cW e X.env x=pure x:=by intro _;rfl) :
  XS X ct ms (k+1) (.For (.Name x p1) e [.If c [.Return (some (.Name x p2)) p3] [] p4] [] pos) (oB i f p):=by
 obtain⟨t,pt,qt⟩:=he
 obtain⟨tc,TQ,qc⟩:=hc
 have same:ms.set i (.al (k+1))=ms:=by
  apply fm
  intro j
  by_cases hj:i=j
  ·subst hj
   rw[cx (aX.mp hm).1,hm]
  ·rw[eu hj]
 refine⟨_,Ps hp uW (Kz pt) (Gw hN hi hx hf) (Ky (PL TQ (Ky (GC (jz hi hv hd iU))) OF)) hs,λF0 B F H ρ σ o E rs e z=>?_⟩
 unfold oB at e
 by_cases Ap:i < ρ.length
 case neg=>rw[if_neg Ap]at e;cases e
 rw[if_pos Ap]at e
 obtain⟨d,h1,h2⟩:=bg e
 refine qt F0 B F H ρ σ d _ rs h1 λv F1 H1 fp x1 ow nd RE=>?_
 cases d with
 |lst ds=>
  have h2:mV i p ρ ds=some o:=h2
  obtain⟨A,vs,fr,rfl,rfl,hFA,Ia,ol⟩:=ow.lst_inv
  have By:∀a∈A::fr,B a=none:=λa ha=>rs.bh.free (RE a ha)
  have lu:=rs.ext x1
  have sB:bK B H1:=lu.bh
  have Mc:Pr (Al X.K ct F1 H1 (k+1)) ds vs:=by
   have key:∀{ds:List D} {vs:List V} {fr:List af},dY (Ow X.K ct F1 H1 (k+1)) ds vs fr->Pr (Al X.K ct F1 H1 (k+1)) ds vs:=by
    intro ds vs fr h
    induction h with
    |nil=>exact .nil
    |cons h t ih=>exact .cons (h.al x1.fh) ih
   exact key ol
  refine⟨A,rfl,⟨vs,eR.of Ia⟩,?_⟩
  have ok:=KQ (ct:=ct) (G:=H1) (a:=A) Mc λF2 H2 s1 s2 s3=>eR.of (s2 _ _ Ia)
  refine⟨λj m σ H=>m=ds.length-j/\j<=ds.length/\∃F,fL F1 H1 F H/\RS X.K ct F0 B ms F H (ρ.set i none) σ/\mV i p ρ (ds.drop j)=some o,⟨ds.length,rfl,cH _,F1,.refl x1.fh,by have:=lu.forget (.al (k+1)) i;rwa[same]at this,h2⟩,?_⟩
  rintro j m σ H ⟨rfl,Iy,F,xe,rs,e⟩
  obtain⟨k1,k2⟩:=ok j F H xe.ff xe.hh xe.fh
  by_cases iC:j<ds.length
  ·right
   have Io:ds[j]?=some ds[j]:=by simp[iC]
   obtain⟨go,yl⟩:=k1 _ Io
   rw[gQ iC]at e
   obtain⟨b,h3,h4⟩:=bg e
   refine⟨go,λσ H=>j+1<=ds.length/\∃F,fL F1 H1 F H/\RS X.K ct F0 B ms F H (ρ.set i none) σ/\mV i p ρ (ds.drop (j+1))=some o,λσ' H' h=>⟨ds.length-(j+1),by omega,rfl,h⟩,λy H2 hy=>?_⟩
   obtain⟨F2,x2,l⟩:=yl y H2 hy
   have x12:=xe.trans x2
   have Ga:RS X.K ct F0 B ms F2 H2 (ρ.set i none) (σ.set i (some y)):=(rs.ext x2).slot (by rw[cx Ap])
   have rb:=RS.base IJ Ga sB x12
   have rd:RS X.K ct F1 H1 ms F2 H2 (ρ.set i (some ds[j])) (σ.set i (some y)):=by
    obtain⟨gF,sl,Sm,Rw⟩:=rb.sl
    have q:=sl.setA l hm
    rw[nX,nX]at q
    exact⟨rb.f0,rb.bh,rb.fh,rb.nf,gF,q,Sm,Rw⟩
   refine qc F1 H1 F2 H2 _ _ b _ rd h3 λF3 H3 x3=>?_
   have Aw:=x12.trans x3
   cases b with
   |true=>
    rw[if_pos rfl]at h4 ⊢
    cases h4
    obtain⟨w,hw,_⟩:=rd.get hm (by rw[cx Ap])
    have hσ:i < σ.length:=by
     by_cases hσ:i < σ.length
     ·exact hσ
     ·rw[ck (by rw[iI];omega)]at hw;cases hw
    refine⟨y,by rw[cx hσ],?_⟩
    obtain⟨fs,_,e2,e3⟩:=dY.at ol
    have oj:=e3 j iC
    have ed:ds.getD j .non=ds[j]:=by rw[aE,Io];rfl
    have ey:vs.getD j .non=y:=by
     obtain⟨u,hu,_⟩:=Mc.get' Io
     have R9:vs[j]?=some y:=hy.2 vs (eR.of (xe.hh _ _ Ia))
     rw[aE,R9];rfl
    rw[ed,ey]at oj
    have So:(fs.getD j []).Nodup:=Kn (by rw[e2];exact(bp.mp nd).2) j
    have sub:∀a∈fs.getD j [],a∈fr:=λa ha=>by rw[←e2];exact Gp (π:=[j]) (by simpa using ha)
    exact z y F3 H3 (fs.getD j []) (lu.f0.trans Aw.ff) (sB.trans Aw.hh) Aw.fh (λa o h t n=>Aw.nf a o (sB _ _ h) t (lu.nf a o h t n)) (oj.ext Aw) So λa ha=>By a (aj _ (sub a ha))
   |false=>
    rw[if_neg aO]at h4 ⊢
    exact⟨iC,F3,Aw,Ga.ext x3,h4⟩
  ·left
   refine⟨k2 (by omega),?_⟩
   rw[iE (by omega)]at e
   cases e
   exact z σ F H rs
 |_=>cases h2
end
end L3
set_option maxHeartbeats 1000000
namespace L3
open PySem PySem.Spec L2
open PyProof.Rows hiding St
section
variable {X:Cx}{ct:Nat->af}{ms:List Mo}{rk n m k:Nat}{st:bG}{rest:List bG}{a b c e tg:Expr}{f g h:EF}{p q:BF}{u w:SF}{pos:cB}{i j:Nat}
variable {kk:Nat}{fa:af}{fd:aM}{ps:List aP}{mf:List D->Option D}{x:aP}{pp:cB}
end
end L3
set_option maxHeartbeats 1000000
namespace L3
open PySem PySem.Spec L2
open PyProof.Rows hiding St
namespace SW2
open L2.SW
def iQ (p:Array Int×SetTable)(n:Int):Array Int×SetTable:=oi p.2 p.1 (hashInt n)
def sP (t:SetTable)(n:Nat):Bool:=(aV (n+1)).all λi=>SetTable.below t.place (if i=0 then 0 else t.place.getD (i-1) 0+1)==i
def yC (led:Bool):Array Int×SetTable->List Int->Bool
 |p,[]=>p.2.plain&&(p.2.led==led)&&sP p.2 p.1.size
 |p,n::ns=>!(p.1.toList.contains (hashInt n))&&decide (p.1.size+1<4096)&&yC led (iQ p n) ns
def okS (ns:List Int):Bool:=yC true (#[],.fresh 0 0 true) ns&&yC false (#[],.fresh 0 0 false) ns
theorem O7 {led:Bool}:∀(ns:List Int) (p:Array Int×SetTable),yC led p ns=true->(∀i,i<ns.length->hashInt (ns.getD i 0)∉((ns.take i).foldl iQ p).1.toList/\((ns.take i).foldl iQ p).1.size+1<4096) /\
  (ns.foldl iQ p).2.plain=true/\(ns.foldl iQ p).2.led=led/\sP (ns.foldl iQ p).2 (ns.foldl iQ p).1.size=true
 |[],p,h=>by
  unfold yC at h
  simp only[bw,beq_iff_eq]at h
  exact⟨λi hi=>absurd hi (Nat.not_lt_zero i),h.1.1,h.1.2,h.2⟩
 |n::ns,p,h=>by
  unfold yC at h
  simp only[bw,Bool.not_eq_true',decide_eq_true_eq]at h
  obtain⟨⟨h1,h2⟩,h3⟩:=h
  obtain⟨g1,g2⟩:=O7 ns (iQ p n) h3
  refine⟨λi hi=>?_,g2⟩
  cases i with
  |zero=>
   refine⟨λz=>?_,h2⟩
   have z:hashInt n∈p.1.toList:=z
   rw[oF.mpr z]at h1
   cases h1
  |succ i=>exact g1 i (by simpa using hi)
theorem Zo {led:Bool}{ns:List Int}(h:okS ns=true):GY (λi=>ns.getD i 0) ns.length (λi=>(ns.take i).foldl iQ (#[],.fresh 0 0 led)) /\
  (ns.foldl iQ (#[],.fresh 0 0 led)).2.plain=true/\(ns.foldl iQ (#[],.fresh 0 0 led)).2.led=led/\sP (ns.foldl iQ (#[],.fresh 0 0 led)).2 (ns.foldl iQ (#[],.fresh 0 0 led)).1.size=true:=by
 unfold okS at h
 simp only[bw]at h
 have h:yC led (#[],.fresh 0 0 led) ns=true:=by cases led;exact h.2;exact h.1
 obtain⟨g1,g2⟩:=O7 ns _ h
 refine⟨⟨λi hi=>(g1 i hi).1,λi hi=>?_,λi hi=>(g1 i hi).2⟩,g2⟩
 have e:ns.take (i+1)=ns.take i++[ns.getD i 0]:=by
  rw[tH,aR hi]
  congr 1
  simp[aE,hi]
 show(ns.take (i+1)).foldl iQ _=_
 rw[e,gU]
 rfl
end SW2
open SW2 L2.SW
def rQ (prog:aW)(w:bv)(a:af)(ns:List Int):aI->Prop:=λh=>∃o es ep t,h.get? a=some o/\Wk w o es ep t/\ElemsOf (intKind prog w) es.toList/\es.size<64/\(es.toList.map λe=>iv e.2).Perm ns
section
variable {X:Cx}{ct:Nat->af}{ms:List Mo}{rk n m k:Nat}{a b c e:Expr}{f g h:EF}{pos:cB}
theorem W4 (hc:X.calm=true):eE X (.type "set") (λxs H Q=>∃(a:af) (ns:List Int),xs=[.ref a]/\eR X.K H a (ns.map V.int)/\ns.length<64/\okS ns=true/\∀p,H p=none->Q (.ref p) (upd H p (.ext (rQ X.prog X.w p ns)))):=by
 intro ai s σ H xs us Q I r h
 obtain⟨a,ns,rfl,hq,LC,ok,q⟩:=h
 obtain⟨u,rfl,ru⟩:=r.one
 cases(show u=aa.ref a from ru)
 obtain⟨bT,rv,pl,hz⟩:=I.list hq
 have hi:=IntsAre.of rv
 have d4:bT.length=ns.length:=by rw[←rv.length,aA]
 have hsz:bT.toArray.size=ns.length:=by rw[aK,d4]
 obtain⟨s1,s2,s3,s4⟩:=Zo (led:=iz X.w) ok
 refine Wp (items:=bT.toArray) (ns:=ns) (st:=λi=>(ns.take i).foldl iQ (#[],.fresh 0 0 (iz X.w))) (I.ok.hd hc) pl.isList (by simpa using hi) rfl (by rw[hsz];exact s1) λh' tk hS hk=>?_
 rw[hsz]at hS
 rw[rK,show(aV ns.length).map (λi=>ns.getD i 0)=ns from dC (by simp) λi h1 h2=>by simp[aE,h2]]at hS
 obtain⟨o,es,ep,g1,g2,g3,g4,g5,g6,g7,g8⟩:=hS
 have gz:es.size=(ns.foldl iQ (#[],.fresh 0 0 (iz X.w))).1.size:=by rw[←g5,er]
 have gl:es.size<64:=by
  have:=g8.length_eq
  rw[aA,aZ]at this
  omega
 have wk:Wk X.w o es ep (ns.foldl iQ (#[],.fresh 0 0 (iz X.w))).2:=⟨g2,g3,g7,λ_=>s2,λhl=>by rw[s3,hl],λ_ i hi=>by
  rw[←gz]at s4
  exact eq_of_beq (cZ.mp s4 i (bX.mpr (by omega)))⟩
 refine⟨.ref _,_,I.laid (a:=s.heap.objs.size) (o:=.ext (rQ X.prog X.w s.heap.objs.size ns)) (t':=tk) (λb u hb=>hk b u (aG hb) hb) (aH _) ?_,rfl,q _ (I.hok.fresh (aH _))⟩
 exact⟨⟨o,es,ep,_,g1,wk,g4,gl,g8⟩,⟨o,g1⟩,λh1 h2 ⟨o,es,ep,t,z1,z2⟩ hh=>⟨o,es,ep,t,hh o z1,z2⟩⟩
theorem Vw (hc:X.calm=true):eE X (.builtin "sorted") (λxs H Q=>∃(p:af) (ns:List Int),xs=[.ref p]/\H p=some (.ext (rQ X.prog X.w p ns))/\∀nc:List Int,nc.Perm ns->nc.Pairwise (·<=·)->∀q,H q=none->Q (.ref q) (upd H q (.lst (nc.map V.int)))):=by
 intro ai s σ H xs us Q I r h
 obtain⟨p,ns,rfl,hp,q⟩:=h
 obtain⟨u,rfl,ru⟩:=r.one
 cases(show u=aa.ref p from ru)
 obtain⟨⟨o,es,ep,t,g1,wk,g4,gl,g8⟩,_⟩:=(I.hok p _ hp:dI X.prog X.w H s.heap p (.ext (rQ X.prog X.w p ns)))
 refine XC (I.ok.hd hc) wk g1 g4 gl g8 λh' tk p' cc out nc a1 a2 a3 keep le he=>?_
 have yK:nc.length<=sizeLine:=by
  rw[a2.length_eq,←g8.length_eq,aA,aZ,bC];omega
 refine⟨.ref _,_,I.laid (a:=p') (o:=.lst (nc.map V.int)) (t':=tk) keep le ?_,rfl,q nc a2 a3 _ (I.hok.fresh le)⟩
 exact⟨by rw[aA];exact yK,out.toList,cc,J3 a1,by simpa[seqObj]using he⟩
def kF:D->Option D
 |.lst ds=>(gc ds).bind λns=>if ns.length<64/\okS ns=true then some (.lst ((ni ns).map .int))else none
 |_=>none
theorem Ws {p1 p2 pz:cB}(hc:X.calm=true)(hg:Gl X "sorted")(hm:X.mg "sorted"=none)(mX:Gl X "set")(rB:X.mg "set"=none)(he:XE X ct ms n e f)(hs:ay [e] X.env=[(false,bS e X.env)]:=by rfl)
  (oQ:ay [.Call (.Name "set" p2) [e] [] pz] X.env=[(false,bS (.Call (.Name "set" p2) [e] [] pz) X.env)]:=by rfl) :
  XO X ct ms 1 (.Call (.Name "sorted" p1) [.Call (.Name "set" p2) [e] [] pz] [] pos) (e1 kF f):=by
 obtain⟨t,pt,qt⟩:=he
 refine⟨_,Gm (Vw hc) hg hm NS (ul (NL (W4 hc) mX rB ZR (ul pt vX hs) (by decide) (by decide) hs (by rfl)) vX oQ) (by decide) (by decide) oQ (by rfl),λF0 B F H ρ σ d Q rs e w=>?_⟩
 obtain⟨d1,h1,h2⟩:=bg e
 cases d1 with
 |lst ds=>
  obtain⟨ns,h3,h4⟩:=bg (show(gc ds).bind _=_ from h2)
  by_cases hz:ns.length<64/\okS ns=true
  ·rw[if_pos hz]at h4
   cases h4
   refine qt F0 B F H ρ σ _ _ rs h1 λv F1 H1 x1 l1=>?_
   have CJ:=JX h3
   subst CJ
   obtain⟨a,vs,rfl,ha,hp⟩:=l1.lst x1.fh
   have hv:=hp.intV
   subst hv
   refine⟨a,ns,rfl,ha,hz.1,hz.2,λp IN=>⟨p,ns,rfl,yr,λnc a2 a3 q hq=>?_⟩⟩
   have:nc=ni ns:=JR (a2.trans (JY ns).symm) a3 (j5 ns)
   subst this
   have x2:=x1.trans (fL.newO x1.fh IN (.ext (rQ X.prog X.w p ns)))
   refine Az x2.fh (Pr.ofInts _) (λv F' H' fp x3 ow nd fr=>w v F' H' fp (x2.trans x3) ow nd λz hz=>?_) q hq
   cases e:H z with
   |none=>rfl
   |some o=>have:=fr z hz;rw[x2.hh z o e]at this;cases this
  ·rw[if_neg hz]at h4;cases h4
 |_=>cases h2
end
end L3
namespace Fq
def dv (t b:Int):Int:=if b<0 then -((Int.gcd t b:Nat):Int)else((Int.gcd t b:Nat):Int)
def mk (t b:Int):Int×Int:=(t.fdiv (dv t b),b.fdiv (dv t b))
end Fq
set_option maxHeartbeats 4000000
namespace My
open PySem L2 L3
def top (i:Nat):bG:=PySem.Challenge.pw_ringbeat_k67_whole_fewest_given_up.main.body.getD i (.Pass ⟨0,0,0,0⟩)
abbrev yb:bG:=inClass (top 8) 0
abbrev yj:bG:=inClass (top 9) 0
abbrev zp:bG:=inClass (top 10) 0
abbrev zq:bG:=inClass (top 11) 0
abbrev y9:bG:=top 18
abbrev xa:bG:=top 19
abbrev we:bG:=top 20
abbrev xb:bG:=top 21
abbrev yk:bG:=top 22
abbrev xq:bG:=top 23
abbrev zt:bG:=top 24
abbrev yt:bG:=inClass (top 27) 0
abbrev zm:bG:=inClass (top 27) 1
abbrev xr:bG:=inClass (top 27) 2
abbrev xf:bG:=inClass (top 27) 3
abbrev wy:bG:=top 29
abbrev zu:bG:=top 31
abbrev ym:bG:=inClass (top 42) 1
abbrev yc:bG:=inClass (top 42) 0
abbrev yu:bG:=top 33
abbrev zj:bG:=top 34
abbrev uq:bG:=top 35
abbrev zw:bG:=inClass (top 9) 2
abbrev zx:bG:=inClass (top 10) 2
abbrev zy:bG:=inClass (top 11) 2
abbrev wf:bG:=top 38
abbrev wg:bG:=top 39
abbrev wj:bG:=top 40
abbrev yn:bG:=top 44
abbrev xg:bG:=top 45
abbrev xh:bG:=top 46
abbrev xi:bG:=top 47
abbrev xt:bG:=top 48
abbrev xj:bG:=top 49
abbrev xu:bG:=top 50
abbrev yw:bG:=top 51
abbrev yo:bG:=top 52
abbrev xv:bG:=top 53
abbrev xk:bG:=top 54
abbrev Aa:bG:=top 55
theorem Vf:bA ["self","start","goal","time","behind"] ["self","start","goal","time","behind"] (aY yb):=⟨rfl,rfl,rfl,by decide +kernel,rfl,by decide +kernel,by decide +kernel⟩
theorem U5:bA ["self","start","goal","time"] ["self","start","goal","time"] (aY yj):=⟨rfl,rfl,rfl,by decide +kernel,rfl,by decide +kernel,by decide +kernel⟩
theorem U6:bA ["self","start","goal","time","behind"] ["self","start","goal","time","behind"] (aY zp):=⟨rfl,rfl,rfl,by decide +kernel,rfl,by decide +kernel,by decide +kernel⟩
theorem U7:bA ["self","start","goal","time","behind"] ["self","start","goal","time","behind"] (aY zq):=⟨rfl,rfl,rfl,by decide +kernel,rfl,by decide +kernel,by decide +kernel⟩
theorem Vx:bA ["sign"] ["sign"] (aY y9):=⟨rfl,rfl,rfl,by decide +kernel,rfl,by decide +kernel,by decide +kernel⟩
theorem Vy:bA ["sign"] ["sign"] (aY xa):=⟨rfl,rfl,rfl,by decide +kernel,rfl,by decide +kernel,by decide +kernel⟩
theorem VZ:bA ["word"] ["word"] (aY we):=⟨rfl,rfl,rfl,by decide +kernel,rfl,by decide +kernel,by decide +kernel⟩
theorem j6:bA ["names","seen","name"] ["names"] (aY xb):=⟨rfl,rfl,rfl,by decide +kernel,rfl,by decide +kernel,by decide +kernel⟩
theorem U8:bA ["number","least","most"] ["number","least","most"] (aY yk):=⟨rfl,rfl,rfl,by decide +kernel,rfl,by decide +kernel,by decide +kernel⟩
theorem JS:bA ["arrow","many","least","most"] ["arrow","many"] (aY xq):=⟨rfl,rfl,rfl,by decide +kernel,rfl,by decide +kernel,by decide +kernel⟩
theorem yp:bA ["many","arrows","within","waited","arrow","placed","done","here"] ["many","arrows"] (aY zt):=⟨rfl,rfl,rfl,by decide +kernel,rfl,by decide +kernel,by decide +kernel⟩
theorem ud:bA ["self","names","arrows","number","arrow","placed"] ["self","names","arrows"] (aY yt):=⟨rfl,rfl,rfl,by decide +kernel,rfl,by decide +kernel,by decide +kernel⟩
theorem UW:bA ["self"] ["self"] (aY zm):=⟨rfl,rfl,rfl,by decide +kernel,rfl,by decide +kernel,by decide +kernel⟩
theorem VX:bA ["self","going"] ["self","going"] (aY xr):=⟨rfl,rfl,rfl,by decide +kernel,rfl,by decide +kernel,by decide +kernel⟩
theorem Vz:bA ["self"] ["self"] (aY xf):=⟨rfl,rfl,rfl,by decide +kernel,rfl,by decide +kernel,by decide +kernel⟩
theorem W5:bA ["one","other"] ["one","other"] (aY wy):=⟨rfl,rfl,rfl,by decide +kernel,rfl,by decide +kernel,by decide +kernel⟩
theorem wm:bA ["told","greatest","going","number","amount"] ["told"] (aY zu):=⟨rfl,rfl,rfl,by decide +kernel,rfl,by decide +kernel,by decide +kernel⟩
theorem Nc:bA ["self","arrow","link"] ["self","arrow"] (aY ym):=⟨rfl,rfl,rfl,by decide +kernel,rfl,by decide +kernel,by decide +kernel⟩
theorem j7:bA ["self","net","times","beat","number"] ["self","net","times","beat"] (aY yc):=⟨rfl,rfl,rfl,by decide +kernel,rfl,by decide +kernel,by decide +kernel⟩
theorem ue:bA ["table","going","left_out","links","number","arrow"] ["table","going","left_out"] (aY yu):=⟨rfl,rfl,rfl,by decide +kernel,rfl,by decide +kernel,by decide +kernel⟩
theorem yg:bA ["rows","links","put","most","start","behind","slack"] ["rows","links","put"] (aY zj):=⟨rfl,rfl,rfl,by decide +kernel,rfl,by decide +kernel,by decide +kernel⟩
theorem u4:bA ["table","rounds","puts","without","many","links","greatest","order","depth","rows","number","going","put"] ["table","rounds","puts","without"] (aY uq):=⟨rfl,rfl,rfl,by decide +kernel,rfl,by decide +kernel,by decide +kernel⟩
theorem UZ:bA ["self"] ["self"] (aY zw):=⟨rfl,rfl,rfl,by decide +kernel,rfl,by decide +kernel,by decide +kernel⟩
theorem U0:bA ["self"] ["self"] (aY zx):=⟨rfl,rfl,rfl,by decide +kernel,rfl,by decide +kernel,by decide +kernel⟩
theorem U1:bA ["self"] ["self"] (aY zy):=⟨rfl,rfl,rfl,by decide +kernel,rfl,by decide +kernel,by decide +kernel⟩
theorem qv:bA ["waits","sets","wait"] ["waits"] (aY wf):=⟨rfl,rfl,rfl,by decide +kernel,rfl,by decide +kernel,by decide +kernel⟩
theorem V0:bA ["table","puts","going","beat","without"] ["table","puts","going","beat","without"] (aY wg):=⟨rfl,rfl,rfl,by decide +kernel,rfl,by decide +kernel,by decide +kernel⟩
theorem JZ:bA ["table","puts","going","beat","waits","chosen"] ["table","puts","going","beat"] (aY wj):=⟨rfl,rfl,rfl,by decide +kernel,rfl,by decide +kernel,by decide +kernel⟩
theorem U9:bA ["_law_script","_law_k"] ["_law_script","_law_k"] (aY yn):=⟨rfl,rfl,rfl,by decide +kernel,rfl,by decide +kernel,by decide +kernel⟩
theorem VA:bA ["_law_found"] ["_law_found"] (aY xg):=⟨rfl,rfl,rfl,by decide +kernel,rfl,by decide +kernel,by decide +kernel⟩
theorem j8:bA ["_law_cell","_law_k","_law_number"] ["_law_cell","_law_k"] (aY xh):=⟨rfl,rfl,rfl,by decide +kernel,rfl,by decide +kernel,by decide +kernel⟩
theorem uw:bA ["_law_cell","_law_many","_law_wide","_law_times_here","_law_k"] ["_law_cell","_law_many"] (aY xi):=⟨rfl,rfl,rfl,by decide +kernel,rfl,by decide +kernel,by decide +kernel⟩
theorem xm:bA ["_law_cell","_law_times_here","_law_beat","_law_waits","_law_most","_law_many","_law_one","_law_other","_law_behind","_law_room","_law_slack","_law_time","_law_kind"] ["_law_cell","_law_times_here","_law_beat","_law_waits","_law_most"] (aY xt):=⟨rfl,rfl,rfl,by decide +kernel,rfl,by decide +kernel,by decide +kernel⟩
theorem vc:bA ["_law_part_here","_law_start","_law_goal","_law_time","_law_behind","_law_kind"] ["_law_part_here"] (aY xj):=⟨rfl,rfl,rfl,by decide +kernel,rfl,by decide +kernel,by decide +kernel⟩
theorem ji:bA ["_law_cells","_law_many","_law_puts_here","_law_cell","_law_amount"] ["_law_cells","_law_many"] (aY xu):=⟨rfl,rfl,rfl,by decide +kernel,rfl,by decide +kernel,by decide +kernel⟩
theorem uf:bA ["_law_found","_law_some","_law_longer_here","_law_row","_law_number"] ["_law_found","_law_some"] (aY yw):=⟨rfl,rfl,rfl,by decide +kernel,rfl,by decide +kernel,by decide +kernel⟩
theorem vz:bA ["_law_some","_law_many","_law_found","_law_step"] ["_law_some","_law_many"] (aY yo):=⟨rfl,rfl,rfl,by decide +kernel,rfl,by decide +kernel,by decide +kernel⟩
theorem VY:bA ["_law_table","_law_puts_here","_law_going","_law_beat","_law_without"] ["_law_table","_law_puts_here","_law_going","_law_beat","_law_without"] (aY xv):=⟨rfl,rfl,rfl,by decide +kernel,rfl,by decide +kernel,by decide +kernel⟩
theorem Nn:bA ["_law_found","_law_table","_law_puts_here","_law_going","_law_beat","_law_waits","_law_less"] ["_law_found","_law_table","_law_puts_here","_law_going","_law_beat","_law_waits"] (aY xk):=⟨rfl,rfl,rfl,by decide +kernel,rfl,by decide +kernel,by decide +kernel⟩
theorem v8:bA ["_law_script","_law_cell","_law_many","_law_times_here","_law_beat","_law_most","_law_parts","_law_one","_law_puts_here","_law_net","_law_table","_law_waits","_law_asked","_law_going","_law_when","_law_handed","_law_found"] ["_law_script"] (aY Aa):=⟨rfl,rfl,rfl,by decide +kernel,rfl,by decide +kernel,by decide +kernel⟩
set_option genInjectivity false
set_option genSizeOf false
structure AL where
 c_Arrow:af
 c_Ride:af
 c_Wait:af
 c_Back:af
 c_Net:af
 c_Table:af
 f_Arrow___init:af
 d_Arrow___init:aM
 f_Ride___init:af
 d_Ride___init:aM
 f_Wait___init:af
 d_Wait___init:aM
 f_Back___init:af
 d_Back___init:aM
 f_is_letter:af
 d_is_letter:aM
 f_is_figure:af
 d_is_figure:aM
 f_is_name:af
 d_is_name:aM
 f_are_names:af
 d_are_names:aM
 f_lies_within:af
 d_lies_within:aM
 f_is_right:af
 d_is_right:aM
 f_placed_goings:af
 d_placed_goings:aM
 f_Net___init:af
 d_Net___init:aM
 f_Net_most_behind:af
 d_Net_most_behind:aM
 f_Net_into:af
 d_Net_into:aM
 f_Net_order:af
 d_Net_order:aM
 f_latest:af
 d_latest:aM
 f_greatest_told:af
 d_greatest_told:aM
 f_Table_slack:af
 d_Table_slack:aM
 f_Table___init:af
 d_Table___init:aM
 f_links_into:af
 d_links_into:aM
 f_lateness_in_last_row:af
 d_lateness_in_last_row:aM
 f_late:af
 d_late:aM
 f_Ride_may_drop:af
 d_Ride_may_drop:aM
 f_Wait_may_drop:af
 d_Wait_may_drop:aM
 f_Back_may_drop:af
 d_Back_may_drop:aM
 f_sets_of:af
 d_sets_of:aM
 f_is_late:af
 d_is_late:aM
 f_give_up:af
 d_give_up:aM
 f_law_cell_at:af
 d_law_cell_at:aM
 f_law_whole:af
 d_law_whole:aM
 f_law_mixed:af
 d_law_mixed:aM
 f_law_times:af
 d_law_times:aM
 f_law_part:af
 d_law_part:aM
 f_law_arrow:af
 d_law_arrow:aM
 f_law_puts:af
 d_law_puts:aM
 f_law_longer:af
 d_law_longer:aM
 f_law_choices:af
 d_law_choices:aM
 f_law_late:af
 d_law_late:aM
 f_law_right:af
 d_law_right:aM
 f_law:af
 d_law:aM
set_option genSizeOf true
set_option genInjectivity true
def AL.ct (a:AL):Nat->af
 |0=>a.c_Arrow
 |1=>a.c_Ride
 |2=>a.c_Wait
 |3=>a.c_Back
 |4=>a.c_Net
 |5=>a.c_Table
 |_=>0
structure Txt (K:ae)(mg:aP->Option aa)(a:AL):Prop where
 Arrow:Dc K mg "Arrow" a.c_Arrow
 Ride:Dc K mg "Ride" a.c_Ride
 Wait:Dc K mg "Wait" a.c_Wait
 Back:Dc K mg "Back" a.c_Back
 Net:Dc K mg "Net" a.c_Net
 Table:Dc K mg "Table" a.c_Table
 Arrow___init:Dm K a.c_Arrow "__init__" "Arrow.__init__" yb ["self","start","goal","time","behind"] a.f_Arrow___init a.d_Arrow___init
 Ride___init:Dm K a.c_Ride "__init__" "Ride.__init__" yj ["self","start","goal","time"] a.f_Ride___init a.d_Ride___init
 Wait___init:Dm K a.c_Wait "__init__" "Wait.__init__" zp ["self","start","goal","time","behind"] a.f_Wait___init a.d_Wait___init
 Wait___init_d1:∃mU,True/\bR [(V.int 0)] mU/\bE K a.d_Wait___init ["self","start","goal","time","behind"] mU
 Back___init:Dm K a.c_Back "__init__" "Back.__init__" zq ["self","start","goal","time","behind"] a.f_Back___init a.d_Back___init
 Back___init_d1:∃mU,True/\bR [(V.int 1)] mU/\bE K a.d_Back___init ["self","start","goal","time","behind"] mU
 is_letter:kI K mg "is_letter" y9 ["sign"] a.f_is_letter a.d_is_letter
 is_figure:kI K mg "is_figure" xa ["sign"] a.f_is_figure a.d_is_figure
 is_name:kI K mg "is_name" we ["word"] a.f_is_name a.d_is_name
 are_names:kI K mg "are_names" xb ["names"] a.f_are_names a.d_are_names
 lies_within:kI K mg "lies_within" yk ["number","least","most"] a.f_lies_within a.d_lies_within
 is_right:kI K mg "is_right" xq ["arrow","many"] a.f_is_right a.d_is_right
 placed_goings:kI K mg "placed_goings" zt ["many","arrows"] a.f_placed_goings a.d_placed_goings
 Net___init:Dm K a.c_Net "__init__" "Net.__init__" yt ["self","names","arrows"] a.f_Net___init a.d_Net___init
 Net_most_behind:Dm K a.c_Net "most_behind" "Net.most_behind" zm ["self"] a.f_Net_most_behind a.d_Net_most_behind
 Net_into:Dm K a.c_Net "into" "Net.into" xr ["self","going"] a.f_Net_into a.d_Net_into
 Net_order:Dm K a.c_Net "order" "Net.order" xf ["self"] a.f_Net_order a.d_Net_order
 latest:kI K mg "latest" wy ["one","other"] a.f_latest a.d_latest
 greatest_told:kI K mg "greatest_told" zu ["told"] a.f_greatest_told a.d_greatest_told
 Table_slack:Dm K a.c_Table "slack" "Table.slack" ym ["self","arrow"] a.f_Table_slack a.d_Table_slack
 Table___init:Dm K a.c_Table "__init__" "Table.__init__" yc ["self","net","times","beat"] a.f_Table___init a.d_Table___init
 links_into:kI K mg "links_into" yu ["table","going","left_out"] a.f_links_into a.d_links_into
 lateness_in_last_row:kI K mg "lateness_in_last_row" zj ["rows","links","put"] a.f_lateness_in_last_row a.d_lateness_in_last_row
 late:kI K mg "late" uq ["table","rounds","puts","without"] a.f_late a.d_late
 late_d1:∃mU,True/\bR [V.non] mU/\bE K a.d_late ["table","rounds","puts","without"] mU
 Ride_may_drop:Dm K a.c_Ride "may_drop" "Ride.may_drop" zw ["self"] a.f_Ride_may_drop a.d_Ride_may_drop
 Wait_may_drop:Dm K a.c_Wait "may_drop" "Wait.may_drop" zx ["self"] a.f_Wait_may_drop a.d_Wait_may_drop
 Back_may_drop:Dm K a.c_Back "may_drop" "Back.may_drop" zy ["self"] a.f_Back_may_drop a.d_Back_may_drop
 sets_of:kI K mg "sets_of" wf ["waits"] a.f_sets_of a.d_sets_of
 is_late:kI K mg "is_late" wg ["table","puts","going","beat","without"] a.f_is_late a.d_is_late
 give_up:kI K mg "give_up" wj ["table","puts","going","beat"] a.f_give_up a.d_give_up
 law_cell_at:kI K mg "_law_cell_at" yn ["_law_script","_law_k"] a.f_law_cell_at a.d_law_cell_at
 law_whole:kI K mg "_law_whole" xg ["_law_found"] a.f_law_whole a.d_law_whole
 law_mixed:kI K mg "_law_mixed" xh ["_law_cell","_law_k"] a.f_law_mixed a.d_law_mixed
 law_times:kI K mg "_law_times" xi ["_law_cell","_law_many"] a.f_law_times a.d_law_times
 law_part:kI K mg "_law_part" xt ["_law_cell","_law_times_here","_law_beat","_law_waits","_law_most"] a.f_law_part a.d_law_part
 law_arrow:kI K mg "_law_arrow" xj ["_law_part_here"] a.f_law_arrow a.d_law_arrow
 law_puts:kI K mg "_law_puts" xu ["_law_cells","_law_many"] a.f_law_puts a.d_law_puts
 law_longer:kI K mg "_law_longer" yw ["_law_found","_law_some"] a.f_law_longer a.d_law_longer
 law_choices:kI K mg "_law_choices" yo ["_law_some","_law_many"] a.f_law_choices a.d_law_choices
 law_late:kI K mg "_law_late" xv ["_law_table","_law_puts_here","_law_going","_law_beat","_law_without"] a.f_law_late a.d_law_late
 law_right:kI K mg "_law_right" xk ["_law_found","_law_table","_law_puts_here","_law_going","_law_beat","_law_waits"] a.f_law_right a.d_law_right
 law:kI K mg "law" Aa ["_law_script"] a.f_law a.d_law
 q_Arrow:Dq K a.c_Arrow "__init__" a.f_Arrow___init
 fld_arrows:∀c∈([4]:List Nat),lc K (a.ct c)/\el K (a.ct c) "arrows"
 fld_beat:∀c∈([5]:List Nat),lc K (a.ct c)/\el K (a.ct c) "beat"
 fld_behind:∀c∈([0,1,2,3]:List Nat),lc K (a.ct c)/\el K (a.ct c) "behind"
 fld_goal:∀c∈([0,1,2,3]:List Nat),lc K (a.ct c)/\el K (a.ct c) "goal"
 fld_names:∀c∈([4]:List Nat),lc K (a.ct c)/\el K (a.ct c) "names"
 fld_net:∀c∈([5]:List Nat),lc K (a.ct c)/\el K (a.ct c) "net"
 fld_start:∀c∈([0,1,2,3]:List Nat),lc K (a.ct c)/\el K (a.ct c) "start"
 fld_time:∀c∈([0,1,2,3]:List Nat),lc K (a.ct c)/\el K (a.ct c) "time"
 fld_times:∀c∈([5]:List Nat),lc K (a.ct c)/\el K (a.ct c) "times"
 isi_Back:∀c∈([0,1,2,3,4,5]:List Nat),Ic K (a.ct c)/\bB K (.ref (a.ct c)) (.ref a.c_Back)=some (uH [3] c)
 isi_Ride:∀c∈([0,1,2,3,4,5]:List Nat),Ic K (a.ct c)/\bB K (.ref (a.ct c)) (.ref a.c_Ride)=some (uH [1] c)
 b_all:mg "all"=none
 b_bool:mg "bool"=none
 b_enumerate:mg "enumerate"=none
 b_int:mg "int"=none
 b_isinstance:mg "isinstance"=none
 b_len:mg "len"=none
 b_list:mg "list"=none
 b_max:mg "max"=none
 b_min:mg "min"=none
 b_range:mg "range"=none
 b_set:mg "set"=none
 b_sorted:mg "sorted"=none
 b_str:mg "str"=none
 g_MOST_ARROWS:∃t,mg "MOST_ARROWS"=some (.int 120 t)
 g_MOST_BEHIND:∃t,mg "MOST_BEHIND"=some (.int 4 t)
 g_MOST_NAMES:∃t,mg "MOST_NAMES"=some (.int 40 t)
 g_MOST_SIGNS:∃t,mg "MOST_SIGNS"=some (.int 8 t)
 g_MOST_TIME:∃t,mg "MOST_TIME"=some (.int 1000000000 t)
 g_MOST_WAITS:∃t,mg "MOST_WAITS"=some (.int 8 t)
noncomputable section
variable {P:aW}{w:bv}{K:ae}{mg:aP->Option aa}{base:aI}{a:AL}{ct:Nat->af}
def v3:Nat->List D->Option D:=tU ["self","start","goal","time","behind"]
  (sSeq (gC [0,1,2,3] "start" (eV 1))
  (sSeq (gC [0,1,2,3] "goal" (eV 2))
  (sSeq (gC [0,1,2,3] "time" (eV 3))
  (gC [0,1,2,3] "behind" (eV 4)))))
theorem ur (T:Txt K mg a):cI P w K mg base eP 1 a.f_Arrow___init a.d_Arrow___init ["self","start","goal","time","behind"] (rh K a.ct [0,1,2,3] [0,0,0,0] v3):=by
 refine u8 (ms:=[.ow 0,.ow 0,.ow 0,.ow 0]) (rk:=0) T.Arrow___init.fn Vf rfl rfl (by decide) (uc (by decide)) λx0 ix A outer s H E hr=>?_
 exact(ze (uE T.fld_start (za 1 0))
  (ze (uE T.fld_goal (za 2 0))
  (ze (uE T.fld_time (za 3 0))
  (zf (uE T.fld_behind (za 4 0))))))
def jk:Nat->List D->Option D:=tU ["self","start","goal","time"]
  (nL [0,1,2,3] (aCons (eV 1) (aCons (eV 2) (aCons (eV 3) (aCons (eC (.int 0)) aNil)))) v3)
theorem Va (T:Txt K mg a):cI P w K mg base eP 2 a.f_Ride___init a.d_Ride___init ["self","start","goal","time"] (rh K a.ct [1] [0,0,0] jk):=by
 have ej:=ur (P:=P) (w:=w) (base:=base) T
 refine u8 (ms:=[.ow 0,.ow 0,.ow 0]) (rk:=0) T.Ride___init.fn U5 rfl rfl (by decide) (uc (by decide)) λx0 ix A outer s H E hr=>?_
 exact(zf (KH (ns:=[0,0,0,0]) ej (hr.mono (by decide)) T.Arrow.mgx T.q_Arrow.sp T.q_Arrow.rd T.q_Arrow.fc T.Arrow___init.fn.kp T.Arrow___init.bd (by decide) (zc (za 1 0) (zc (za 2 0) (zc (za 3 0) (zc cu zh))))))
def jl:Nat->List D->Option D:=tU ["self","start","goal","time","behind"]
  (nL [0,1,2,3] (aCons (eV 1) (aCons (eV 2) (aCons (eV 3) (aCons (eV 4) aNil)))) v3)
theorem Vb (T:Txt K mg a):cI P w K mg base eP 2 a.f_Wait___init a.d_Wait___init ["self","start","goal","time","behind"] (rh K a.ct [2] [0,0,0,0] jl):=by
 have ej:=ur (P:=P) (w:=w) (base:=base) T
 refine u8 (ms:=[.ow 0,.ow 0,.ow 0,.ow 0]) (rk:=0) T.Wait___init.fn U6 rfl rfl (by decide) (uc (by decide)) λx0 ix A outer s H E hr=>?_
 exact(zf (KH (ns:=[0,0,0,0]) ej (hr.mono (by decide)) T.Arrow.mgx T.q_Arrow.sp T.q_Arrow.rd T.q_Arrow.fc T.Arrow___init.fn.kp T.Arrow___init.bd (by decide) (zc (za 1 0) (zc (za 2 0) (zc (za 3 0) (zc (za 4 0) zh))))))
def jm:Nat->List D->Option D:=tU ["self","start","goal","time","behind"]
  (nL [0,1,2,3] (aCons (eV 1) (aCons (eV 2) (aCons (eV 3) (aCons (eV 4) aNil)))) v3)
theorem Vc (T:Txt K mg a):cI P w K mg base eP 2 a.f_Back___init a.d_Back___init ["self","start","goal","time","behind"] (rh K a.ct [3] [0,0,0,0] jm):=by
 have ej:=ur (P:=P) (w:=w) (base:=base) T
 refine u8 (ms:=[.ow 0,.ow 0,.ow 0,.ow 0]) (rk:=0) T.Back___init.fn U7 rfl rfl (by decide) (uc (by decide)) λx0 ix A outer s H E hr=>?_
 exact(zf (KH (ns:=[0,0,0,0]) ej (hr.mono (by decide)) T.Arrow.mgx T.q_Arrow.sp T.q_Arrow.rd T.q_Arrow.fc T.Arrow___init.fn.kp T.Arrow___init.bd (by decide) (zc (za 1 0) (zc (za 2 0) (zc (za 3 0) (zc (za 4 0) zh))))))
def JT:List D->Option D:=mOf ["sign"]
  (sRet (eB (bAnd (tb (e2 vM (eC (.str "a")) (eV 0))) (tb (e2 vM (eV 0) (eC (.str "z")))))))
theorem VB (T:Txt K mg a):cI P w K mg base eP 1 a.f_is_letter a.d_is_letter ["sign"] (gH K a.ct [0] 0 JT):=by
 refine jC (ms:=[.ow 0]) T.is_letter.fn Vx λ_ _ _ _ _ _ hr=>?_
 exact(zf (ya (XE.ow (AF (uF (k:=0) AG Ay (v6 (n:=0)) (za 0 0) (bI _)) (Ac (k:=0) (uF (k:=0) AG Ay (za 0 0) (v6 (n:=0)) (bI _)))))))
def Nv:List D->Option D:=mOf ["sign"]
  (sRet (eB (bAnd (tb (e2 vM (eC (.str "0")) (eV 0))) (tb (e2 vM (eV 0) (eC (.str "9")))))))
theorem VC (T:Txt K mg a):cI P w K mg base eP 1 a.f_is_figure a.d_is_figure ["sign"] (gH K a.ct [0] 0 Nv):=by
 refine jC (ms:=[.ow 0]) T.is_figure.fn Vy λ_ _ _ _ _ _ hr=>?_
 exact(zf (ya (XE.ow (AF (uF (k:=0) AG Ay (v6 (n:=0)) (za 0 0) (bI _)) (Ac (k:=0) (uF (k:=0) AG Ay (za 0 0) (v6 (n:=0)) (bI _)))))))
def VF:EF:=(eG (λρ=>((eV 0) ρ).bind Ld) 1 [] (gV 0) iR (eB (bOr (tb (λρ=>((aCons (eV 0) aNil) ρ).bind λds=>JT (ds++[]))) (tb (λρ=>((aCons (eV 0) aNil) ρ).bind λds=>Nv (ds++[]))))))
def N4:List D->Option D:=mOf ["word"]
  (sSeq (sIf (bOr (bNot (tb (e1 (lX "str") (eV 0)))) (bOr (tb (e2 mK (eN eA (aCons (eV 0) aNil)) (eC (.int 1)))) (tb (e2 sZ (eN eA (aCons (eV 0) aNil)) (eC (.int 8)))))) (sRet (eC (.bl false))) sSkip)
  (sRet (eB (bAnd (tb (λρ=>((aCons (e2 d5 (eV 0) (eC (.int 0))) aNil) ρ).bind λds=>JT (ds++[]))) (tb (eN rS (aCons VF aNil)))))))
theorem V2 (T:Txt K mg a):cI P w K mg base eP 2 a.f_is_name a.d_is_name ["word"] (gH K a.ct [0] 0 N4):=by
 have lh:=VB (P:=P) (w:=w) (base:=base) T
 have oa:=VC (P:=P) (w:=w) (base:=base) T
 refine jC (ms:=[.ow 0]) T.is_name.fn VZ λ_ _ _ _ _ _ hr=>?_
 exact(ze (wt (XW.t (rE (u6 (vb (Ae (k:=0) (by decide) T.b_isinstance T.b_str ZQ (za 0 0)))) (rE (yq (k:=0) wF wA (nN T.b_len (zc (za 0 0) zh)) cu (bI _)) (tG (yq (k:=0) wD wB (nN T.b_len (zc (za 0 0) zh)) (AB (n:=0) (d:=(.int 8)) rfl T.g_MOST_SIGNS.choose_spec rfl ⟨_,rfl⟩) (bI _)))))) (zf (ya (XE.ow (j3 (n:=0))))) yf)
  (zf (ya (XE.ow (AF (XO.sh (n:=0) (dE T.is_letter lh hr (zc (kh (za 0 0) cu) zh))) (Ac (k:=0) (ww (k:=0) (N2 rfl) OO rfl T.b_all Pg (zc (XO.sh (n:=0) (uG (N:=["sign"]) (om:=[.ow 0]) (cap:=[]) (own:=1) (XI.cc (zs1 (n:=0) (za 0 0))) (λ_ _ _ _ _=>(oT (show cP (["sign"]:List aP)from by decide +kernel))) (λ_ _ _ _ _=>j4) (λ_ _ _ _ _=>(XE.ow (zub (XO.sh (n:=0) (dE T.is_letter lh hr (zc (za 0 0) zh))) (Ac (k:=0) (XO.sh (n:=0) (dE T.is_figure oa hr (zc (za 0 0) zh))))))))) zh))))))))
def Vn:SF:=(sSeq (sIf (bOr (bNot (tb (λρ=>((aCons (eV 2) aNil) ρ).bind λds=>N4 (ds++[])))) (tb (λρ=>((eV 2) ρ).bind λx=>((eV 1) ρ).bind λy=>(ky y x).bind λr=>some (.bl r.isSome)))) (sRet (eC (.bl false))) sSkip)
  (pQ 1 (eV 2) (eC (.bl true))))
def jo:List D->Option D:=mOf ["names","seen","name"]
  (sSeq (sIf (bOr (bNot (tb (e1 (lX "list") (eV 0)))) (bOr (tb (e2 mK (eN eA (aCons (eV 0) aNil)) (eC (.int 1)))) (tb (e2 sZ (eN eA (aCons (eV 0) aNil)) (eC (.int 40)))))) (sRet (eC (.bl false))) sSkip)
  (sSeq (sSet 1 (eC (.dK [] [])))
  (sSeq (sFor (lsD (eV 0)) (gV 2) Vn)
  (sRet (eC (.bl true))))))
theorem VD (T:Txt K mg a):cI P w K mg base eP 3 a.f_are_names a.d_are_names ["names"] (gH K a.ct [0] 0 jo):=by
 have qD:=V2 (P:=P) (w:=w) (base:=base) T
 refine jC (ms:=[.ow 0,.ow 1,.ow 0]) T.are_names.fn j6 λ_ _ _ _ _ _ hr=>?_
 exact(ze (wt (XW.t (rE (u6 (vb (Ae (k:=0) (by decide) T.b_isinstance T.b_list j2 (za 0 0)))) (rE (yq (k:=0) wF wA (nN T.b_len (zc (za 0 0) zh)) cu (bI _)) (tG (yq (k:=0) wD wB (nN T.b_len (zc (za 0 0) zh)) (AB (n:=0) (d:=(.int 40)) rfl T.g_MOST_NAMES.choose_spec rfl ⟨_,rfl⟩) (bI _)))))) (zf (ya (XE.ow (j3 (n:=0))))) yf)
  (ze (fY j6.nd XD)
  (ze (vm (vn (za 0 0)) (kK j6.nd) (ze (wt (XW.t (rE (u6 (vb (XO.sh (n:=0) (dE T.is_name qD hr (zc (za 2 0) zh))))) (tG (zs2 (Fe hr) (za 2 0) (za 1 1) (by with_unfolding_all rfl))))) (zf (ya (XE.ow (j3 (n:=0))))) yf)
  (zf (OP 1 rfl (Fe hr) (za 2 0) (j3 (n:=0))))) bV.never rfl)
  (zf (ya (XE.ow (j3 (n:=0))))))))
def yh:List D->Option D:=mOf ["number","least","most"]
  (sSeq (sIf (bOr (bNot (tb (e1 (lX "int") (eV 0)))) (tb (e1 (lX "bool") (eV 0)))) (sRet (eC (.bl false))) sSkip)
  (sRet (eB (bAnd (tb (e2 vM (eV 1) (eV 0))) (tb (e2 vM (eV 0) (eV 2)))))))
theorem Vd (T:Txt K mg a):cI P w K mg base eP 1 a.f_lies_within a.d_lies_within ["number","least","most"] (gH K a.ct [0,0,0] 0 yh):=by
 refine jC (ms:=[.ow 0,.ow 0,.ow 0]) T.lies_within.fn U8 λ_ _ _ _ _ _ hr=>?_
 exact(ze (wt (XW.t (rE (u6 (vb (Ae (k:=0) (by decide) T.b_isinstance T.b_int Pw (za 0 0)))) (tG (vb (Ae (k:=0) (by decide) T.b_isinstance T.b_bool OM (za 0 0)))))) (zf (ya (XE.ow (j3 (n:=0))))) yf)
  (zf (ya (XE.ow (AF (uF (k:=0) AG Ay (za 1 0) (za 0 0) (bI _)) (Ac (k:=0) (uF (k:=0) AG Ay (za 0 0) (za 2 0) (bI _))))))))
def qw:List D->Option D:=mOf ["arrow","many","least","most"]
  (sSeq (sSet 2 (eIf (tb (e1 (su [0,1,2,3,4,5] [3]) (eV 0))) (eC (.int 1)) (eC (.int 0))))
  (sSeq (sSet 3 (eIf (tb (e1 (su [0,1,2,3,4,5] [1]) (eV 0))) (eC (.int 0)) (eC (.int 4))))
  (sSeq (sIf (bOr (bNot (tb (λρ=>((aCons (e1 (cK [0,1,2,3] "start") (eV 0)) (aCons (eC (.int 0)) (aCons (e2 kQ (eV 1) (eC (.int 1))) aNil))) ρ).bind λds=>yh (ds++[])))) (bNot (tb (λρ=>((aCons (e1 (cK [0,1,2,3] "goal") (eV 0)) (aCons (eC (.int 0)) (aCons (e2 kQ (eV 1) (eC (.int 1))) aNil))) ρ).bind λds=>yh (ds++[]))))) (sRet (eC (.bl false))) sSkip)
  (sRet (eB (bAnd (tb (λρ=>((aCons (e1 (cK [0,1,2,3] "time") (eV 0)) (aCons (eC (.int 0)) (aCons (eC (.int 1000000000)) aNil))) ρ).bind λds=>yh (ds++[]))) (tb (λρ=>((aCons (e1 (cK [0,1,2,3] "behind") (eV 0)) (aCons (eV 2) (aCons (eV 3) aNil))) ρ).bind λds=>yh (ds++[])))))))))
theorem VG (T:Txt K mg a):cI P w K mg base eP 2 a.f_is_right a.d_is_right ["arrow","many"] (gH K a.ct [0,0] 0 qw):=by
 have fM:=Vd (P:=P) (w:=w) (base:=base) T
 refine jC (ms:=[.ow 0,.ow 0,.ow 0,.ow 0]) T.is_right.fn JS λ_ _ _ _ _ _ hr=>?_
 exact(ze (fY JS.nd (XE.ow (KY (vb (OR (k:=0) T.isi_Back T.b_isinstance T.Back.mgx (za 0 0))) cu cu)))
  (ze (fY JS.nd (XE.ow (KY (vb (OR (k:=0) T.isi_Ride T.b_isinstance T.Ride.mgx (za 0 0))) cu (AB (n:=0) (d:=(.int 4)) rfl T.g_MOST_BEHIND.choose_spec rfl ⟨_,rfl⟩))))
  (ze (wt (XW.t (rE (u6 (vb (XO.sh (n:=0) (dE T.lies_within fM hr (zc (yx (n:=0) (za 0 0) T.fld_start rfl) (zc cu (zc (ye (k:=0) j0 uo (za 1 0) cu) zh))))))) (tG (u6 (vb (XO.sh (n:=0) (dE T.lies_within fM hr (zc (yx (n:=0) (za 0 0) T.fld_goal rfl) (zc cu (zc (ye (k:=0) j0 uo (za 1 0) cu) zh)))))))))) (zf (ya (XE.ow (j3 (n:=0))))) yf)
  (zf (ya (XE.ow (AF (XO.sh (n:=0) (dE T.lies_within fM hr (zc (yx (n:=0) (za 0 0) T.fld_time rfl) (zc cu (zc (AB (n:=0) (d:=(.int 1000000000)) rfl T.g_MOST_TIME.choose_spec rfl ⟨_,rfl⟩) zh))))) (Ac (k:=0) (XO.sh (n:=0) (dE T.lies_within fM hr (zc (yx (n:=0) (za 0 0) T.fld_behind rfl) (zc (za 2 0) (zc (za 3 0) zh)))))))))))))
def x8:SF:=(sIf (tb (e2 (gA false) (e1 (cK [0,1,2,3] "start") (eV 4)) (eV 7))) (sSeq (oA 3 (e1 (cK [0,1,2,3] "goal") (eV 4)) (λi j=>i-j) (eC (.int 1)))
  (sIf (tb (e2 (gA false) (e2 d5 (eV 3) (e1 (cK [0,1,2,3] "goal") (eV 4))) (eC (.int 0)))) (sApp 5 (e1 (cK [0,1,2,3] "goal") (eV 4))) sSkip)) sSkip)
def vo:SF:=(sSeq (sSet 7 (e2 d5 (eV 5) (eV 6)))
  (sSeq (sFor (lsD (eV 2)) (gV 4) x8)
  (zN 6 (i2 λi j=>.int (i+j)) (eC (.int 1)))))
def u9:EF:=(eG (λρ=>((aCons (eV 0) aNil) ρ).bind hE) 1 [3] (gV 0) (tb (e2 (gA false) (e2 d5 (eV 1) (eV 0)) (eC (.int 0)))) (eV 0))
def vq:SF:=(oA 3 (e1 (cK [0,1,2,3] "goal") (eV 4)) (λi j=>i+j) (eC (.int 1)))
def ja:EF:=(eG (lsD (eV 1)) 1 [] (gV 0) (tb (e2 (gA false) (e1 (cK [0,1,2,3] "behind") (eV 0)) (eC (.int 0)))) (eV 0))
def x9:List D->Option D:=mOf ["many","arrows","within","waited","arrow","placed","done","here"]
  (sSeq (sSet 2 ja)
  (sSeq (sSet 3 (e2 mh (λρ=>((aCons (eC (.int 0)) aNil) ρ).bind λds=>some (.lst ds)) (eV 0)))
  (sSeq (sFor (lsD (eV 2)) (gV 4) vq)
  (sSeq (sSet 5 u9)
  (sSeq (sSet 6 (eC (.int 0)))
  (sSeq (pB (tb (e2 mK (eV 6) (eN eA (aCons (eV 5) aNil)))) vo)
  (sRet (eV 5))))))))
theorem jy (T:Txt K mg a):cI P w K mg base eP 1 a.f_placed_goings a.d_placed_goings ["many","arrows"] (gH K a.ct [0,0] 0 x9):=by
 refine jC (ms:=[.ow 0,.ow 0,.ow 0,.ow 1,.ow 0,.ow 1,.ow 0,.ow 0]) T.placed_goings.fn yp λ_ _ _ _ _ _ hr=>?_
 exact(ze (uk (k:=0) (N:=["arrow"]) (om:=[.ow 0]) (cap:=[]) (own:=1) rfl yp.nd rfl (Or.inl rfl) (Ad (by rfl)) rfl rfl (by decide) (jf (n:=0) (za 1 0)) (λ_ _ _ _ _=>(oT (show cP (["arrow"]:List aP)from by decide +kernel))) (λ_ _ _ _ _=>(zZ (yq (k:=0) (ub hr.u64) vd (yx (n:=0) (za 0 0) T.fld_behind rfl) cu (bI _)))) (λ_ _ _ _ _=>(XE.ow (za 0 0))))
  (ze (fY yp.nd (KR (xz (k:=0) (zg (XE.ow cu) zz)) (za 0 0)))
  (ze (vm (vn (za 2 0)) (kK yp.nd) (zf (OQ 3 Pq rfl (yx (n:=0) (za 4 0) T.fld_goal rfl) cu)) bV.never rfl)
  (ze (uk (k:=1) (N:=["going","waited"]) (om:=[.ow 0]) (cap:=[3]) (own:=1) rfl yp.nd rfl (Or.inl rfl) (Ad (by rfl)) rfl rfl (by decide) (XI.cc (ve (n:=0) T.b_range (zc (za 0 0) zh))) (λ_ _ _ _ _=>(oT (show cP (["going","waited"]:List aP)from by decide +kernel))) (λ_ _ _ _ _=>(zZ (yq (k:=0) (ub hr.u64) vd (wG (n:=1) vY wC (za 1 1) (za 0 0) (λ_ _=>rfl)) cu (bI _)))) (λ_ _ _ _ _=>(XE.ow (za 0 0))))
  (ze (fY yp.nd (XE.ow cu))
  (ze (XH (yq (k:=0) wF wA (za 6 0) (nN T.b_len (zc (za 5 1) zh)) (bI _)) (ze (fY yp.nd (XE.ow (wG (n:=1) vY wC (za 5 1) (za 6 0) (λ_ _=>rfl))))
  (ze (vm (vn (za 2 0)) (kK yp.nd) (zf (wt (yq (k:=0) (ub hr.u64) vd (yx (n:=0) (za 4 0) T.fld_start rfl) (za 7 0) (bI _)) (ze (OQ 3 Z3 rfl (yx (n:=0) (za 4 0) T.fld_goal rfl) cu)
  (zf (wt (yq (k:=0) (ub hr.u64) vd (wG (n:=1) vY wC (za 3 1) (yx (n:=0) (za 4 0) T.fld_goal rfl) (λ_ _=>rfl)) cu (bI _)) (zf (v7 5 rfl (XE.ow (yx (n:=0) (za 4 0) T.fld_goal rfl)))) yf))) yf)) bV.never rfl)
  (zf (zsu Pq rfl yp.nd rfl (Or.inl rfl) cu)))) bV.never)
  (zf (AD (i:=5) rfl))))))))
def u5:SF:=(sIf (bNot (tb (λρ=>((aCons (eV 4) (aCons (eN eA (aCons (eV 1) aNil)) aNil)) ρ).bind λds=>qw (ds++[])))) kP sSkip)
def ux:Nat->List D->Option D:=tU ["self","names","arrows","number","arrow","placed"]
  (sSeq (sIf (bOr (bNot (tb (λρ=>((aCons (eV 1) aNil) ρ).bind λds=>jo (ds++[])))) (tb (e2 sZ (eN eA (aCons (eV 2) aNil)) (eC (.int 120))))) kP sSkip)
  (sSeq (sFor (λρ=>((aCons (eV 2) aNil) ρ).bind λds=>match ds with|[.lst xs]=>some (eJ 0 xs)|_=>none) (gT (gsCons (gV 3) (gsCons (gV 4) gsNil))) u5)
  (sSeq (sSet 5 (λρ=>((aCons (eN eA (aCons (eV 1) aNil)) (aCons (eV 2) aNil)) ρ).bind λds=>x9 (ds++[])))
  (sSeq (sIf (tb (e2 mK (eN eA (aCons (eV 5) aNil)) (eN eA (aCons (eV 1) aNil)))) kP sSkip)
  (sSeq (gC [4] "names" (eN gM (aCons (eV 1) aNil)))
  (gC [4] "arrows" (eN gM (aCons (eV 2) aNil))))))))
theorem Vo (T:Txt K mg a):cI P w K mg base eP 4 a.f_Net___init a.d_Net___init ["self","names","arrows"] (rh K a.ct [4] [0,0] ux):=by
 have n9:=VD (P:=P) (w:=w) (base:=base) T
 have o3:=VG (P:=P) (w:=w) (base:=base) T
 have fX:=jy (P:=P) (w:=w) (base:=base) T
 refine u8 (ms:=[.ow 0,.ow 0,.ow 0,.ow 0,.ow 0]) (rk:=0) T.Net___init.fn ud rfl rfl (by decide) (uc (by decide)) λx0 ix A outer s H E hr=>?_
 exact(ze (wt (XW.t (rE (u6 (vb (XO.sh (n:=0) (dE T.are_names n9 hr (zc (za 1 0) zh))))) (tG (yq (k:=0) wD wB (nN T.b_len (zc (za 2 0) zh)) (AB (n:=0) (d:=(.int 120)) rfl T.g_MOST_ARROWS.choose_spec rfl ⟨_,rfl⟩) (bI _))))) (zf EW) yf)
  (ze (vm (Y9 T.b_enumerate (zc (za 2 0) zh)) (GH (n:=1) rfl (wu (kK ud.nd) (wu (kK ud.nd) Gu))) (zf (wt (u6 (vb (XO.sh (n:=0) (dE T.is_right o3 hr (zc (za 4 0) (zc (nN T.b_len (zc (za 1 0) zh)) zh)))))) (zf EW) yf)) bV.never rfl)
  (ze (fY ud.nd (dE T.placed_goings fX hr (zc (nN T.b_len (zc (za 1 0) zh)) (zc (za 2 0) zh))))
  (ze (wt (yq (k:=0) wF wA (nN T.b_len (zc (za 5 0) zh)) (nN T.b_len (zc (za 1 0) zh)) (bI _)) (zf EW) yf)
  (ze (uE T.fld_names (XO.sh (n:=0) (u7 w9 (qq (n:=0) (by decide)) rfl T.b_list j2 (zc (za 1 0) zh))))
  (zf (uE T.fld_arrows (XO.sh (n:=0) (u7 w9 (qq (n:=0) (by decide)) rfl T.b_list j2 (zc (za 2 0) zh))))))))))
def ut:EF:=(eG (lsD (e1 (cK [4] "arrows") (eV 0))) 1 [] (gV 0) iR (e1 (cK [0,1,2,3] "behind") (eV 0)))
def wa:List D->Option D:=mOf ["self"]
  (sRet (eN tY (aCons (e2 ez (λρ=>((aCons (eC (.int 1)) aNil) ρ).bind λds=>some (.lst ds)) ut) aNil)))
theorem UX (T:Txt K mg a):cI P w K mg base eP 1 a.f_Net_most_behind a.d_Net_most_behind ["self"] (gH K a.ct [0] 0 wa):=by
 refine jC (ms:=[.ow 0]) T.Net_most_behind.fn UW λ_ _ _ _ _ _ hr=>?_
 exact(zf (ya (XE.ow (ww (k:=0) (WJ rfl) Zl rfl T.b_max AE (zc (XO.sh (n:=0) (nk (XO.sh (n:=0) (xz (k:=0) (zg (XE.ow cu) zz))) (XO.sh (n:=0) (uG (N:=["arrow"]) (om:=[.ow 0]) (cap:=[]) (own:=1) (jf (n:=0) (yx (n:=0) (za 0 0) T.fld_arrows rfl)) (λ_ _ _ _ _=>(oT (show cP (["arrow"]:List aP)from by decide +kernel))) (λ_ _ _ _ _=>j4) (λ_ _ _ _ _=>(XE.ow (yx (n:=0) (za 0 0) T.fld_behind rfl))))))) zh)))))
def j9:EF:=(eG (λρ=>((aCons (e1 (cK [4] "arrows") (eV 0)) aNil) ρ).bind λds=>match ds with|[.lst xs]=>some (eJ 0 xs)|_=>none) 2 [1] (gT (gsCons (gV 0) (gsCons (gV 1) gsNil))) (tb (e2 (gA false) (e1 (cK [0,1,2,3] "goal") (eV 1)) (eV 2))) (eV 0))
def jb:List D->Option D:=mOf ["self","going"]
  (sRet j9)
theorem VH (T:Txt K mg a):cI P w K mg base eP 1 a.f_Net_into a.d_Net_into ["self","going"] (gH K a.ct [0,0] 0 jb):=by
 refine jC (ms:=[.ow 0,.ow 0]) T.Net_into.fn VX λ_ _ _ _ _ _ hr=>?_
 exact(zf (ya (nE (uG (N:=["number","arrow","going"]) (om:=[.ow 0,.ow 0]) (cap:=[1]) (own:=2) (N6 (n:=0) T.b_enumerate (zc (yx (n:=0) (za 0 0) T.fld_arrows rfl) zh)) (λ_ _ _ _ _=>(O4 (n:=1) rfl (Gk (oT (show cP (["number","arrow","going"]:List aP)from by decide +kernel)) (Gk (oT (show cP (["number","arrow","going"]:List aP)from by decide +kernel)) Ou)))) (λ_ _ _ _ _=>(zZ (yq (k:=0) (ub hr.u64) vd (yx (n:=0) (za 1 0) T.fld_goal rfl) (za 2 0) (bI _)))) (λ_ _ _ _ _=>(XE.ow (za 0 0)))))))
def jp:List D->Option D:=mOf ["self"]
  (sRet (λρ=>((aCons (eN eA (aCons (e1 (cK [4] "names") (eV 0)) aNil)) (aCons (e1 (cK [4] "arrows") (eV 0)) aNil)) ρ).bind λds=>x9 (ds++[])))
theorem VE (T:Txt K mg a):cI P w K mg base eP 2 a.f_Net_order a.d_Net_order ["self"] (gH K a.ct [0] 0 jp):=by
 have fX:=jy (P:=P) (w:=w) (base:=base) T
 refine jC (ms:=[.ow 0]) T.Net_order.fn Vz λ_ _ _ _ _ _ hr=>?_
 exact(zf (ya (dE T.placed_goings fX hr (zc (nN T.b_len (zc (yx (n:=0) (za 0 0) T.fld_names rfl) zh)) (zc (yx (n:=0) (za 0 0) T.fld_arrows rfl) zh)))))
def Gq:List D->Option D:=mOf ["one","other"]
  (sSeq (sIf (tb (e2 (tu false) (eV 0) (eC .non))) (sRet (eV 1)) sSkip)
  (sSeq (sIf (tb (e2 (tu false) (eV 1) (eC .non))) (sRet (eV 0)) sSkip)
  (sRet (eN gN (aCons (eV 0) (aCons (eV 1) aNil))))))
theorem W6 (T:Txt K mg a):cI P w K mg base eP 1 a.f_latest a.d_latest ["one","other"] (gH K a.ct [0,0] 0 Gq):=by
 refine jC (ms:=[.ow 0,.ow 0]) T.latest.fn W5 λ_ _ _ _ _ _ hr=>?_
 exact(ze (wt (yq (k:=0) GO GJ (za 0 0) zW (bI _)) (zf (ya (XE.ow (za 1 0)))) yf)
  (ze (wt (yq (k:=0) GO GJ (za 1 0) zW (bI _)) (zf (ya (XE.ow (za 0 0)))) yf)
  (zf (ya (XE.ow (ww (k:=0) (j1 rfl) EX rfl T.b_max AE (zc (za 0 0) (zc (za 1 0) zh))))))))
def vt:SF:=(pQ 1 (λρ=>((aCons (eV 2) (aCons (eV 3) aNil)) ρ).bind λds=>some (.tup ds)) (λρ=>((aCons (λρ=>((eV 1) ρ).bind λx=>((λρ=>((aCons (eV 2) (aCons (eV 3) aNil)) ρ).bind λds=>some (.tup ds)) ρ).bind λy=>(ky x y).bind λr=>some (r.getD .non)) (aCons (eV 4) aNil)) ρ).bind λds=>Gq (ds++[])))
def vf:List D->Option D:=mOf ["told","greatest","going","number","amount"]
  (sSeq (sSet 1 (eC (.dT [] [])))
  (sSeq (sFor (lsD (eV 0)) (gT (gsCons (gV 2) (gsCons (gV 3) (gsCons (gV 4) gsNil)))) vt)
  (sRet (eV 1))))
theorem U2 (T:Txt K mg a):cI P w K mg base eP 2 a.f_greatest_told a.d_greatest_told ["told"] (gH K a.ct [0] 0 vf):=by
 have rO:=W6 (P:=P) (w:=w) (base:=base) T
 refine jC (ms:=[.ow 0,.ow 1,.ow 0,.ow 0,.ow 0]) T.greatest_told.fn wm λ_ _ _ _ _ _ hr=>?_
 exact(ze (fY wm.nd XF)
  (ze (vm (vn (za 0 0)) (GH (n:=0) rfl (wu (kK wm.nd) (wu (kK wm.nd) (wu (kK wm.nd) Gu)))) (zf (OP 1 rfl (Fe hr) (XO.sh (n:=0) (vZ (zg (XE.ow (za 2 0)) (zg (XE.ow (za 3 0)) zz)))) (XO.sh (n:=0) (dE T.latest rO hr (zc (Y5 (n:=1) (Fe hr) (za 1 1) (XO.sh (n:=0) (vZ (zg (XE.ow (za 2 0)) (zg (XE.ow (za 3 0)) zz)))) ⟨rfl,rfl,rfl,rfl⟩) (zc (za 4 0) zh)))))) bV.never rfl)
  (zf (AD (i:=1) rfl))))
def wc:List D->Option D:=mOf ["self","arrow","link"]
  (sSeq (sSet 2 (e2 d5 (e1 (cK [4] "arrows") (e1 (cK [5] "net") (eV 0))) (eV 1)))
  (sRet (e2 kQ (e2 kQ (e2 ez (e2 d5 (e1 (cK [5] "times") (eV 0)) (e1 (cK [0,1,2,3] "goal") (eV 2))) (e2 fI (e1 (cK [5] "beat") (eV 0)) (e1 (cK [0,1,2,3] "behind") (eV 2)))) (e2 d5 (e1 (cK [5] "times") (eV 0)) (e1 (cK [0,1,2,3] "start") (eV 2)))) (e1 (cK [0,1,2,3] "time") (eV 2)))))
theorem Nd (T:Txt K mg a):cI P w K mg base eP 1 a.f_Table_slack a.d_Table_slack ["self","arrow"] (gH K a.ct [1,0] 0 wc):=by
 refine jC (ms:=[.al 1,.ow 0,.ow 0]) T.Table_slack.fn Nc λ_ _ _ _ _ _ hr=>?_
 exact(ze (fY Nc.nd (XE.ow (kh (yx (n:=0) (yx (n:=1) (za 0 1) T.fld_net rfl) T.fld_arrows rfl) (za 1 0))))
  (zf (ya (XE.ow (ye (k:=0) j0 uo (ye (k:=0) j0 uo (XO.sh (n:=0) (nk (kh (yx (n:=1) (za 0 1) T.fld_times rfl) (yx (n:=0) (za 2 0) T.fld_goal rfl)) (ye (k:=0) u3 vx (yx (n:=1) (za 0 1) T.fld_beat rfl) (yx (n:=0) (za 2 0) T.fld_behind rfl)))) (kh (yx (n:=1) (za 0 1) T.fld_times rfl) (yx (n:=0) (za 2 0) T.fld_start rfl))) (yx (n:=0) (za 2 0) T.fld_time rfl))))))
def ua:SF:=(sIf (tb (e2 mK (λρ=>((eV 0) ρ).bind λo=>((aCons (eV 4) aNil) ρ).bind λds=>jK 5 "slack" wc o (ds++[])) (eC (.int 0)))) kP sSkip)
def v4:Nat->List D->Option D:=tU ["self","net","times","beat","number"]
  (sSeq (gC [5] "net" (eV 1))
  (sSeq (gC [5] "times" (eN gM (aCons (eV 2) aNil)))
  (sSeq (gC [5] "beat" (eV 3))
  (sFor (λρ=>((aCons (eN eA (aCons (e1 (cK [4] "arrows") (eV 1)) aNil)) aNil) ρ).bind hE) (gV 4) ua))))
theorem Vg (T:Txt K mg a):cI P w K mg base eP 2 a.f_Table___init a.d_Table___init ["self","net","times","beat"] (rh K a.ct [5] [0,0,0] v4):=by
 have gS:=Nd (P:=P) (w:=w) (base:=base) T
 refine u8 (ms:=[.ow 0,.ow 0,.ow 0,.ow 0]) (rk:=0) T.Table___init.fn j7 rfl rfl (by decide) (uc (by decide)) λx0 ix A outer s H E hr=>?_
 exact(ze (uE T.fld_net (za 1 0))
  (ze (uE T.fld_times (XO.sh (n:=0) (u7 w9 (qq (n:=0) (by decide)) rfl T.b_list j2 (zc (za 2 0) zh))))
  (ze (uE T.fld_beat (za 3 0))
  (zf (vm (ve (n:=0) T.b_range (zc (nN T.b_len (zc (yx (n:=0) (za 1 0) T.fld_arrows rfl) zh)) zh)) (kK j7.nd) (zf (wt (yq (k:=0) wF wA (XO.sh (n:=0) (KD (n:=1) (c0:=5) (ns:=[0]) (nd:=[]) (kN:=[]) (za 0 1) T.Table.cl T.Table_slack.me gS (hr.mono (by decide)) T.Table_slack.bd .nil (λ_ _=>.nil) (zc (za 4 0) zh))) cu (bI _)) (zf EW) yf)) bV.never rfl)))))
def xx:SF:=(sIf (tb (e2 (inD true) (eV 4) (eV 2))) (sSeq (sSet 5 (e2 d5 (e1 (cK [4] "arrows") (e1 (cK [5] "net") (eV 0))) (eV 4)))
  (sApp 3 (λρ=>((aCons (e1 (cK [0,1,2,3] "start") (eV 5)) (aCons (e1 (cK [0,1,2,3] "behind") (eV 5)) (aCons (λρ=>((eV 0) ρ).bind λo=>((aCons (eV 4) aNil) ρ).bind λds=>jK 5 "slack" wc o (ds++[])) aNil))) ρ).bind λds=>some (.tup ds)))) sSkip)
def v9:List D->Option D:=mOf ["table","going","left_out","links","number","arrow"]
  (sSeq (sSet 3 (λρ=>(aNil ρ).bind λds=>some (.lst ds)))
  (sSeq (sFor (lsD (λρ=>((e1 (cK [5] "net") (eV 0)) ρ).bind λo=>((aCons (eV 1) aNil) ρ).bind λds=>jK 4 "into" jb o (ds++[]))) (gV 4) xx)
  (sRet (eV 3))))
theorem Vp (T:Txt K mg a):cI P w K mg base eP 2 a.f_links_into a.d_links_into ["table","going","left_out"] (gH K a.ct [0,0,1] 0 v9):=by
 have oZ:=VH (P:=P) (w:=w) (base:=base) T
 have gS:=Nd (P:=P) (w:=w) (base:=base) T
 refine jC (ms:=[.ow 0,.ow 0,.al 1,.ow 1,.ow 0,.ow 0]) T.links_into.fn ue λ_ _ _ _ _ _ hr=>?_
 exact(ze (fY ue.nd (xz (k:=0) zz))
  (ze (vm (vn (XO.sh (n:=0) (KD (n:=0) (c0:=4) (ns:=[0]) (nd:=[]) (kN:=[]) (yx (n:=0) (za 0 0) T.fld_net rfl) T.Net.cl T.Net_into.me oZ (hr.mono (by decide)) T.Net_into.bd .nil (λ_ _=>.nil) (zc (za 1 0) zh)))) (kK ue.nd) (zf (wt (yq (k:=0) Ni Pj (za 4 0) (za 2 1) (by with_unfolding_all rfl)) (ze (fY ue.nd (XE.ow (kh (yx (n:=0) (yx (n:=0) (za 0 0) T.fld_net rfl) T.fld_arrows rfl) (za 4 0))))
  (zf (v7 3 rfl (nE (vZ (zg (XE.ow (yx (n:=0) (za 5 0) T.fld_start rfl)) (zg (XE.ow (yx (n:=0) (za 5 0) T.fld_behind rfl)) (zg (KD (n:=1) (c0:=5) (ns:=[0]) (nd:=[]) (kN:=[]) (XE.up (za 0 0) (by decide:0<=1)) T.Table.cl T.Table_slack.me gS (hr.mono (by decide)) T.Table_slack.bd .nil (λ_ _=>.nil) (zc (za 4 0) zh)) zz)))))))) yf)) bV.never rfl)
  (zf (AD (i:=3) rfl))))
def y8:SF:=(sSet 3 (eN gN (aCons (eV 3) (aCons (e2 kQ (e2 d5 (e2 d5 (eV 0) (e2 kQ (e1 oq (eC (.int 1))) (eV 5))) (eV 4)) (eV 6)) aNil))))
def xo:List D->Option D:=mOf ["rows","links","put","most","start","behind","slack"]
  (sSeq (sSet 3 (eN gN (aCons (eC (.int 0)) (aCons (eV 2) aNil))))
  (sSeq (sFor (lsD (eV 1)) (gT (gsCons (gV 4) (gsCons (gV 5) (gsCons (gV 6) gsNil)))) y8)
  (sRet (eV 3))))
theorem jq (T:Txt K mg a):cI P w K mg base eP 1 a.f_lateness_in_last_row a.d_lateness_in_last_row ["rows","links","put"] (gH K a.ct [2,0,0] 0 xo):=by
 refine jC (ms:=[.al 2,.ow 0,.ow 0,.ow 0,.ow 0,.ow 0,.ow 0]) T.lateness_in_last_row.fn yg λ_ _ _ _ _ _ hr=>?_
 exact(ze (fY yg.nd (XE.ow (ww (k:=0) (j1 rfl) EX rfl T.b_max AE (zc cu (zc (za 2 0) zh)))))
  (ze (vm (vn (za 1 0)) (GH (n:=0) rfl (wu (kK yg.nd) (wu (kK yg.nd) (wu (kK yg.nd) Gu)))) (zf (fY yg.nd (XE.ow (ww (k:=0) (j1 rfl) EX rfl T.b_max AE (zc (za 3 0) (zc (ye (k:=0) j0 uo (wG (n:=1) vY wC (wG (n:=2) vY wC (za 0 2) (ye (k:=0) j0 uo (AH (k:=0) cu) (za 5 0)) (λ_ _=>rfl)) (za 4 0) (λ_ _=>rfl)) (za 6 0)) zh)))))) bV.never rfl)
  (zf (ya (XE.ow (za 3 0))))))
def Gr:SF:=(sSeq (sSet 12 (λρ=>((eV 6) ρ).bind λx=>((λρ=>((aCons (eV 11) (aCons (eV 10) aNil)) ρ).bind λds=>some (.tup ds)) ρ).bind λy=>((eC (.int 0)) ρ).bind λz=>(ky x y).bind λr=>some (r.getD z)))
  (pA 9 (e1 oq (eC (.int 1))) (eV 11) (λρ=>((aCons (eV 9) (aCons (e2 d5 (eV 5) (eV 11)) (aCons (eV 12) aNil))) ρ).bind λds=>xo (ds++[]))))
def Ko:SF:=(sSeq (sApp 9 (e2 mh (λρ=>((aCons (eC (.int 0)) aNil) ρ).bind λds=>some (.lst ds)) (eV 4)))
  (sFor (lsD (eV 7)) (gV 11) Gr))
def Oc:EF:=(eG (λρ=>((aCons (eV 8) aNil) ρ).bind hE) 1 [4] (gV 0) iR (e2 mh (λρ=>((aCons (eC (.int 0)) aNil) ρ).bind λds=>some (.lst ds)) (eV 1)))
def Kp:EF:=(eG (λρ=>((aCons (eV 4) aNil) ρ).bind hE) 1 [0,3] (gV 0) iR (λρ=>((aCons (eV 1) (aCons (eV 0) (aCons (eIf (tb (e2 (tu false) (eV 2) (eC .non))) (λρ=>(aNil ρ).bind λds=>some (.lst ds)) (eV 2)) aNil))) ρ).bind λds=>v9 (ds++[])))
def E8:List D->Option D:=mOf ["table","rounds","puts","without","many","links","greatest","order","depth","rows","number","going","put"]
  (sSeq (sSet 4 (eN eA (aCons (e1 (cK [4] "names") (e1 (cK [5] "net") (eV 0))) aNil)))
  (sSeq (sSet 5 Kp)
  (sSeq (sSet 6 (λρ=>((aCons (eV 2) aNil) ρ).bind λds=>vf (ds++[])))
  (sSeq (sSet 7 (λρ=>((e1 (cK [5] "net") (eV 0)) ρ).bind λo=>jK 4 "order" jp o []))
  (sSeq (sSet 8 (λρ=>((e1 (cK [5] "net") (eV 0)) ρ).bind λo=>jK 4 "most_behind" wa o []))
  (sSeq (sSet 9 Oc)
  (sSeq (sFor (λρ=>((aCons (eV 1) aNil) ρ).bind hE) (gV 10) Ko)
  (sFz 9 (sRet (λρ=>((eV 9) ρ).bind λd=>((pInt (eV 8)) ρ).bind λl=>(pNo ρ).bind λh=>iZ d l h))))))))))
theorem O8 (T:Txt K mg a):cI P w K mg base eP 3 a.f_late a.d_late ["table","rounds","puts","without"] (gH K a.ct [0,0,0,1] 0 E8):=by
 have nz:=Vp (P:=P) (w:=w) (base:=base) T
 have lJ:=U2 (P:=P) (w:=w) (base:=base) T
 have n8:=VE (P:=P) (w:=w) (base:=base) T
 have kr:=UX (P:=P) (w:=w) (base:=base) T
 have iw:=jq (P:=P) (w:=w) (base:=base) T
 refine jC (ms:=[.ow 0,.ow 0,.ow 0,.al 1,.ow 0,.ow 0,.ow 0,.ow 0,.ow 0,.ow 2,.ow 0,.ow 0,.ow 0]) T.late.fn u4 λ_ _ _ _ _ _ hr=>?_
 exact(ze (fY u4.nd (XE.ow (nN T.b_len (zc (yx (n:=0) (yx (n:=0) (za 0 0) T.fld_net rfl) T.fld_names rfl) zh))))
  (ze (uk (k:=0) (N:=["going","table","without"]) (om:=[.ow 0]) (cap:=[0,3]) (own:=1) rfl u4.nd rfl (Or.inl rfl) (Ad (by rfl)) rfl rfl (by decide) (XI.cc (ve (n:=0) T.b_range (zc (za 4 0) zh))) (λ_ _ _ _ _=>(oT (show cP (["going","table","without"]:List aP)from by decide +kernel))) (λ_ _ _ _ _=>j4) (λ_ _ _ _ _=>(dE T.links_into nz hr (zc (za 1 0) (zc (za 0 0) (zc (KY (yq (k:=0) GO GJ (za 2 1) zW (bI _)) (XO.sh (n:=1) (xz (k:=0) zz)) (za 2 1)) zh))))))
  (ze (fY u4.nd (dE T.greatest_told lJ hr (zc (za 2 0) zh)))
  (ze (fY u4.nd (EV (n:=0) (c0:=4) (nd:=[]) (kN:=[]) (yx (n:=0) (za 0 0) T.fld_net rfl) T.Net.cl T.Net_order.me n8 (hr.mono (by decide)) T.Net_order.bd .nil (λ_ _=>.nil)))
  (ze (fY u4.nd (EV (n:=0) (c0:=4) (nd:=[]) (kN:=[]) (yx (n:=0) (za 0 0) T.fld_net rfl) T.Net.cl T.Net_most_behind.me kr (hr.mono (by decide)) T.Net_most_behind.bd .nil (λ_ _=>.nil)))
  (ze (uk (k:=2) (N:=["number","many"]) (om:=[.ow 0]) (cap:=[4]) (own:=1) rfl u4.nd rfl (Or.inl rfl) (Ad (by rfl)) rfl rfl (by decide) (XI.cc (ve (n:=0) T.b_range (zc (za 8 0) zh))) (λ_ _ _ _ _=>(oT (show cP (["number","many"]:List aP)from by decide +kernel))) (λ_ _ _ _ _=>j4) (λ_ _ _ _ _=>(KR (xz (k:=0) (zg (XE.ow cu) zz)) (za 1 0))))
  (ze (vm (ve (n:=0) T.b_range (zc (za 1 0) zh)) (kK u4.nd) (ze (v7 9 rfl (KR (xz (k:=0) (zg (XE.ow cu) zz)) (za 4 0)))
  (zf (vm (vn (za 7 0)) (kK u4.nd) (ze (fY u4.nd (XE.ow (Y6 (n:=0) (Fe hr) (za 6 0) (XO.sh (n:=0) (vZ (zg (XE.ow (za 11 0)) (zg (XE.ow (za 10 0)) zz)))) cu ⟨rfl,rfl,rfl,rfl⟩)))
  (zf (Xk 9 rfl (AH (k:=0) cu) (za 11 0) (λ_ _=>rfl) (XO.sh (n:=0) (dE T.lateness_in_last_row iw hr (zc (za 9 2) (zc (kh (za 5 0) (za 11 0)) (zc (za 12 0) zh)))))))) bV.never rfl))) bV.never rfl)
  (zs3 (i:=9) rfl (zf (ya (nE (Kl (n:=0) (by decide) (za 9 0) (E4 (za 8 0)) zug))))))))))))
def qd:List D->Option D:=mOf ["self"]
  (sRet (eC (.bl false)))
theorem U3 (T:Txt K mg a):cI P w K mg base eP 1 a.f_Ride_may_drop a.d_Ride_may_drop ["self"] (gH K a.ct [0] 0 qd):=by
 refine jC (ms:=[.ow 0]) T.Ride_may_drop.fn UZ λ_ _ _ _ _ _ hr=>?_
 exact(zf (ya (XE.ow (j3 (n:=0)))))
def qf:List D->Option D:=mOf ["self"]
  (sRet (eC (.bl true)))
theorem U4 (T:Txt K mg a):cI P w K mg base eP 1 a.f_Wait_may_drop a.d_Wait_may_drop ["self"] (gH K a.ct [0] 0 qf):=by
 refine jC (ms:=[.ow 0]) T.Wait_may_drop.fn U0 λ_ _ _ _ _ _ hr=>?_
 exact(zf (ya (XE.ow (j3 (n:=0)))))
def qh:List D->Option D:=mOf ["self"]
  (sRet (eC (.bl false)))
theorem UY (T:Txt K mg a):cI P w K mg base eP 1 a.f_Back_may_drop a.d_Back_may_drop ["self"] (gH K a.ct [0] 0 qh):=by
 refine jC (ms:=[.ow 0]) T.Back_may_drop.fn U1 λ_ _ _ _ _ _ hr=>?_
 exact(zf (ya (XE.ow (j3 (n:=0)))))
def JU:EF:=(eG (lsD (eV 1)) 1 [2] (gV 0) iR (e2 ez (eV 0) (λρ=>((aCons (eV 1) aNil) ρ).bind λds=>some (.lst ds))))
def wz:SF:=(sSet 1 (e2 wO (eV 1) JU))
def uu:List D->Option D:=mOf ["waits","sets","wait"]
  (sSeq (sSet 1 (λρ=>((aCons (λρ=>(aNil ρ).bind λds=>some (.lst ds)) aNil) ρ).bind λds=>some (.lst ds)))
  (sSeq (sFor (lsD (eV 0)) (gV 2) wz)
  (sRet (e1 kE (eV 1)))))
theorem V3 (T:Txt K mg a):cI P w K mg base eP 1 a.f_sets_of a.d_sets_of ["waits"] (gH K a.ct [0] 2 uu):=by
 refine jC (ms:=[.ow 0,.ow 2,.ow 0]) T.sets_of.fn qv λ_ _ _ _ _ _ hr=>?_
 exact(ze (fY qv.nd (xz (k:=1) (zg (xz (k:=0) zz) zz)))
  (ze (vm (vn (za 0 0)) (kK qv.nd) (zf (Xm (k:=1) rfl qv.nd (uG (N:=["chosen","wait"]) (om:=[.al 1]) (cap:=[2]) (own:=1) (jf (n:=2) (za 1 2)) (λ_ _ _ _ _=>(WR (by decide) rfl (show cP (["chosen","wait"]:List aP)from by decide +kernel) rfl (by first|exact Or.inl rfl|exact Or.inr rfl))) (λ_ _ _ _ _=>j4) (λ_ _ _ _ _=>(PQ KG (O5 (n:=1) (m:=0) (by decide) (by decide)) (za 0 1) (XO.sh (n:=0) (xz (k:=0) (zg (XE.ow (za 1 0)) zz)))))))) bV.never rfl)
  (zf (VW (k:=0) rfl rfl T.b_sorted rfl T.b_len))))
def xw:List D->Option D:=mOf ["table","puts","going","beat","without"]
  (sRet (e2 sZ (e2 d5 (e2 d5 (λρ=>((aCons (eV 0) (aCons (e2 ez (eV 3) (eC (.int 1))) (aCons (eV 1) (aCons (eV 4) aNil)))) ρ).bind λds=>E8 (ds++[])) (eV 3)) (eV 2)) (eC (.int 0))))
theorem V4 (T:Txt K mg a):cI P w K mg base eP 4 a.f_is_late a.d_is_late ["table","puts","going","beat","without"] (gH K a.ct [0,0,0,0,1] 0 xw):=by
 have o4:=O8 (P:=P) (w:=w) (base:=base) T
 have rN:=T.late_d1.choose_spec
 refine jC (ms:=[.ow 0,.ow 0,.ow 0,.ow 0,.al 1]) T.is_late.fn V0 λ_ _ _ _ _ _ hr=>?_
 exact(zf (ya (XE.ow (uF (k:=0) wD wB (kh (kh (XO.sh (n:=0) (dE T.late o4 hr (zc (za 0 0) (zc (XO.sh (n:=0) (nk (za 3 0) cu)) (zc (za 1 0) (zc (za 4 1) zh)))))) (za 3 0)) (za 2 0)) cu (bI _)))))
def jr:EF:=(eG (λρ=>((aCons (e1 (cK [4] "arrows") (e1 (cK [5] "net") (eV 0))) aNil) ρ).bind λds=>match ds with|[.lst xs]=>some (eJ 0 xs)|_=>none) 2 [] (gT (gsCons (gV 0) (gsCons (gV 1) gsNil))) (tb (λρ=>((λρ=>((eV 1) ρ).bind λo=>jK 1 "may_drop" qd o []) ρ).or ((λρ=>((λρ=>((eV 1) ρ).bind λo=>jK 2 "may_drop" qf o []) ρ).or ((λρ=>((eV 1) ρ).bind λo=>jK 3 "may_drop" qh o []) ρ)) ρ))) (eV 0))
def jc:List D->Option D:=mOf ["table","puts","going","beat","waits","chosen"]
  (sSeq (sSet 4 jr)
  (sSeq (sIf (tb (e2 sZ (eN eA (aCons (eV 4) aNil)) (eC (.int 8)))) kP sSkip)
  (sSeq (sIf (tb (λρ=>((aCons (eV 0) (aCons (eV 1) (aCons (eV 2) (aCons (eV 3) (aCons (eV 4) aNil))))) ρ).bind λds=>xw (ds++[]))) (sRet (Fx (eC .non))) sSkip)
  (sSeq (oB 5 (λρ=>((aCons (eV 4) aNil) ρ).bind λds=>uu (ds++[])) (bNot (tb (λρ=>((aCons (eV 0) (aCons (eV 1) (aCons (eV 2) (aCons (eV 3) (aCons (eV 5) aNil))))) ρ).bind λds=>xw (ds++[])))))
  (sRet (Fx (eC .non)))))))
theorem V5 (T:Txt K mg a):cI P w K mg base eP 5 a.f_give_up a.d_give_up ["table","puts","going","beat"] (gH K a.ct [0,0,0,0] 1 jc):=by
 have lH:=U3 (P:=P) (w:=w) (base:=base) T
 have lI:=U4 (P:=P) (w:=w) (base:=base) T
 have lG:=UY (P:=P) (w:=w) (base:=base) T
 have mS:=V4 (P:=P) (w:=w) (base:=base) T
 have qE:=V3 (P:=P) (w:=w) (base:=base) T
 refine jC (ms:=[.ow 0,.ow 0,.ow 0,.ow 0,.ow 0,.al 1]) T.give_up.fn JZ λ_ _ _ _ _ _ hr=>?_
 exact(ze (uk (k:=0) (N:=["number","arrow"]) (om:=[.ow 0,.ow 0]) (cap:=[]) (own:=2) rfl JZ.nd rfl (Or.inl rfl) (Ad (by rfl)) rfl rfl (by decide) (N6 (n:=0) T.b_enumerate (zc (yx (n:=0) (yx (n:=0) (za 0 0) T.fld_net rfl) T.fld_arrows rfl) zh)) (λ_ _ _ _ _=>(O4 (n:=1) rfl (Gk (oT (show cP (["number","arrow"]:List aP)from by decide +kernel)) (Gk (oT (show cP (["number","arrow"]:List aP)from by decide +kernel)) Ou)))) (λ_ _ _ _ _=>(zZ (vb (XO.sh (n:=0) (PR (EV (n:=0) (c0:=1) (nd:=[]) (kN:=[]) (za 1 0) T.Ride.cl T.Ride_may_drop.me lH (hr.mono (by decide)) T.Ride_may_drop.bd .nil (λ_ _=>.nil)) (PR (EV (n:=0) (c0:=2) (nd:=[]) (kN:=[]) (za 1 0) T.Wait.cl T.Wait_may_drop.me lI (hr.mono (by decide)) T.Wait_may_drop.bd .nil (λ_ _=>.nil)) (EV (n:=0) (c0:=3) (nd:=[]) (kN:=[]) (za 1 0) T.Back.cl T.Back_may_drop.me lG (hr.mono (by decide)) T.Back_may_drop.bd .nil (λ_ _=>.nil)))))))) (λ_ _ _ _ _=>(XE.ow (za 0 0))))
  (ze (wt (yq (k:=0) wD wB (nN T.b_len (zc (za 4 0) zh)) (AB (n:=0) (d:=(.int 8)) rfl T.g_MOST_WAITS.choose_spec rfl ⟨_,rfl⟩) (bI _)) (zf EW) yf)
  (ze (wt (vb (XO.sh (n:=0) (dE T.is_late mS hr (zc (za 0 0) (zc (za 1 0) (zc (za 2 0) (zc (za 3 0) (zc (XE.up (za 4 0) (by decide:0<=1)) zh)))))))) (zf (ya (PP zW))) yf)
  (ze (Zn (k:=0) rfl (by decide) JZ.nd (dE T.sets_of qE hr (zc (za 4 0) zh)) (u6 (vb (XO.sh (n:=0) (dE T.is_late mS hr (zc (za 0 0) (zc (za 1 0) (zc (za 2 0) (zc (za 3 0) (zc (za 5 1) zh))))))))) bV.never rfl)
  (zf (ya (PP zW)))))))
def vg:List D->Option D:=mOf ["_law_script","_law_k"]
  (sSeq (sIf (tb (e2 mK (eV 1) (eN eA (aCons (eV 0) aNil)))) (sRet (e2 d5 (eV 0) (eV 1))) sSkip)
  (sRet (eC (.int 0))))
theorem Vh (T:Txt K mg a):cI P w K mg base eP 1 a.f_law_cell_at a.d_law_cell_at ["_law_script","_law_k"] (gH K a.ct [0,0] 0 vg):=by
 refine jC (ms:=[.ow 0,.ow 0]) T.law_cell_at.fn U9 λ_ _ _ _ _ _ hr=>?_
 exact(ze (wt (yq (k:=0) wF wA (za 1 0) (nN T.b_len (zc (za 0 0) zh)) (bI _)) (zf (ya (XE.ow (kh (za 0 0) (za 1 0))))) yf)
  (zf (ya (XE.ow cu))))
def JV:List D->Option D:=mOf ["_law_found"]
  (sRet (eB (bAnd (tb (e1 (lX "int") (eV 0))) (tb (eB (bNot (tb (e1 (lX "bool") (eV 0)))))))))
theorem Vs (T:Txt K mg a):cI P w K mg base eP 1 a.f_law_whole a.d_law_whole ["_law_found"] (gH K a.ct [0] 0 JV):=by
 refine jC (ms:=[.ow 0]) T.law_whole.fn VA λ_ _ _ _ _ _ hr=>?_
 exact(zf (ya (XE.ow (AF (Ae (k:=0) (by decide) T.b_isinstance T.b_int Pw (za 0 0)) (Ac (k:=0) (zso (k:=0) (Ae (k:=0) (by decide) T.b_isinstance T.b_bool OM (za 0 0))))))))
def xn:List D->Option D:=mOf ["_law_cell","_law_k","_law_number"]
  (sSeq (sIf (bAnd (tb (e2 HX (eV 0) (e2 t6 (eC (.int 1)) (eC (.int 90))))) (bAnd (tb (e2 (gA false) (e2 d7 (eV 0) (eC (.int 2))) (eC (.int 1)))) (tb (e2 sZ (e2 qL (eV 0) (e2 ez (eC (.int 1)) (e2 fI (eC (.int 31)) (eV 1)))) (eC (.int 0)))))) (sRet (e2 d7 (e2 qL (eV 0) (e2 ez (eC (.int 1)) (e2 fI (eC (.int 31)) (eV 1)))) (eC (.int 2147483648)))) sSkip)
  (sSeq (sSet 2 (e2 d7 (e2 fI (e2 ez (e2 ez (eV 0) (e2 fI (eC (.int 7919)) (eV 1))) (eC (.int 1))) (eC (.int 48271))) (eC (.int 2147483647))))
  (sSeq (sSet 2 (e2 d7 (e2 fI (eV 2) (e2 ez (e2 fO (eV 2) (eC (.int 1009))) (eC (.int 69621)))) (eC (.int 2147483647))))
  (sRet (e2 d7 (e2 fI (eV 2) (e2 ez (e2 ez (e2 fO (eV 2) (eC (.int 2003))) (eC (.int 39373))) (eV 1))) (eC (.int 2147483629)))))))
theorem qj (T:Txt K mg a):cI P w K mg base eP 1 a.f_law_mixed a.d_law_mixed ["_law_cell","_law_k"] (gH K a.ct [0,0] 0 xn):=by
 refine jC (ms:=[.ow 0,.ow 0,.ow 0]) T.law_mixed.fn j8 λ_ _ _ _ _ _ hr=>?_
 exact(ze (wt (XW.t (KO (yq (k:=0) zt1 zsr (za 0 0) (ye (k:=0) Z5 Y4 cu cu) (bI _)) (KO (yq (k:=0) (ub hr.u64) vd (ye (k:=0) yz y0 (za 0 0) cu) cu (bI _)) (O0 (yq (k:=0) wD wB (ye (k:=0) Pt O2 (za 0 0) (XO.sh (n:=0) (nk cu (ye (k:=0) u3 vx cu (za 1 0))))) cu (bI _)))))) (zf (ya (XE.ow (ye (k:=0) yz y0 (ye (k:=0) Pt O2 (za 0 0) (XO.sh (n:=0) (nk cu (ye (k:=0) u3 vx cu (za 1 0))))) cu)))) yf)
  (ze (fY j8.nd (XE.ow (ye (k:=0) yz y0 (ye (k:=0) u3 vx (XO.sh (n:=0) (nk (XO.sh (n:=0) (nk (za 0 0) (ye (k:=0) u3 vx cu (za 1 0)))) cu)) cu) cu)))
  (ze (fY j8.nd (XE.ow (ye (k:=0) yz y0 (ye (k:=0) u3 vx (za 2 0) (XO.sh (n:=0) (nk (ye (k:=0) wq wv (za 2 0) cu) cu))) cu)))
  (zf (ya (XE.ow (ye (k:=0) yz y0 (ye (k:=0) u3 vx (za 2 0) (XO.sh (n:=0) (nk (XO.sh (n:=0) (nk (ye (k:=0) wq wv (za 2 0) cu) cu)) (za 1 0)))) cu)))))))
def vh:SF:=(sApp 3 (e2 ez (e2 d5 (eV 3) (e1 oq (eC (.int 1)))) (e2 d7 (λρ=>((aCons (eV 0) (aCons (e2 ez (eC (.int 20)) (eV 4)) aNil)) ρ).bind λds=>xn (ds++[])) (eV 2))))
def jt:List D->Option D:=mOf ["_law_cell","_law_many","_law_wide","_law_times_here","_law_k"]
  (sSeq (sSet 2 (e2 d5 (λρ=>((aCons (eC (.int 4)) (aCons (eC (.int 30)) (aCons (e2 oy (eC (.int 10)) (eC (.int 8))) aNil))) ρ).bind λds=>some (.lst ds)) (e2 d7 (eV 0) (eC (.int 3)))))
  (sSeq (sSet 3 (λρ=>((aCons (eC (.int 0)) aNil) ρ).bind λds=>some (.lst ds)))
  (sSeq (sFor (λρ=>((aCons (e2 kQ (eV 1) (eC (.int 1))) aNil) ρ).bind hE) (gV 4) vh)
  (sRet (eV 3)))))
theorem Vt (T:Txt K mg a):cI P w K mg base eP 2 a.f_law_times a.d_law_times ["_law_cell","_law_many"] (gH K a.ct [0,0] 0 jt):=by
 have de:=qj (P:=P) (w:=w) (base:=base) T
 refine jC (ms:=[.ow 0,.ow 0,.ow 0,.ow 1,.ow 0]) T.law_times.fn uw λ_ _ _ _ _ _ hr=>?_
 exact(ze (fY uw.nd (XE.ow (kh (XO.sh (n:=0) (xz (k:=0) (zg (XE.ow cu) (zg (XE.ow cu) (zg (XE.ow (ye (k:=0) E7 EZ cu cu)) zz))))) (ye (k:=0) yz y0 (za 0 0) cu))))
  (ze (fY uw.nd (xz (k:=0) (zg (XE.ow cu) zz)))
  (ze (vm (ve (n:=0) T.b_range (zc (ye (k:=0) j0 uo (za 1 0) cu) zh)) (kK uw.nd) (zf (v7 3 rfl (nE (nk (wG (n:=1) vY wC (za 3 1) (AH (k:=0) cu) (λ_ _=>rfl)) (ye (k:=0) yz y0 (XO.sh (n:=0) (dE T.law_mixed de hr (zc (za 0 0) (zc (XO.sh (n:=0) (nk cu (za 4 0))) zh)))) (za 2 0)))))) bV.never rfl)
  (zf (AD (i:=3) rfl)))))
def jd:List D->Option D:=mOf ["_law_cell","_law_times_here","_law_beat","_law_waits","_law_most","_law_many","_law_one","_law_other","_law_behind","_law_room","_law_slack","_law_time","_law_kind"]
  (sSeq (sSet 5 (eN eA (aCons (eV 1) aNil)))
  (sSeq (sSet 6 (e2 d7 (λρ=>((aCons (eV 0) (aCons (eC (.int 1)) aNil)) ρ).bind λds=>xn (ds++[])) (eV 5)))
  (sSeq (sSet 7 (e2 d7 (λρ=>((aCons (eV 0) (aCons (eC (.int 2)) aNil)) ρ).bind λds=>xn (ds++[])) (eV 5)))
  (sSeq (sSet 8 (e2 d5 (λρ=>((aCons (eC (.int 0)) (aCons (eC (.int 0)) (aCons (eC (.int 1)) (aCons (eC (.int 1)) (aCons (eC (.int 2)) (aCons (eC (.int 3)) aNil)))))) ρ).bind λds=>some (.lst ds)) (e2 d7 (λρ=>((aCons (eV 0) (aCons (eC (.int 3)) aNil)) ρ).bind λds=>xn (ds++[])) (eC (.int 6)))))
  (sSeq (sIf (tb (e2 (gA false) (eV 6) (eV 7))) (sSet 8 (eN gN (aCons (eC (.int 1)) (aCons (eV 8) aNil)))) sSkip)
  (sSeq (sIf (tb (e2 (gA false) (eV 8) (eC (.int 0)))) (sPar 6 7 (aCons (eN jQ (aCons (eV 6) (aCons (eV 7) aNil))) (aCons (eN gN (aCons (eV 6) (aCons (eV 7) aNil))) aNil))) sSkip)
  (sSeq (sIf (tb (e2 mK (e2 ez (e2 d5 (eV 1) (eV 7)) (e2 fI (eV 2) (eV 8))) (e2 d5 (eV 1) (eV 6)))) (sPar 6 7 (aCons (eV 7) (aCons (eV 6) aNil))) sSkip)
  (sSeq (sSet 9 (e2 kQ (e2 ez (e2 d5 (eV 1) (eV 7)) (e2 fI (eV 2) (eV 8))) (e2 d5 (eV 1) (eV 6))))
  (sSeq (sSet 10 (eN jQ (aCons (eV 9) (aCons (e2 d5 (λρ=>((aCons (eC (.int 0)) (aCons (eC (.int 1)) (aCons (e2 d7 (eV 0) (eC (.int 5))) (aCons (e2 d7 (eV 0) (e2 ez (e2 oy (eC (.int 10)) (eC (.int 9))) (eC (.int 1)))) aNil)))) ρ).bind λds=>some (.lst ds)) (e2 d7 (λρ=>((aCons (eV 0) (aCons (eC (.int 4)) aNil)) ρ).bind λds=>xn (ds++[])) (eC (.int 4)))) aNil))))
  (sSeq (sSet 11 (eN jQ (aCons (e2 oy (eC (.int 10)) (eC (.int 9))) (aCons (e2 kQ (eV 9) (eV 10)) aNil))))
  (sSeq (sSet 12 (e2 d5 (λρ=>((aCons (eC (.str "wait")) (aCons (eC (.str "wait")) (aCons (eC (.str "back")) (aCons (eC (.str "ride")) aNil)))) ρ).bind λds=>some (.lst ds)) (e2 d7 (λρ=>((aCons (eV 0) (aCons (eC (.int 5)) aNil)) ρ).bind λds=>xn (ds++[])) (eC (.int 4)))))
  (sSeq (sIf (bAnd (tb (e2 (gA false) (eV 12) (eC (.str "wait")))) (tb (e2 mK (eV 3) (eV 4)))) (sRet (λρ=>((aCons (eV 6) (aCons (eV 7) (aCons (eV 11) (aCons (eV 8) (aCons (eC (.str "wait")) aNil))))) ρ).bind λds=>some (.tup ds))) sSkip)
  (sSeq (sIf (tb (e2 (gA false) (eV 8) (eC (.int 0)))) (sRet (λρ=>((aCons (eV 6) (aCons (eV 7) (aCons (eV 11) (aCons (eC (.int 0)) (aCons (eC (.str "ride")) aNil))))) ρ).bind λds=>some (.tup ds))) sSkip)
  (sRet (λρ=>((aCons (eV 6) (aCons (eV 7) (aCons (eV 11) (aCons (eV 8) (aCons (eC (.str "back")) aNil))))) ρ).bind λds=>some (.tup ds))))))))))))))))
theorem VI (T:Txt K mg a):cI P w K mg base eP 2 a.f_law_part a.d_law_part ["_law_cell","_law_times_here","_law_beat","_law_waits","_law_most"] (gH K a.ct [0,0,0,0,0] 0 jd):=by
 have de:=qj (P:=P) (w:=w) (base:=base) T
 refine jC (ms:=[.ow 0,.ow 0,.ow 0,.ow 0,.ow 0,.ow 0,.ow 0,.ow 0,.ow 0,.ow 0,.ow 0,.ow 0,.ow 0]) T.law_part.fn xm λ_ _ _ _ _ _ hr=>?_
 exact(ze (fY xm.nd (XE.ow (nN T.b_len (zc (za 1 0) zh))))
  (ze (fY xm.nd (XE.ow (ye (k:=0) yz y0 (XO.sh (n:=0) (dE T.law_mixed de hr (zc (za 0 0) (zc cu zh)))) (za 5 0))))
  (ze (fY xm.nd (XE.ow (ye (k:=0) yz y0 (XO.sh (n:=0) (dE T.law_mixed de hr (zc (za 0 0) (zc cu zh)))) (za 5 0))))
  (ze (fY xm.nd (XE.ow (kh (XO.sh (n:=0) (xz (k:=0) (zg (XE.ow cu) (zg (XE.ow cu) (zg (XE.ow cu) (zg (XE.ow cu) (zg (XE.ow cu) (zg (XE.ow cu) zz)))))))) (ye (k:=0) yz y0 (XO.sh (n:=0) (dE T.law_mixed de hr (zc (za 0 0) (zc cu zh)))) cu))))
  (ze (wt (yq (k:=0) (ub hr.u64) vd (za 6 0) (za 7 0) (bI _)) (zf (fY xm.nd (XE.ow (ww (k:=0) (j1 rfl) EX rfl T.b_max AE (zc cu (zc (za 8 0) zh)))))) yf)
  (ze (wt (yq (k:=0) (ub hr.u64) vd (za 8 0) cu (bI _)) (zf (Py rfl rfl rfl xm.nd rfl rfl (by decide) rfl rfl (zc (ww (k:=0) (JW rfl) Km rfl T.b_min KN (zc (za 6 0) (zc (za 7 0) zh))) (zc (ww (k:=0) (j1 rfl) EX rfl T.b_max AE (zc (za 6 0) (zc (za 7 0) zh))) zh)) rfl)) yf)
  (ze (wt (yq (k:=0) wF wA (XO.sh (n:=0) (nk (kh (za 1 0) (za 7 0)) (ye (k:=0) u3 vx (za 2 0) (za 8 0)))) (kh (za 1 0) (za 6 0)) (bI _)) (zf (Py rfl rfl rfl xm.nd rfl rfl (by decide) rfl rfl (zc (za 7 0) (zc (za 6 0) zh)) rfl)) yf)
  (ze (fY xm.nd (XE.ow (ye (k:=0) j0 uo (XO.sh (n:=0) (nk (kh (za 1 0) (za 7 0)) (ye (k:=0) u3 vx (za 2 0) (za 8 0)))) (kh (za 1 0) (za 6 0)))))
  (ze (fY xm.nd (XE.ow (ww (k:=0) (JW rfl) Km rfl T.b_min KN (zc (za 9 0) (zc (kh (XO.sh (n:=0) (xz (k:=0) (zg (XE.ow cu) (zg (XE.ow cu) (zg (XE.ow (ye (k:=0) yz y0 (za 0 0) cu)) (zg (XE.ow (ye (k:=0) yz y0 (za 0 0) (XO.sh (n:=0) (nk (ye (k:=0) E7 EZ cu cu) cu)))) zz)))))) (ye (k:=0) yz y0 (XO.sh (n:=0) (dE T.law_mixed de hr (zc (za 0 0) (zc cu zh)))) cu)) zh)))))
  (ze (fY xm.nd (XE.ow (ww (k:=0) (JW rfl) Km rfl T.b_min KN (zc (ye (k:=0) E7 EZ cu cu) (zc (ye (k:=0) j0 uo (za 9 0) (za 10 0)) zh)))))
  (ze (fY xm.nd (XE.ow (kh (XO.sh (n:=0) (xz (k:=0) (zg (XE.ow (v6 (n:=0))) (zg (XE.ow (v6 (n:=0))) (zg (XE.ow (v6 (n:=0))) (zg (XE.ow (v6 (n:=0))) zz)))))) (ye (k:=0) yz y0 (XO.sh (n:=0) (dE T.law_mixed de hr (zc (za 0 0) (zc cu zh)))) cu))))
  (ze (wt (XW.t (KO (yq (k:=0) (ub hr.u64) vd (za 12 0) (v6 (n:=0)) (bI _)) (O0 (yq (k:=0) wF wA (za 3 0) (za 4 0) (bI _))))) (zf (ya (nE (vZ (zg (XE.ow (za 6 0)) (zg (XE.ow (za 7 0)) (zg (XE.ow (za 11 0)) (zg (XE.ow (za 8 0)) (zg (XE.ow (v6 (n:=0))) zz))))))))) yf)
  (ze (wt (yq (k:=0) (ub hr.u64) vd (za 8 0) cu (bI _)) (zf (ya (nE (vZ (zg (XE.ow (za 6 0)) (zg (XE.ow (za 7 0)) (zg (XE.ow (za 11 0)) (zg (XE.ow cu) (zg (XE.ow (v6 (n:=0))) zz))))))))) yf)
  (zf (ya (nE (vZ (zg (XE.ow (za 6 0)) (zg (XE.ow (za 7 0)) (zg (XE.ow (za 11 0)) (zg (XE.ow (za 8 0)) (zg (XE.ow (v6 (n:=0))) zz))))))))))))))))))))))
def vv:List D->Option D:=mOf ["_law_part_here","_law_start","_law_goal","_law_time","_law_behind","_law_kind"]
  (sSeq (sAsg (gT (gsCons (gV 1) (gsCons (gV 2) (gsCons (gV 3) (gsCons (gV 4) (gsCons (gV 5) gsNil)))))) (eV 0))
  (sSeq (sIf (tb (e2 (gA false) (eV 5) (eC (.str "ride")))) (sRet (λρ=>((aCons (eV 1) (aCons (eV 2) (aCons (eV 3) aNil))) ρ).bind λds=>jk 1 (ds++[]))) sSkip)
  (sSeq (sIf (tb (e2 (gA false) (eV 5) (eC (.str "wait")))) (sRet (λρ=>((aCons (eV 1) (aCons (eV 2) (aCons (eV 3) (aCons (eV 4) aNil)))) ρ).bind λds=>jl 2 (ds++[]))) sSkip)
  (sRet (λρ=>((aCons (eV 1) (aCons (eV 2) (aCons (eV 3) (aCons (eV 4) aNil)))) ρ).bind λds=>jm 3 (ds++[]))))))
theorem Vu (T:Txt K mg a):cI P w K mg base eP 4 a.f_law_arrow a.d_law_arrow ["_law_part_here"] (gH K a.ct [0] 0 vv):=by
 have mG:=Va (P:=P) (w:=w) (base:=base) T
 have mH:=Vb (P:=P) (w:=w) (base:=base) T
 have qZ:=T.Wait___init_d1.choose_spec
 have mF:=Vc (P:=P) (w:=w) (base:=base) T
 have qY:=T.Back___init_d1.choose_spec
 refine jC (ms:=[.ow 0,.ow 0,.ow 0,.ow 0,.ow 0,.ow 0]) T.law_arrow.fn vc λ_ _ _ _ _ _ hr=>?_
 exact(ze (zsv (za 0 0) (GH (n:=0) rfl (wu (kK vc.nd) (wu (kK vc.nd) (wu (kK vc.nd) (wu (kK vc.nd) (wu (kK vc.nd) Gu)))))))
  (ze (wt (yq (k:=0) (ub hr.u64) vd (za 5 0) (v6 (n:=0)) (bI _)) (zf (ya (nE (E5 (c0:=1) (kN:=[]) (ns:=[0,0,0]) (nd:=[]) ⟨T.Ride.mks,T.Ride___init.me.at_,T.Ride___init.me.fn,T.Ride.kp⟩ (by decide) mG (hr.mono (by decide)) rfl T.Ride.mgx T.Ride___init.bd .nil (λ_ _=>.nil) (zc (za 1 0) (zc (za 2 0) (zc (za 3 0) zh))))))) yf)
  (ze (wt (yq (k:=0) (ub hr.u64) vd (za 5 0) (v6 (n:=0)) (bI _)) (zf (ya (nE (E5 (c0:=2) (kN:=[]) (ns:=[0,0,0,0]) (nd:=[]) ⟨T.Wait.mks,T.Wait___init.me.at_,T.Wait___init.me.fn,T.Wait.kp⟩ (by decide) mH (hr.mono (by decide)) rfl T.Wait.mgx T.Wait___init.bd .nil (λ_ _=>.nil) (zc (za 1 0) (zc (za 2 0) (zc (za 3 0) (zc (za 4 0) zh)))))))) yf)
  (zf (ya (nE (E5 (c0:=3) (kN:=[]) (ns:=[0,0,0,0]) (nd:=[]) ⟨T.Back.mks,T.Back___init.me.at_,T.Back___init.me.fn,T.Back.kp⟩ (by decide) mF (hr.mono (by decide)) rfl T.Back.mgx T.Back___init.bd .nil (λ_ _=>.nil) (zc (za 1 0) (zc (za 2 0) (zc (za 3 0) (zc (za 4 0) zh)))))))))))
def uz:SF:=(sSeq (sSet 4 (e2 d5 (λρ=>((aCons (e2 d7 (eV 3) (eC (.int 3))) (aCons (e2 d7 (eV 3) (eC (.int 12))) (aCons (e2 d7 (eV 3) (e2 ez (e2 oy (eC (.int 10)) (eC (.int 9))) (eC (.int 1)))) aNil))) ρ).bind λds=>some (.lst ds)) (e2 d7 (λρ=>((aCons (eV 3) (aCons (eC (.int 6)) aNil)) ρ).bind λds=>xn (ds++[])) (eC (.int 3)))))
  (sApp 2 (λρ=>((aCons (e2 d7 (λρ=>((aCons (eV 3) (aCons (eC (.int 7)) aNil)) ρ).bind λds=>xn (ds++[])) (eV 1)) (aCons (e2 d7 (λρ=>((aCons (eV 3) (aCons (eC (.int 8)) aNil)) ρ).bind λds=>xn (ds++[])) (eC (.int 4))) (aCons (eV 4) aNil))) ρ).bind λds=>some (.tup ds))))
def qx:List D->Option D:=mOf ["_law_cells","_law_many","_law_puts_here","_law_cell","_law_amount"]
  (sSeq (sSet 2 (λρ=>(aNil ρ).bind λds=>some (.lst ds)))
  (sSeq (sFor (lsD (eV 0)) (gV 3) uz)
  (sRet (eV 2))))
theorem VJ (T:Txt K mg a):cI P w K mg base eP 2 a.f_law_puts a.d_law_puts ["_law_cells","_law_many"] (gH K a.ct [0,0] 0 qx):=by
 have de:=qj (P:=P) (w:=w) (base:=base) T
 refine jC (ms:=[.ow 0,.ow 0,.ow 1,.ow 0,.ow 0]) T.law_puts.fn ji λ_ _ _ _ _ _ hr=>?_
 exact(ze (fY ji.nd (xz (k:=0) zz))
  (ze (vm (vn (za 0 0)) (kK ji.nd) (ze (fY ji.nd (XE.ow (kh (XO.sh (n:=0) (xz (k:=0) (zg (XE.ow (ye (k:=0) yz y0 (za 3 0) cu)) (zg (XE.ow (ye (k:=0) yz y0 (za 3 0) cu)) (zg (XE.ow (ye (k:=0) yz y0 (za 3 0) (XO.sh (n:=0) (nk (ye (k:=0) E7 EZ cu cu) cu)))) zz))))) (ye (k:=0) yz y0 (XO.sh (n:=0) (dE T.law_mixed de hr (zc (za 3 0) (zc cu zh)))) cu))))
  (zf (v7 2 rfl (nE (vZ (zg (XE.ow (ye (k:=0) yz y0 (XO.sh (n:=0) (dE T.law_mixed de hr (zc (za 3 0) (zc cu zh)))) (za 1 0))) (zg (XE.ow (ye (k:=0) yz y0 (XO.sh (n:=0) (dE T.law_mixed de hr (zc (za 3 0) (zc cu zh)))) cu)) (zg (XE.ow (za 4 0)) zz)))))))) bV.never rfl)
  (zf (AD (i:=2) rfl))))
def xy:SF:=(sIf (bOr (tb (e2 (gA false) (eV 3) (λρ=>(aNil ρ).bind λds=>some (.lst ds)))) (tb (e2 sZ (eV 4) (e2 d5 (eV 3) (e1 oq (eC (.int 1))))))) (sApp 2 (e2 ez (eV 3) (λρ=>((aCons (eV 4) aNil) ρ).bind λds=>some (.lst ds)))) sSkip)
def wn:SF:=(sFor (lsD (eV 1)) (gV 4) xy)
def u0:List D->Option D:=mOf ["_law_found","_law_some","_law_longer_here","_law_row","_law_number"]
  (sSeq (sSet 2 (λρ=>(aNil ρ).bind λds=>some (.lst ds)))
  (sSeq (sFor (lsD (eV 0)) (gV 3) wn)
  (sRet (eV 2))))
theorem Vq (T:Txt K mg a):cI P w K mg base eP 1 a.f_law_longer a.d_law_longer ["_law_found","_law_some"] (gH K a.ct [0,0] 0 u0):=by
 refine jC (ms:=[.ow 0,.ow 0,.ow 1,.ow 0,.ow 0]) T.law_longer.fn uf λ_ _ _ _ _ _ hr=>?_
 exact(ze (fY uf.nd (xz (k:=0) zz))
  (ze (vm (vn (za 0 0)) (kK uf.nd) (zf (vm (vn (za 1 0)) (kK uf.nd) (zf (wt (XW.t (rE (yq (k:=0) (ub hr.u64) vd (za 3 0) (XO.sh (n:=0) (xz (k:=0) zz)) (bI _)) (tG (yq (k:=0) wD wB (za 4 0) (kh (za 3 0) (AH (k:=0) cu)) (bI _))))) (zf (v7 2 rfl (nE (nk (za 3 0) (XO.sh (n:=0) (xz (k:=0) (zg (XE.ow (za 4 0)) zz))))))) yf)) bV.never rfl)) bV.never rfl)
  (zf (AD (i:=2) rfl))))
def vi:SF:=(sSet 2 (λρ=>((aCons (eV 2) (aCons (eV 0) aNil)) ρ).bind λds=>u0 (ds++[])))
def ug:List D->Option D:=mOf ["_law_some","_law_many","_law_found","_law_step"]
  (sSeq (sSet 2 (λρ=>((aCons (λρ=>(aNil ρ).bind λds=>some (.lst ds)) aNil) ρ).bind λds=>some (.lst ds)))
  (sSeq (sFor (λρ=>((aCons (eV 1) aNil) ρ).bind hE) (gV 3) vi)
  (sRet (eV 2))))
theorem Vi (T:Txt K mg a):cI P w K mg base eP 2 a.f_law_choices a.d_law_choices ["_law_some","_law_many"] (gH K a.ct [0,0] 0 ug):=by
 have ny:=Vq (P:=P) (w:=w) (base:=base) T
 refine jC (ms:=[.ow 0,.ow 0,.ow 0,.ow 0]) T.law_choices.fn vz λ_ _ _ _ _ _ hr=>?_
 exact(ze (fY vz.nd (nE (xz (k:=0) (zg (nE (xz (k:=0) zz)) zz))))
  (ze (vm (ve (n:=0) T.b_range (zc (za 1 0) zh)) (kK vz.nd) (zf (fY vz.nd (dE T.law_longer ny hr (zc (za 2 0) (zc (za 0 0) zh))))) bV.never rfl)
  (zf (ya (XE.ow (za 2 0))))))
def vw:List D->Option D:=mOf ["_law_table","_law_puts_here","_law_going","_law_beat","_law_without"]
  (sRet (e2 sZ (e2 d5 (e2 d5 (λρ=>((aCons (eV 0) (aCons (e2 ez (eV 3) (eC (.int 1))) (aCons (eN gM (aCons (eV 1) aNil)) (aCons (eN gM (aCons (eV 4) aNil)) aNil)))) ρ).bind λds=>E8 (ds++[])) (eV 3)) (eV 2)) (eC (.int 0))))
theorem VL (T:Txt K mg a):cI P w K mg base eP 4 a.f_law_late a.d_law_late ["_law_table","_law_puts_here","_law_going","_law_beat","_law_without"] (gH K a.ct [0,0,0,0,1] 0 vw):=by
 have o4:=O8 (P:=P) (w:=w) (base:=base) T
 have rN:=T.late_d1.choose_spec
 refine jC (ms:=[.ow 0,.ow 0,.ow 0,.ow 0,.al 1]) T.law_late.fn VY λ_ _ _ _ _ _ hr=>?_
 exact(zf (ya (XE.ow (uF (k:=0) wD wB (kh (kh (XO.sh (n:=0) (dE T.late o4 hr (zc (za 0 0) (zc (XO.sh (n:=0) (nk (za 3 0) cu)) (zc (XO.sh (n:=0) (u7 w9 (qq (n:=0) (by decide)) rfl T.b_list j2 (zc (za 1 0) zh))) (zc (XO.sh (n:=1) (u7 w9 (qq (n:=1) (by decide)) rfl T.b_list j2 (zc (za 4 1) zh))) zh)))))) (za 3 0)) (za 2 0)) cu (bI _)))))
def uh:SF:=(sIf (bNot (tb (λρ=>((aCons (eV 1) (aCons (eV 2) (aCons (eV 3) (aCons (eV 4) (aCons (eV 6) aNil))))) ρ).bind λds=>vw (ds++[])))) (sRet (eC (.bl false))) sSkip)
def vk:EF:=(eG (lsD (eV 0)) 1 [5] (gV 0) (tb (e2 (inD true) (eV 0) (eV 1))) (eV 0))
def ui:EF:=(eG (lsD (eV 0)) 1 [] (gV 0) iR (λρ=>((aCons (eV 0) aNil) ρ).bind λds=>JV (ds++[])))
def w6:List D->Option D:=mOf ["_law_found","_law_table","_law_puts_here","_law_going","_law_beat","_law_waits","_law_less"]
  (sSeq (sIf (tb (λρ=>((aCons (eV 1) (aCons (eV 2) (aCons (eV 3) (aCons (eV 4) (aCons (eV 5) aNil))))) ρ).bind λds=>vw (ds++[]))) (sRet (e2 (tu false) (eV 0) (eC .non))) sSkip)
  (sSeq (sIf (bOr (bNot (tb (e1 (lX "list") (eV 0)))) (bNot (tb (eN rS (aCons ui aNil))))) (sRet (eC (.bl false))) sSkip)
  (sSeq (sIf (bOr (tb (e2 (gA true) (eV 0) (e1 kF (eV 0)))) (tb (e2 (gA true) vk (λρ=>(aNil ρ).bind λds=>some (.lst ds))))) (sRet (eC (.bl false))) sSkip)
  (sSeq (sIf (tb (λρ=>((aCons (eV 1) (aCons (eV 2) (aCons (eV 3) (aCons (eV 4) (aCons (eV 0) aNil))))) ρ).bind λds=>vw (ds++[]))) (sRet (eC (.bl false))) sSkip)
  (sSeq (sIf (tb (e2 (gA false) (eV 0) (λρ=>(aNil ρ).bind λds=>some (.lst ds)))) (sRet (eC (.bl true))) sSkip)
  (sSeq (sFor (lsD (λρ=>((aCons (eV 5) (aCons (e2 kQ (eN eA (aCons (eV 0) aNil)) (eC (.int 1))) aNil)) ρ).bind λds=>ug (ds++[]))) (gV 6) uh)
  (sRet (eC (.bl true)))))))))
theorem Vv (T:Txt K mg a):cI P w K mg base eP 5 a.f_law_right a.d_law_right ["_law_found","_law_table","_law_puts_here","_law_going","_law_beat","_law_waits"] (gH K a.ct [1,0,0,0,0,0] 0 w6):=by
 have jU:=VL (P:=P) (w:=w) (base:=base) T
 have oh:=Vs (P:=P) (w:=w) (base:=base) T
 have mI:=Vi (P:=P) (w:=w) (base:=base) T
 refine jC (ms:=[.al 1,.ow 0,.ow 0,.ow 0,.ow 0,.ow 0,.ow 0]) T.law_right.fn Nn λ_ _ _ _ _ _ hr=>?_
 exact(ze (wt (vb (XO.sh (n:=0) (dE T.law_late jU hr (zc (za 1 0) (zc (za 2 0) (zc (za 3 0) (zc (za 4 0) (zc (XE.up (za 5 0) (by decide:0<=1)) zh)))))))) (zf (ya (XE.ow (uF (k:=0) GO GJ (za 0 1) zW (bI _))))) yf)
  (ze (wt (XW.t (rE (u6 (vb (Ae (k:=0) (by decide) T.b_isinstance T.b_list j2 (za 0 1)))) (tG (u6 (vb (ww (k:=0) (N2 rfl) OO rfl T.b_all Pg (zc (XO.sh (n:=0) (uG (N:=["_law_number"]) (om:=[.ow 0]) (cap:=[]) (own:=1) (jf (n:=1) (za 0 1)) (λ_ _ _ _ _=>(oT (show cP (["_law_number"]:List aP)from by decide +kernel))) (λ_ _ _ _ _=>j4) (λ_ _ _ _ _=>(dE T.law_whole oh hr (zc (za 0 0) zh))))) zh))))))) (zf (ya (XE.ow (j3 (n:=0))))) yf)
  (ze (wt (XW.t (rE (yq (k:=0) (KM hr.u64) vd (za 0 1) (XO.sh (n:=0) (Ws rfl rfl T.b_sorted rfl T.b_set (za 0 1))) (bI _)) (tG (yq (k:=0) (KM hr.u64) vd (XO.sh (n:=0) (uG (N:=["_law_number","_law_waits"]) (om:=[.ow 0]) (cap:=[5]) (own:=1) (jf (n:=1) (za 0 1)) (λ_ _ _ _ _=>(oT (show cP (["_law_number","_law_waits"]:List aP)from by decide +kernel))) (λ_ _ _ _ _=>(zZ (yq (k:=0) Ni Pj (za 0 0) (za 1 0) (by with_unfolding_all rfl)))) (λ_ _ _ _ _=>(XE.ow (za 0 0))))) (XO.sh (n:=0) (xz (k:=0) zz)) (bI _))))) (zf (ya (XE.ow (j3 (n:=0))))) yf)
  (ze (wt (vb (XO.sh (n:=0) (dE T.law_late jU hr (zc (za 1 0) (zc (za 2 0) (zc (za 3 0) (zc (za 4 0) (zc (za 0 1) zh)))))))) (zf (ya (XE.ow (j3 (n:=0))))) yf)
  (ze (wt (yq (k:=0) (ub hr.u64) vd (za 0 1) (XO.sh (n:=0) (xz (k:=0) zz)) (bI _)) (zf (ya (XE.ow (j3 (n:=0))))) yf)
  (ze (vm (vn (XO.sh (n:=0) (dE T.law_choices mI hr (zc (za 5 0) (zc (ye (k:=0) j0 uo (nN T.b_len (zc (za 0 1) zh)) cu) zh))))) (kK Nn.nd) (zf (wt (u6 (vb (XO.sh (n:=0) (dE T.law_late jU hr (zc (za 1 0) (zc (za 2 0) (zc (za 3 0) (zc (za 4 0) (zc (XE.up (za 6 0) (by decide:0<=1)) zh))))))))) (zf (ya (XE.ow (j3 (n:=0))))) yf)) bV.never rfl)
  (zf (ya (XE.ow (j3 (n:=0)))))))))))
def GA:EF:=(eG (λρ=>((aCons (eN eA (aCons (eV 6) aNil)) aNil) ρ).bind hE) 1 [6] (gV 0) (tb (e2 (gA false) (e2 d5 (e2 d5 (eV 1) (eV 0)) (eC (.int 4))) (eC (.str "wait")))) (eV 0))
def Ku:EF:=(eG (lsD (eV 6)) 1 [] (gV 0) iR (λρ=>((aCons (eV 0) aNil) ρ).bind λds=>vv (ds++[])))
def Kv:EF:=(eG (λρ=>((aCons (eV 2) aNil) ρ).bind hE) 1 [] (gV 0) iR (e2 d5 (eC (.str "abcde")) (eV 0)))
def Kw:EF:=(eG (lsD (eV 6)) 1 [] (gV 0) (tb (e2 (gA false) (e2 d5 (eV 0) (eC (.int 4))) (eC (.str "wait")))) (eV 0))
def E6:SF:=(sApp 6 (λρ=>((aCons (eV 7) (aCons (eV 3) (aCons (eV 4) (aCons (eN eA (aCons Kw aNil)) (aCons (eV 5) aNil))))) ρ).bind λds=>jd (ds++[])))
def K0:List D->Option D:=mOf ["_law_script","_law_cell","_law_many","_law_times_here","_law_beat","_law_most","_law_parts","_law_one","_law_puts_here","_law_net","_law_table","_law_waits","_law_asked","_law_going","_law_when","_law_handed","_law_found"]
  (sSeq (sSet 1 (λρ=>((aCons (eV 0) (aCons (eC (.int 0)) aNil)) ρ).bind λds=>vg (ds++[])))
  (sSeq (sSet 2 (e2 ez (eC (.int 2)) (e2 d7 (eV 1) (eC (.int 4)))))
  (sSeq (sSet 3 (λρ=>((aCons (e2 fO (eV 1) (eC (.int 4))) (aCons (eV 2) aNil)) ρ).bind λds=>jt (ds++[])))
  (sSeq (sSet 4 (e2 d5 (λρ=>((aCons (e2 ez (e2 d5 (eV 3) (e1 oq (eC (.int 1)))) (e2 d5 (λρ=>((aCons (eC (.int 0)) (aCons (eC (.int 1)) (aCons (eC (.int 7)) (aCons (e2 oy (eC (.int 10)) (eC (.int 6))) aNil)))) ρ).bind λds=>some (.lst ds)) (e2 d7 (e2 fO (eV 1) (eC (.int 12))) (eC (.int 4))))) (aCons (e2 fO (e2 d5 (eV 3) (e1 oq (eC (.int 1)))) (eC (.int 3))) aNil)) ρ).bind λds=>some (.lst ds)) (e2 fO (e2 d7 (e2 fO (eV 1) (eC (.int 48))) (eC (.int 4))) (eC (.int 3)))))
  (sSeq (sSet 5 (e2 d5 (λρ=>((aCons (eC (.int 5)) (aCons (eC (.int 8)) aNil)) ρ).bind λds=>some (.lst ds)) (e2 fO (e2 d7 (e2 fO (eV 1) (eC (.int 192))) (eC (.int 8))) (eC (.int 7)))))
  (sSeq (sSet 6 (λρ=>(aNil ρ).bind λds=>some (.lst ds)))
  (sSeq (sFor (lsD (λρ=>((eV 0) ρ).bind λd=>((pInt (eC (.int 8))) ρ).bind λl=>((pInt (eC (.int 17))) ρ).bind λh=>iZ d l h)) (gV 7) E6)
  (sSeq (sSet 8 (λρ=>((aCons (λρ=>((eV 0) ρ).bind λd=>((pInt (eC (.int 2))) ρ).bind λl=>((pInt (eC (.int 7))) ρ).bind λh=>iZ d l h) (aCons (eV 2) aNil)) ρ).bind λds=>qx (ds++[])))
  (sSeq (sSet 9 (λρ=>((aCons Kv (aCons Ku aNil)) ρ).bind λds=>ux 4 (ds++[])))
  (sSeq (sSet 10 (λρ=>((aCons (eV 9) (aCons (eV 3) (aCons (eV 4) aNil))) ρ).bind λds=>v4 5 (ds++[])))
  (sSeq (sSet 11 GA)
  (sSeq (sSet 12 (λρ=>((aCons (eV 0) (aCons (eC (.int 1)) aNil)) ρ).bind λds=>vg (ds++[])))
  (sSeq (sSet 13 (e2 d7 (eV 12) (eV 2)))
  (sSeq (sSet 14 (e2 d7 (e2 fO (eV 12) (eC (.int 5))) (e2 d5 (λρ=>((aCons (eC (.int 6)) (aCons (eC (.int 61)) aNil)) ρ).bind λds=>some (.lst ds)) (e2 fI (e2 kQ (eC (.int 1)) (e2 fO (eV 5) (eC (.int 8)))) (e2 fO (e2 d7 (e2 fO (eV 1) (eC (.int 192))) (eC (.int 8))) (eC (.int 6)))))))
  (sSeq (sSet 15 (eN gM (aCons (eV 8) aNil)))
  (sSeq (sSet 16 (λρ=>((aCons (eV 10) (aCons (eV 15) (aCons (eV 13) (aCons (eV 14) aNil)))) ρ).bind λds=>jc (ds++[])))
  (sSeq (sIf (bOr (tb (e2 (gA true) (eV 15) (eV 8))) (bNot (tb (λρ=>((aCons (eV 16) (aCons (eV 10) (aCons (eV 8) (aCons (eV 13) (aCons (eV 14) (aCons (eV 11) aNil)))))) ρ).bind λds=>w6 (ds++[]))))) (sRet (eC (.bl false))) sSkip)
  (sSeq (sIf (tb (e2 (tu true) (eV 16) (eC .non))) (sApp 16 (eC (.int 0))) sSkip)
  (sRet (λρ=>((aCons (λρ=>((aCons (eV 10) (aCons (eV 15) (aCons (eV 13) (aCons (eV 14) aNil)))) ρ).bind λds=>jc (ds++[])) (aCons (eV 10) (aCons (eV 8) (aCons (eV 13) (aCons (eV 14) (aCons (eV 11) aNil)))))) ρ).bind λds=>w6 (ds++[])))))))))))))))))))))
theorem zs5 (T:Txt K mg a):cI P w K mg base eP 6 a.f_law a.d_law ["_law_script"] (gH K a.ct [0] 0 K0):=by
 have jO:=Vh (P:=P) (w:=w) (base:=base) T
 have og:=Vt (P:=P) (w:=w) (base:=base) T
 have o6:=VI (P:=P) (w:=w) (base:=base) T
 have o7:=VJ (P:=P) (w:=w) (base:=base) T
 have nv:=Vo (P:=P) (w:=w) (base:=base) T
 have oe:=Vu (P:=P) (w:=w) (base:=base) T
 have lU:=Vg (P:=P) (w:=w) (base:=base) T
 have mR:=V5 (P:=P) (w:=w) (base:=base) T
 have li:=Vv (P:=P) (w:=w) (base:=base) T
 refine jC (ms:=[.ow 0,.ow 0,.ow 0,.ow 0,.ow 0,.ow 0,.ow 1,.ow 0,.ow 0,.ow 0,.ow 0,.ow 0,.ow 0,.ow 0,.ow 0,.ow 0,.ow 1]) T.law.fn v8 λ_ _ _ _ _ _ hr=>?_
 exact(ze (fY v8.nd (dE T.law_cell_at jO hr (zc (za 0 0) (zc cu zh))))
  (ze (fY v8.nd (nE (nk cu (ye (k:=0) yz y0 (za 1 0) cu))))
  (ze (fY v8.nd (dE T.law_times og hr (zc (ye (k:=0) wq wv (za 1 0) cu) (zc (za 2 0) zh))))
  (ze (fY v8.nd (XE.ow (kh (XO.sh (n:=0) (xz (k:=0) (zg (nE (nk (kh (za 3 0) (AH (k:=0) cu)) (kh (XO.sh (n:=0) (xz (k:=0) (zg (XE.ow cu) (zg (XE.ow cu) (zg (XE.ow cu) (zg (XE.ow (ye (k:=0) E7 EZ cu cu)) zz)))))) (ye (k:=0) yz y0 (ye (k:=0) wq wv (za 1 0) cu) cu)))) (zg (XE.ow (ye (k:=0) wq wv (kh (za 3 0) (AH (k:=0) cu)) cu)) zz)))) (ye (k:=0) wq wv (ye (k:=0) yz y0 (ye (k:=0) wq wv (za 1 0) cu) cu) cu))))
  (ze (fY v8.nd (XE.ow (kh (XO.sh (n:=0) (xz (k:=0) (zg (XE.ow cu) (zg (XE.ow cu) zz)))) (ye (k:=0) wq wv (ye (k:=0) yz y0 (ye (k:=0) wq wv (za 1 0) cu) cu) cu))))
  (ze (fY v8.nd (xz (k:=0) zz))
  (ze (vm (vn (XO.sh (n:=0) (Kl (n:=0) (by decide) (za 0 0) (E4 cu) (E4 cu)))) (kK v8.nd) (zf (v7 6 rfl (dE T.law_part o6 hr (zc (za 7 0) (zc (za 3 0) (zc (za 4 0) (zc (nN T.b_len (zc (XO.sh (n:=0) (uG (N:=["_law_part_here"]) (om:=[.ow 0]) (cap:=[]) (own:=1) (jf (n:=1) (za 6 1)) (λ_ _ _ _ _=>(oT (show cP (["_law_part_here"]:List aP)from by decide +kernel))) (λ_ _ _ _ _=>(zZ (yq (k:=0) (ub hr.u64) vd (kh (za 0 0) cu) (v6 (n:=0)) (bI _)))) (λ_ _ _ _ _=>(XE.ow (za 0 0))))) zh)) (zc (za 5 0) zh)))))))) bV.never rfl)
  (ze (fY v8.nd (dE T.law_puts o7 hr (zc (XO.sh (n:=0) (Kl (n:=0) (by decide) (za 0 0) (E4 cu) (E4 cu))) (zc (za 2 0) zh))))
  (ze (fY v8.nd (nE (E5 (c0:=4) (kN:=[]) (ns:=[0,0]) (nd:=[]) ⟨T.Net.mks,T.Net___init.me.at_,T.Net___init.me.fn,T.Net.kp⟩ (by decide) nv (hr.mono (by decide)) rfl T.Net.mgx T.Net___init.bd .nil (λ_ _=>.nil) (zc (XO.sh (n:=0) (uG (N:=["_law_k"]) (om:=[.ow 0]) (cap:=[]) (own:=1) (XI.cc (ve (n:=0) T.b_range (zc (za 2 0) zh))) (λ_ _ _ _ _=>(oT (show cP (["_law_k"]:List aP)from by decide +kernel))) (λ_ _ _ _ _=>j4) (λ_ _ _ _ _=>(XE.ow (kh (v6 (n:=0)) (za 0 0)))))) (zc (XO.sh (n:=0) (uG (N:=["_law_part_here"]) (om:=[.ow 0]) (cap:=[]) (own:=1) (jf (n:=1) (za 6 1)) (λ_ _ _ _ _=>(oT (show cP (["_law_part_here"]:List aP)from by decide +kernel))) (λ_ _ _ _ _=>j4) (λ_ _ _ _ _=>(dE T.law_arrow oe hr (zc (za 0 0) zh))))) zh)))))
  (ze (fY v8.nd (nE (E5 (c0:=5) (kN:=[]) (ns:=[0,0,0]) (nd:=[]) ⟨T.Table.mks,T.Table___init.me.at_,T.Table___init.me.fn,T.Table.kp⟩ (by decide) lU (hr.mono (by decide)) rfl T.Table.mgx T.Table___init.bd .nil (λ_ _=>.nil) (zc (za 9 0) (zc (za 3 0) (zc (za 4 0) zh))))))
  (ze (uk (k:=0) (N:=["_law_k","_law_parts"]) (om:=[.ow 0]) (cap:=[6]) (own:=1) rfl v8.nd rfl (Or.inl rfl) (Ad (by rfl)) rfl rfl (by decide) (XI.cc (ve (n:=0) T.b_range (zc (nN T.b_len (zc (za 6 1) zh)) zh))) (λ_ _ _ _ _=>(oT (show cP (["_law_k","_law_parts"]:List aP)from by decide +kernel))) (λ_ _ _ _ _=>(zZ (yq (k:=0) (ub hr.u64) vd (kh (wG (n:=1) vY wC (za 1 1) (za 0 0) (λ_ _=>rfl)) cu) (v6 (n:=0)) (bI _)))) (λ_ _ _ _ _=>(XE.ow (za 0 0))))
  (ze (fY v8.nd (dE T.law_cell_at jO hr (zc (za 0 0) (zc cu zh))))
  (ze (fY v8.nd (XE.ow (ye (k:=0) yz y0 (za 12 0) (za 2 0))))
  (ze (fY v8.nd (XE.ow (ye (k:=0) yz y0 (ye (k:=0) wq wv (za 12 0) cu) (kh (XO.sh (n:=0) (xz (k:=0) (zg (XE.ow cu) (zg (XE.ow cu) zz)))) (ye (k:=0) u3 vx (ye (k:=0) j0 uo cu (ye (k:=0) wq wv (za 5 0) cu)) (ye (k:=0) wq wv (ye (k:=0) yz y0 (ye (k:=0) wq wv (za 1 0) cu) cu) cu))))))
  (ze (fY v8.nd (nE (u7 w9 (qq (n:=0) (by decide)) rfl T.b_list j2 (zc (za 8 0) zh))))
  (ze (fY v8.nd (dE T.give_up mR hr (zc (za 10 0) (zc (za 15 0) (zc (za 13 0) (zc (za 14 0) zh))))))
  (ze (wt (XW.t (rE (yq (k:=0) (KM hr.u64) vd (za 15 0) (za 8 0) (bI _)) (tG (u6 (vb (XO.sh (n:=0) (dE T.law_right li hr (zc (za 16 1) (zc (za 10 0) (zc (za 8 0) (zc (za 13 0) (zc (za 14 0) (zc (za 11 0) zh))))))))))))) (zf (ya (XE.ow (j3 (n:=0))))) yf)
  (ze (wt (yq (k:=0) XJ WP (za 16 1) zW (bI _)) (zf (v7 16 rfl (XE.ow cu))) yf)
  (zf (ya (dE T.law_right li hr (zc (XO.sh (n:=1) (dE T.give_up mR hr (zc (za 10 0) (zc (za 15 0) (zc (za 13 0) (zc (za 14 0) zh)))))) (zc (za 10 0) (zc (za 8 0) (zc (za 13 0) (zc (za 14 0) (zc (za 11 0) zh)))))))))))))))))))))))))))
end
local macro_rules| `(tactic|walk_at "mir")=>`(tactic|simp -implicitDefEqProofs [mOf,startD,sSeq,sIf,sSet,sRet,sRetN,sDrop,sPar,sAsg,sApp,sFor,lsD,zp9,sSkip,eV,eC,e1,e2,eN,aNil,aCons,pNo,pInt,zdj,tb,jx,bNot,bAnd,bOr,eB,eIf,gV,gT,gsCons,gsNil,zay,zb3,zgu,zp6,zp7,zp8,jh,zms,zed,zmt,zgv,zsx,D.isN,D.isB,zcq,zsy,zav,wx,zaw,zob,zax,zmq,zh1,zdj,zfk,zky,sFz,zef,zeg, *])
def dQ (n:Nat)(f:Nat->Int):List D:=(aV n).map λg=>D.int (f g)
theorem Kx (n:Nat)(f:Nat->Int):(dQ n f).length=n:=by simp[dQ]
theorem AI {n:Nat}(f:Nat->Int){g:Nat}(h:g<n):atI (dQ n f) (g:Int)=some (.int (f g)):=by
 refine zX ?_
 simp[dQ,h]
theorem Zp {n:Nat}(f:Nat->Int){g:Nat}(h:g<n)(v:Int):mj (dQ n f) (g:Int) (.int v)=some (dQ n λx=>if x=g then v else f x):=by
 unfold mj
 have hx:ixN (dQ n f).length (g:Int)=some g:=by
  unfold ixN
  rw[Kx]
  rw[if_pos (by omega),if_pos (by omega)]
  simp
 rw[hx]
 simp only[bY,Option.some.injEq]
 apply dC
 ·simp[dQ]
 ·intro i h1 h2
  simp[dQ,lC]
  by_cases hi:g=i
  ·subst hi;simp
  ·rw[if_neg hi,if_neg (λz=>hi z.symm)]
theorem O9 {i:Nat}{fj f:EF}{gi:Int->Int->Int}{ρ:L3.Env}{n g:Nat}{w:Nat->Int}{y:Int}(h1:(ρ[i]?).join=some (.lst (dQ n w)))(h2:fj ρ=some (.int (g:Int)))(h3:f ρ=some (.int y))(hg:g<n) :
  oA i fj gi f ρ=some (.nx (ρ.set i (some (.lst (dQ n λx=>if x=g then gi (w g) y else w x))))):=by
 unfold oA
 have:eV i ρ=some (.lst (dQ n w)):=h1
 rw[this,h2,h3]
 simp only[bY,AI w hg,Zp w hg]
def az (p:List Nat):List D:=p.map λ(x:Nat)=>D.int (x:Int)
theorem E9 {f:EF}{r:L3.Env}{n:Nat}(h:f r=some (.int (n:Int)))(hn:n<=1000000):((aCons f aNil) r).bind hE=some ((aV n).map λ(t:Nat)=>D.int (t:Int)):=by
 have e:(aCons f aNil) r=some [.int (n:Int)]:=by unfold aCons;rw[h];rfl
 rw[e,bY,EY (by omega) (by omega)]
 unfold kG
 simp
theorem qk {α:Type}{fi:L3.Env->Option (List D)}{own:Nat}{cap:List Nat}{g:D->L3.Env->Option L3.Env}{p:BF}{f:EF}{r:L3.Env}(enc:α->D)(q:α->Bool)(h:α->D)(xs:List α)(hi:fi r=some (xs.map enc))(hl:xs.length<=16777216)
  (st:∀x∈xs,∃ρ1,g (enc x) (aJ own none++eY r cap)=some ρ1/\p ρ1=some (q x)/\(q x=true->f ρ1=some (h x))):eG fi own cap g p f r=some (.lst ((xs.filter q).map h)):=by
 unfold eG
 rw[hi]
 simp only[bY,aA]
 rw[if_pos hl,NZ enc q h xs st]
 rfl
theorem Zq {n i:Nat}(h:i<n):ixN n (i:Int)=some i:=by
 unfold ixN
 rw[if_pos (by omega),if_pos (by omega)]
 simp
theorem ju {α:Type}{fi:L3.Env->Option (List D)}{own:Nat}{cap:List Nat}{g:D->L3.Env->Option L3.Env}{f:EF}{r:L3.Env}(enc:α->D)(h:α->D)(xs:List α)(hi:fi r=some (xs.map enc))(hl:xs.length<=16777216)
  (st:∀x∈xs,∃ρ1,g (enc x) (aJ own none++eY r cap)=some ρ1/\f ρ1=some (h x)):eG fi own cap g iR f r=some (.lst (xs.map h)):=by
 have:=qk (p:=iR) enc (λ_=>true) h xs hi hl λx hx=>by
  obtain⟨ρ1,h1,h2⟩:=st x hx
  exact⟨ρ1,h1,rfl,λ_=>h2⟩
 rw[this,List.filter_eq_self.mpr λ_ _=>rfl]
theorem Kq {α:Type}(enc:α->D):∀(as:List α) (k:Nat),eJ k (as.map enc)=(as.zipIdx k).map λ(p:α×Nat)=>D.tup [.int (p.2:Int),enc p.1]
 |[],_=>rfl
 |a::as,k=>by
  show _::eJ (k+1) (as.map enc)=_::_
  rw[Kq enc as (k+1)]
theorem KU {α:Type}{as:List α}{p:α×Nat}(h:p∈as.zipIdx):as[p.2]?=some p.1:=List.mem_zipIdx_iff_getElem?.mp h
theorem NE {α:Type}(q:α->Bool):∀(as:List α) (k:Nat),((as.zipIdx k).filter λp=>q p.1).map (·.1)=as.filter q
 |[],_=>rfl
 |a::as,k=>by
  rw[rL,rJ,rJ]
  cases h:q a<;>simp[h,NE q as (k+1)]
inductive Kd where
 |ride|wait|back
deriving DecidableEq
structure dB where
 c:Kd
 s:Nat
 g:Nat
 t:Int
 b:Nat
deriving DecidableEq
namespace Kahn
def cnt (W:List dB)(P:List Nat)(g:Nat):Nat:=W.countP λa=>decide (a.g=g/\a.s∉P)
structure Ok (W:List dB)(many:Nat)(p:List Nat):Prop where
 nd:p.Nodup
 lt:∀x∈p,x<many
 ord:∀(i x:Nat),p[i]?=some x->∀a∈W,a.g=x->a.s∈p.take i
theorem Ok.snoc {W:List dB}{many:Nat}{p:List Nat}{x:Nat}(h:Ok W many p)(hx:x∉p)(hl:x<many)(ho:∀a∈W,a.g=x->a.s∈p):Ok W many (p++[x]) where
 nd:=by
  rw[bn]
  exact⟨h.nd,by simp,λa ha b hb e=>by simp at hb;subst hb;subst e;exact hx ha⟩
 lt:=λy hy=>by
  rcases aU.mp hy with hy|hy
  ·exact h.lt y hy
  ·simp at hy;subst hy;exact hl
 ord:=λi y hy a ha e=>by
  by_cases hi:i<p.length
  ·rw[bO hi]at hy
   rw[fW (by omega)]
   exact h.ord i y hy a ha e
  ·rw[cT (by omega)]at hy
   have rA:i-p.length=0:=by
    cases hq:i-p.length with
    |zero=>rfl
    |succ k=>rw[hq]at hy;simp at hy
   rw[rA]at hy
   simp at hy
   subst hy
   have:i=p.length:=by omega
   rw[this,sS]
   ·exact ho a ha e
   ·rfl
def stp (here:Nat)(S:(Nat->Int)×List Nat)(a:dB):(Nat->Int)×List Nat :=
 if a.s=here then
  let f':Nat->Int:=λx=>if x=a.g then S.1 a.g-1 else S.1 x
  (f',if f' a.g=0 then S.2++[a.g]else S.2)
 else S
structure In (W:List dB)(many:Nat)(P:List Nat)(here:Nat)(pre:List dB)(S:(Nat->Int)×List Nat):Prop where
 ok:Ok W many S.2
 f:∀g,S.1 g=(cnt W P g:Int)-(pre.countP λa=>decide (a.g=g/\a.s=here):Nat)
 z:∀g,g<many->(g∈S.2↔S.1 g=0)
 sub:∀x,(x∈P\/x=here)->x∈S.2
theorem zs6 {W pre post:List dB}{P:List Nat}{here:Nat}{a:dB}(e:W=pre++a::post)(hP:here∉P)(ha:a.s=here):(pre.countP λx=>decide (x.g=a.g/\x.s=here))+1<=cnt W P a.g:=by
 unfold cnt
 rw[e,gG,fN]
 have h1:(pre.countP λx=>decide (x.g=a.g/\x.s=here))<=pre.countP λx=>decide (x.g=a.g/\x.s∉P):=by
  apply List.countP_mono_left
  intro x _ hx
  simp at hx ⊢
  exact⟨hx.1,by rw[hx.2];exact hP⟩
 have h2:(decide (a.g=a.g/\a.s∉P))=true:=by simp[ha,hP]
 rw[h2]
 simp only[if_true]
 omega
theorem In.step {W pre post:List dB}{many:Nat}{P:List Nat}{here:Nat}{a:dB}{S:(Nat->Int)×List Nat}(h:In W many P here pre S)(e:W=pre++a::post)(hP:here∉P)(hl:a.g<many):In W many P here (pre++[a]) (stp here S a):=by
 by_cases ha:a.s=here
 ·have RH:=zs6 e hP ha
  have hf:∀g,(if g=a.g then S.1 a.g-1 else S.1 g)=(cnt W P g:Int)-((pre++[a]).countP λx=>decide (x.g=g/\x.s=here):Nat):=λg=>by
   rw[gG,oG]
   by_cases hg:g=a.g
   ·subst hg
    rw[if_pos rfl,h.f]
    have:decide (a.g=a.g/\a.s=here)=true:=by simp[ha]
    rw[this]
    simp only[if_true]
    omega
   ·rw[if_neg hg,h.f]
    have:decide (a.g=g/\a.s=here)=false:=by simp;intro z;exact absurd z.symm hg
    rw[this]
    simp
  have nH:S.1 a.g≠0:=by rw[h.f];omega
  have CT:a.g∉S.2:=λz=>nH ((h.z a.g hl).mp z)
  by_cases h0:S.1 a.g-1=0
  ·have es:stp here S a=(λx=>if x=a.g then S.1 a.g-1 else S.1 x,S.2++[a.g]):=by unfold stp;simp[ha,h0]
   rw[es]
   refine⟨h.ok.snoc CT hl λb hb eb=>?_,hf,λg hg=>?_,λx hx=>bx _ (h.sub x hx)⟩
   ·
    refine h.sub _ (Classical.byContradiction λhc=>?_)
    have LV:b.s∉P:=λz=>hc (.inl z)
    have rq:b.s≠here:=λz=>hc (.inr z)
    have h1:cnt W P a.g=(pre.countP λx=>decide (x.g=a.g/\x.s=here))+1:=by
     have:=h.f a.g
     omega
    have h2:(W.countP λx=>decide (x.g=a.g/\x.s=here))+(W.countP λx=>decide (x.g=a.g/\x.s∉P/\x.s≠here))<=cnt W P a.g:=by
     have:cnt W P a.g=(W.countP λx=>decide (x.g=a.g/\x.s=here))+(W.countP λx=>decide (x.g=a.g/\x.s∉P/\x.s≠here)):=by
      unfold cnt
      clear h1 hc LV rq eb hb h0 hf RH e h
      induction W with
      |nil=>rfl
      |cons x W ih=>
       simp only[fN]
       rw[ih]
       by_cases q1:x.g=a.g<;>by_cases q2:x.s=here<;>by_cases q3:x.s∈P<;>simp_all<;>omega
     omega
    have h3:(pre.countP λx=>decide (x.g=a.g/\x.s=here))+1<=W.countP λx=>decide (x.g=a.g/\x.s=here):=by
     rw[e,gG,fN]
     have:decide (a.g=a.g/\a.s=here)=true:=by simp[ha]
     rw[this]
     simp only[if_true]
     omega
    have h4:0<W.countP λx=>decide (x.g=a.g/\x.s∉P/\x.s≠here):=by
     rw[List.countP_pos_iff]
     exact⟨b,hb,by simp[eb,LV,rq]⟩
    omega
   ·rw[aU,aN]
    by_cases mX:g=a.g
    ·subst mX;simp[h0]
    ·dsimp only;rw[if_neg mX,h.z g hg];simp[mX]
  ·have es:stp here S a=(λx=>if x=a.g then S.1 a.g-1 else S.1 x,S.2):=by unfold stp;simp[ha,h0]
   rw[es]
   refine⟨h.ok,hf,λg hg=>?_,h.sub⟩
   by_cases mX:g=a.g
   ·subst mX
    dsimp only
    rw[if_pos rfl]
    exact⟨λz=>absurd z CT,λz=>absurd z h0⟩
   ·dsimp only;rw[if_neg mX];exact h.z g hg
 ·have:stp here S a=S:=by unfold stp;rw[if_neg ha]
  rw[this]
  refine⟨h.ok,λg=>?_,h.z,h.sub⟩
  rw[gG,oG]
  have:decide (a.g=g/\a.s=here)=false:=by simp[ha]
  rw[this,h.f]
  simp
theorem In.fold {W:List dB}{many:Nat}{P:List Nat}{here:Nat}(hP:here∉P)(hl:∀a∈W,a.g<many):∀(post pre:List dB) (S:(Nat->Int)×List Nat),W=pre++post->In W many P here pre S->In W many P here W (post.foldl (stp here) S)
 |[],pre,S,e,h=>by rw[e] ;simpa using(by rw[cr]at e;subst e;exact h)
 |a::post,pre,S,e,h=>by
  have:=In.fold hP hl post (pre++[a]) (stp here S a) (by rw[e];simp) (h.step e hP (hl a (by rw[e];simp)))
  exact this
theorem Xn {W:List dB}{P:List Nat}{here g:Nat}(hP:here∉P):(cnt W P g:Int)-(W.countP λa=>decide (a.g=g/\a.s=here):Nat)=cnt W (P++[here]) g:=by
 have:cnt W P g=(W.countP λa=>decide (a.g=g/\a.s=here))+cnt W (P++[here]) g:=by
  unfold cnt
  induction W with
  |nil=>rfl
  |cons x W ih=>
   simp only[fN]
   rw[ih]
   by_cases q1:x.g=g<;>by_cases q2:x.s=here<;>by_cases q3:x.s∈P<;>simp_all<;>omega
 omega
structure Wh (W:List dB)(many:Nat)(f:Nat->Int)(p:List Nat)(d:Nat):Prop where
 ok:Ok W many p
 dl:d<=p.length
 fe:∀g,f g=cnt W (p.take d) g
 z:∀g,g<many->(g∈p↔f g=0)
theorem Wh.step {W:List dB}{many:Nat}{f:Nat->Int}{p:List Nat}{d here:Nat}(h:Wh W many f p d)(hl:∀a∈W,a.g<many)(hh:p[d]?=some here) :
  Wh W many (W.foldl (stp here) (f,p)).1 (W.foldl (stp here) (f,p)).2 (d+1)/\∃q,(W.foldl (stp here) (f,p)).2=p++q:=by
 have hd:d<p.length:=(aX.mp hh).1
 have hP:here∉p.take d:=λz=>by
  obtain⟨i,hi,e⟩:=dM.mp z
  have rA:i<d:=by rw[bZ]at hi;omega
  rw[qQ]at e
  have e2:p[d]=here:=by have:=aX.mp hh;exact this.2
  have:=(lA (xs:=p) (h₀:=by omega) (h₁:=hd) h.ok.nd).mp (e.trans e2.symm)
  omega
 have Ip:∀(l:List dB) (S:(Nat->Int)×List Nat),∃q,(l.foldl (stp here) S).2=S.2++q:=by
  intro l
  induction l with
  |nil=>exactλS=>⟨[],by simp⟩
  |cons a l ih=>
   intro S
   obtain⟨q,hq⟩:=ih (stp here S a)
   have:∃r,(stp here S a).2=S.2++r:=by
    by_cases ha:a.s=here
    ·by_cases h0:S.1 a.g-1=0
     ·exact⟨[a.g],by unfold stp;simp[ha,h0]⟩
     ·exact⟨[],by unfold stp;simp[ha,h0]⟩
    ·exact⟨[],by unfold stp;simp[ha]⟩
   obtain⟨r,hr⟩:=this
   exact⟨r++q,by rw[bP,hq,hr,cC]⟩
 obtain⟨q,hq⟩:=Ip W (f,p)
 have I:=In.fold hP hl W [] (f,p) rfl ⟨h.ok,λg=>by show f g=_;rw[h.fe];simp,h.z,λx hx=>by
  rcases hx with hx|rfl
  ·exact jG hx
  ·exact cY.mpr ⟨d,hh⟩⟩
 have C1:(W.foldl (stp here) (f,p)).2.take (d+1)=p.take d++[here]:=by
  rw[hq]
  show(p++q).take (d+1)=_
  rw[fW (by omega),tH,hh]
  rfl
 refine⟨⟨I.ok,?_,λg=>?_,I.z⟩,q,hq⟩
 ·rw[hq]
  show d+1<=(p++q).length
  rw[aT];omega
 ·rw[I.f,C1]
  exact Xn hP
theorem cnt_zero {W:List dB}{P:List Nat}{g:Nat}:cnt W P g=0↔∀a∈W,a.g=g->a.s∈P:=by
 unfold cnt
 rw[List.countP_eq_zero]
 constructor
 ·intro h a ha e
  have:=h a ha
  simp at this
  exact Classical.byContradiction λz=>z (this e)
 ·intro h a ha
  simp
  exact h a ha
theorem Wh.all {W:List dB}{many:Nat}{f:Nat->Int}{p:List Nat}(h:Wh W many f p p.length)(rank:Nat->Nat)(hr:∀a∈W,rank a.s<rank a.g)(hs:∀a∈W,a.s<many):∀g,g<many->g∈p:=by
 have:∀n g,rank g<n->g<many->g∈p:=by
  intro n
  induction n with
  |zero=>intro g h;omega
  |succ n ih=>
   intro g hg hl
   rw[h.z g hl,h.fe,rK]
   have:cnt W p g=0:=cnt_zero.mpr λa ha e=>ih a.s (by have:=hr a ha;rw[e]at this;omega) (hs a ha)
   rw[this];rfl
 exactλg hl=>this (rank g+1) g (by omega) hl
theorem len_of {many:Nat}{p:List Nat}(nd:p.Nodup)(lt:∀x∈p,x<many)(all:∀g,g<many->g∈p):p.length=many:=by
 have h1:p.Perm (aV many):=by
  rw[mC nd ik]
  intro a
  rw[bX]
  exact⟨lt a,all a⟩
 simpa using h1.length_eq
theorem len_le {many:Nat}{p:List Nat}(nd:p.Nodup)(lt:∀x∈p,x<many):p.length<=many:=by
 have h1:(p++(aV many).filter λx=>decide (x∉p)).Perm (aV many):=by
  rw[mC (by
   rw[bn]
   refine⟨nd,ik.filter _,λa ha b hb e=>?_⟩
   subst e
   simp at hb
   exact hb.2 ha) ik]
  intro a
  rw[aU,bF,bX]
  constructor
  ·rintro(h|h)
   ·exact lt a h
   ·exact h.1
  ·intro h
   by_cases ha:a∈p
   ·exact .inl ha
   ·exact .inr ⟨h,by simpa using ha⟩
 have:=h1.length_eq
 rw[aT,dr]at this
 omega
end Kahn
def Kd.n:Kd->Nat
 |.ride=>1|.wait=>2|.back=>3
def bU (a:dB):D:=.obj a.c.n ["start","goal","time","behind"] [.int a.s,.int a.g,.int a.t,.int a.b]
theorem fs (a:dB):cK [0,1,2,3] "start" (bU a)=some (.int a.s):=by obtain⟨c,_,_,_,_⟩:=a;cases c<;>rfl
theorem fg (a:dB):cK [0,1,2,3] "goal" (bU a)=some (.int a.g):=by obtain⟨c,_,_,_,_⟩:=a;cases c<;>rfl
theorem ft (a:dB):cK [0,1,2,3] "time" (bU a)=some (.int a.t):=by obtain⟨c,_,_,_,_⟩:=a;cases c<;>rfl
theorem fb (a:dB):cK [0,1,2,3] "behind" (bU a)=some (.int a.b):=by obtain⟨c,_,_,_,_⟩:=a;cases c<;>rfl
structure Right (many:Nat)(a:dB):Prop where
 s:a.s<many
 g:a.g<many
 t0:0<=a.t
 t1:a.t<=1000000000
 b:a.b<=4
 r:a.c=.ride->a.b=0
 k:a.c=.back->1<=a.b
theorem qy {n l m:Int}(h1:l<=n)(h2:n<=m):yh [.int n,.int l,.int m]=some (.bl true):=by
 unfold yh
 have q1 (i:Int):lX "int" (.int i)=some (.bl true):=rfl
 have q2 (i:Int):lX "bool" (.int i)=some (.bl false):=rfl
 walk_at "mir"
theorem isA (all sub:List Nat)(a:dB):su all sub (bU a)=if all.contains a.c.n=true then some (.bl (sub.contains a.c.n))else none:=rfl
theorem Zr {many:Nat}{a:dB}(h:Right many a):qw [bU a,.int (many:Int)]=some (.bl true):=by
 have w1:yh [.int (a.s:Int),.int 0,.int ((many:Int)-1)]=some (.bl true):=qy (by omega) (by have:=h.s;omega)
 have w2:yh [.int (a.g:Int),.int 0,.int ((many:Int)-1)]=some (.bl true):=qy (by omega) (by have:=h.g;omega)
 have w3:yh [.int a.t,.int 0,.int 1000000000]=some (.bl true):=qy h.t0 h.t1
 have f1:=fs a
 have f2:=fg a
 have f3:=ft a
 have f4:=fb a
 have hi:=λall sub=>isA all sub a
 have hb:=h.b
 have hr:=h.r
 have hk:=h.k
 clear h
 unfold qw
 cases hc:a.c with
 |ride=>
  have w4:yh [.int (a.b:Int),.int 0,.int 0]=some (.bl true):=qy (by omega) (by have:=hr hc;omega)
  rw[hc]at hi
  clear hr hk hb
  have hn:Kd.ride.n=1:=rfl
  walk_at "mir"
 |wait=>
  have w4:yh [.int (a.b:Int),.int 0,.int 4]=some (.bl true):=qy (by omega) (by omega)
  rw[hc]at hi
  clear hr hk hb
  have hn:Kd.wait.n=2:=rfl
  walk_at "mir"
 |back=>
  have w4:yh [.int (a.b:Int),.int 1,.int 4]=some (.bl true):=qy (by have:=hk hc;omega) (by omega)
  rw[hc]at hi
  clear hr hk hb
  have hn:Kd.back.n=3:=rfl
  walk_at "mir"
def W0 (as:List dB):List dB:=as.filter λa=>decide (a.b=0)
theorem Vr (as:List dB)(l:as.length<=16777216)(r:L3.Env)(h:r[1]?.join=some (.lst (as.map bU))) :
  ja r=some (.lst ((W0 as).map bU)):=by
 have e:lsD (eV 1) r=some (as.map bU):=by unfold lsD;have:eV 1 r=some (.lst (as.map bU)):=h;rw[this];rfl
 refine qk bU (λa=>decide (a.b=0)) bU as e l λa _=>⟨_,rfl,?_,λ_=>rfl⟩
 have:=fb a
 walk_at "mir"
def Bz (s:(Nat->Int)×Option D)(a:dB):(Nat->Int)×Option D:=(λx=>if x=a.g then s.1 a.g+1 else s.1 x,some (bU a))
theorem Od:∀(W:List dB) (s:(Nat->Int)×Option D) (g:Nat),(W.foldl Bz s).1 g=s.1 g+(W.countP λa=>decide (a.g=g):Nat)
 |[],s,g=>by simp
 |a::W,s,g=>by
  rw[bP,Od W,fN]
  by_cases hg:g=a.g
  ·subst hg;simp[Bz];omega
  ·have:decide (a.g=g)=false:=by simp;exactλz=>hg z.symm
   simp[Bz,hg,this]
theorem Oe (p:List Nat)(x:Nat):az p++[D.int (x:Int)]=az (p++[x]):=by simp[az]
theorem Zs {many:Nat}{as:List dB}{f:Nat->Int}{p:List Nat}{here d:Nat}{x4:Option D}(hm:many<=1000)(hW:∀a∈W0 as,a.s<many/\a.g<many)(h:Kahn.Wh (W0 as) many f p d)(hh:p[d]?=some here) :
  ∃x,gm (gV 4) x8 ((W0 as).map bU) [some (.int (many:Int)),some (.lst (as.map bU)),some (.lst ((W0 as).map bU)),some (.lst (dQ many f)),x4,some (.lst (az p)),some (.int (d:Int)),some (.int (here:Int))] =
   some (.nx [some (.int (many:Int)),some (.lst (as.map bU)),some (.lst ((W0 as).map bU)),some (.lst (dQ many ((W0 as).foldl (Kahn.stp here) (f,p)).1)),x,some (.lst (az ((W0 as).foldl (Kahn.stp here) (f,p)).2)),some (.int (d:Int)),some (.int (here:Int))]):=by
 have hd:d<p.length:=(aX.mp hh).1
 have hP:here∉p.take d:=λz=>by
  obtain⟨i,hi,e⟩:=dM.mp z
  have rA:i<d:=by rw[bZ]at hi;omega
  rw[qQ]at e
  have e2:p[d]=here:=(aX.mp hh).2
  have:=(lA (xs:=p) (h₀:=by omega) (h₁:=hd) h.ok.nd).mp (e.trans e2.symm)
  omega
 obtain⟨ρ',h1,x,pre,e1,e2⟩:=jg (g:=gV 4) (b:=x8) (ds:=(W0 as).map bU) (ρ:=[some (.int (many:Int)),some (.lst (as.map bU)),some (.lst ((W0 as).map bU)),some (.lst (dQ many f)),x4,some (.lst (az p)),some (.int (d:Int)),some (.int (here:Int))])
  (λds ρ=>∃x pre,ds=pre.map bU/\(∃post,W0 as=pre++post)/\Kahn.In (W0 as) many (p.take d) here pre (pre.foldl (Kahn.stp here) (f,p))/\ρ=[some (.int (many:Int)),some (.lst (as.map bU)),some (.lst ((W0 as).map bU)),some (.lst (dQ many (pre.foldl (Kahn.stp here) (f,p)).1)),x,some (.lst (az (pre.foldl (Kahn.stp here) (f,p)).2)),some (.int (d:Int)),some (.int (here:Int))])
  ⟨x4,[],rfl,⟨_,rfl⟩,⟨h.ok,λg=>by show f g=_;rw[h.fe];simp,h.z,λx hx=>by
   rcases hx with hx|rfl
   ·exact jG hx
   ·exact cY.mpr ⟨d,hh⟩⟩,rfl⟩ (by
  rintro ds dd post ρ e ⟨x,pre,rfl,⟨iY,e'⟩,I,rfl⟩
  rw[e',dw]at e
  have e3:=nO e
  cases iY with
  |nil=>cases e3
  |cons a iY=>
   rw[bu]at e3
   cases e3
   have ha:a∈W0 as:=by rw[e'];simp
   have hl:=Kahn.len_le I.ok.nd I.ok.lt
   have I2:=I.step e' hP (hW a ha).2
   refine⟨_,_,rfl,.inl ?_,some (bU a),pre++[a],by simp,⟨iY,by rw[e'];simp⟩,by rw[gU];exact I2,rfl⟩
   rw[gU]
   generalize pre.foldl (Kahn.stp here) (f,p)=S at hl
   show x8 _=some (.nx [_,_,_,some (.lst (dQ many (Kahn.stp here S a).1)),_,some (.lst (az (Kahn.stp here S a).2)),_,_])
   have f1:=fs a
   have f2:=fg a
   have d4:(az S.2).length<16777216:=by simp[az];omega
   unfold x8
   by_cases hs:a.s=here
   ·have R0:((a.s:Nat):Int)=(here:Int):=by rw[hs]
    have au:=O9 (i:=3) (fj:=e1 (cK [0,1,2,3] "goal") (eV 4)) (f:=eC (.int 1)) (gi:=λi j=>i-j) (ρ:=[some (.int (many:Int)),some (.lst (as.map bU)),some (.lst ((W0 as).map bU)),some (.lst (dQ many S.1)),some (bU a),some (.lst (az S.2)),some (.int (d:Int)),some (.int (here:Int))]) (n:=many) (g:=a.g) (w:=S.1) (y:=1) rfl (by walk_at "mir") rfl (hW a ha).2
    have va:d5 (.lst (dQ many λx=>if x=a.g then S.1 a.g-1 else S.1 x)) (.int (a.g:Int))=some (.int (S.1 a.g-1)):=by
     have:=AI (λx=>if x=a.g then S.1 a.g-1 else S.1 x) (hW a ha).2
     rw[if_pos rfl]at this
     exact this
    by_cases h0:S.1 a.g-1=0
    ·have es:Kahn.stp here S a=(λx=>if x=a.g then S.1 a.g-1 else S.1 x,S.2++[a.g]):=by unfold Kahn.stp;simp[hs,h0]
     rw[es,←Oe]
     rw[h0]at va
     clear I I2 e' es
     walk_at "mir"
    ·have es:Kahn.stp here S a=(λx=>if x=a.g then S.1 a.g-1 else S.1 x,S.2):=by unfold Kahn.stp;simp[hs,h0]
     rw[es]
     clear I I2 e' es
     walk_at "mir"
   ·have es:Kahn.stp here S a=S:=by unfold Kahn.stp;rw[if_neg hs]
    rw[es]
    have R0:¬((a.s:Nat):Int)=(here:Int):=by omega
    clear I I2 e' es
    walk_at "mir")
 obtain⟨⟨post,e2⟩,I,rfl⟩:=e2
 have:pre=W0 as:=by
  have:=congrArg gW e1
  rw[aA,aA]at this
  rw[e2,aT]at this
  have hp:post=[]:=lK (by omega)
  rw[e2,hp,cr]
 rw[this]at h1
 exact⟨x,h1⟩
theorem Xo {many:Nat}(as:List dB)(l:as.length<=1000)(hm:many<=1000)(hs:∀a∈as,a.s<many/\a.g<many) :
  ∃(f:Nat->Int) (p:List Nat),x9 [.int (many:Int),.lst (as.map bU)]=some (.lst (az p))/\Kahn.Wh (W0 as) many f p p.length:=by
 have hW:∀a∈W0 as,a.s<many/\a.g<many:=λa ha=>hs a (bF.mp ha).1
 obtain⟨c1,_⟩:=J6 (g:=gV 4) (b:=vq) bU (λs:(Nat->Int)×Option D=>[some (.int (many:Int)),some (.lst (as.map bU)),some (.lst ((W0 as).map bU)),some (.lst (dQ many s.1)),s.2,none,none,none])
  Bz (λ_=>True) (W0 as) (λ_=>0,none) trivial (λs a ha _=>by
   refine⟨_,rfl,.inl ?_,trivial⟩
   unfold vq
   have f2:=fg a
   rw[O9 (n:=many) (g:=a.g) (w:=s.1) (y:=1) rfl (by walk_at "mir") rfl (hW a ha).2]
   rfl)
 have c2:=Od (W0 as) (λ_=>0,none)
 generalize Rp:(W0 as).foldl Bz (λ_=>0,none)=S0 at c1 c2
 obtain⟨f0,y4⟩:=S0
 dsimp only at c1 c2
 have IN:∀r:L3.Env,r[0]?.join=some (.int (many:Int))->r[3]?.join=some (.lst (dQ many f0))->u9 r=some (.lst (az ((aV many).filter λg=>decide (f0 g=0)))):=by
  intro r h0 h3
  refine qk (λ(t:Nat)=>D.int (t:Int)) (λg=>decide (f0 g=0)) (λ(t:Nat)=>D.int (t:Int)) (aV many) (E9 h0 (by omega)) (by rw[dr];omega) ?_
  ·intro g hg
   refine⟨_,rfl,?_,λ_=>rfl⟩
   have hg:g<many:=bX.mp hg
   have hv:d5 (.lst (dQ many f0)) (.int (g:Int))=some (.int (f0 g)):=AI f0 hg
   have hc:eY r [3]=[some (.lst (dQ many f0))]:=by unfold eY;simp[h3]
   rw[hc]
   walk_at "mir"
 generalize hq:((aV many).filter λg=>decide (f0 g=0))=p0 at IN
 have w0:Kahn.Wh (W0 as) many f0 p0 0:=by
  have hf:∀g,f0 g=Kahn.cnt (W0 as) [] g:=λg=>by
   rw[c2 g]
   unfold Kahn.cnt
   simp
  refine⟨⟨by rw[←hq];exact ik.filter _,λx hx=>by rw[←hq,bF,bX]at hx;exact hx.1,λi x hx a ha e=>?_⟩,by omega,hf,λg hg=>by rw[←hq,bF,bX];simp[hg]⟩
  have tT:x∈p0:=cY.mpr ⟨i,hx⟩
  rw[←hq,bF]at tT
  have h0:f0 x=0:=by simpa using tT.2
  rw[hf]at h0
  have:=Kahn.cnt_zero.mp (by exact_mod_cast h0) a ha e
  cases this
 obtain⟨ρ',h1,⟨f,p,d,x4,x7,rfl,wh⟩,h3⟩:=Ny (c:=tb (e2 mK (eV 6) (eN eA (aCons (eV 5) aNil)))) (b:=vo)
  (λρ=>∃f p d x4 x7,ρ=[some (.int (many:Int)),some (.lst (as.map bU)),some (.lst ((W0 as).map bU)),some (.lst (dQ many f)),x4,some (.lst (az p)),some (.int ((d:Nat):Int)),x7]/\Kahn.Wh (W0 as) many f p d)
  (λρ:L3.Env=>match ρ[6]? with|some (some (D.int i))=>(1001-i).toNat|_=>0) (by
   rintro ρ ⟨f,p,d,x4,x7,rfl,wh⟩
   have hl:(az p).length=p.length:=by simp[az]
   refine⟨decide ((d:Int)<(p.length:Int)),by walk_at "mir",λht=>?_⟩
   have hd:d<p.length:=by simpa using ht
   have hh:p[d]?=some p[d]:=by simp[hd]
   obtain⟨x,hin⟩:=Zs (x4:=x4) hm hW wh hh
   obtain⟨ES,q,_⟩:=wh.step (λa ha=>(hW a ha).2) hh
   have oP:=Kahn.len_le ES.ok.nd ES.ok.lt
   have uX:=ES.dl
   refine⟨_,.inl ?_,⟨_,_,d+1,x,some (.int (p[d]:Int)),rfl,ES⟩,?_⟩
   ·have RK:d5 (.lst (az p)) (.int (d:Int))=some (.int (p[d]:Int)):=zX (by simp[az,hd])
    have hau:i2 (λi j=>D.int (i+j)) (.int (d:Int)) (.int 1)=some (.int ((d+1:Nat):Int)):=by simp[i2]
    unfold vo zN
    clear wh ES oP uX
    walk_at "mir"
   ·show(1001-((d+1:Nat):Int)).toNat<(1001-(d:Int)).toNat
    omega) oY [some (.int (many:Int)),some (.lst (as.map bU)),some (.lst ((W0 as).map bU)),some (.lst (dQ many f0)),y4,some (.lst (az p0)),some (.int ((0:Nat):Int)),none] ⟨f0,p0,0,y4,none,rfl,w0⟩ (by
   show(1001-((0:Nat):Int)).toNat<oY
   have:(1001:Nat)<oY:=YL (by decide)
   omega)
 have hd:d=p.length:=by
  have hl:(az p).length=p.length:=by simp[az]
  have h4:(tb (e2 mK (eV 6) (eN eA (aCons (eV 5) aNil)))) [some (.int (many:Int)),some (.lst (as.map bU)),some (.lst ((W0 as).map bU)),some (.lst (dQ many f)),x4,some (.lst (az p)),some (.int (d:Int)),x7]=some (decide ((d:Int)<(p.length:Int))):=by walk_at "mir"
  rw[h4]at h3
  have:=wh.dl
  simp at h3
  omega
 subst hd
 refine⟨f,p,?_,wh⟩
 have r1:=Vr as (by omega)
 have rp:mh (.lst [.int 0]) (.int (many:Int))=some (.lst (dQ many λ_=>0)):=by
  unfold mh
  dsimp only
  rw[if_pos ⟨by omega,by omega,by simp⟩]
  congr 2
  unfold dQ
  rw[lR,dr]
  simp
 rw[show(((0:Nat):Int))=0 from rfl]at h1
 unfold x9 pB
 clear hs hW c2 Rp hq w0 wh h3 l hm
 walk_at "mir"
def bL (ns:List D)(as:List dB):D:=.obj 4 ["names","arrows"] [.lst ns,.lst (as.map bU)]
structure ku (many:Nat)(as:List dB):Prop where
 pos:1<=many
 le:many<=40
 len:as.length<=120
 right:∀a∈as,Right many a
 rank:∃rank:Nat->Nat,∀a∈as,a.b=0->rank a.s<rank a.g
theorem ku.placed {many:Nat}{as:List dB}(h:ku many as):∃p:List Nat,x9 [.int (many:Int),.lst (as.map bU)]=some (.lst (az p))/\Kahn.Ok (W0 as) many p/\p.length=many/\∀g,g<many->g∈p:=by
 obtain⟨f,p,h1,h2⟩:=Xo (many:=many) as (by have:=h.len;omega) (by have:=h.le;omega) (λa ha=>⟨(h.right a ha).s,(h.right a ha).g⟩)
 obtain⟨rank,hr⟩:=h.rank
 have all:=h2.all rank (λa ha=>by
  have:=bF.mp ha
  exact hr a this.1 (by simpa using this.2)) (λa ha=>(h.right a (bF.mp ha).1).s)
 exact⟨p,h1,h2.ok,Kahn.len_of h2.ok.nd h2.ok.lt all,all⟩
theorem zui {many:Nat}{as:List dB}{ns:List D}(h:ku many as)(hn:ns.length=many)(hnm:jo [.lst ns]=some (.bl true)):ux 4 [.lst ns,.lst (as.map bU)]=some (bL ns as):=by
 obtain⟨p,hp,_,hl,_⟩:=h.placed
 have d4:=h.len
 obtain⟨ρ',h1,x3,x4,rfl⟩:=jg (g:=gT (gsCons (gV 3) (gsCons (gV 4) gsNil))) (b:=u5) (ds:=eJ 0 (as.map bU)) (ρ:=[some (.obj 4 [] []),some (.lst ns),some (.lst (as.map bU)),none,none,none])
  (λ_ ρ=>∃x3 x4,ρ=[some (.obj 4 [] []),some (.lst ns),some (.lst (as.map bU)),x3,x4,none]) ⟨none,none,rfl⟩ (by
   rintro pre d post ρ e ⟨x3,x4,rfl⟩
   obtain⟨x,hx,rfl⟩:=J5 (Fc e)
   rw[bi]at hx
   obtain⟨a,ha,rfl⟩:=bW.mp hx
   have hr:=Zr (h.right a (cY.mpr ⟨_,ha⟩))
   refine⟨_,_,rfl,.inl ?_,some (.int (0+pre.length:Nat)),some (bU a),rfl⟩
   unfold u5
   rw[←hn]at hr
   clear hp hl hn d4 h
   walk_at "mir")
 have hz:(az p).length=many:=by simp[az,hl]
 have hgt:¬((as.length:Int) > 120):=by omega
 rw[←hn]at hp hz
 have l1:∀ds:List D,gM [.lst ds]=some (.lst ds):=λ_=>rfl
 have s1:gC [4] "names" (eN gM (aCons (eV 1) aNil)) [some (D.obj 4 [] []),some (.lst ns),some (.lst (as.map bU)),x3,x4,some (.lst (az p))]=some (.nx [some (D.obj 4 ["names"] [.lst ns]),some (.lst ns),some (.lst (as.map bU)),x3,x4,some (.lst (az p))]):=rfl
 have s2:gC [4] "arrows" (eN gM (aCons (eV 2) aNil)) [some (D.obj 4 ["names"] [.lst ns]),some (.lst ns),some (.lst (as.map bU)),x3,x4,some (.lst (az p))]=some (.nx [some (bL ns as),some (.lst ns),some (.lst (as.map bU)),x3,x4,some (.lst (az p))]):=rfl
 clear h d4 hl hn
 unfold ux tU
 walk_at "mir"
abbrev T:=Option Int
def lt (m:Int):T->T
 |none=>none
 |some i=>some (i+m)
def mx:T->T->T
 |none,b=>b
 |a,none=>a
 |some i,some j=>some (if j > i then j else i)
theorem Xp (a b:T):Gq [gZ a,gZ b]=some (gZ (mx a b)):=by
 unfold Gq
 cases a<;>cases b<;>simp only[gZ,mx]<;>walk_at "mir"
theorem NO {κ:Type}(h:κ×D->D):∀(ks:List κ) (ds:List D),ks.zip ((ks.zip ds).map h)=(ks.zip ds).map λp=>(p.1,h p)
 |[],_=>rfl
 |_::_,[]=>rfl
 |k::ks,d::ds=>by
  show(k,h (k,d))::ks.zip ((ks.zip ds).map h)=(k,h (k,d))::(ks.zip ds).map _
  rw[NO h ks ds]
theorem Xq {κ:Type}[DecidableEq κ]{ks:List κ}{ds:List D}(hl:ks.length=ds.length)(k k':κ)(d:D):iT (fP ks ds k d).1 (fP ks ds k d).2 k'=if k'=k then some d else iT ks ds k':=by
 unfold fP
 by_cases hc:ks.contains k=true
 ·rw[if_pos hc]
  unfold iT
  dsimp only
  rw[NO,List.find?_map]
  by_cases hk:k'=k
  ·subst hk
   rw[if_pos rfl]
   have hm:k'∈ks:=by simpa using hc
   have:∃p∈ks.zip ds,p.1=k':=by
    obtain⟨i,hi,e⟩:=dM.mp hm
    refine⟨(ks[i],ds[i]),?_,e⟩
    rw[dM]
    exact⟨i,by rw[eQ];omega,by simp⟩
   obtain⟨p,hp,he⟩:=this
   cases hf:(ks.zip ds).find? ((λp:κ×D=>decide (p.1=k')) ∘ λp:κ×D=>(p.1,if p.1=k' then d else p.2))with
   |none=>
    rw[kj]at hf
    have:=hf p hp
    simp[he]at this
   |some q=>
    have hq:=sU hf
    simp at hq
    simp[hq]
  ·rw[if_neg hk]
   have:((λp:κ×D=>decide (p.1=k')) ∘ λp:κ×D=>(p.1,if p.1=k then d else p.2))=λp:κ×D=>decide (p.1=k'):=rfl
   rw[this]
   cases hf:(ks.zip ds).find? λp=>decide (p.1=k')with
   |none=>rfl
   |some q=>
    have hq:=sU hf
    simp at hq
    have nH:¬q.1=k:=λz=>hk (hq▸z)
    simp[nH]
 ·rw[if_neg hc]
  unfold iT
  dsimp only
  have hz:(ks++[k]).zip (ds++[d])=ks.zip ds++[(k,d)]:=by
   rw[sV hl];rfl
  rw[hz,List.find?_append]
  by_cases hk:k'=k
  ·subst hk
   rw[if_pos rfl]
   have hn:(ks.zip ds).find? (λp=>decide (p.1=k'))=none:=by
    rw[kj]
    intro p hp
    have hm:=(gj (a:=p.1) (b:=p.2) hp).1
    have rB:¬k'∈ks:=by simpa using hc
    simp
    intro z
    exact rB (z▸hm)
   rw[hn]
   simp
  ·rw[if_neg hk]
   have:¬k=k':=λz=>hk z.symm
   cases hf:(ks.zip ds).find? (λp=>decide (p.1=k'))<;>simp[this]
theorem Zt {κ:Type}[DecidableEq κ]{ks:List κ}{ds:List D}(hl:ks.length=ds.length)(k:κ)(d:D):(fP ks ds k d).1.length=(fP ks ds k d).2.length/\(fP ks ds k d).1.length<=ks.length+1:=by
 unfold fP
 by_cases hc:ks.contains k=true
 ·rw[if_pos hc];simp;omega
 ·rw[if_neg hc];simp[hl]
abbrev Fl:=Nat×Nat×Int
def cq (q:Fl):D:=.tup [.int (q.1:Int),.int (q.2.1:Int),.int q.2.2]
def fl (fs:List Fl)(g r:Nat):T:=(fs.filter λq=>decide (q.1=g/\q.2.1=r)).foldl (λw q=>mx w (some q.2.2)) none
structure jT (d:D)(n:Nat)(f:Nat->Nat->T):Prop where
 is:∃ks ds,d=.dT ks ds/\ks.length=ds.length/\ks.length<=n/\∀g r:Nat,iT ks ds [.inl (g:Int),.inl (r:Int)]=(f g r).map D.int
theorem jT.get {d:D}{n:Nat}{f:Nat->Nat->T}(h:jT d n f)(g r:Nat):((ky d (.tup [.int (g:Int),.int (r:Int)])).bind λr=>some (r.getD .non))=some (gZ (f g r)):=by
 obtain⟨ks,ds,rfl,h1,h2,h3⟩:=h.is
 show some ((iT ks ds [.inl (g:Int),.inl (r:Int)]).getD .non)=_
 rw[h3]
 cases f g r<;>rfl
theorem jT.getI {d:D}{n:Nat}{f:Nat->Nat->T}(h:jT d n f)(g r:Nat)(z:D):((ky d (.tup [.int (g:Int),.int (r:Int)])).bind λr=>some (r.getD z))=some (((f g r).map D.int).getD z):=by
 obtain⟨ks,ds,rfl,h1,h2,h3⟩:=h.is
 show some ((iT ks ds [.inl (g:Int),.inl (r:Int)]).getD z)=_
 rw[h3]
theorem zs7 (a:T)(t:Int):some (gZ (mx a (some t)))=(mx a (some t)).map D.int:=by cases a<;>rfl
theorem zs8 (fs:List Fl)(hl:fs.length<=1000):∃d,vf [.lst (fs.map cq)]=some d/\jT d 1000 (fl fs):=by
 obtain⟨ρ',h1,d,x2,x3,x4,pre,e1,rfl,hd⟩:=jg (g:=gT (gsCons (gV 2) (gsCons (gV 3) (gsCons (gV 4) gsNil)))) (b:=vt) (ds:=fs.map cq) (ρ:=[some (.lst (fs.map cq)),some (.dT [] []),none,none,none])
  (λds ρ=>∃d x2 x3 x4,∃pre:List Fl,ds=pre.map cq/\ρ=[some (.lst (fs.map cq)),some d,x2,x3,x4]/\jT d pre.length (fl pre))
  ⟨_,none,none,none,[],rfl,rfl,⟨[],[],rfl,rfl,by simp,λ_ _=>rfl⟩⟩ (by
   rintro ds dd post ρ e ⟨d,x2,x3,x4,pre,rfl,rfl,hd⟩
   obtain⟨q,hq,rfl⟩:∃q,fs[pre.length]?=some q/\cq q=dd:=by
    have:=Fc e
    rw[bi,aA]at this
    exact bW.mp this
   have d4:pre.length<fs.length:=(aX.mp hq).1
   obtain⟨g,r,t⟩:=q
   have hg:=hd.get g r
   obtain⟨ks,ds,rfl,k1,k2,k3⟩:=hd.is
   have hm:=Xp (fl pre g r) (some t)
   have iC:ks.length<16777216:=by omega
   refine⟨_,_,rfl,.inl ?_,.dT (fP ks ds [.inl (g:Int),.inl (r:Int)] (gZ (mx (fl pre g r) (some t)))).1 (fP ks ds [.inl (g:Int),.inl (r:Int)] (gZ (mx (fl pre g r) (some t)))).2,some (.int (g:Int)),some (.int (r:Int)),some (.int t),pre++[(g,r,t)],by simp,rfl,?_⟩
   ·have hk:m9 [.int (g:Int),.int (r:Int)]=some [.inl (g:Int),.inl (r:Int)]:=rfl
    have he:gZ (some t)=.int t:=rfl
    rw[he]at hm
    unfold vt pQ
    generalize gZ (fl pre g r)=z at hg hm
    clear k1 k2 k3 e hq hd
    walk_at "mir"
   ·obtain⟨p1,p2⟩:=Zt k1 [.inl (g:Int),.inl (r:Int)] (gZ (mx (fl pre g r) (some t)))
    refine⟨_,_,rfl,p1,by rw[aT,fK];omega,λg' r'=>?_⟩
    rw[Xq k1]
    have hf:fl (pre++[(g,r,t)]) g' r'=if g=g'/\r=r' then mx (fl pre g' r') (some t)else fl pre g' r':=by
     unfold fl
     rw[ki,gU]
     by_cases hc:g=g'/\r=r'
     ·rw[if_pos hc];simp[hc]
     ·rw[if_neg hc]
      have:([(g,r,t)]:List Fl).filter (λq=>decide (q.1=g'/\q.2.1=r'))=[]:=by
       rw[List.filter_eq_nil_iff]
       intro q hq
       rw[aN]at hq
       subst hq
       simpa using hc
      rw[this];rfl
    rw[hf]
    by_cases hc:g=g'/\r=r'
    ·obtain⟨rfl,rfl⟩:=hc
     rw[if_pos rfl,if_pos ⟨rfl,rfl⟩,zs7]
    ·rw[if_neg hc,if_neg ?_]
     ·exact k3 g' r'
     ·intro z
      simp at z
      exact hc ⟨by omega,by omega⟩)
 have:pre=fs:=by
  have hi:∀(a b:List Fl),a.map cq=b.map cq->a=b:=by
   intro a
   induction a with
   |nil=>intro b h;cases b with|nil=>rfl|cons _ _=>cases h
   |cons x a ih=>
    intro b h
    cases b with
    |nil=>cases h
    |cons y b=>
     simp only[bu,List.cons.injEq]at h
     obtain⟨h1,h2⟩:=h
     rw[ih b h2]
     obtain⟨x1,x2,x3⟩:=x
     obtain⟨y1,y2,y3⟩:=y
     simp[cq]at h1
     obtain⟨e1,e2,e3⟩:=h1
     have e1:x1=y1:=by omega
     have e2:x2=y2:=by omega
     rw[e1,e2,e3]
  exact(hi _ _ e1).symm
 subst this
 refine⟨d,?_,?_⟩
 ·unfold vf
  walk_at "mir"
 ·obtain⟨ks,ds,a,b,c,f⟩:=hd.is
  exact⟨ks,ds,a,b,by omega,f⟩
def eW (n:Nat)(f:Nat->T):List D:=(aV n).map λg=>gZ (f g)
def cz (n m:Nat)(Y:Nat->Nat->T):List D:=(aV m).map λi=>D.lst (eW n (Y i))
theorem Xr (n:Nat)(f:Nat->T):(eW n f).length=n:=by simp[eW]
theorem J8 (n m:Nat)(Y:Nat->Nat->T):(cz n m Y).length=m:=by simp[cz]
theorem Pa {n:Nat}(f:Nat->T){g:Nat}(h:g<n):atI (eW n f) (g:Int)=some (gZ (f g)):=zX (by simp[eW,h])
theorem qz {n:Nat}{f f':Nat->T}(h:∀g,g<n->f g=f' g):eW n f=eW n f':=by
 unfold eW
 apply dz
 intro g hg
 rw[h g (bX.mp hg)]
theorem Xt {n:Nat}(f:Nat->T){g:Nat}(h:g<n)(v:T):mj (eW n f) (g:Int) (gZ v)=some (eW n λx=>if x=g then v else f x):=by
 unfold mj
 have hx:ixN (eW n f).length (g:Int)=some g:=by rw[Xr];exact Zq h
 rw[hx]
 simp only[bY,Option.some.injEq]
 apply dC
 ·simp[eW]
 ·intro i h1 h2
  simp[eW,lC]
  by_cases hi:g=i
  ·subst hi;simp
  ·rw[if_neg hi,if_neg (λz=>hi z.symm)]
def dep (as:List dB):Nat:=as.foldl (λm a=>max m a.b) 1
theorem Kr:∀(as:List dB) (m:Nat),m<=as.foldl (λm a=>max m a.b) m/\(∀a∈as,a.b<=as.foldl (λm a=>max m a.b) m)/\((∀a∈as,a.b<=4)->m<=4->as.foldl (λm a=>max m a.b) m<=4)
 |[],m=>⟨aH _,λa h=>(by cases h),λ_ h=>h⟩
 |x::as,m=>by
  obtain⟨h1,h2,h3⟩:=Kr as (max m x.b)
  refine⟨by show m<=as.foldl _ (max m x.b);omega,λa ha=>?_,λh4 hm=>h3 (λa ha=>h4 a (aj _ ha)) (by have:=h4 x ak;omega)⟩
  show a.b<=as.foldl _ (max m x.b)
  rcases av.mp ha with rfl|ha
  ·omega
  ·exact h2 a ha
theorem zs9 {as:List dB}{a:dB}(h:a∈as):a.b<=dep as:=(Kr as 1).2.1 a h
theorem zta {as:List dB}(h:∀a∈as,a.b<=4):dep as<=4:=(Kr as 1).2.2 h (by decide)
theorem Ks {α:Type}(f:α->Int):∀xs:List α,gc (xs.map λx=>D.int (f x))=some (xs.map f)
 |[]=>rfl
 |x::xs=>by
  show(gc (xs.map λx=>D.int (f x))).bind _=_
  rw[Ks f xs];rfl
theorem Pb:∀(as:List dB) (m:Nat),(as.map λa=>(a.b:Int)).foldl max (m:Int)=((as.foldl (λm a=>max m a.b) m:Nat):Int)
 |[],m=>rfl
 |x::as,m=>by
  show(as.map λa=>(a.b:Int)).foldl max (max (m:Int) (x.b:Int))=_
  rw[show max (m:Int) (x.b:Int)=((max m x.b:Nat):Int)by omega,Pb as]
  rfl
theorem Oy (ns:List D)(as:List dB):cK [4] "names" (bL ns as)=some (.lst ns):=rfl
theorem NP (ns:List D)(as:List dB):cK [4] "arrows" (bL ns as)=some (.lst (as.map bU)):=rfl
theorem ztb {ns:List D}{as:List dB}(hl:as.length<=1000):wa [bL ns as]=some (.int (dep as:Int)):=by
 have q:∀r:L3.Env,r[0]?.join=some (bL ns as)->ut r=some (.lst (as.map λa=>D.int (a.b:Int))):=λr hr=>by
  have e:lsD (e1 (cK [4] "arrows") (eV 0)) r=some (as.map bU):=by
   have:eV 0 r=some (bL ns as):=hr
   unfold lsD e1
   rw[this];rfl
  exact ju bU (λa=>D.int (a.b:Int)) as e (by omega) λa _=>⟨_,rfl,by have:=fb a;walk_at "mir"⟩
 have m1:tY [.lst ([.int 1]++as.map λa=>D.int (a.b:Int))]=some (.int (dep as:Int)):=by
  unfold tY
  dsimp only
  have:gc ([.int 1]++as.map λa=>D.int (a.b:Int))=some (1::as.map λa=>(a.b:Int)):=by
   show(gc (as.map λa=>D.int (a.b:Int))).bind _=_
   rw[Ks];rfl
  rw[this]
  show some (D.int ((as.map λa=>(a.b:Int)).foldl max ((1:Nat):Int)))=_
  rw[Pb];rfl
 have m2:ez (.lst [.int 1]) (.lst (as.map λa=>D.int (a.b:Int)))=some (.lst ([.int 1]++as.map λa=>D.int (a.b:Int))):=XN (by simp;omega)
 generalize [D.int 1]++as.map (λa=>D.int (a.b:Int))=zs at m1 m2
 unfold wa
 clear hl
 walk_at "mir"
theorem KI {m:aP}{f:List D->Option D}{ns:List D}{as:List dB}{ds:List D}(h:(["names","arrows"]:List aP).contains m=false):jK 4 m f (bL ns as) ds=f (bL ns as::ds):=by
 show(if 4=4/\(["names","arrows"]:List aP).contains m=false then f (bL ns as::ds)else none)=_
 rw[if_pos ⟨rfl,h⟩]
theorem Xu {ns:List D}{as:List dB}(hl:as.length<=1000):jK 4 "most_behind" wa (bL ns as) []=some (.int (dep as:Int)):=by
 rw[KI (by decide +kernel)]
 exact ztb hl
def into (as:List dB)(g:Nat):List Nat:=(as.zipIdx.filter λp=>decide (p.1.g=g)).map (·.2)
theorem ztc {ns:List D}{as:List dB}(hl:as.length<=1000)(g:Nat):jb [bL ns as,.int (g:Int)]=some (.lst (az (into as g))):=by
 have q:∀r:L3.Env,r[0]?.join=some (bL ns as)->r[1]?.join=some (.int (g:Int))->j9 r=some (.lst (az (into as g))):=λr hr RY=>by
  have e:(λρ=>((aCons (e1 (cK [4] "arrows") (eV 0)) aNil) ρ).bind λds=>match ds with|[.lst xs]=>some (eJ 0 xs)|_=>none) r=some (as.zipIdx.map λp=>D.tup [.int (p.2:Int),bU p.1]):=by
   have:eV 0 r=some (bL ns as):=hr
   have e2:e1 (cK [4] "arrows") (eV 0) r=some (.lst (as.map bU)):=by unfold e1;rw[this];rfl
   show((aCons (e1 (cK [4] "arrows") (eV 0)) aNil) r).bind _=_
   unfold aCons
   rw[e2]
   show some (eJ 0 (as.map bU))=_
   rw[Kq bU]
  have hc:eY r [1]=[some (.int (g:Int))]:=by unfold eY;simp[RY]
  have:=qk (own:=2) (cap:=[1]) (fi:=λρ=>((aCons (e1 (cK [4] "arrows") (eV 0)) aNil) ρ).bind λds=>match ds with|[.lst xs]=>some (eJ 0 xs)|_=>none) (g:=gT (gsCons (gV 0) (gsCons (gV 1) gsNil))) (p:=tb (e2 (gA false) (e1 (cK [0,1,2,3] "goal") (eV 1)) (eV 2))) (f:=eV 0) (λp:dB×Nat=>D.tup [.int (p.2:Int),bU p.1]) (λp=>decide (p.1.g=g)) (λp=>D.int (p.2:Int)) as.zipIdx e (by simp;omega) (λp _=>by
    refine⟨_,rfl,?_,λ_=>rfl⟩
    rw[hc]
    have:=fg p.1
    have hd:decide ((p.1.g:Int)=(g:Int))=decide (p.1.g=g):=by
     by_cases h:p.1.g=g
     ·simp[h]
     ·have:¬(p.1.g:Int)=(g:Int):=by omega
      simp[h,this]
    rw[←hd]
    walk_at "mir")
  rw[show j9 r=_ from this]
  unfold into az
  rw[cM]
  rfl
 unfold jb
 clear hl
 walk_at "mir"
def tm (as:List dB)(Y:Nat->Nat->T)(L g:Nat)(w:T):T:=(as.filter λa=>decide (a.g=g)).foldl (λw a=>mx w (lt a.t (Y (L-a.b) a.s))) w
theorem X0 {xs:List D}{n b:Nat}(hn:xs.length=n+1)(hb:b<=n):atI xs (-1-(b:Int))=xs[n-b]?:=by
 unfold atI
 have:ixN xs.length (-1-(b:Int))=some (n-b):=by
  unfold ixN
  rw[if_neg (by omega),if_pos (by omega)]
  congr 1
  omega
 rw[this];rfl
def wr (Y:Nat->Nat->T)(L:Nat)(Z:Nat->T):Nat->Nat->T:=λi g=>if i=L then Z g else Y i g
theorem Oz {as:List dB}{Y Y':Nat->Nat->T}{L g:Nat}(w:T)(h:∀a∈as,a.g=g->Y (L-a.b) a.s=Y' (L-a.b) a.s):tm as Y L g w=tm as Y' L g w:=by
 unfold tm
 have h2:∀a∈as.filter (λa=>decide (a.g=g)),Y (L-a.b) a.s=Y' (L-a.b) a.s:=λa ha=>by
  have:=bF.mp ha
  exact h a this.1 (by simpa using this.2)
 generalize as.filter (λa=>decide (a.g=g))=bs at h2
 induction bs generalizing w with
 |nil=>rfl
 |cons b bs ih=>
  rw[bP,bP,h2 b ak]
  exact ih _ λa ha=>h2 a (aj _ ha)
theorem X1 {many L x:Nat}{Y:Nat->Nat->T}(hx:x<many)(v:T):(cz many (L+1) Y).set L (.lst (eW many λy=>if y=x then v else Y L y))=cz many (L+1) (wr Y L λy=>if y=x then v else Y L y):=by
 apply dC
 ·simp[cz]
 ·intro i h1 h2
  have hi:i<L+1:=by simpa[cz]using h2
  rw[lC]
  by_cases hL:L=i
  ·subst hL
   rw[if_pos rfl]
   simp only[cz,ie,km]
   congr 1
   exact qz λg _=>by simp[wr]
  ·rw[if_neg hL]
   have:¬i=L:=λz=>hL z.symm
   simp only[cz,ie,km]
   congr 1
   exact qz λg _=>by simp[wr,this]
structure Run (as:List dB)(many depth rounds:Nat)(past:Nat->Nat->T)(f:Nat->Nat->T)(Y:Nat->Nat->T):Prop where
 past:∀i,i<depth->∀g,g<many->Y i g=past i g
 rc:∀r,r<rounds->∀g,g<many->Y (depth+r) g=tm as Y (depth+r) g (f g r)
theorem W7 {many m:Nat}(Y:Nat->Nat->T)(Z:Nat->T):cz many m Y++[D.lst (eW many Z)]=cz many (m+1) (wr Y m Z):=by
 unfold cz
 rw[lT,dw]
 congr 1
 ·apply dz
  intro i hi
  have:i≠m:=by have:=bX.mp hi;omega
  congr 1
  exact qz λg _=>by simp[wr,this]
 ·simp only[bu,kM]
  congr 2
  exact qz λg _=>by simp[wr]
theorem W8 {ns:List D}{as:List dB}{many:Nat}(h:ku many as)(hn:ns.length=many):∃p:List Nat,jK 4 "order" jp (bL ns as) []=some (.lst (az p))/\Kahn.Ok (W0 as) many p/\p.length=many/\∀g,g<many->g∈p:=by
 obtain⟨p,h1,h2⟩:=h.placed
 refine⟨p,?_,h2⟩
 rw[KI (by decide +kernel)]
 have f1:=Oy ns as
 have f2:=NP ns as
 rw[←hn]at h1
 unfold jp
 clear hn h h2
 walk_at "mir"
theorem W9 {many k n:Nat}(Y:Nat->Nat->T):(cz many (n+k) Y).drop n=cz many k λr g=>Y (n+r) g:=by
 apply dC
 ·simp[cz]
 ·intro i h1 h2
  simp only[cz,List.getElem_drop,ie,km]
def di (net:D)(many:Nat)(pl:Nat->Int)(B:Nat):D:=.obj 5 ["net","times","beat"] [net,.lst (dQ many pl),.int (B:Int)]
theorem Fa (net:D)(many:Nat)(pl:Nat->Int)(B:Nat):cK [5] "net" (di net many pl B)=some net:=rfl
theorem X2 (net:D)(many:Nat)(pl:Nat->Int)(B:Nat):cK [5] "times" (di net many pl B)=some (.lst (dQ many pl)):=rfl
theorem Zu (net:D)(many:Nat)(pl:Nat->Int)(B:Nat):cK [5] "beat" (di net many pl B)=some (.int (B:Int)):=rfl
def oC (pl:Nat->Int)(B:Nat)(a:dB):Int:=pl a.g+(B:Int)*(a.b:Int)-pl a.s-a.t
theorem Pc {ns:List D}{as:List dB}{many B i:Nat}{pl:Nat->Int}{a:dB}(hB:B<=1000000000000)(hs:a.s<many)(hg:a.g<many)(hi:as[i]?=some a):wc [di (bL ns as) many pl B,.int (i:Int)]=some (.int (oC pl B a)):=by
 have f1:=Fa (bL ns as) many pl B
 have f2:=X2 (bL ns as) many pl B
 have f3:=Zu (bL ns as) many pl B
 have f4:cK [4] "arrows" (bL ns as)=some (.lst (as.map bU)):=rfl
 have i1:d5 (.lst (as.map bU)) (.int (i:Int))=some (bU a):=zX (by rw[bi,hi];rfl)
 have g1:=fs a
 have g2:=fg a
 have g3:=ft a
 have g4:=fb a
 have i2:d5 (.lst (dQ many pl)) (.int (a.g:Int))=some (.int (pl a.g)):=AI pl hg
 have i3:d5 (.lst (dQ many pl)) (.int (a.s:Int))=some (.int (pl a.s)):=AI pl hs
 have u1:fI (.int (B:Int)) (.int (a.b:Int))=some (.int ((B:Int)*(a.b:Int))):=zaw (by omega) (by omega)
 generalize di (bL ns as) many pl B=tb at *
 unfold wc oC
 clear hi hs hg hB
 walk_at "mir"
theorem Pd {m:aP}{f:List D->Option D}{net:D}{many B:Nat}{pl:Nat->Int}{ds:List D}(h:(["net","times","beat"]:List aP).contains m=false):jK 5 m f (di net many pl B) ds=f (di net many pl B::ds):=by
 show(if 5=5/\(["net","times","beat"]:List aP).contains m=false then f (di net many pl B::ds)else none)=_
 rw[if_pos ⟨rfl,h⟩]
theorem Zv {ns:List D}{as:List dB}{many B:Nat}{pl:Nat->Int}(h:ku many as)(hB:B<=1000000000000)(C0:∀a∈as,0<=oC pl B a):v4 5 [bL ns as,.lst (dQ many pl),.int (B:Int)]=some (di (bL ns as) many pl B):=by
 obtain⟨ρ',h1,x4,rfl⟩:=qr (g:=gV 4) (b:=ua) (lo:=0) (n:=as.length) (ρ:=[some (di (bL ns as) many pl B),some (bL ns as),some (.lst (dQ many pl)),some (.int (B:Int)),none])
  (λ_ ρ=>∃x4,ρ=[some (di (bL ns as) many pl B),some (bL ns as),some (.lst (dQ many pl)),some (.int (B:Int)),x4]) ⟨none,rfl⟩ (by
   rintro i ρ hi ⟨x4,rfl⟩
   have ha:as[i]?=some as[i]:=aR hi
   have hm:as[i]∈as:=lB hi
   have s1:=Pc (ns:=ns) (pl:=pl) hB (h.right _ hm).s (h.right _ hm).g ha
   have s2:=Pd (m:="slack") (f:=wc) (net:=bL ns as) (many:=many) (B:=B) (pl:=pl) (ds:=[.int (i:Int)]) (by decide +kernel)
   rw[s1]at s2
   have s3:¬oC pl B as[i]<0:=by have:=C0 _ hm;omega
   refine⟨_,_,rfl,.inl ?_,some (.int (i:Int)),rfl⟩
   rw[show(0:Int)+(i:Int)=(i:Int)by omega]
   generalize di (bL ns as) many pl B=tb,oC pl B as[i]=v at *
   unfold ua
   clear s1 h hB C0 ha hm hi
   walk_at "mir")
 have d4:=h.len
 have r1:hE [.int (as.length:Int)]=some (kG 0 as.length):=by rw[EY (by omega) (by omega)];rfl
 have f4:cK [4] "arrows" (bL ns as)=some (.lst (as.map bU)):=rfl
 have s1:gC [5] "net" (eV 1) [some (D.obj 5 [] []),some (bL ns as),some (.lst (dQ many pl)),some (.int (B:Int)),none]=some (.nx [some (D.obj 5 ["net"] [bL ns as]),some (bL ns as),some (.lst (dQ many pl)),some (.int (B:Int)),none]):=rfl
 have s2:gC [5] "times" (eN gM (aCons (eV 2) aNil)) [some (D.obj 5 ["net"] [bL ns as]),some (bL ns as),some (.lst (dQ many pl)),some (.int (B:Int)),none]=some (.nx [some (D.obj 5 ["net","times"] [bL ns as,.lst (dQ many pl)]),some (bL ns as),some (.lst (dQ many pl)),some (.int (B:Int)),none]):=rfl
 have s3:gC [5] "beat" (eV 3) [some (D.obj 5 ["net","times"] [bL ns as,.lst (dQ many pl)]),some (bL ns as),some (.lst (dQ many pl)),some (.int (B:Int)),none]=some (.nx [some (di (bL ns as) many pl B),some (bL ns as),some (.lst (dQ many pl)),some (.int (B:Int)),none]):=rfl
 generalize di (bL ns as) many pl B=tb at *
 generalize bL ns as=net,dQ many pl=vs at *
 unfold v4 tU
 clear h hB C0 d4
 walk_at "mir"
theorem Zw (neg:Bool)(n:Nat)(out:List Nat):inD neg (.int (n:Int)) (.lst (az out))=some (.bl (if neg then !decide (n∈out)else decide (n∈out))):=by
 have hs:(az out).all D.sc=true:=by
  unfold az
  rw[kL]
  exact cZ.mpr λx _=>rfl
 have hi:tq (.int (n:Int)) (az out)=decide (n∈out):=by
  unfold tq az
  rw[List.any_map]
  induction out with
  |nil=>rfl
  |cons x out ih=>
   rw[dP,ih (by unfold az;rw[kL];exact cZ.mpr λx _=>rfl)]
   show(((x:Int)==(n:Int)) || decide (n∈out))=_
   by_cases h:x=n
   ·subst h;simp
   ·have h':¬(x:Int)=(n:Int):=by omega
    have h2:¬n=x:=λz=>h z.symm
    simp[h',h2]
 show(if _ then _ else _)=_
 rw[if_pos ⟨rfl,hs⟩,hi]
def lat (pl:Nat->Int)(B:Nat)(as:List dB)(out:List Nat):List dB:=(as.zipIdx.filter λp=>decide (p.2∉out)).map λp=>{ p.1 with t:=- oC pl B p.1 }
def encL (a:dB):D:=.tup [.int a.s,.int a.b,.int (-a.t)]
def lst1 (pl:Nat->Int)(B:Nat)(out:List Nat)(s:List dB×Option D×Option D)(p:dB×Nat):List dB×Option D×Option D:=if p.2∈out then(s.1,some (.int (p.2:Int)),s.2.2)else(s.1++[{ p.1 with t:=- oC pl B p.1 }],some (.int (p.2:Int)),some (bU p.1))
theorem NQ (pl:Nat->Int)(B:Nat)(out:List Nat):∀(ps:List (dB×Nat)) (s:List dB×Option D×Option D),(ps.foldl (lst1 pl B out) s).1=s.1++(ps.filter λp=>decide (p.2∉out)).map λp=>{ p.1 with t:=- oC pl B p.1 }
 |[],s=>by simp
 |p::ps,s=>by
  rw[bP,NQ pl B out ps]
  unfold lst1
  by_cases h:p.2∈out
  ·rw[if_pos h];simp[h]
  ·rw[if_neg h];simp[h]
theorem X3 (pl:Nat->Int)(B:Nat)(as:List dB)(out:List Nat)(g:Nat):((as.zipIdx.filter λp=>decide (p.1.g=g)).filter λp=>decide (p.2∉out)).map (λp=>({ p.1 with t:=- oC pl B p.1 }:dB))=(lat pl B as out).filter λa=>decide (a.g=g):=by
 unfold lat
 rw[sT,pV,pV]
 congr 1
 apply qO
 intro p _
 show(decide _&&decide _)=(decide _&&decide _)
 rw[Bool.and_comm]
theorem Zx {ns:List D}{as:List dB}{many B:Nat}{pl:Nat->Int}(h:ku many as)(hB:B<=1000000000000)(g:Nat)(out:List Nat):v9 [di (bL ns as) many pl B,.int (g:Int),.lst (az out)]=some (.lst (((lat pl B as out).filter λa=>decide (a.g=g)).map encL)):=by
 have d4:=h.len
 have hn:az (into as g)=(as.zipIdx.filter (λp=>decide (p.1.g=g))).map λp=>D.int (p.2:Int):=by unfold into az;rw[cM];rfl
 have vF:∀p∈as.zipIdx.filter (λp=>decide (p.1.g=g)),as[p.2]?=some p.1:=λp hp=>KU (bF.mp hp).1
 have fT:(as.zipIdx.filter (λp=>decide (p.1.g=g))).length<=120:=bD (iN _ _) (by rw[pX];exact d4)
 have uZ:=X3 pl B as out g
 generalize as.zipIdx.filter (λp=>decide (p.1.g=g))=ps at *
 have in1:=ztc (ns:=ns) (as:=as) (by omega) g
 have I0:=KI (m:="into") (f:=jb) (ns:=ns) (as:=as) (ds:=[.int (g:Int)]) (by decide +kernel)
 rw[in1]at I0
 have main:∀(qs:List (dB×Nat)) (s:List dB×Option D×Option D),(∀p∈qs,as[p.2]?=some p.1)->s.1.length+qs.length<=120 ->
   ∃y4 y5,gm (gV 4) xx (qs.map λp=>D.int (p.2:Int)) [some (di (bL ns as) many pl B),some (.int (g:Int)),some (.lst (az out)),some (.lst (s.1.map encL)),s.2.1,s.2.2]=some (.nx [some (di (bL ns as) many pl B),some (.int (g:Int)),some (.lst (az out)),some (.lst ((qs.foldl (lst1 pl B out) s).1.map encL)),y4,y5]):=by
  intro qs
  induction qs with
  |nil=>exactλs _ _=>⟨s.2.1,s.2.2,rfl⟩
  |cons p qs ih=>
   intro s hq hl
   obtain⟨y4,y5,hy⟩:=ih (lst1 pl B out s p) (λq yT=>hq q (aj _ yT)) (by
    unfold lst1
    rw[aF]at hl
    split
    ·dsimp only;omega
    ·dsimp only;rw[aT,fK];omega)
   refine⟨y4,y5,?_⟩
   rw[bP,bu]
   have hp:=hq p ak
   have hm:p.1∈as:=cY.mpr ⟨_,hp⟩
   have step:xx [some (di (bL ns as) many pl B),some (.int (g:Int)),some (.lst (az out)),some (.lst (s.1.map encL)),some (.int (p.2:Int)),s.2.2]=some (.nx [some (di (bL ns as) many pl B),some (.int (g:Int)),some (.lst (az out)),some (.lst ((lst1 pl B out s p).1.map encL)),(lst1 pl B out s p).2.1,(lst1 pl B out s p).2.2]):=by
    have n1:=Zw true p.2 out
    have f1:=Fa (bL ns as) many pl B
    have f4:cK [4] "arrows" (bL ns as)=some (.lst (as.map bU)):=rfl
    have i1:d5 (.lst (as.map bU)) (.int (p.2:Int))=some (bU p.1):=zX (by rw[bi,hp];rfl)
    have g1:=fs p.1
    have g4:=fb p.1
    have s1:=Pc (ns:=ns) (pl:=pl) hB (h.right _ hm).s (h.right _ hm).g hp
    have s2:=Pd (m:="slack") (f:=wc) (net:=bL ns as) (many:=many) (B:=B) (pl:=pl) (ds:=[.int (p.2:Int)]) (by decide +kernel)
    rw[s1]at s2
    have hz:s.1.length<16777216:=by rw[aF]at hl;omega
    unfold lst1
    by_cases ho:p.2∈out
    ·rw[if_pos ho]
     dsimp only
     rw[decide_eq_true ho]at n1
     generalize di (bL ns as) many pl B=tb,az out=os at *
     unfold xx
     clear ih hy hq hl hp hm s1 h hB uZ vF fT in1 I0 d4 hn ho
     walk_at "mir"
    ·rw[if_neg ho]
     dsimp only
     rw[decide_eq_false ho]at n1
     rw[dw]
     have e1:[({ p.1 with t:=- oC pl B p.1 }:dB)].map encL=[.tup [.int p.1.s,.int p.1.b,.int (oC pl B p.1)]]:=by
      show[D.tup [_,_,_]]=_
      rw[Int.neg_neg]
     rw[e1]
     generalize di (bL ns as) many pl B=tb,az out=os,oC pl B p.1=v at *
     unfold xx
     clear ih hy hq hl hp hm s1 h hB uZ vF fT in1 I0 d4 hn ho e1
     walk_at "mir"
   show((gV 4) (.int (p.2:Int)) _).bind _=_
   show(xx [some (di (bL ns as) many pl B),some (.int (g:Int)),some (.lst (az out)),some (.lst (s.1.map encL)),some (.int (p.2:Int)),s.2.2]).bind _=_
   rw[step]
   exact hy
 obtain⟨y4,y5,hf⟩:=main ps ([],none,none) vF (by simpa using fT)
 rw[NQ]at hf
 rw[show(([]:List dB)++(ps.filter λp=>decide (p.2∉out)).map λp=>({ p.1 with t:=- oC pl B p.1 }:dB))=_ from uZ,←hn]at hf
 have f1:=Fa (bL ns as) many pl B
 generalize di (bL ns as) many pl B=tb at *
 generalize bL ns as=net,((lat pl B as out).filter λa=>decide (a.g=g)).map encL=zs,az (into as g)=ms,az out=os at *
 unfold v9
 clear main uZ vF fT in1 d4 hn h hB
 replace hf:gm (gV 4) xx ms [some tb,some (.int (g:Int)),some (.lst os),some (.lst []),none,none]=_:=hf
 walk_at "mir"
def tX (Y:Nat->Nat->T)(L:Nat)(s:T×Option D×Option D×Option D)(a:dB):T×Option D×Option D×Option D:=(mx s.1 (lt a.t (Y (L-a.b) a.s)),some (.int (a.s:Int)),some (.int (a.b:Int)),some (.int (-a.t)))
theorem J0 (Y:Nat->Nat->T)(L:Nat):∀(bs:List dB) (s:T×Option D×Option D×Option D),(bs.foldl (tX Y L) s).1=bs.foldl (λw a=>mx w (lt a.t (Y (L-a.b) a.s))) s.1
 |[],s=>rfl
 |b::bs,s=>by rw[bP,J0 Y L bs];rfl
theorem PU (w v:Int):∃u,mx (some w) (some v)=some u/\gN [.int w,.int v]=some (.int u):=⟨_,rfl,by rw[zfk]⟩
theorem V6 {many L:Nat}{Y:Nat->Nat->T}(hS:∀i,i<=L->∀g,g<many->∃y,Y i g=some y){bs:List dB}(hb:∀a∈bs,a.b<=L/\a.s<many)(put:Int) :
  ∃v,bs.foldl (λw a=>mx w (lt a.t (Y (L-a.b) a.s))) (mx (some 0) (some put))=some v/\xo [.lst (cz many (L+1) Y),.lst (bs.map encL),.int put]=some (.int v):=by
 obtain⟨w0,IW,FP⟩:=PU 0 put
 obtain⟨e1,e2⟩:=J6 (g:=gT (gsCons (gV 4) (gsCons (gV 5) (gsCons (gV 6) gsNil)))) (b:=y8) encL (λs:T×Option D×Option D×Option D=>[some (.lst (cz many (L+1) Y)),some (.lst (bs.map encL)),some (.int put),some (gZ s.1),s.2.1,s.2.2.1,s.2.2.2])
  (tX Y L) (λs=>∃w,s.1=some w) bs (some w0,none,none,none) ⟨w0,rfl⟩ (λs a ha hs=>by
   obtain⟨w,hw⟩:=hs
   obtain⟨h1,h2⟩:=hb a ha
   obtain⟨y,hy⟩:=hS (L-a.b) (by omega) a.s h2
   obtain⟨u,Ar,FO⟩:=PU w (y+a.t)
   have i2:d5 (.lst (cz many (L+1) Y)) (.int (-1-(a.b:Int)))=some (.lst (eW many (Y (L-a.b)))):=by
    show atI _ _=_
    rw[X0 (n:=L) (by rw[J8]) h1]
    unfold cz
    rw[bi,dR (by omega)]
    rfl
   have i3:d5 (.lst (eW many (Y (L-a.b)))) (.int (a.s:Int))=some (.int y):=by
    have:=Pa (Y (L-a.b)) h2
    rw[hy]at this
    exact this
   have e:mx s.1 (lt a.t (Y (L-a.b) a.s))=some u:=by rw[hw,hy];exact Ar
   refine⟨_,rfl,.inl ?_,u,e⟩
   unfold tX
   rw[e,hw]
   have o1:∀i,gZ (some i)=.int i:=λ_=>rfl
   have o2:y - -a.t=y+a.t:=by omega
   unfold y8
   generalize cz many (L+1) Y=rs,bs.map encL=ls at *
   clear IW FP hw h1 h2 hy Ar e hS hb ha
   walk_at "mir")
 rw[J0]at e2
 obtain⟨v,hv⟩:=e2
 have e3:=J0 Y L bs (some w0,none,none,none)
 rw[hv]at e3
 generalize bs.foldl (tX Y L) (some w0,none,none,none)=S at e1 e3
 refine⟨v,by rw[IW];exact hv,?_⟩
 rw[e3]at e1
 have o1:∀i,gZ (some i)=.int i:=λ_=>rfl
 replace e1:gm (gT (gsCons (gV 4) (gsCons (gV 5) (gsCons (gV 6) gsNil)))) y8 (bs.map encL) [some (.lst (cz many (L+1) Y)),some (.lst (bs.map encL)),some (.int put),some (.int w0),none,none,none]=some (.nx [some (.lst (cz many (L+1) Y)),some (.lst (bs.map encL)),some (.int put),some (.int v),S.2.1,S.2.2.1,S.2.2.2]):=e1
 generalize cz many (L+1) Y=rs,bs.map encL=ls at *
 unfold xo
 clear hS hb hv e3 IW
 walk_at "mir"
theorem Jr (o:T):∃p:Int,((o.map D.int).getD (.int 0))=.int p/\mx (some 0) (some p)=mx (some 0) o:=by
 cases o with
 |none=>exact⟨0,rfl,by show some _=some _;congr 1⟩
 |some v=>exact⟨v,rfl,rfl⟩
theorem Pe {pl:Nat->Int}{B:Nat}{as:List dB}{out:List Nat}{a:dB}(h:a∈lat pl B as out):∃b∈as,a.s=b.s/\a.g=b.g/\a.b=b.b/\a.t =-oC pl B b:=by
 obtain⟨p,hp,rfl⟩:=dc.mp h
 exact⟨p.1,cY.mpr ⟨_,KU (bF.mp hp).1⟩,rfl,rfl,rfl,rfl⟩
theorem zte {tb puts wo:Option D}{as bs:List dB}{many L r rounds dp:Nat}{Y:Nat->Nat->T}{f:Nat->Nat->T}{d:D}{n:Nat}{x11 x12:Option D}{p:List Nat}(hd:jT d n f)(hS:∀i,i<=L->∀g,g<many->∃y,Y i g=some y)(hb:∀a∈bs,a.b<=L/\a.s<many)(jJ:∀a∈bs,a.b=0->∃c∈as,c.s=a.s/\c.g=a.g/\c.b=0)(ok:Kahn.Ok (W0 as) many p)
  (DG:D) (yL:∀g,g<many->d5 DG (.int (g:Int))=some (.lst ((bs.filter λa=>decide (a.g=g)).map encL))) :
  ∃(Z:Nat->T) (sQ sR:Option D),gm (gV 11) Gr (az p) [tb,some (.int (rounds:Int)),puts,wo,some (.int (many:Int)),some DG,some d,some (.lst (az p)),some (.int (dp:Int)),some (.lst (cz many (L+1) Y)),some (.int (r:Int)),x11,x12] =
   some (.nx [tb,some (.int (rounds:Int)),puts,wo,some (.int (many:Int)),some DG,some d,some (.lst (az p)),some (.int (dp:Int)),some (.lst (cz many (L+1) (wr Y L Z))),some (.int (r:Int)),sQ,sR])/\(∀g,g<many->∃z,Z g=some z)/\∀g∈p,Z g=tm bs (wr Y L Z) L g (mx (some 0) (f g r)):=by
 obtain⟨ρ',h1,pre,Z,sQ,sR,e1,⟨post,e2⟩,uU,hZ,rfl⟩:=jg (g:=gV 11) (b:=Gr) (ds:=az p) (ρ:=[tb,some (.int (rounds:Int)),puts,wo,some (.int (many:Int)),some DG,some d,some (.lst (az p)),some (.int (dp:Int)),some (.lst (cz many (L+1) Y)),some (.int (r:Int)),x11,x12])
  (λds ρ=>∃(pre:List Nat) (Z:Nat->T) (sQ sR:Option D),ds=az pre/\(∃post,p=pre++post)/\(∀g,g<many->∃z,Z g=some z)/\(∀g∈pre,Z g=tm bs (wr Y L Z) L g (mx (some 0) (f g r)))/\ρ=[tb,some (.int (rounds:Int)),puts,wo,some (.int (many:Int)),some DG,some d,some (.lst (az p)),some (.int (dp:Int)),some (.lst (cz many (L+1) (wr Y L Z))),some (.int (r:Int)),sQ,sR])
  ⟨[],Y L,x11,x12,rfl,⟨p,rfl⟩,λg hg=>hS L (aH _) g hg,λg hg=>(by cases hg),by
   have:wr Y L (Y L)=Y:=by
    funext i g
    unfold wr
    by_cases h:i=L
    ·rw[if_pos h,h]
    ·rw[if_neg h]
   rw[this]⟩ (by
  rintro ds dd post ρ e ⟨pre,Z,sQ,sR,rfl,⟨iY,e'⟩,uU,hZ,rfl⟩
  have e3:az iY=dd::post:=by
   have:az p=az pre++az iY:=by rw[e'];simp[az]
   rw[this]at e
   exact nO e
  cases iY with
  |nil=>cases e3
  |cons x iY=>
   have tP:dd=.int (x:Int):=by
    have:az (x::iY)=.int (x:Int)::az iY:=rfl
    rw[this]at e3
    cases e3
    rfl
   subst tP
   have hx:x∈p:=by rw[e'];simp
   have IY:=ok.lt x hx
   have CW:p[pre.length]?=some x:=by rw[e'];simp
   have sq:∀a∈bs,a.b=0->a.g=x->a.s∈pre:=λa ha h0 hg=>by
    obtain⟨c,hc,c1,c2,c3⟩:=jJ a ha h0
    have:=ok.ord pre.length x CW c (bF.mpr ⟨hc,by simpa using c3⟩) (c2.trans hg)
    rw[e',sS]at this
    ·rw[←c1];exact this
    ·rfl
   have FL:x∉pre:=λz=>by
    have:=ok.nd
    rw[e',bn]at this
    exact this.2.2 x z x ak rfl
   have sg:∀g∈pre,∀a∈bs,a.b=0->a.g=g->a.s≠x:=λg hg a ha h0 pN z=>by
    obtain⟨c,hc,c1,c2,c3⟩:=jJ a ha h0
    obtain⟨i,hi,ei⟩:=dM.mp hg
    have FM:p[i]?=some g:=by rw[e',bO hi];simp[hi,ei]
    have:=ok.ord i g FM c (bF.mpr ⟨hc,by simpa using c3⟩) (c2.trans pN)
    rw[e',fW (by omega),c1]at this
    exact FL (z▸jG this)
   have tf:∀i,i<=L->∀g,g<many->∃y,wr Y L Z i g=some y:=λi hi g hg=>by
    unfold wr
    by_cases h:i=L
    ·rw[if_pos h];exact uU g hg
    ·rw[if_neg h];exact hS i hi g hg
   have Iu:=hd.getI x r (.int 0)
   obtain⟨pt,Mb,FM⟩:=Jr (f x r)
   rw[Mb]at Iu
   have yL:=yL x IY
   obtain⟨v,hv,Mi⟩:=V6 tf (bs:=bs.filter λa=>decide (a.g=x)) (λa ha=>hb a (bF.mp ha).1) pt
   rw[FM]at hv
   have key:∀g,(∀a∈bs,a.g=g->a.b=0->a.s≠x)->∀(v w:T),tm bs (wr Y L λy=>if y=x then v else Z y) L g w=tm bs (wr Y L Z) L g w:=λg hg v w=>by
    refine Oz w λa ha pN=>?_
    unfold wr
    by_cases hL:L-a.b=L
    ·rw[if_pos hL,if_pos hL]
     dsimp only
     rw[if_neg ?_]
     by_cases h0:a.b=0
     ·exact hg a ha pN h0
     ·have:=(hb a ha).1
      omega
    ·rw[if_neg hL,if_neg hL]
   have hv:tm bs (wr Y L Z) L x (mx (some 0) (f x r))=some v:=hv
   refine⟨_,_,rfl,.inl ?_,pre++[x],λy=>if y=x then some v else Z y,some (.int (x:Int)),some (.int pt),(Oe pre x).symm▸rfl,⟨iY,by rw[e'];simp⟩,λg hg=>?_,?_,rfl⟩
   ·have CY:=X1 (many:=many) (L:=L) (x:=x) (Y:=wr Y L Z) IY (some v)
    have hY:(wr (wr Y L Z) L λy=>if y=x then some v else wr Y L Z L y)=wr Y L λy=>if y=x then some v else Z y:=by
     funext i g
     unfold wr
     by_cases h:i=L<;>simp[h]
    have R3:mj (eW many (wr Y L Z L)) (x:Int) (.int v)=some (eW many λy=>if y=x then some v else wr Y L Z L y):=Xt _ IY (some v)
    rw[hY]at CY
    have RK:ixN (cz many (L+1) (wr Y L Z)).length (-1)=some L:=by
     rw[J8]
     unfold ixN
     rw[if_neg (by omega),if_pos (by omega)]
     congr 1
     omega
    have RZ:(cz many (L+1) (wr Y L Z))[L]?=some (.lst (eW many (wr Y L Z L))):=by
     unfold cz
     rw[bi,dR (by omega)]
     rfl
    unfold Gr pA
    clear key sg sq FL CW hx hv e e' e3 hZ uU ok hb hd hS tf jJ Mb FM hY
    walk_at "mir"
   ·by_cases h:g=x
    ·exact⟨v,by dsimp only;rw[if_pos h]⟩
    ·obtain⟨z,hz⟩:=uU g hg
     exact⟨z,by dsimp only;rw[if_neg h,hz]⟩
   ·intro g hg
    rcases aU.mp hg with hg|hg
    ·have nH:g≠x:=λz=>FL (z▸hg)
     dsimp only
     rw[if_neg nH,key g (λa ha pN h0=>sg g hg a ha h0 pN)]
     exact hZ g hg
    ·rw[aN]at hg
     subst hg
     dsimp only
     rw[if_pos rfl,key g (λa ha pN h0 z=>FL (z▸sq a ha h0 pN)),hv])
 have qJ:pre=p:=by
  have hl:=congrArg gW e1
  simp[az]at hl
  rw[e2,aT]at hl
  have:post=[]:=lK (by omega)
  rw[e2,this,cr]
 subst qJ
 exact⟨Z,sQ,sR,h1,uU,hZ⟩
inductive wM:D->List Nat->Prop
 |no:wM .non []
 |some (out:List Nat):wM (.lst (az out)) out
theorem ztf {ns:List D}{as:List dB}{many rounds B:Nat}{pl:Nat->Int}{wo:D}{out:List Nat}{puts:List Fl}(h:ku many as)(hn:ns.length=many)(hr:rounds<=1000)(hB:B<=1000000000000)(hw:wM wo out)(fT:puts.length<=1000) :
  ∃Y,E8 [di (bL ns as) many pl B,.int (rounds:Int),.lst (puts.map cq),wo]=some (.lst (cz many rounds λr g=>Y (dep as+r) g))/\Run (lat pl B as out) many (dep as) rounds (λ_ _=>some 0) (λg r=>mx (some 0) (fl puts g r)) Y/\∀i,i<dep as+rounds->∀g,g<many->∃y,Y i g=some y:=by
 obtain⟨p,hp,ok,sm,oo⟩:=W8 h hn
 have d4:=h.len
 have oP:=h.le
 have se:=zta λa ha=>(h.right a ha).b
 have mo:=Xu (ns:=ns) (as:=as) (by omega)
 obtain⟨d,FK,hd2⟩:=zs8 puts fT
 have yF:∀a∈lat pl B as out,a.b<=dep as/\a.s<many:=λa ha=>by
  obtain⟨b,hb,b1,b2,b3,b4⟩:=Pe ha
  exact⟨by rw[b3];exact zs9 hb,by rw[b1];exact(h.right b hb).s⟩
 have jJ:∀a∈lat pl B as out,a.b=0->∃c∈as,c.s=a.s/\c.g=a.g/\c.b=0:=λa ha h0=>by
  obtain⟨b,hb,b1,b2,b3,b4⟩:=Pe ha
  exact⟨b,hb,b1.symm,b2.symm,by omega⟩
 have tl:=λg=>Zx (ns:=ns) (pl:=pl) h hB g out
 have q2:∀r:L3.Env,r[0]?.join=some (di (bL ns as) many pl B)->r[3]?.join=some wo->r[4]?.join=some (.int (many:Int))->Kp r=some (.lst ((aV many).map λg=>D.lst (((lat pl B as out).filter λa=>decide (a.g=g)).map encL))):=λr h0 h3 h4=>by
  unfold Kp
  refine ju (r:=r) (own:=1) (cap:=[0,3]) (g:=gV 0) (fi:=λρ=>((aCons (eV 4) aNil) ρ).bind hE) (f:=λρ=>((aCons (eV 1) (aCons (eV 0) (aCons (eIf (tb (e2 (tu false) (eV 2) (eC .non))) (λρ=>(aNil ρ).bind λds=>some (.lst ds)) (eV 2)) aNil))) ρ).bind λds=>v9 (ds++[])) (λ(t:Nat)=>D.int (t:Int)) (λ(g:Nat)=>D.lst (((lat pl B as out).filter λa=>decide (a.g=g)).map encL)) (aV many) (E9 h4 (by omega)) (by rw[dr];omega) λg hg=>⟨_,rfl,?_⟩
  have jI:eY r [0,3]=[some (di (bL ns as) many pl B),some wo]:=by unfold eY;simp[h0,h3]
  rw[jI]
  have t1:=tl g
  generalize di (bL ns as) many pl B=tb,((lat pl B as out).filter λa=>decide (a.g=g)).map encL=zs at *
  cases hw with
  |no=>
   have e0:az []=[]:=rfl
   rw[e0]at t1
   clear jI h0 h3 h4 hg tl jJ yF hd2 FK se oP d4 oo sm ok hp h hn hr hB mo
   walk_at "mir"
  |some out=>
   clear jI h0 h3 h4 hg tl jJ yF hd2 FK se oP d4 oo sm ok hp h hn hr hB mo
   walk_at "mir"
 have q1:∀r:L3.Env,r[4]?.join=some (.int (many:Int))->r[8]?.join=some (.int (dep as:Int))->Oc r=some (.lst (cz many (dep as) λ_ _=>some 0)):=λr h4 h8=>by
  refine ju (λ(t:Nat)=>D.int (t:Int)) (λ_=>D.lst (eW many λ_=>some 0)) (aV (dep as)) (E9 h8 (by omega)) (by rw[dr];omega) λg _=>⟨_,rfl,?_⟩
  have jI:eY r [4]=[some (.int (many:Int))]:=by unfold eY;simp[h4]
  rw[jI]
  have rp:mh (.lst [.int 0]) (.int (many:Int))=some (.lst (eW many λ_=>some 0)):=by
   unfold mh
   dsimp only
   rw[if_pos ⟨by omega,by omega,by simp⟩]
   congr 2
   unfold eW
   rw[lR,dr]
   simp[gZ]
  clear jI h4 h8 q2 tl jJ yF hd2 FK se oP d4 oo sm ok hp h hn hr hB mo
  walk_at "mir"
 have yL:∀g,g<many->d5 (.lst ((aV many).map λg=>D.lst (((lat pl B as out).filter λa=>decide (a.g=g)).map encL))) (.int (g:Int))=some (.lst (((lat pl B as out).filter λa=>decide (a.g=g)).map encL)):=λg hg=>zX (by simp[hg])
 generalize (D.lst ((aV many).map λg=>D.lst (((lat pl B as out).filter λa=>decide (a.g=g)).map encL)))=LK at q2 yL
 obtain⟨ρ',h1,Y,JO,sQ,sR,rfl,run,hS⟩:=qr (g:=gV 10) (b:=Ko) (lo:=0) (n:=rounds) (ρ:=[some (di (bL ns as) many pl B),some (.int (rounds:Int)),some (.lst (puts.map cq)),some wo,some (.int (many:Int)),some LK,some d,some (.lst (az p)),some (.int (dep as:Int)),some (.lst (cz many (dep as) λ_ _=>some 0)),none,none,none])
  (λr ρ=>∃Y JO sQ sR,ρ=[some (di (bL ns as) many pl B),some (.int (rounds:Int)),some (.lst (puts.map cq)),some wo,some (.int (many:Int)),some LK,some d,some (.lst (az p)),some (.int (dep as:Int)),some (.lst (cz many (dep as+r) Y)),JO,sQ,sR]/\Run (lat pl B as out) many (dep as) r (λ_ _=>some 0) (λg r=>mx (some 0) (fl puts g r)) Y/\∀i,i<dep as+r->∀g,g<many->∃y,Y i g=some y)
  ⟨λ_ _=>some 0,none,none,none,rfl,⟨λ_ _ _ _=>rfl,λr hr=>by omega⟩,λi hi g hg=>⟨0,rfl⟩⟩ (by
   rintro r ρ RX ⟨Y,JO,sQ,sR,rfl,run,hS⟩
   obtain⟨Z,z11,z12,hz,uU,hZ⟩:=zte (tb:=some (di (bL ns as) many pl B)) (puts:=some (.lst (puts.map cq))) (wo:=some wo) (as:=as) (bs:=lat pl B as out) (many:=many) (L:=dep as+r) (r:=r) (rounds:=rounds) (dp:=dep as) (Y:=wr Y (dep as+r) λ_=>some 0) (x11:=sQ) (x12:=sR) (p:=p) hd2
    (λi hi g hg=>by
     unfold wr
     by_cases he:i=dep as+r
     ·rw[if_pos he];exact⟨0,rfl⟩
     ·rw[if_neg he];exact hS i (by omega) g hg)
    (λa ha=>⟨by have:=(yF a ha).1;omega,(yF a ha).2⟩) jJ ok LK yL
   have FP:wr (wr Y (dep as+r) λ_=>some 0) (dep as+r) Z=wr Y (dep as+r) Z:=by
    funext i g
    unfold wr
    by_cases hi:i=dep as+r<;>simp[hi]
   rw[FP]at hz hZ
   refine⟨_,_,rfl,.inl ?_,wr Y (dep as+r) Z,some (.int (r:Int)),z11,z12,rfl,⟨?_,?_⟩,?_⟩
   ·have e0:(0:Int)+(r:Int)=(r:Int):=by omega
    have rp:mh (.lst [.int 0]) (.int (many:Int))=some (.lst (eW many λ_=>some 0)):=by
     unfold mh
     dsimp only
     rw[if_pos ⟨by omega,by omega,by simp⟩]
     congr 2
     unfold eW
     rw[lR,dr]
     simp[gZ]
    have yK:(cz many (dep as+r) Y).length<16777216:=by rw[J8];omega
    have hsn:=W7 (many:=many) (m:=dep as+r) Y λ_=>some 0
    rw[e0]
    generalize di (bL ns as) many pl B=tb,puts.map cq=Ep at *
    unfold Ko
    clear hZ uU FP yL q1 q2 tl jJ yF run hS oo ok hp h hn FK hd2 d4 oP se hr RX sm hw hB mo
    walk_at "mir"
    rfl
   ·intro i hi g hg
    unfold wr
    rw[if_neg (by omega)]
    exact run.past i hi g hg
   ·intro r2 hr2 g hg
    by_cases he:r2=r
    ·subst he
     have:wr Y (dep as+r2) Z (dep as+r2) g=Z g:=by simp[wr]
     rw[this]
     exact hZ g (oo g hg)
    ·have h3:wr Y (dep as+r) Z (dep as+r2) g=Y (dep as+r2) g:=by unfold wr;rw[if_neg (by omega)]
     rw[h3,run.rc r2 (by omega) g hg]
     refine Oz _ λa _ _=>?_
     unfold wr
     rw[if_neg (by omega)]
   ·intro i hi g hg
    unfold wr
    by_cases he:i=dep as+r
    ·rw[if_pos he];exact uU g hg
    ·rw[if_neg he];exact hS i (by omega) g hg)
 refine⟨Y,?_,run,hS⟩
 have r1:hE [.int (rounds:Int)]=some (kG 0 rounds):=by rw[EY (by omega) (by omega)];rfl
 have k2:=q2 [some (di (bL ns as) many pl B),some (.int (rounds:Int)),some (.lst (puts.map cq)),some wo,some (.int (many:Int)),none,none,none,none,none,none,none,none] rfl rfl rfl
 have k1:=q1 [some (di (bL ns as) many pl B),some (.int (rounds:Int)),some (.lst (puts.map cq)),some wo,some (.int (many:Int)),some LK,some d,some (.lst (az p)),some (.int (dep as:Int)),none,none,none,none] rfl rfl
 have e3:cutD (cz many (dep as+rounds) Y) (some (dep as:Int)) none=cz many rounds λr g=>Y (dep as+r) g:=by rw[WI _ (dep as),W9]
 have f1:=Fa (bL ns as) many pl B
 have f2:=Oy ns as
 have l1:eA [.lst ns]=some (.int (many:Int)):=by rw[jh,hn]
 generalize di (bL ns as) many pl B=tb at *
 generalize bL ns as=net,puts.map cq=Ep,(cz many rounds λr g=>Y (dep as+r) g)=res,(cz many (dep as) λ_ _=>some 0)=rs0,cz many (dep as+rounds) Y=lu at *
 unfold E8
 clear yL q1 q2 tl jJ yF run hS oo ok h hn hd2 d4 oP se hr sm hw hB fT
 walk_at "mir"
theorem Zy {many m:Nat}{Y:Nat->Nat->T}{i g:Nat}(hi:i<m)(hg:g<many):d5 (.lst (cz many m Y)) (.int (i:Int))=some (.lst (eW many (Y i)))/\d5 (.lst (eW many (Y i))) (.int (g:Int))=some (gZ (Y i g)) :=
 ⟨zX (by unfold cz;rw[bi,dR hi];rfl),Pa _ hg⟩
def ke (as:List dB):List Nat:=(as.zipIdx.filter λp=>decide (p.1.c=.wait)).map (·.2)
theorem Zz {ns:List D}{as:List dB}{many B:Nat}{pl:Nat->Int}(hl:as.length<=1000)(r:L3.Env)(h:r[0]?.join=some (di (bL ns as) many pl B)):jr r=some (.lst (az (ke as))):=by
 have f1:=Fa (bL ns as) many pl B
 have f2:=NP ns as
 have e0:(λρ=>((aCons (e1 (cK [4] "arrows") (e1 (cK [5] "net") (eV 0))) aNil) ρ).bind λds=>match ds with|[.lst xs]=>some (eJ 0 xs)|_=>none) r=some (as.zipIdx.map λp=>D.tup [.int (p.2:Int),bU p.1]):=by
  have e:eV 0 r=some (di (bL ns as) many pl B):=h
  show((aCons (e1 (cK [4] "arrows") (e1 (cK [5] "net") (eV 0))) aNil) r).bind _=_
  have:(aCons (e1 (cK [4] "arrows") (e1 (cK [5] "net") (eV 0))) aNil) r=some [.lst (as.map bU)]:=by
   generalize di (bL ns as) many pl B=tb at *
   generalize bL ns as=nd at *
   unfold aCons e1 aNil
   rw[e]
   simp[f1,f2]
  rw[this]
  show some (eJ 0 (as.map bU))=_
  rw[Kq]
 unfold az ke
 rw[cM]
 refine qk (λp:dB×Nat=>D.tup [.int (p.2:Int),bU p.1]) (λp=>decide (p.1.c=.wait)) _ as.zipIdx e0 (by rw[pX];omega) λp _=>⟨[some (.int (p.2:Int)),some (bU p.1)],rfl,?_,λ_=>rfl⟩
 obtain⟨⟨c,s,g,t,b⟩,i⟩:=p
 cases c<;>rfl
theorem X4 {ns:List D}{as:List dB}{many B going beat:Nat}{pl:Nat->Int}{puts:List Fl}(h:ku many as)(hn:ns.length=many)(hb:beat<=900)(hB:B<=1000000000000)(hg:going<many)(fT:puts.length<=1000)(out:List Nat) :
  ∃Y,Run (lat pl B as out) many (dep as) (beat+1) (λ_ _=>some 0) (λg r=>mx (some 0) (fl puts g r)) Y/\∃y:Int,Y (dep as+beat) going=some y/\xw [di (bL ns as) many pl B,.lst (puts.map cq),.int (going:Int),.int (beat:Int),.lst (az out)]=some (.bl (decide (y > 0))):=by
 obtain⟨Y,l1,run,hS⟩:=ztf (ns:=ns) (pl:=pl) (rounds:=beat+1) (puts:=puts) h hn (by omega) hB (.some out) fT
 obtain⟨y,hy⟩:=hS (dep as+beat) (by omega) going hg
 refine⟨Y,run,y,hy,?_⟩
 obtain⟨i1,i2⟩:=Zy (many:=many) (m:=beat+1) (Y:=λr g=>Y (dep as+r) g) (i:=beat) (by omega) hg
 replace i2:d5 (.lst (eW many λg=>Y (dep as+beat) g)) (.int (going:Int))=some (.int y):=by rw[i2,hy];rfl
 have e1:((beat+1:Nat):Int)=(beat:Int)+1:=by omega
 rw[e1]at l1
 replace i1:d5 (.lst (cz many (beat+1) λr g=>Y (dep as+r) g)) (.int (beat:Int))=some (.lst (eW many λg=>Y (dep as+beat) g)):=i1
 generalize di (bL ns as) many pl B=tb,puts.map cq=Ep,cz many (beat+1) (λr g=>Y (dep as+r) g)=rs,eW many (λg=>Y (dep as+beat) g)=vs,az out=no at *
 unfold xw
 clear run hS hy h hn hb hB hg fT e1
 walk_at "mir"
def mM (ws:List Nat):List (List Nat):=ws.foldl (λS w=>S++S.map (·++[w])) [[]]
theorem ZA (ws:List Nat):∀S:List (List Nat),(ws.foldl (λS w=>S++S.map (·++[w])) S).length=2 ^ ws.length*S.length:=by
 induction ws with
 |nil=>intro S;simp
 |cons w ws ih=>
  intro S
  rw[bP,ih,aT,aA,aF,kX]
  rw[←Nat.two_mul,nR]
def lQ:Nat->List Int->List Int
 |0,l=>l
 |n+1,l=>lQ n (l++l.map (·+1))
theorem ZC (ws:List Nat):∀S:List (List Nat),(ws.foldl (λS w=>S++S.map (·++[w])) S).map (λx=>(x.length:Int))=lQ ws.length (S.map λx=>(x.length:Int)):=by
 induction ws with
 |nil=>intro S;rfl
 |cons w ws ih=>
  intro S
  rw[bP,ih,aF]
  show lQ _ _=lQ ws.length (S.map (λx=>(x.length:Int))++(S.map λx=>(x.length:Int)).map (·+1))
  refine congrArg (lQ ws.length) ?_
  rw[dw,cM,cM]
  congr 1
  exact dz λx _=>by show((x++[w]).length:Int)=(x.length:Int)+1;simp
theorem Xa (S:List (List Nat)):lY (S.map λx=>D.lst (az x))=some (S.map λx=>(x.length:Int)):=by
 induction S with
 |nil=>rfl
 |cons x S ih=>
  show(lY (S.map λx=>D.lst (az x))).bind _=_
  rw[ih]
  simp[az]
theorem ztg (ws:List Nat):∀(S:List (List Nat)) (W:D) (y2:Option D),2 ^ ws.length*S.length<=1000->(∀x∈S,x.length+ws.length<=1000)->∃z2,gm (gV 2) wz (az ws) [some W,some (.lst (S.map λx=>D.lst (az x))),y2]=some (.nx [some W,some (.lst ((ws.foldl (λS w=>S++S.map (·++[w])) S).map λx=>D.lst (az x))),z2]):=by
 induction ws with
 |nil=>intro S W y2 _ _;exact⟨y2,rfl⟩
 |cons w ws ih=>
  intro S W y2 hS hx
  rw[aF,kX,nR]at hS
  have hp:1<=2 ^ ws.length:=Nat.one_le_two_pow
  have tf:2*S.length<=1000:=bD (Nat.le_mul_of_pos_left _ hp) hS
  obtain⟨z2,h2⟩:=ih (S++S.map (·++[w])) W (some (.int (w:Int))) (by rw[aT,aA,show S.length+S.length=2*S.length by omega];exact hS) (λx tT=>by
   rcases aU.mp tT with h|h
   ·have:=hx x h;rw[aF]at this;omega
   ·obtain⟨y,hy,rfl⟩:=dc.mp h
    have:=hx y hy
    rw[aF]at this
    simp;omega)
  refine⟨z2,?_⟩
  have q:JU [some W,some (.lst (S.map λx=>D.lst (az x))),some (.int (w:Int))]=some (.lst ((S.map (·++[w])).map λx=>D.lst (az x))):=by
   rw[cM]
   refine ju (λx:List Nat=>D.lst (az x)) _ S rfl (by omega) λx tT=>⟨[some (.lst (az x)),some (.int (w:Int))],rfl,?_⟩
   have ad:ez (.lst (az x)) (.lst [.int (w:Int)])=some (.lst (az (x++[w]))):=by
    have:=hx x tT
    rw[aF]at this
    show(if _ then some (D.lst _)else none)=_
    rw[if_pos (by simp[az];omega)]
    simp[az]
   show _=some (D.lst (az (x++[w])))
   generalize az (x++[w])=R,az x=X at *
   clear h2 ih hx tT hS hp tf
   walk_at "mir"
  have ad:wO (.lst (S.map λx=>D.lst (az x))) (.lst ((S.map (·++[w])).map λx=>D.lst (az x)))=some (.lst ((S++S.map (·++[w])).map λx=>D.lst (az x))):=by
   show(if _ then some (D.lst _)else none)=_
   rw[if_pos (by simp;omega),dw]
  rw[bP,←h2]
  have st:wz [some W,some (.lst (S.map λx=>D.lst (az x))),some (.int (w:Int))]=some (.nx [some W,some (.lst ((S++S.map (·++[w])).map λx=>D.lst (az x))),some (.int (w:Int))]):=by
   generalize (S++S.map (·++[w])).map (λx=>D.lst (az x))=R at *
   generalize (S.map (·++[w])).map (λx=>D.lst (az x))=R2,S.map (λx=>D.lst (az x))=R1 at *
   unfold wz
   generalize JU=Q at *
   clear h2 ih hx hS hp tf
   walk_at "mir"
  show(gV 2 (D.int (w:Int)) _).bind _=_
  show(wz [some W,some (.lst (S.map λx=>D.lst (az x))),some (.int (w:Int))]).bind _=_
  rw[st];rfl
def rD (n i:Nat):Int:=if i<n then Int.ofNat (i%2+i/2%2+i/4%2+i/8%2+i/16%2+i/32%2+i/64%2+i/128%2)else 0
theorem Pf:∀(n:Nat) (l:List Int),(lQ n l).length=2 ^ n*l.length
 |0,l=>by simp[lQ]
 |n+1,l=>by
  show(lQ n (l++l.map (·+1))).length=_
  rw[Pf n,aT,aA,kX,←Nat.two_mul,nR]
def tD (n:Nat)(l:List Int):Bool:=(aV l.length).all λi=>decide (l.getD i 0=rD n i)
theorem ZD:tD 2 (lQ 1 [0])=true/\tD 4 (lQ 2 [0])=true/\tD 8 (lQ 3 [0])=true/\tD 16 (lQ 4 [0])=true/\tD 32 (lQ 5 [0])=true/\tD 64 (lQ 6 [0])=true/\tD 128 (lQ 7 [0])=true/\tD 256 (lQ 8 [0])=true:=by decide +kernel
theorem Pz {n:Nat}{l:List Int}(h:tD n l=true)(hl:l.length=n):(λi=>l.getD i 0)=rD n:=by
 funext i
 by_cases hi:i<n
 ·have:=cZ.mp h i (bX.mpr (by omega))
  exact of_decide_eq_true this
 ·unfold rD
  rw[if_neg hi,aE,ck (by omega)];rfl
def Fo (kf:Nat->Int):List Nat->Bool
 |[]=>true
 |[_]=>true
 |i::j::l=>decide (kf i<=kf j)&&Fo kf (j::l)
theorem PB (kf:Nat->Int):∀l:List Nat,Fo kf l=true->l.Pairwise λi j=>kf i<=kf j
 |[],_=>.nil
 |[_],_=>by simp
 |i::j::l,h=>by
  unfold Fo at h
  simp only[bw,decide_eq_true_eq]at h
  have ih:=PB kf (j::l) h.2
  refine jY.cons (λx hx=>?_) ih
  rcases av.mp hx with rfl|hx
  ·exact h.1
  ·exact Int.le_trans h.1 ((cQ.mp ih).1 x hx)
def rX (n:Nat)(kf:Nat->Int)(π:List Nat):Bool:=(π.length==n)&&(π.all λi=>decide (i<n))&&decide π.Nodup&&Fo kf π
noncomputable def rT (n:Nat)(kf:Nat->Int):Bool:=match L2.TS.tsort n kf with
 |some π=>L2.TS.frc (π.map L2.TS.Ix.mk) λρ=>rX n kf (ρ.map L2.TS.Ix.n)
 |none=>false
theorem Hf:rT 2 (rD 2)=true:=by decide +kernel
theorem Hg:rT 4 (rD 4)=true:=by decide +kernel
theorem Hh:rT 8 (rD 8)=true:=by decide +kernel
theorem Hi:rT 16 (rD 16)=true:=by decide +kernel
theorem Hj:rT 32 (rD 32)=true:=by decide +kernel
theorem Hk:rT 64 (rD 64)=true:=by decide +kernel
theorem Hl:rT 128 (rD 128)=true:=by decide +kernel
theorem Hm:rT 256 (rD 256)=true:=by decide +kernel
structure Fj (n:Nat)(kf:Nat->Int)(π:List Nat):Prop where
 len:π.length=n
 lt:∀i∈π,i<n
 nd:π.Nodup
 srt:π.Pairwise λi j=>kf i<=kf j
theorem X5 {n:Nat}{kf:Nat->Int}{π:List Nat}(h:rX n kf π=true):Fj n kf π:=by
 unfold rX at h
 simp only[bw]at h
 obtain⟨⟨⟨h1,h2⟩,h3⟩,h4⟩:=h
 exact⟨eq_of_beq h1,λi hi=>of_decide_eq_true (cZ.mp h2 i hi),of_decide_eq_true h3,PB kf π h4⟩
theorem zth {n:Nat}{kf:Nat->Int}(h:rT n kf=true):∃π,L2.TS.tsort n kf=some π/\Fj n kf π:=by
 unfold rT at h
 cases e:L2.TS.tsort n kf with
 |none=>rw[e]at h;cases h
 |some π=>
  rw[e]at h
  dsimp only at h
  rw[L2.TS.frc_eq,cM]at h
  have:(L2.TS.Ix.n ∘ L2.TS.Ix.mk)=id:=rfl
  rw[this,List.map_id]at h
  exact⟨π,rfl,X5 h⟩
theorem ZE {n:Nat}(hn:n<=8):∃π,L2.TS.tsrt (lQ n [0])=some π/\Fj (2 ^ n) (λi=>(lQ n [0]).getD i 0) π:=by
 have big:∀m N,2<=N->2 ^ m=N->tD N (lQ m [0])=true->rT N (rD N)=true->∃π,L2.TS.tsrt (lQ m [0])=some π/\Fj (2 ^ m) (λi=>(lQ m [0]).getD i 0) π:=by
  intro m N h2 hN h3 h4
  have hl:(lQ m [0]).length=N:=by rw[Pf,←hN];simp
  obtain⟨π,e,s⟩:=zth h4
  refine⟨π,?_,by rw[Pz h3 hl,hN];exact s⟩
  unfold L2.TS.tsrt
  rw[if_neg (by omega),hl,Pz h3 hl,e]
 obtain⟨p1,p2,p3,p4,p5,p6,p7,p8⟩:=ZD
 have:n=0\/n=1\/n=2\/n=3\/n=4\/n=5\/n=6\/n=7\/n=8:=by omega
 rcases this with rfl|rfl|rfl|rfl|rfl|rfl|rfl|rfl|rfl
 ·exact⟨[0],rfl,rfl,by simp,by simp,by simp⟩
 ·exact big 1 2 (by decide) rfl p1 Hf
 ·exact big 2 4 (by decide) rfl p2 Hg
 ·exact big 3 8 (by decide) rfl p3 Hh
 ·exact big 4 16 (by decide) rfl p4 Hi
 ·exact big 5 32 (by decide) rfl p5 Hj
 ·exact big 6 64 (by decide) rfl p6 Hk
 ·exact big 7 128 (by decide) rfl p7 Hl
 ·exact big 8 256 (by decide) rfl p8 Hm
theorem zti {n:Nat}{π:List Nat}(nd:π.Nodup)(lt:∀i∈π,i<n)(hl:π.length=n){i:Nat}(hi:i<n):i∈π:=by
 refine Classical.byContradiction λno=>?_
 have:=Kahn.len_le (many:=n) (p:=i::π) (bp.mpr ⟨no,nd⟩) (λx hx=>by
  rcases av.mp hx with rfl|hx
  ·exact hi
  ·exact lt x hx)
 rw[aF]at this
 omega
theorem ztj {ws:List Nat}(h:ws.length<=8):∃L:List (List Nat),uu [.lst (az ws)]=some (.lst (L.map λx=>D.lst (az x)))/\(∀x,x∈L↔x∈mM ws)/\L.Pairwise λx y=>x.length<=y.length:=by
 obtain⟨π,e,s⟩:=ZE h
 have hp:2 ^ ws.length<=256:=fZ (show 0<2 by decide) h
 obtain⟨z2,g⟩:=ztg ws [[]] (.lst (az ws)) none (by simpa using(by omega:2 ^ ws.length<=1000)) (λx hx=>by
  rw[aN.mp hx]
  simp;omega)
 have sl:(mM ws).length=2 ^ ws.length:=by unfold mM;rw[ZA];simp
 have sz:(mM ws).map (λx=>(x.length:Int))=lQ ws.length [0]:=ZC ws [[]]
 have at':∀i,i<2 ^ ws.length->∃x,(mM ws)[i]?=some x/\(mM ws).getD i []=x:=λi hi=>by
  rw[aE,aR (by omega)]
  exact⟨_,rfl,rfl⟩
 refine⟨π.map λi=>(mM ws).getD i [],?_,λx=>⟨λhx=>?_,λhx=>?_⟩,?_⟩
 ·have so:kE (.lst ((mM ws).map λx=>D.lst (az x)))=some (.lst ((π.map λi=>(mM ws).getD i []).map λx=>D.lst (az x))):=by
   unfold kE
   dsimp only
   rw[Xa,bY,sz,e,bY,if_pos ⟨⟨by rw[aA,sl];omega,by rw[s.len];omega,λi hi=>by rw[aA,sl];exact s.lt i hi⟩,s.nd⟩]
   congr 2
   rw[cM]
   refine dz λi hi=>?_
   have hi:=s.lt i hi
   show((mM ws).map λx=>D.lst (az x)).getD i .non=D.lst (az ((mM ws).getD i []))
   rw[aE,aE,bi,aR (by omega)];rfl
  have g:gm (gV 2) wz (az ws) [some (.lst (az ws)),some (.lst [.lst []]),none]=some (.nx [some (.lst (az ws)),some (.lst ((mM ws).map λx=>D.lst (az x))),z2]):=g
  generalize (π.map λi=>(mM ws).getD i []).map (λx=>D.lst (az x))=R,(mM ws).map (λx=>D.lst (az x))=S,az ws=W at *
  clear s e sl hp h sz at'
  unfold uu
  generalize wz=B at *
  walk_at "mir"
 ·obtain⟨i,hi,rfl⟩:=dc.mp hx
  obtain⟨x,h1,h2⟩:=at' i (s.lt i hi)
  rw[h2]
  exact fV h1
 ·obtain⟨i,hi⟩:=cY.mp hx
  have iC:i<2 ^ ws.length:=by rw[←sl];exact(aX.mp hi).1
  refine dc.mpr ⟨i,zti s.nd s.lt s.len iC,?_⟩
  rw[aE,hi];rfl
 ·rw[qR]
  refine(jY.and_mem.mp s.srt).imp λ{i j} q=>?_
  obtain⟨hi,hj,q⟩:=q
  have kf:∀i,i<2 ^ ws.length->(lQ ws.length [0]).getD i 0=(((mM ws).getD i []).length:Int):=λi hi=>by
   obtain⟨x,h1,h2⟩:=at' i hi
   rw[h2,←sz,aE,bi,h1];rfl
  rw[kf i (s.lt i hi),kf j (s.lt j hj)]at q
  omega
theorem ZF {i:Nat}{p:BF}{ρ:L3.Env}(c:List Nat->Bool):∀L:List (List Nat),(∀x∈L,p (ρ.set i (some (.lst (az x))))=some (c x))->mV i p ρ (L.map λx=>D.lst (az x))=match L.find? c with
  |some x=>some (.rt (.lst (az x)))
  |none=>some (.nx (ρ.set i none)):=by
 intro L
 induction L with
 |nil=>intro _;rfl
 |cons x L ih=>
  intro h
  show(p (ρ.set i (some (.lst (az x))))).bind _=_
  rw[h x ak,bY]
  cases e:c x with
  |true=>rw[nV e];rfl
  |false=>rw[nU (by rw[e];decide)];exact ih λy hy=>h y (aj _ hy)
theorem NF {c:List Nat->Bool}:∀{L:List (List Nat)} {x:List Nat},(L.Pairwise λx y=>x.length<=y.length)->L.find? c=some x->x∈L/\c x=true/\∀y∈L,y.length<x.length->c y=false
 |[],_,_,e=>by cases e
 |a::L,x,pw,e=>by
  obtain⟨p1,p2⟩:=cQ.mp pw
  cases h:c a with
  |true=>
   rw[nV h]at e
   cases e
   refine⟨ak,h,λy hy hl=>?_⟩
   rcases av.mp hy with rfl|hy
   ·omega
   ·have:=p1 y hy;omega
  |false=>
   rw[nU (by rw[h];decide)]at e
   obtain⟨q1,q2,q3⟩:=NF p2 e
   refine⟨aj _ q1,q2,λy hy hl=>?_⟩
   rcases av.mp hy with rfl|hy
   ·exact h
   ·exact q3 y hy hl
theorem X6 (ws:List Nat):∀(S:List (List Nat)) (y:List Nat),y∈S->(y++ws)∈ws.foldl (λS w=>S++S.map (·++[w])) S:=by
 induction ws with
 |nil=>intro S y h;simpa using h
 |cons w ws ih=>
  intro S y h
  have:=ih (S++S.map (·++[w])) (y++[w]) (aU.mpr (.inr (dc.mpr ⟨y,h,rfl⟩)))
  rw[cC]at this
  exact this
theorem ztk {ns:List D}{as:List dB}{many B:Nat}{going beat:Int}{pl:Nat->Int}{puts:List Fl}{lf:List Nat->Bool}(hl:as.length<=1000)(h8:(ke as).length<=8)
  (H:∀out:List Nat,xw [di (bL ns as) many pl B,.lst (puts.map cq),.int going,.int beat,.lst (az out)]=some (.bl (lf out))) :
  ∃w,jc [di (bL ns as) many pl B,.lst (puts.map cq),.int going,.int beat]=some w/\((lf (ke as)=true/\w=.non)\/(lf (ke as)=false/\∃x,w=.lst (az x)/\x∈mM (ke as)/\lf x=false/\∀y∈mM (ke as),y.length<x.length->lf y=true)):=by
 have q:=Zz (ns:=ns) (as:=as) (many:=many) (B:=B) (pl:=pl) hl [some (di (bL ns as) many pl B),some (.lst (puts.map cq)),some (.int going),some (.int beat),none,none] rfl
 obtain⟨L,so,mem,pw⟩:=ztj h8
 have ln:eA [.lst (az (ke as))]=some (.int ((ke as).length:Int)):=by rw[jh];simp[az]
 have c8:¬((ke as).length:Int) > 8:=by omega
 have sc (r:L3.Env):Fx (eC .non) r=some .non:=rfl
 have he:=H (ke as)
 cases lw:lf (ke as)with
 |true=>
  refine⟨.non,?_,.inl ⟨rfl,rfl⟩⟩
  rw[lw]at he
  generalize di (bL ns as) many pl B=TB,puts.map cq=Ep,az (ke as)=W at *
  clear H mem pw so h8
  unfold jc
  generalize jr=Q at *
  walk_at "mir"
 |false=>
  rw[lw]at he
  have fd:=ZF (i:=5) (p:=bNot (tb (λρ=>((aCons (eV 0) (aCons (eV 1) (aCons (eV 2) (aCons (eV 3) (aCons (eV 5) aNil))))) ρ).bind λds=>xw (ds++[])))) (ρ:=[some (di (bL ns as) many pl B),some (.lst (puts.map cq)),some (.int going),some (.int beat),some (.lst (az (ke as))),none]) (λx=>!lf x) L (λx hx=>by
   have:=H x
   show bNot _ [some (di (bL ns as) many pl B),some (.lst (puts.map cq)),some (.int going),some (.int beat),some (.lst (az (ke as))),some (.lst (az x))]=_
   generalize di (bL ns as) many pl B=TB,puts.map cq=Ep,az (ke as)=W,az x=X,lf x=bb at *
   clear H mem pw so h8 q he lw
   cases bb<;>walk_at "mir")
  have hs:L.find? (λx=>!lf x)≠none:=λz=>by
   have:=kj.mp z (ke as) ((mem _).mpr (by have:=X6 (ke as) [[]] [] (aN.mpr rfl);rw[lS]at this;exact this))
   rw[lw]at this
   exact this rfl
  obtain⟨x,hx⟩:=Option.ne_none_iff_exists'.mp hs
  obtain⟨x1,x2,x3⟩:=NF pw hx
  rw[hx]at fd
  dsimp only at fd
  refine⟨.lst (az x),?_,.inr ⟨rfl,x,rfl,(mem x).mp x1,by simpa using x2,λy hy hl=>by have:=x3 y ((mem y).mpr hy) hl;simpa using this⟩⟩
  have sf:oB 5 (λρ=>((aCons (eV 4) aNil) ρ).bind λds=>uu (ds++[])) (bNot (tb (λρ=>((aCons (eV 0) (aCons (eV 1) (aCons (eV 2) (aCons (eV 3) (aCons (eV 5) aNil))))) ρ).bind λds=>xw (ds++[])))) [some (di (bL ns as) many pl B),some (.lst (puts.map cq)),some (.int going),some (.int beat),some (.lst (az (ke as))),none]=some (.rt (.lst (az x))):=by
   show(uu [.lst (az (ke as))]).bind _=_
   rw[so]
   exact fd
  generalize di (bL ns as) many pl B=TB,puts.map cq=Ep,az (ke as)=W,az x=DU at *
  clear H mem pw so h8 fd lw hs hx x1 x2 x3
  unfold jc
  generalize jr=Q,(oB 5 (λρ=>((aCons (eV 4) aNil) ρ).bind λds=>uu (ds++[])) (bNot (tb (λρ=>((aCons (eV 0) (aCons (eV 1) (aCons (eV 2) (aCons (eV 3) (aCons (eV 5) aNil))))) ρ).bind λds=>xw (ds++[])))))=SF1 at *
  walk_at "mir"
theorem Kt (neg:Bool)(A B:List Nat):gA neg (.lst (az A)) (.lst (az B))=some (.bl (if neg then !decide (A=B)else decide (A=B))):=by
 have:=(El Ei).eq (by decide) (neg:=neg) (A.map λ(x:Nat)=>(x:Int)) (B.map λ(x:Nat)=>(x:Int))
 have e:∀w:List Nat,(El Ei).enc (w.map λ(x:Nat)=>(x:Int))=.lst (az w):=λw=>by
  show D.lst ((w.map λ(x:Nat)=>(x:Int)).map D.int)=_
  rw[cM];rfl
 rw[e,e]at this
 have hd:decide ((A.map λ(x:Nat)=>(x:Int))=B.map λ(x:Nat)=>(x:Int))=decide (A=B):=decide_eq_decide.mpr (List.map_inj_right (λx y h=>by omega))
 rw[hd]at this
 exact this
theorem ztl (ws:List Nat):∀(S:List (List Nat)) (y x:List Nat),y∈S->x.Sublist ws->(y++x)∈ws.foldl (λS w=>S++S.map (·++[w])) S:=by
 induction ws with
 |nil=>intro S y x h hx;rw[List.sublist_nil.mp hx];simpa using h
 |cons w ws ih=>
  intro S y x h hx
  cases hx with
  |cons _ hx=>exact ih _ y x (aU.mpr (.inl h)) hx
  |cons_cons _ hx=>
   rename_i x
   have:=ih (S++S.map (·++[w])) (y++[w]) x (aU.mpr (.inr (dc.mpr ⟨y,h,rfl⟩))) hx
   rw[cC]at this
   exact this
theorem ZG (ws:List Nat):∀(S:List (List Nat)) (x:List Nat),x∈ws.foldl (λS w=>S++S.map (·++[w])) S->∃y∈S,∃z,z.Sublist ws/\x=y++z:=by
 induction ws with
 |nil=>intro S x h;exact⟨x,h,[],.slnil,by simp⟩
 |cons w ws ih=>
  intro S x h
  obtain⟨y,hy,z,hz,rfl⟩:=ih _ x h
  rcases aU.mp hy with hy|hy
  ·exact⟨y,hy,z,.cons _ hz,rfl⟩
  ·obtain⟨v,hv,rfl⟩:=dc.mp hy
   exact⟨v,hv,w::z,.cons_cons _ hz,by simp⟩
theorem zev {ws x:List Nat}:x∈mM ws↔x.Sublist ws:=by
 constructor
 ·intro h
  obtain⟨y,hy,z,hz,rfl⟩:=ZG ws [[]] x h
  rw[aN.mp hy];exact hz
 ·intro h
  have:=ztl ws [[]] [] x (aN.mpr rfl) h
  exact this
theorem ZH:((mM (aV 9)).all λx=>L3.SW2.okS (x.map λk:Nat=>(k:Int)))=true:=by decide +kernel
theorem ztm {x:List Nat}(h:x.Sublist (aV 9)):kF (.lst (az x))=some (.lst (az x)):=by
 have ok:=cZ.mp ZH x (zev.mpr h)
 have hl:x.length<=9:=by have:=h.length_le;simpa using this
 have e:gc (az x)=some (x.map λk:Nat=>(k:Int)):=Ks (λk:Nat=>(k:Int)) x
 unfold kF
 dsimp only
 rw[e,bY,if_pos ⟨by rw[aA];omega,ok⟩]
 have pw:x.Pairwise (· < ·):=nW.sublist h
 have:ni (x.map λk:Nat=>(k:Int))=x.map λk:Nat=>(k:Int):=JR (JY _) (j5 _) (by
  rw[qR]
  exact pw.imp λh=>by omega)
 rw[this]
 unfold az
 rw[cM];rfl
def okN (r:List Nat)(n:Nat):Bool:=match r.getLast? with
 |none=>true
 |some l=>decide (l<n)
def gk (r ws:List Nat):List (List Nat):=(ws.filter (okN r)).map λn=>r++[n]
theorem PV (r:List Nat)(hr:r.length<=1000){f0 f1:Option D}:∀(ws:List Nat) (A:List (List Nat)) (y4:Option D),A.length+ws.length<16777216->∃z4,gm (gV 4) xy (az ws) [f0,f1,some (.lst (A.map λx=>D.lst (az x))),some (.lst (az r)),y4]=some (.nx [f0,f1,some (.lst ((A++gk r ws).map λx=>D.lst (az x))),some (.lst (az r)),z4])
 |[],A,y4,_=>⟨y4,by simp[az,gk,gm]⟩
 |n::ws,A,y4,h=>by
  rw[aF]at h
  have e0:=Kt false r []
  have ad:ez (.lst (az r)) (.lst [.int (n:Int)])=some (.lst (az (r++[n]))):=by
   show(if _ then some (D.lst _)else none)=_
   rw[if_pos (by simp[az];omega)]
   simp[az]
  have l1:(A.map λx=>D.lst (az x)).length<16777216:=by rw[aA];omega
  have step:∃A',xy [f0,f1,some (.lst (A.map λx=>D.lst (az x))),some (.lst (az r)),some (.int (n:Int))]=some (.nx [f0,f1,some (.lst (A'.map λx=>D.lst (az x))),some (.lst (az r)),some (.int (n:Int))])/\A'=A++gk r [n]:=by
   have yes:okN r n=true->A++gk r [n]=A++[r++[n]]:=λq=>by unfold gk;simp[q]
   have e1:(A++[r++[n]]).map (λx=>D.lst (az x))=A.map (λx=>D.lst (az x))++[D.lst (az (r++[n]))]:=by simp
   rcases oH r with rfl|⟨r',l,rfl⟩
   ·refine⟨_,?_,(yes rfl).symm⟩
    rw[e1]
    have e0:gA false (.lst (az [])) (.lst [])=some (.bl true):=e0
    generalize az ([]++[n])=RN,az []=R,A.map (λx=>D.lst (az x))=AA at *
    clear yes e1 h
    unfold xy
    walk_at "mir"
   ·simp only[oE]at *
    have e0:gA false (.lst (az (r'++[l]))) (.lst [])=some (.bl false):=by
     rw[show(D.lst [])=.lst (az [])from rfl,e0];simp
    have il:d5 (.lst (az (r'++[l]))) (.int (-1))=some (.int (l:Int)):=by
     rw[O6]
     exact Gz (λ(t:Nat)=>D.int (t:Int)) (j:=r'.length) (.inr (by simp;omega)) (by simp)
    have gl:(r'++[l]).getLast?=some l:=by simp
    by_cases q:l<n
    ·refine⟨_,?_,(yes (by unfold okN;rw[gl];exact decide_eq_true q)).symm⟩
     rw[e1]
     have q':(l:Int)<(n:Int):=by omega
     generalize az (r'++[l]++[n])=RN at *
     generalize az (r'++[l])=R,A.map (λx=>D.lst (az x))=AA at *
     clear yes e1 h gl
     unfold xy
     walk_at "mir"
    ·refine⟨A,?_,?_⟩
     ·have q':¬(l:Int)<(n:Int):=by omega
      generalize az (r'++[l]++[n])=RN at *
      generalize az (r'++[l])=R,A.map (λx=>D.lst (az x))=AA at *
      clear yes e1 h gl
      unfold xy
      walk_at "mir"
     ·have no:okN (r'++[l]) n=false:=by unfold okN;rw[gl];exact decide_eq_false q
      unfold gk
      simp[no]
  obtain⟨A',st,rfl⟩:=step
  have hl:(gk r [n]).length<=1:=by unfold gk;rw[aA];exact iN _ _
  obtain⟨z4,ih⟩:=PV r hr (f0:=f0) (f1:=f1) ws (A++gk r [n]) (some (.int (n:Int))) (by rw[aT];omega)
  refine⟨z4,?_⟩
  have e2:A++gk r (n::ws)=A++gk r [n]++gk r ws:=by
   rw[cC]
   congr 1
   unfold gk
   rw[←dw,←ki];rfl
  rw[e2,←ih]
  show(xy [f0,f1,some (.lst (A.map λx=>D.lst (az x))),some (.lst (az r)),some (.int (n:Int))]).bind _=_
  rw[st];rfl
theorem OA (r ws:List Nat):(gk r ws).length<=ws.length:=by unfold gk;rw[aA];exact iN _ _
theorem PD (ws:List Nat){f0:Option D}:∀(S A:List (List Nat)) (y3 y4:Option D),(∀r∈S,r.length<=1000)->A.length+(S.length+1)*ws.length<16777216->∃z3 z4,gm (gV 3) wn (S.map λx=>D.lst (az x)) [f0,some (.lst (az ws)),some (.lst (A.map λx=>D.lst (az x))),y3,y4]=some (.nx [f0,some (.lst (az ws)),some (.lst ((A++S.flatMap λr=>gk r ws).map λx=>D.lst (az x))),z3,z4])
 |[],A,y3,y4,_,_=>⟨y3,y4,by simp[gm]⟩
 |r::S,A,y3,y4,hr,h=>by
  rw[aF,Nat.add_mul,Nat.one_mul]at h
  have h0:0<=(S.length+1)*ws.length:=cH _
  obtain⟨z4,e1⟩:=PV r (hr r ak) (f0:=f0) (f1:=some (.lst (az ws))) ws A y4 (by omega)
  have hl:=OA r ws
  obtain⟨z3,UV,e2⟩:=PD ws (f0:=f0) S (A++gk r ws) (some (.lst (az r))) z4 (λx hx=>hr x (aj _ hx)) (by rw[aT];omega)
  refine⟨z3,UV,?_⟩
  rw[qP,←cC,←e2]
  have st:wn [f0,some (.lst (az ws)),some (.lst (A.map λx=>D.lst (az x))),some (.lst (az r)),y4]=some (.nx [f0,some (.lst (az ws)),some (.lst ((A++gk r ws).map λx=>D.lst (az x))),some (.lst (az r)),z4]):=e1
  show(wn [f0,some (.lst (az ws)),some (.lst (A.map λx=>D.lst (az x))),some (.lst (az r)),y4]).bind _=_
  rw[st];rfl
theorem X7 {S:List (List Nat)}{ws:List Nat}(hr:∀r∈S,r.length<=1000)(h:(S.length+1)*ws.length<16777216):u0 [.lst (S.map λx=>D.lst (az x)),.lst (az ws)]=some (.lst ((S.flatMap λr=>gk r ws).map λx=>D.lst (az x))):=by
 obtain⟨z3,z4,e⟩:=PD ws (f0:=some (.lst (S.map λx=>D.lst (az x)))) S [] none none hr (by simpa using h)
 rw[lS]at e
 have e:gm (gV 3) wn (S.map λx=>D.lst (az x)) [some (.lst (S.map λx=>D.lst (az x))),some (.lst (az ws)),some (.lst []),none,none]=_:=e
 generalize (S.flatMap λr=>gk r ws).map (λx=>D.lst (az x))=R,S.map (λx=>D.lst (az x))=SS,az ws=W at *
 clear hr h
 unfold u0
 generalize wn=B at *
 walk_at "mir"
structure wL (ws:List Nat)(m:Nat)(r:List Nat):Prop where
 len:r.length=m
 up:r.Pairwise (· < ·)
 mem:∀i∈r,i∈ws
theorem wL.ext {ws r x:List Nat}{m:Nat}(h:wL ws m r)(hx:x∈gk r ws):wL ws (m+1) x:=by
 obtain⟨n,hn,rfl⟩:=dc.mp hx
 have hn:=bF.mp hn
 refine⟨by rw[aT,h.len];rfl,?_,λi hi=>?_⟩
 ·rw[oV]
  refine⟨h.up,by simp,λi hi j hj=>?_⟩
  rw[aN.mp hj]
  rcases oH r with rfl|⟨r',l,rfl⟩
  ·cases hi
  ·simp only[oE]at *
   have q:l<n:=by
    have:=hn.2
    unfold okN at this
    rw[show(r'++[l]).getLast?=some l by simp]at this
    exact of_decide_eq_true this
   rcases aU.mp hi with hi|hi
   ·have:=(oV.mp h.up).2.2 i hi l (aN.mpr rfl)
    omega
   ·rw[aN.mp hi];exact q
 ·rcases aU.mp hi with hi|hi
  ·exact h.mem i hi
  ·rw[aN.mp hi];exact hn.1
theorem wL.sub {ws:List Nat}(hw:ws.Pairwise (· < ·)):∀{r:List Nat},r.Pairwise (· < ·)->(∀i∈r,i∈ws)->r.Sublist ws:=by
 induction ws with
 |nil=>
  intro r _ hm
  cases r with
  |nil=>exact .slnil
  |cons i r=>exact absurd (hm i ak) (by simp)
 |cons w ws ih=>
  intro r hr hm
  obtain⟨p1,p2⟩:=cQ.mp hw
  cases r with
  |nil=>exact List.nil_sublist _
  |cons i r=>
   obtain⟨q1,q2⟩:=cQ.mp hr
   by_cases e:i=w
   ·subst e
    refine .cons_cons _ (ih p2 q2 λj hj=>?_)
    rcases av.mp (hm j (aj _ hj))with rfl|z
    ·have:=q1 j hj;omega
    ·exact z
   ·refine .cons _ (ih p2 hr λj hj=>?_)
    rcases av.mp (hm j hj)with rfl|z
    ·exfalso
     rcases av.mp hj with z|z
     ·exact e z.symm
     ·have a1:=q1 j z
      rcases av.mp (hm i ak)with z2|z2
      ·exact e z2
      ·have a2:=p1 i z2
       omega
    ·exact z
theorem X8 {S:List (List Nat)}{ws:List Nat}:(S.flatMap λr=>gk r ws).length<=S.length*ws.length:=by
 induction S with
 |nil=>simp
 |cons r S ih=>
  rw[qP,aT,aF,Nat.add_mul,Nat.one_mul]
  have:=OA r ws
  omega
theorem Xb {ws:List Nat}{m:Nat}(h8:ws.length<=8)(hm:m<=7):∃S:List (List Nat),ug [.lst (az ws),.int (m:Int)]=some (.lst (S.map λx=>D.lst (az x)))/\∀r∈S,wL ws m r:=by
 obtain⟨ρ',h1,S,y3,rfl,hS,hl⟩:=qr (g:=gV 3) (b:=vi) (lo:=0) (n:=m) (ρ:=[some (.lst (az ws)),some (.int (m:Int)),some (.lst [.lst []]),none])
  (λk ρ=>∃(S:List (List Nat)) (y3:Option D),ρ=[some (.lst (az ws)),some (.int (m:Int)),some (.lst (S.map λx=>D.lst (az x))),y3]/\(∀r∈S,wL ws k r)/\S.length<=8 ^ k)
  ⟨[[]],none,rfl,λr hr=>by rw[aN.mp hr];exact⟨rfl,.nil,λi hi=>by cases hi⟩,by simp⟩ (by
   rintro j ρ hj ⟨S,y3,rfl,hS,hl⟩
   have b1:8 ^ j<=8 ^ 6:=fZ (by decide) (by omega)
   have b2:(8:Nat) ^ 6=262144:=by decide
   have b3:(S.length+1)*ws.length<=(262144+1)*8:=mP (by omega) h8
   have lg:=X7 (S:=S) (ws:=ws) (λr hr=>by rw[(hS r hr).len];omega) (by omega)
   refine⟨_,[some (.lst (az ws)),some (.int (m:Int)),some (.lst ((S.flatMap λr=>gk r ws).map λx=>D.lst (az x))),some (.int (0+(j:Int)))],rfl,.inl ?_,_,_,rfl,λx hx=>?_,?_⟩
   ·generalize (S.flatMap λr=>gk r ws).map (λx=>D.lst (az x))=R at *
    generalize S.map (λx=>D.lst (az x))=SS,az ws=W at *
    clear hS hl b1 b2 b3 hj
    unfold vi
    walk_at "mir"
   ·obtain⟨r,hr,hx⟩:=List.mem_flatMap.mp hx
    exact(hS r hr).ext hx
   ·rw[kX]
    exact bD X8 (mP hl h8))
 refine⟨S,?_,hS⟩
 have rg:hE [.int (m:Int)]=some (kG 0 m):=by rw[EY (by omega) (by omega)];simp
 generalize S.map (λx=>D.lst (az x))=SS,az ws=W,kG 0 m=U at *
 clear hS hl
 unfold ug
 generalize vi=B at *
 walk_at "mir"
theorem N5 {α:Type}(f:α->Bool):∀xs:List α,iS (xs.map λx=>D.bl (f x))=some (xs.map f)
 |[]=>rfl
 |x::xs=>by
  show(iS (xs.map λx=>D.bl (f x))).bind _=_
  rw[N5 f xs]
  rfl
theorem all_map {α:Type}(f:α->Bool)(xs:List α):rS [.lst (xs.map λx=>D.bl (f x))]=some (.bl (xs.all f)):=by
 show(iS _).bind _=_
 rw[N5]
 show some (D.bl ((xs.map f).all id))=_
 rw[kL]
 rfl
theorem X9 (neg:Bool)(n:Nat)(out:List Nat):inD neg (.int (n:Int)) (.lst (az out))=some (.bl (if neg then !decide (n∈out)else decide (n∈out))):=by
 have hs:(az out).all D.sc=true:=by
  unfold az
  rw[kL]
  exact cZ.mpr λx _=>rfl
 have hi:tq (.int (n:Int)) (az out)=decide (n∈out):=by
  unfold tq az
  rw[List.any_map]
  clear hs
  induction out with
  |nil=>rfl
  |cons x out ih=>
   rw[dP,ih]
   show(((x:Int)==(n:Int)) || decide (n∈out))=_
   by_cases h:x=n
   ·subst h;simp
   ·have h':¬(x:Int)=(n:Int):=by omega
    have h2:¬n=x:=λz=>h z.symm
    simp[h',h2]
 show(if _ then _ else _)=_
 rw[if_pos ⟨rfl,hs⟩,hi]
theorem ZI (as:List dB):(ke as).Sublist (aV as.length):=by
 unfold ke
 have h:((as.zipIdx.filter λp=>decide (p.1.c=.wait)).map (·.2)).Sublist (as.zipIdx.map (·.2)):=(List.filter_sublist).map _
 have e:as.zipIdx.map (·.2)=aV as.length:=by
  refine dC (by simp) λi h1 h2=>by simp
 rw[e]at h
 exact h
theorem ZJ {a b:Nat}(h:a<=b):(aV a).Sublist (aV b):=List.range_sublist.mpr h
theorem V7 (tb:D)(ps no:List D)(g b:Int):vw [tb,.lst ps,.int g,.int b,.lst no]=xw [tb,.lst ps,.int g,.int b,.lst no]:=by
 have l1:gM [.lst ps]=some (.lst ps):=rfl
 have l2:gM [.lst no]=some (.lst no):=rfl
 unfold vw xw
 walk_at "mir"
theorem Xc (k:Nat):JV [.int (k:Int)]=some (.bl true):=rfl
theorem Ya {tt w:D}{ps:List D}{g b:Int}{ws:List Nat}{lf:List Nat->Bool}(h8:ws.length<=8)(hw:ws.Sublist (aV 9))(H:∀out:List Nat,xw [tt,.lst ps,.int g,.int b,.lst (az out)]=some (.bl (lf out)))
  (hq:(lf ws=true/\w=.non)\/(lf ws=false/\∃x,w=.lst (az x)/\x∈mM ws/\lf x=false/\∀y∈mM ws,y.length<x.length->lf y=true)) :
  w6 [w,tt,.lst ps,.int g,.int b,.lst (az ws)]=some (.bl true):=by
 have L:∀out:List Nat,vw [tt,.lst ps,.int g,.int b,.lst (az out)]=some (.bl (lf out)):=λout=>(V7 _ _ _ _ _).trans (H out)
 have lw:=L ws
 rcases hq with⟨q,rfl⟩|⟨q,x,rfl,hx,lx,least⟩
 ·rw[q]at lw
  generalize az ws=W at *
  clear H L hw h8
  unfold w6
  walk_at "mir"
 ·rw[q]at lw
  have hs:=zev.mp hx
  have up:ws.Pairwise (· < ·):=nW.sublist hw
  have xl:x.length<=8:=bD hs.length_le h8
  have q2:∀r:L3.Env,r[0]?.join=some (.lst (az x))->ui r=some (.lst (x.map λ_=>D.bl true)):=λr hr=>by
   refine ju (λ(t:Nat)=>D.int (t:Int)) _ x (by
    have:eV 0 r=some (.lst (az x)):=hr
    unfold lsD
    rw[this];rfl) (by omega) λk hk=>⟨[some (.int (k:Int))],rfl,?_⟩
   exact Xc k
  have q1:∀r:L3.Env,r[0]?.join=some (.lst (az x))->r[5]?.join=some (.lst (az ws))->vk r=some (.lst []):=λr hr Mg=>by
   have hc:eY r [5]=[some (.lst (az ws))]:=by unfold eY;simp[Mg]
   have:=qk (own:=1) (cap:=[5]) (fi:=lsD (eV 0)) (g:=gV 0) (p:=tb (e2 (inD true) (eV 0) (eV 1))) (f:=eV 0) (r:=r) (λ(t:Nat)=>D.int (t:Int)) (λ_=>false) (λ(t:Nat)=>D.int (t:Int)) x (by
    have:eV 0 r=some (.lst (az x)):=hr
    unfold lsD
    rw[this];rfl) (by omega) (λk hk=>⟨[some (.int (k:Int)),some (.lst (az ws))],by rw[hc];rfl,by
     have e:=X9 true k ws
     rw[decide_eq_true (hs.subset hk)]at e
     have e:inD true (.int (k:Int)) (.lst (az ws))=some (.bl false):=e
     generalize az ws=W at *
     clear H L q2 hc hr Mg lw least
     walk_at "mir",λz=>by cases z⟩)
   rw[show vk r=_ from this]
   simp
  have q2:=q2 [some (.lst (az x)),some tt,some (.lst ps),some (.int g),some (.int b),some (.lst (az ws)),none] rfl
  have q1:=q1 [some (.lst (az x)),some tt,some (.lst ps),some (.int g),some (.int b),some (.lst (az ws)),none] rfl rfl
  have al:rS [.lst (x.map λ_=>D.bl true)]=some (.bl true):=by
   have:=all_map (λ_:Nat=>true) x
   rw[cZ.mpr (λ_ _=>rfl)]at this
   exact this
  have ss:=ztm (hs.trans hw)
  have e1:gA true (.lst (az x)) (.lst (az x))=some (.bl false):=by rw[Kt];simp
  have e2:gA true (.lst []) (.lst [])=some (.bl false):=rfl
  have Mz:=L x
  rw[lx]at Mz
  have i1:lX "list" (.lst (az x))=some (.bl true):=rfl
  by_cases x0:x=[]
  ·subst x0
   have e3:gA false (.lst (az [])) (.lst [])=some (.bl true):=rfl
   generalize (([]:List Nat).map λ_=>D.bl true)=LL,az []=X,az ws=W at *
   clear H L hw h8 least hs hx up xl
   unfold w6
   generalize vk=Q1,ui=Q2 at *
   walk_at "mir"
  ·have e3:gA false (.lst (az x)) (.lst [])=some (.bl false):=by
    rw[show(D.lst [])=.lst (az [])from rfl,Kt]
    simp[x0]
   have xp:1<=x.length:=by cases x with|nil=>exact absurd rfl x0|cons _ _=>simp
   have ln:eA [.lst (az x)]=some (.int (x.length:Int)):=by rw[jh];simp[az]
   obtain⟨S,ch,Jt⟩:=Xb (ws:=ws) (m:=x.length-1) h8 (by omega)
   rw[show((x.length-1:Nat):Int)=(x.length:Int)-1 by omega]at ch
   obtain⟨ρ',lp,y6,rfl⟩:=jg (g:=gV 6) (b:=uh) (ds:=S.map λx=>D.lst (az x)) (ρ:=[some (.lst (az x)),some tt,some (.lst ps),some (.int g),some (.int b),some (.lst (az ws)),none])
    (λ_ ρ=>∃y6,ρ=[some (.lst (az x)),some tt,some (.lst ps),some (.int g),some (.int b),some (.lst (az ws)),y6]) ⟨_,rfl⟩ (by
    rintro pre d post ρ e ⟨y6,rfl⟩
    have hd:=Fc e
    rw[bi]at hd
    obtain⟨y,hy,rfl⟩:=bW.mp hd
    have ry:=Jt y (fV hy)
    have ly:=L y
    rw[least y (zev.mpr (wL.sub up ry.up ry.mem)) (by rw[ry.len];omega)]at ly
    refine⟨_,[some (.lst (az x)),some tt,some (.lst ps),some (.int g),some (.int b),some (.lst (az ws)),some (.lst (az y))],rfl,.inl ?_,_,rfl⟩
    generalize az y=Y,az x=X,az ws=W at *
    clear H L hw h8 least hs hx up xl Jt ch e hd hy ry q1 q2 lw Mz al ss e1 e2 e3 i1 ln
    unfold uh
    walk_at "mir")
   generalize (x.map λ_=>D.bl true)=LL,S.map (λx=>D.lst (az x))=SS at *
   generalize az x=X,az ws=W at *
   clear H L hw h8 least hs hx up xl Jt xp x0
   unfold w6
   generalize vk=Q1,ui=Q2,uh=B1 at *
   walk_at "mir"
theorem PH (ns:List Int)(i:Int)(hi:0<=i):∃c,vg [.lst (ns.map .int),.int i]=some (.int c):=by
 obtain⟨k,rfl⟩:∃k:Nat,i=k:=⟨i.toNat,by omega⟩
 unfold vg
 by_cases h:k<ns.length
 ·refine⟨ns[k],?_⟩
  have:d5 (.lst (ns.map .int)) (.int (k:Int))=some (.int ns[k]):=Gz D.int (.inl rfl) (by simp[h])
  walk_at "mir"
 ·refine⟨0,?_⟩
  walk_at "mir"
theorem jv (c:Int){k:Int}(h0:0<=k)(h1:k<=1000000):∃r:Nat,xn [.int c,.int k]=some (.int (r:Int))/\r<2147483648:=by
 have m0:fI (.int 31) (.int k)=some (.int (31*k)):=zaw (by decide) (by decide)
 have s0:qL (.int c) (.int (1+31*k))=some (.int (c/2 ^ (1+31*k).toNat)):=zh1 (by omega)
 have fin:∀z:Int,∀m:Int,0<m->m<=2147483648->∃r:Nat,(some (D.int (z%m)):Option D)=some (.int (r:Int))/\r<2147483648:=λz m hm rB=>by
  have a1:=eS z (by omega:m≠0)
  have a2:=gJ z hm
  exact⟨(z%m).toNat,by rw[eK a1],by omega⟩
 generalize hn:(c+7919*k+1)*48271%2147483647=n1
 have b1:0<=n1/\n1<2147483647:=by omega
 have m1:fI (.int 7919) (.int k)=some (.int (7919*k)):=zaw (by decide) (by decide)
 have m2:fI (.int (c+7919*k+1)) (.int 48271)=some (.int ((c+7919*k+1)*48271)):=zob (by decide) (by decide)
 have m3:fI (.int n1) (.int (n1/1009+69621))=some (.int (n1*(n1/1009+69621))):=zaw (by omega) (by omega)
 generalize vE:n1*(n1/1009+69621)%2147483647=n2
 have b2:0<=n2/\n2<2147483647:=by omega
 have m4:fI (.int n2) (.int (n2/2003+39373+k))=some (.int (n2*(n2/2003+39373+k))):=zaw (by omega) (by omega)
 unfold xn
 by_cases hr:(1237940039285380274899124224:Int)<=c
 ·by_cases rq:¬c%2=1
  ·obtain⟨r,e1,e2⟩:=fin (n2*(n2/2003+39373+k)) 2147483629 (by decide) (by decide)
   refine⟨r,?_,e2⟩
   rw[←e1]
   clear e1 e2 fin b1 b2 h0 h1 s0
   walk_at "mir"
  replace rq:c%2=1:=Classical.byContradiction rq
  by_cases hs:c/2 ^ (1+31*k).toNat > 0
  ·obtain⟨r,e1,e2⟩:=fin (c/2 ^ (1+31*k).toNat) 2147483648 (by decide) (by decide)
   refine⟨r,?_,e2⟩
   rw[←e1]
   generalize c/2 ^ (1+31*k).toNat=q at s0 hs
   clear e1 e2 fin hn vE b1 b2 h0 h1
   walk_at "mir"
  ·obtain⟨r,e1,e2⟩:=fin (n2*(n2/2003+39373+k)) 2147483629 (by decide) (by decide)
   refine⟨r,?_,e2⟩
   rw[←e1]
   generalize c/2 ^ (1+31*k).toNat=q at s0 hs
   clear e1 e2 fin b1 b2 h0 h1
   walk_at "mir"
 ·obtain⟨r,e1,e2⟩:=fin (n2*(n2/2003+39373+k)) 2147483629 (by decide) (by decide)
  refine⟨r,?_,e2⟩
  rw[←e1]
  clear e1 e2 fin b1 b2 h0 h1 s0
  walk_at "mir"
theorem Yb {ns:List Int}{r:L3.Env}(i a b:Nat)(h:r[i]?.join=some (.lst (ns.map .int))):lsD (λρ=>((eV i) ρ).bind λd=>((pInt (eC (.int a))) ρ).bind λl=>((pInt (eC (.int b))) ρ).bind λh=>iZ d l h) r=some (((ns.drop a).take (b-a)).map .int):=by
 have e:eV i r=some (.lst (ns.map .int)):=h
 unfold lsD
 show(((eV i) r).bind _).bind _=_
 rw[e]
 show some (cutD (ns.map .int) (some (a:Int)) (some (b:Int)))=_
 rw[N7,uJ,uI]
theorem OB (n:Nat)(f:Nat->Int):d5 (.lst (dQ (n+1) f)) (.int (-1))=some (.int (f n)):=by
 rw[O6]
 exact Gz (λg=>D.int (f g)) (j:=n) (.inr (by simp;omega)) (by simp)
theorem GL {n g:Nat}{f:Nat->Int}(h:g<n):d5 (.lst (dQ n f)) (.int (g:Int))=some (.int (f g)):=AI f h
theorem Yc (c:Int){many:Nat}(h2:2<=many)(h5:many<=5):∃T:Nat->Int,jt [.int c,.int (many:Int)]=some (.lst (dQ many T))/\(∀i j,i<=j->j<many->T i<=T j)/\∀i,i<many->0<=T i/\T i<=500000000:=by
 obtain⟨wd,hw,w0,w1⟩:∃wd:Int,d5 (.lst [.int 4,.int 30,.int 100000000]) (.int (c%3))=some (.int wd)/\0<wd/\wd<=100000000:=by
  have:c%3=0\/c%3=1\/c%3=2:=by omega
  rcases this with e|e|e<;>rw[e]
  ·exact⟨4,rfl,by decide,by decide⟩
  ·exact⟨30,rfl,by decide,by decide⟩
  ·exact⟨100000000,rfl,by decide,by decide⟩
 obtain⟨m,rfl⟩:∃m,many=m+1:=⟨many-1,by omega⟩
 obtain⟨ρ',lp,T,y4,rfl,mono,bd⟩:=qr (g:=gV 4) (b:=vh) (lo:=0) (n:=m) (ρ:=[some (.int c),some (.int ((m+1:Nat):Int)),some (.int wd),some (.lst (dQ 1 λ_=>0)),none])
  (λk ρ=>∃(T:Nat->Int) (y4:Option D),ρ=[some (.int c),some (.int ((m+1:Nat):Int)),some (.int wd),some (.lst (dQ (k+1) T)),y4]/\(∀i j,i<=j->j<=k->T i<=T j)/\∀i,i<=k->0<=T i/\T i<=k*100000000)
  ⟨λ_=>0,none,rfl,λ_ _ _ _=>gY _,λi _=>⟨gY _,by simp⟩⟩ (by
   rintro j ρ hj ⟨T,y4,rfl,mono,bd⟩
   obtain⟨z,m1,_⟩:=jv c (k:=20+(j:Int)) (by omega) (by omega)
   have u1:d7 (.int (z:Int)) (.int wd)=some (.int ((z:Int)%wd)):=wx w0
   have v0:=eS (z:Int) (show wd≠0 by omega)
   have v1:=gJ (z:Int) w0
   generalize (z:Int)%wd=v at *
   have la:=OB j T
   have l1:(dQ (j+1) T).length<16777216:=by rw[Kx];omega
   have e:dQ (j+1) T++[.int (T j+v)]=dQ (j+1+1) λg=>if g=j+1 then T j+v else T g:=by
    unfold dQ
    rw[lT (n:=j+1),dw]
    congr 1
    ·refine dz λg hg=>?_
     have:=bX.mp hg
     show D.int (T g)=D.int (if g=j+1 then T j+v else T g)
     rw[if_neg (by omega)]
    ·simp
   rw[Int.zero_add]
   refine⟨_,[some (.int c),some (.int ((m+1:Nat):Int)),some (.int wd),some (.lst (dQ (j+1+1) λg=>if g=j+1 then T j+v else T g)),some (.int (j:Int))],rfl,.inl ?_,_,_,rfl,λi k RJ hk=>?_,λi hi=>?_⟩
   ·rw[←e]
    generalize dQ (j+1) T=V at *
    clear e mono bd v0 v1 hj
    unfold vh
    walk_at "mir"
   ·have b1:=bd j (aH _)
    by_cases c1:k=j+1
    ·rw[if_pos c1]
     by_cases c2:i=j+1
     ·rw[if_pos c2];exact gY _
     ·rw[if_neg c2]
      have:=mono i j (by omega) (aH _)
      omega
    ·rw[if_neg c1,if_neg (by omega)]
     exact mono i k RJ (by omega)
   ·have b1:=bd j (aH _)
    by_cases c1:i=j+1
    ·rw[if_pos c1];omega
    ·rw[if_neg c1]
     have:=bd i (by omega)
     omega)
 refine⟨T,?_,λi j h1 h3=>mono i j h1 (by omega),λi hi=>by have:=bd i (by omega);omega⟩
 have rg:hE [.int (m:Int)]=some (kG 0 m):=by rw[EY (by omega) (by omega)];simp
 have e1':((m+1:Nat):Int)-1=(m:Int):=by omega
 have lp:gm (gV 4) vh (kG 0 m) [some (.int c),some (.int ((m+1:Nat):Int)),some (.int wd),some (.lst [.int 0]),none]=_:=lp
 generalize ((m+1:Nat):Int)=M,dQ (m+1) T=V,kG 0 m=U at *
 clear mono bd w0 w1 h2 h5
 unfold jt
 generalize vh=B at *
 walk_at "mir"
def kd:Kd->aP
 |.ride=>"ride"
 |.wait=>"wait"
 |.back=>"back"
def isB (b:Bool):Option D->Bool
 |some (.bl c)=>c==b
 |_=>false
theorem PJ {b:Bool}{x:Option D}(h:isB b x=true):x=some (.bl b):=by
 unfold isB at h
 split at h
 ·rw[show _=b from eq_of_beq h]
 ·cases h
def dO (a:dB):D:=.tup [.int (a.s:Int),.int (a.g:Int),.int a.t,.int (a.b:Int),.str (kd a.c)]
structure Pk (many:Nat)(T:Nat->Int)(B:Nat)(a:dB):Prop where
 s:a.s<many
 g:a.g<many
 t0:0<=a.t
 t1:a.t<=1000000000
 b:a.b<=3
 up:a.b=0->a.s<a.g
 r:a.c=.ride->a.b=0
 k:a.c=.back->1<=a.b
 sl:0<=oC T B a
theorem Si (z:Nat):∃b:Nat,d5 (.lst [.int 0,.int 0,.int 1,.int 1,.int 2,.int 3]) (.int ((z:Int)%6))=some (.int (b:Int))/\b<=3:=by
 have:(z:Int)%6=0\/(z:Int)%6=1\/(z:Int)%6=2\/(z:Int)%6=3\/(z:Int)%6=4\/(z:Int)%6=5:=by omega
 rcases this with e|e|e|e|e|e<;>rw[e]
 ·exact⟨0,rfl,by decide⟩
 ·exact⟨0,rfl,by decide⟩
 ·exact⟨1,rfl,by decide⟩
 ·exact⟨1,rfl,by decide⟩
 ·exact⟨2,rfl,by decide⟩
 ·exact⟨3,rfl,by decide⟩
theorem Sh {w x y v:Int}(z:Nat)(P:Int->Prop)(h0:P w)(h1:P x)(h2:P y)(h3:P v):∃s:Int,d5 (.lst [.int w,.int x,.int y,.int v]) (.int ((z:Int)%4))=some (.int s)/\P s:=by
 have:(z:Int)%4=0\/(z:Int)%4=1\/(z:Int)%4=2\/(z:Int)%4=3:=by omega
 rcases this with e|e|e|e<;>rw[e]
 ·exact⟨_,rfl,h0⟩
 ·exact⟨_,rfl,h1⟩
 ·exact⟨_,rfl,h2⟩
 ·exact⟨_,rfl,h3⟩
theorem Sj (z:Nat):∃k:Kd,d5 (.lst [.str "wait",.str "wait",.str "back",.str "ride"]) (.int ((z:Int)%4))=some (.str (kd k)):=by
 have:(z:Int)%4=0\/(z:Int)%4=1\/(z:Int)%4=2\/(z:Int)%4=3:=by omega
 rcases this with e|e|e|e<;>rw[e]
 ·exact⟨.wait,rfl⟩
 ·exact⟨.wait,rfl⟩
 ·exact⟨.back,rfl⟩
 ·exact⟨.ride,rfl⟩
theorem GB (k:Kd):gA false (.str (kd k)) (.str "wait")=some (.bl (decide (k=.wait))):=by
 cases k<;>exact PJ (by decide +kernel)
section
variable {many:Nat}{T:Nat->Int}{B:Nat}{c nw most:Int}
theorem zto {s0 g0 b0:Nat}(hb:b0<=3){e0 e1' e2' e3 e4 e5:Option D}:∃b1:Nat,(sIf (tb (e2 (gA false) (eV 6) (eV 7))) (sSet 8 (eN gN (aCons (eC (.int 1)) (aCons (eV 8) aNil)))) sSkip) [e0,e1',e2',e3,e4,e5,some (.int (s0:Int)),some (.int (g0:Int)),some (.int (b0:Int)),none,none,none,none]=some (.nx [e0,e1',e2',e3,e4,e5,some (.int (s0:Int)),some (.int (g0:Int)),some (.int (b1:Int)),none,none,none,none])/\b1<=3/\(s0=g0->1<=b1):=by
 by_cases q:s0=g0
 ·subst q
  by_cases q2:b0=0
  ·subst q2
   refine⟨1,?_,by decide,λ_=>aH _⟩
   walk_at "mir"
  ·refine⟨b0,?_,hb,λ_=>by omega⟩
   have mm:gN [.int 1,.int (b0:Int)]=some (.int (b0:Int)):=by
    show some (D.int (if(b0:Int) > 1 then(b0:Int)else 1))=_
    by_cases q3:(b0:Int) > 1
    ·rw[if_pos q3]
    ·rw[if_neg q3];congr 2;omega
   simp -implicitDefEqProofs [sIf,sSet,sSkip,tb,jx,eV,eC,e2,eN,aCons,aNil,zcq,mm]
 ·have q':¬(s0:Int)=(g0:Int):=by omega
  refine⟨b0,?_,hb,λz=>absurd z q⟩
  walk_at "mir"
theorem ztp {s0 g0 b1:Nat}(hs:s0<many)(hg:g0<many)(hq:s0=g0->1<=b1){e0 e1' e2' e3 e4 e5:Option D}:∃s1 g1:Nat,(sIf (tb (e2 (gA false) (eV 8) (eC (.int 0)))) (sPar 6 7 (aCons (eN jQ (aCons (eV 6) (aCons (eV 7) aNil))) (aCons (eN gN (aCons (eV 6) (aCons (eV 7) aNil))) aNil))) sSkip) [e0,e1',e2',e3,e4,e5,some (.int (s0:Int)),some (.int (g0:Int)),some (.int (b1:Int)),none,none,none,none]=some (.nx [e0,e1',e2',e3,e4,e5,some (.int (s1:Int)),some (.int (g1:Int)),some (.int (b1:Int)),none,none,none,none])/\s1<many/\g1<many/\(b1=0->s1<g1):=by
 by_cases q:b1=0
 ·subst q
  have ne:s0≠g0:=λz=>by have:=hq z;omega
  refine⟨min s0 g0,max s0 g0,?_,by omega,by omega,λ_=>by omega⟩
  have m1:jQ [.int (s0:Int),.int (g0:Int)]=some (.int ((min s0 g0:Nat):Int)):=by
   show some (D.int (if(g0:Int)<(s0:Int)then(g0:Int)else(s0:Int)))=_
   by_cases q3:(g0:Int)<(s0:Int)
   ·rw[if_pos q3];congr 2;omega
   ·rw[if_neg q3];congr 2;omega
  have m2:gN [.int (s0:Int),.int (g0:Int)]=some (.int ((max s0 g0:Nat):Int)):=by
   show some (D.int (if(g0:Int) > (s0:Int)then(g0:Int)else(s0:Int)))=_
   by_cases q3:(g0:Int) > (s0:Int)
   ·rw[if_pos q3];congr 2;omega
   ·rw[if_neg q3];congr 2;omega
  simp -implicitDefEqProofs [sIf,sPar,sSkip,tb,jx,eV,eC,e2,eN,aCons,aNil,zcq,m1,m2]
 ·have q':¬(b1:Int)=0:=by omega
  refine⟨s0,g0,?_,hs,hg,λz=>absurd z q⟩
  walk_at "mir"
theorem ztq {s1 g1 b1:Nat}(hB:B<=2000000000)(hb:b1<=3)(hs:s1<many)(hg:g1<many)(hq:b1=0->s1<g1)(mono:∀i j,i<=j->j<many->T i<=T j){e0 e3 e4 e5:Option D}:∃s2 g2:Nat,(sIf (tb (e2 mK (e2 ez (e2 d5 (eV 1) (eV 7)) (e2 fI (eV 2) (eV 8))) (e2 d5 (eV 1) (eV 6)))) (sPar 6 7 (aCons (eV 7) (aCons (eV 6) aNil))) sSkip) [e0,some (.lst (dQ many T)),some (.int (B:Int)),e3,e4,e5,some (.int (s1:Int)),some (.int (g1:Int)),some (.int (b1:Int)),none,none,none,none]=some (.nx [e0,some (.lst (dQ many T)),some (.int (B:Int)),e3,e4,e5,some (.int (s2:Int)),some (.int (g2:Int)),some (.int (b1:Int)),none,none,none,none])/\s2<many/\g2<many/\(b1=0->s2<g2)/\0<=T g2+(B:Int)*(b1:Int)-T s2:=by
 have i1:=GL (n:=many) (f:=T) hs
 have i2:=GL (n:=many) (f:=T) hg
 have ml:fI (.int (B:Int)) (.int (b1:Int))=some (.int ((B:Int)*(b1:Int))):=zaw (by omega) (by omega)
 have nn:0<=(B:Int)*(b1:Int):=Int.mul_nonneg (by omega) (by omega)
 generalize (B:Int)*(b1:Int)=BB at *
 by_cases q:T g1+BB<T s1
 ·refine⟨g1,s1,?_,hg,hs,λz=>?_,by omega⟩
  ·generalize dQ many T=V at *
   clear mono nn hb hs hg hq
   walk_at "mir"
  ·have:=mono s1 g1 (fC (hq z)) hg
   omega
 ·refine⟨s1,g1,?_,hs,hg,hq,by omega⟩
  generalize dQ many T=V at *
  clear mono nn hb hs hg hq
  walk_at "mir"
end
theorem ZK {many:Nat}{T:Nat->Int}{B:Nat}(c nw most:Int)(h2:2<=many)(h5:many<=5)(hB:B<=2000000000)(mono:∀i j,i<=j->j<many->T i<=T j) :
  ∃a:dB,jd [.int c,.lst (dQ many T),.int (B:Int),.int nw,.int most]=some (dO a)/\Pk many T B a/\(a.c=.wait->nw<most):=by
 obtain⟨z1,m1,_⟩:=jv c (k:=1) (by decide) (by decide)
 obtain⟨z2,m2,_⟩:=jv c (k:=2) (by decide) (by decide)
 obtain⟨z3,m3,_⟩:=jv c (k:=3) (by decide) (by decide)
 obtain⟨z4,m4,_⟩:=jv c (k:=4) (by decide) (by decide)
 obtain⟨z5,m5,_⟩:=jv c (k:=5) (by decide) (by decide)
 have u1:d7 (.int (z1:Int)) (.int (many:Int))=some (.int ((z1%many:Nat):Int)):=by rw[wx (by omega)];simp
 have u2:d7 (.int (z2:Int)) (.int (many:Int))=some (.int ((z2%many:Nat):Int)):=by rw[wx (by omega)];simp
 have g1:z1%many<many:=qU _ (by omega)
 have g2:z2%many<many:=qU _ (by omega)
 generalize z1%many=s0,z2%many=g0 at *
 obtain⟨b0,x3,LR⟩:=Si z3
 obtain⟨b1,p1,rn,Md⟩:=zto (s0:=s0) (g0:=g0) LR (e0:=some (.int c)) (e1':=some (.lst (dQ many T))) (e2':=some (.int (B:Int))) (e3:=some (.int nw)) (e4:=some (.int most)) (e5:=some (.int (many:Int)))
 obtain⟨s1,g1',p2,vH,LZ,Me⟩:=ztp (many:=many) g1 g2 Md (e0:=some (.int c)) (e1':=some (.lst (dQ many T))) (e2':=some (.int (B:Int))) (e3:=some (.int nw)) (e4:=some (.int most)) (e5:=some (.int (many:Int)))
 obtain⟨s2,rW,p3,oQ,mX,Mf,room⟩:=ztq hB rn vH LZ Me mono (e0:=some (.int c)) (e3:=some (.int nw)) (e4:=some (.int most)) (e5:=some (.int (many:Int)))
 obtain⟨X,x4,hX⟩:=Sh (w:=0) (x:=1) (y:=c%5) (v:=c%1000000001) z4 (λs=>0<=s) (by omega) (by omega) (by omega) (by omega)
 obtain⟨k,x5⟩:=Sj z5
 have kw:=GB k
 have i1:=GL (n:=many) (f:=T) oQ
 have i2:=GL (n:=many) (f:=T) mX
 have ml:fI (.int (B:Int)) (.int (b1:Int))=some (.int ((B:Int)*(b1:Int))):=zaw (by omega) (by omega)
 have C0:∀t:Int,oC T B ⟨k,s2,rW,t,b1⟩=T rW+(B:Int)*(b1:Int)-T s2-t:=λ_=>rfl
 obtain⟨R,hR⟩:∃R:Int,R=T rW+(B:Int)*(b1:Int)-T s2:=⟨_,rfl⟩
 rw[←hR]at room
 obtain⟨sv,IT⟩:∃sv:Int,sv=if X<R then X else R:=⟨_,rfl⟩
 have n1:jQ [.int R,.int X]=some (.int sv):=by rw[IT];rfl
 have UF:0<=sv/\sv<=R:=by
  rw[IT]
  by_cases q:X<R
  ·rw[if_pos q];omega
  ·rw[if_neg q];omega
 obtain⟨tv,IU⟩:∃tv:Int,tv=if R-sv<1000000000 then R-sv else 1000000000:=⟨_,rfl⟩
 have n2:jQ [.int 1000000000,.int (R-sv)]=some (.int tv):=by rw[IU];rfl
 have JM:0<=tv/\tv<=1000000000/\tv<=R-sv:=by
  rw[IU]
  by_cases q:R-sv<1000000000
  ·rw[if_pos q];omega
  ·rw[if_neg q];omega
 clear IT IU hX
 have ln:eA [.lst (dQ many T)]=some (.int (many:Int)):=by rw[jh,Kx]
 have mk:∀(kk:Kd) (bb:Nat),bb=b1->(kk=.ride->bb=0)->(kk=.back->1<=bb)->Pk many T B ⟨kk,s2,rW,tv,bb⟩:=λkk bb e r1 r2=>by
  subst e
  exact⟨oQ,mX,JM.1,JM.2.1,rn,Mf,r1,r2,by
   show 0<=T rW+(B:Int)*(bb:Int)-T s2-tv
   rw[←hR];omega⟩
 have body:∀d:D,(∀SR:SF,SR=(sSeq (sIf (bAnd (tb (e2 (gA false) (eV 12) (eC (.str "wait")))) (tb (e2 mK (eV 3) (eV 4)))) (sRet (λρ=>((aCons (eV 6) (aCons (eV 7) (aCons (eV 11) (aCons (eV 8) (aCons (eC (.str "wait")) aNil))))) ρ).bind λds=>some (.tup ds))) sSkip)
   (sSeq (sIf (tb (e2 (gA false) (eV 8) (eC (.int 0)))) (sRet (λρ=>((aCons (eV 6) (aCons (eV 7) (aCons (eV 11) (aCons (eC (.int 0)) (aCons (eC (.str "ride")) aNil))))) ρ).bind λds=>some (.tup ds))) sSkip)
   (sRet (λρ=>((aCons (eV 6) (aCons (eV 7) (aCons (eV 11) (aCons (eV 8) (aCons (eC (.str "back")) aNil))))) ρ).bind λds=>some (.tup ds))))) ->
   SR [some (.int c),some (.lst (dQ many T)),some (.int (B:Int)),some (.int nw),some (.int most),some (.int (many:Int)),some (.int (s2:Int)),some (.int (rW:Int)),some (.int (b1:Int)),some (.int R),some (.int sv),some (.int tv),some (.str (kd k))]=some (.rt d))->jd [.int c,.lst (dQ many T),.int (B:Int),.int nw,.int most]=some d:=by
  intro d hd
  unfold jd
  generalize LM:(sSeq (sIf (bAnd (tb (e2 (gA false) (eV 12) (eC (.str "wait")))) (tb (e2 mK (eV 3) (eV 4)))) (sRet (λρ=>((aCons (eV 6) (aCons (eV 7) (aCons (eV 11) (aCons (eV 8) (aCons (eC (.str "wait")) aNil))))) ρ).bind λds=>some (.tup ds))) sSkip)
   (sSeq (sIf (tb (e2 (gA false) (eV 8) (eC (.int 0)))) (sRet (λρ=>((aCons (eV 6) (aCons (eV 7) (aCons (eV 11) (aCons (eC (.int 0)) (aCons (eC (.str "ride")) aNil))))) ρ).bind λds=>some (.tup ds))) sSkip)
   (sRet (λρ=>((aCons (eV 6) (aCons (eV 7) (aCons (eV 11) (aCons (eV 8) (aCons (eC (.str "back")) aNil))))) ρ).bind λds=>some (.tup ds)))))=SR
  replace hd:=hd SR LM.symm
  clear LM
  generalize (sIf (tb (e2 (gA false) (eV 6) (eV 7))) (sSet 8 (eN gN (aCons (eC (.int 1)) (aCons (eV 8) aNil)))) sSkip)=S1,(sIf (tb (e2 (gA false) (eV 8) (eC (.int 0)))) (sPar 6 7 (aCons (eN jQ (aCons (eV 6) (aCons (eV 7) aNil))) (aCons (eN gN (aCons (eV 6) (aCons (eV 7) aNil))) aNil))) sSkip)=S2,(sIf (tb (e2 mK (e2 ez (e2 d5 (eV 1) (eV 7)) (e2 fI (eV 2) (eV 8))) (e2 d5 (eV 1) (eV 6)))) (sPar 6 7 (aCons (eV 7) (aCons (eV 6) aNil))) sSkip)=S3,dQ many T=V,(B:Int)*(b1:Int)=BB at *
  have Ro:T rW+BB-T s2=R:=hR.symm
  clear mk C0 hR vH LZ oQ mX Md Me Mf room UF JM mono hB h2 h5 LR rn g1 g2 kw
  simp -implicitDefEqProofs [mOf,startD,sSeq,sSet,eV,eC,e1,e2,eN,aNil,aCons,zay,zb3,zav,wx,zax,m1,m2,m3,m4,m5,u1,u2,x3,x4,x5,p1,p2,p3,i1,i2,ml,n1,n2,ln,Ro,hd]
 have k1:kd .wait=("wait":aP):=rfl
 have k2:kd .ride=("ride":aP):=rfl
 have k3:kd .back=("back":aP):=rfl
 by_cases q1:k=.wait/\nw<most
 ·refine⟨⟨.wait,s2,rW,tv,b1⟩,body _ λSR hS=>?_,mk .wait b1 rfl nofun nofun,λ_=>q1.2⟩
  rw[hS]
  rw[decide_eq_true q1.1]at kw
  have lt':mK (.int nw) (.int most)=some (.bl true):=by rw[zgu,decide_eq_true q1.2]
  generalize dQ many T=V at *
  simp -implicitDefEqProofs [sSeq,sIf,sRet,sSkip,bAnd,tb,jx,eV,eC,e2,aNil,aCons,kw,lt',dO,k1]
 ·have w0:(bAnd (tb (e2 (gA false) (eV 12) (eC (.str "wait")))) (tb (e2 mK (eV 3) (eV 4)))) [some (.int c),some (.lst (dQ many T)),some (.int (B:Int)),some (.int nw),some (.int most),some (.int (many:Int)),some (.int (s2:Int)),some (.int (rW:Int)),some (.int (b1:Int)),some (.int R),some (.int sv),some (.int tv),some (.str (kd k))]=some false:=by
   generalize dQ many T=V at *
   by_cases q2:k=.wait
   ·rw[decide_eq_true q2]at kw
    have lt':mK (.int nw) (.int most)=some (.bl false):=by rw[zgu,decide_eq_false λz=>q1 ⟨q2,z⟩]
    simp -implicitDefEqProofs [bAnd,tb,jx,eV,eC,e2,kw,lt']
   ·rw[decide_eq_false q2]at kw
    simp -implicitDefEqProofs [bAnd,tb,jx,eV,eC,e2,kw]
  by_cases q3:b1=0
  ·refine⟨⟨.ride,s2,rW,tv,b1⟩,body _ λSR hS=>?_,mk .ride b1 rfl (λ_=>q3) nofun,nofun⟩
   rw[hS]
   generalize dQ many T=V,(bAnd (tb (e2 (gA false) (eV 12) (eC (.str "wait")))) (tb (e2 mK (eV 3) (eV 4))))=W0 at *
   have FZ:(b1:Int)=0:=by omega
   unfold dO
   dsimp only
   rw[FZ]at w0 ⊢
   simp -implicitDefEqProofs [sSeq,sIf,sRet,sSkip,tb,jx,eV,eC,e2,aNil,aCons,zcq,w0,k2]
  ·refine⟨⟨.back,s2,rW,tv,b1⟩,body _ λSR hS=>?_,mk .back b1 rfl nofun (λ_=>by omega),nofun⟩
   rw[hS]
   have FZ:¬(b1:Int)=0:=by omega
   generalize dQ many T=V,(bAnd (tb (e2 (gA false) (eV 12) (eC (.str "wait")))) (tb (e2 mK (eV 3) (eV 4))))=W0 at *
   simp -implicitDefEqProofs [sSeq,sIf,sRet,sSkip,tb,jx,eV,eC,e2,aNil,aCons,zcq,w0,q3,FZ,dO,k3]
theorem Zb (k:Kd):gA false (.str (kd k)) (.str "ride")=some (.bl (decide (k=.ride))):=by
 cases k<;>exact PJ (by decide +kernel)
theorem Yd (a:dB)(hr:a.c=.ride->a.b=0):vv [dO a]=some (bU a):=by
 obtain⟨k,s,g,t,b⟩:=a
 have e1:=Zb k
 have e2:=GB k
 unfold dO
 cases k with
 |ride=>
  have:b=0:=hr rfl
  subst this
  have i:jk 1 [.int (s:Int),.int (g:Int),.int t]=some (bU ⟨.ride,s,g,t,0⟩):=rfl
  generalize bU ⟨.ride,s,g,t,0⟩=R,kd .ride=KS at *
  clear hr
  unfold vv
  walk_at "mir"
 |wait=>
  have i:jl 2 [.int (s:Int),.int (g:Int),.int t,.int (b:Int)]=some (bU ⟨.wait,s,g,t,b⟩):=rfl
  generalize bU ⟨.wait,s,g,t,b⟩=R,kd .wait=KS at *
  clear hr
  unfold vv
  walk_at "mir"
 |back=>
  have i:jm 3 [.int (s:Int),.int (g:Int),.int t,.int (b:Int)]=some (bU ⟨.back,s,g,t,b⟩):=rfl
  generalize bU ⟨.back,s,g,t,b⟩=R,kd .back=KS at *
  clear hr
  unfold vv
  walk_at "mir"
theorem Zc {many:Nat}(hm:1<=many)(cs:List Int)(hc:cs.length<=60):∃ps:List Fl,qx [.lst (cs.map .int),.int (many:Int)]=some (.lst (ps.map cq))/\ps.length=cs.length:=by
 obtain⟨ρ',h1,ps,y3,y4,rfl,hl⟩:=jg (g:=gV 3) (b:=uz) (ds:=cs.map .int) (ρ:=[some (.lst (cs.map .int)),some (.int (many:Int)),some (.lst []),none,none])
  (λds ρ=>∃(ps:List Fl) (y3 y4:Option D),ρ=[some (.lst (cs.map .int)),some (.int (many:Int)),some (.lst (ps.map cq)),y3,y4]/\ps.length=ds.length)
  ⟨[],none,none,rfl,rfl⟩ (by
   rintro pre d post ρ e ⟨ps,y3,y4,rfl,hl⟩
   have fT:pre.length<60:=by
    have:=congrArg gW e
    simp at this
    omega
   have hd:=Fc e
   rw[bi]at hd
   obtain⟨c,_,rfl⟩:=bW.mp hd
   obtain⟨z6,m6,_⟩:=jv c (k:=6) (by decide) (by decide)
   obtain⟨z7,m7,_⟩:=jv c (k:=7) (by decide) (by decide)
   obtain⟨z8,m8,_⟩:=jv c (k:=8) (by decide) (by decide)
   obtain⟨am,hA⟩:∃am:Int,d5 (.lst [.int (c%3),.int (c%12),.int (c%1000000001)]) (.int ((z6:Int)%3))=some (.int am):=by
    have:(z6:Int)%3=0\/(z6:Int)%3=1\/(z6:Int)%3=2:=by omega
    rcases this with e|e|e<;>rw[e]
    ·exact⟨_,rfl⟩
    ·exact⟨_,rfl⟩
    ·exact⟨_,rfl⟩
   have u1:d7 (.int (z7:Int)) (.int (many:Int))=some (.int ((z7%many:Nat):Int)):=by rw[wx (by omega)];simp
   have u2:d7 (.int (z8:Int)) (.int 4)=some (.int ((z8%4:Nat):Int)):=by rw[wx (by omega)];simp
   generalize z7%many=s,z8%4=r at *
   have l1:(ps.map cq).length<16777216:=by rw[aA];omega
   refine⟨_,[some (.lst (cs.map .int)),some (.int (many:Int)),some (.lst ((ps++[(s,r,am)]).map cq)),some (.int c),some (.int am)],rfl,.inl ?_,_,_,_,rfl,by simp[hl]⟩
   have e2':(ps++[(s,r,am)]).map cq=ps.map cq++[.tup [.int (s:Int),.int (r:Int),.int am]]:=by simp[cq]
   rw[e2']
   generalize ps.map cq=A,cs.map D.int=CS at *
   clear e e2' hd hl fT
   unfold uz
   simp -implicitDefEqProofs [sSeq,sSet,sApp,eV,eC,e2,eN,aNil,aCons,zay,wx,zax,m6,m7,m8,hA,u1,u2,l1])
 refine⟨ps,?_,by simpa using hl⟩
 generalize ps.map cq=A at *
 generalize Rm:cs.map D.int=CS at *
 clear hl Rm
 unfold qx
 generalize uz=B at *
 walk_at "mir"
def cw (as:List dB):Nat:=(as.filter λa=>decide (a.c=.wait)).length
theorem Ye {many:Nat}{T:Nat->Int}{B:Nat}{most:Nat}(h2:2<=many)(h5:many<=5)(hB:B<=2000000000)(mono:∀i j,i<=j->j<many->T i<=T j)(cs:List Int)(hc:cs.length<=60){x0 x1 x2:Option D} :
  ∃(as:List dB) (y7:Option D),gm (gV 7) E6 (cs.map .int) [x0,x1,x2,some (.lst (dQ many T)),some (.int (B:Int)),some (.int (most:Int)),some (.lst []),none,none,none,none,none,none,none,none,none,none]=some (.nx [x0,x1,x2,some (.lst (dQ many T)),some (.int (B:Int)),some (.int (most:Int)),some (.lst (as.map dO)),y7,none,none,none,none,none,none,none,none,none])/\as.length=cs.length/\(∀a∈as,Pk many T B a)/\cw as<=most:=by
 obtain⟨ρ',h1,as,y7,rfl,hl,hp,hw⟩:=jg (g:=gV 7) (b:=E6) (ds:=cs.map .int) (ρ:=[x0,x1,x2,some (.lst (dQ many T)),some (.int (B:Int)),some (.int (most:Int)),some (.lst []),none,none,none,none,none,none,none,none,none,none])
  (λds ρ=>∃(as:List dB) (y7:Option D),ρ=[x0,x1,x2,some (.lst (dQ many T)),some (.int (B:Int)),some (.int (most:Int)),some (.lst (as.map dO)),y7,none,none,none,none,none,none,none,none,none]/\as.length=ds.length/\(∀a∈as,Pk many T B a)/\cw as<=most)
  ⟨[],none,rfl,rfl,λa h=>(by cases h),cH _⟩ (by
   rintro pre d post ρ e ⟨as,y7,rfl,hl,hp,hw⟩
   have fT:pre.length<60:=by
    have:=congrArg gW e
    simp at this
    omega
   have hd:=Fc e
   rw[bi]at hd
   obtain⟨c,_,rfl⟩:=bW.mp hd
   have q4:∀r:L3.Env,r[6]?.join=some (.lst (as.map dO))->Kw r=some (.lst ((as.filter λa=>decide (a.c=.wait)).map dO)):=λr hr=>by
    refine qk dO (λa=>decide (a.c=.wait)) dO as (by
     have:eV 6 r=some (.lst (as.map dO)):=hr
     unfold lsD
     rw[this];rfl) (by omega) λa _=>⟨[some (dO a)],rfl,?_,λ_=>rfl⟩
    have i4:d5 (dO a) (.int 4)=some (.str (kd a.c)):=rfl
    have ew:=GB a.c
    generalize dO a=EA,kd a.c=KA at *
    clear hp hw mono hd e
    simp -implicitDefEqProofs [tb,jx,eV,eC,e2,i4,ew]
   have q4:=q4 [x0,x1,x2,some (.lst (dQ many T)),some (.int (B:Int)),some (.int (most:Int)),some (.lst (as.map dO)),some (.int c),none,none,none,none,none,none,none,none,none] rfl
   have ln:eA [.lst ((as.filter λa=>decide (a.c=.wait)).map dO)]=some (.int (cw as:Int)):=by rw[jh,aA];rfl
   obtain⟨a,pa,pk,pw⟩:=ZK (B:=B) c (cw as:Int) (most:Int) h2 h5 hB mono
   have l1:(as.map dO).length<16777216:=by rw[aA];omega
   refine⟨_,[x0,x1,x2,some (.lst (dQ many T)),some (.int (B:Int)),some (.int (most:Int)),some (.lst ((as++[a]).map dO)),some (.int c),none,none,none,none,none,none,none,none,none],rfl,.inl ?_,_,_,rfl,by simp[hl],λx hx=>?_,?_⟩
   ·have e2':(as++[a]).map dO=as.map dO++[dO a]:=by simp
    rw[e2']
    generalize dO a=EA,(as.filter λa=>decide (a.c=.wait)).map dO=FW,as.map dO=A,dQ many T=V at *
    clear e e2' hd hl fT hp hw mono pk pw
    unfold E6
    generalize Kw=Q4 at *
    walk_at "mir"
   ·rcases aU.mp hx with h|h
    ·exact hp x h
    ·rw[aN.mp h];exact pk
   ·unfold cw at hw pw ⊢
    rw[ki,aT]
    by_cases q:a.c=.wait
    ·have:=pw q
     simp[q]
     omega
    ·simp[q]
     omega)
 exact⟨as,y7,h1,by simpa using hl,hp,hw⟩
theorem ztr (as:List dB):(ke as).length=cw as:=by
 unfold ke cw
 rw[aA]
 have:=congrArg gW (NE (λa:dB=>decide (a.c=.wait)) as 0)
 rw[aA]at this
 exact this
theorem Xd (as:List dB):(aV as.length).filter (λk=>decide ((as[k]?.map (·.c))=some .wait))=ke as:=by
 have e:as.zipIdx.map (·.2)=aV as.length:=dC (by simp) λi h1 h2=>by simp
 unfold ke
 rw[←e,sT]
 congr 1
 refine qO λp hp=>?_
 show decide ((as[p.2]?.map (·.c))=some Kd.wait)=decide (p.1.c=.wait)
 rw[KU hp]
 simp
def DF (k:Nat):aP:=⟨#[97+k]⟩
def pj (n:Nat):List D:=(aV n).map λ(k:Nat)=>D.str (DF k)
def Mn:Option D->Bool
 |some (.bl true)=>true
 |_=>false
theorem zts {x:Option D}(h:Mn x=true):x=some (.bl true):=by
 unfold Mn at h
 split at h
 ·rfl
 ·cases h
theorem zuj {n:Nat}(h1:1<=n)(h2:n<=6):jo [.lst (pj n)]=some (.bl true):=by
 have:n=1\/n=2\/n=3\/n=4\/n=5\/n=6:=by omega
 rcases this with rfl|rfl|rfl|rfl|rfl|rfl<;>exact zts (by decide +kernel)
def Ja (x:Option D)(c:aP):Bool:=match x with
 |some (.str a)=>decide (a=c)
 |_=>false
theorem ztt {x:Option D}{c:aP}(h:Ja x c=true):x=some (.str c):=by
 unfold Ja at h
 split at h
 ·rw[of_decide_eq_true h]
 ·cases h
def uC (q:Fl):Int×Int×Int:=(q.1,q.2.1,q.2.2)
theorem Zd (neg:Bool)(puts:List Fl):gA neg (.lst (puts.map cq)) (.lst (puts.map cq))=some (.bl (!neg)):=by
 have:=(El (E3 Ei Ei Ei)).eq (by decide) (neg:=neg) (puts.map uC) (puts.map uC)
 have e:(El (E3 Ei Ei Ei)).enc (puts.map uC)=.lst (puts.map cq):=by
  show D.lst ((puts.map uC).map (E3 Ei Ei Ei).enc)=_
  rw[cM];rfl
 rw[e,decide_eq_true rfl]at this
 rw[this]
 cases neg<;>rfl
theorem Jc:∀l,l<5->Ja (d5 (.str "abcde") (.int ((l:Nat):Int))) (DF l)=true:=by decide +kernel
theorem Yf (ns:List Int)(_:ns.length<=63):K0 [.lst (ns.map .int)]=some (.bl true):=by
 obtain⟨c,c0⟩:=PH ns 0 (by decide)
 obtain⟨d,c1⟩:=PH ns 1 (by decide)
 obtain⟨many,vD,h2,h5⟩:∃m:Nat,2+c%4=(m:Int)/\2<=m/\m<=5:=⟨(2+c%4).toNat,by omega,by omega,by omega⟩
 obtain⟨T,tt,mono,M0⟩:=Yc (c/4) h2 h5
 obtain⟨m1,rfl⟩:∃m1,many=m1+1:=⟨many-1,by omega⟩
 have la:=OB m1 T
 have tl:=M0 m1 (by omega)
 obtain⟨X,hX,Rt⟩:∃X:Int,d5 (.lst [.int 0,.int 1,.int 7,.int 1000000]) (.int (c/12%4))=some (.int X)/\0<=X/\X<=1000000:=by
  have:c/12%4=0\/c/12%4=1\/c/12%4=2\/c/12%4=3:=by omega
  rcases this with e|e|e|e<;>rw[e]
  ·exact⟨_,rfl,by decide⟩
  ·exact⟨_,rfl,by decide⟩
  ·exact⟨_,rfl,by decide⟩
  ·exact⟨_,rfl,by decide⟩
 obtain⟨B,LF,hB⟩:∃B:Nat,d5 (.lst [.int (T m1+X),.int (T m1/3)]) (.int (c/48%4/3))=some (.int (B:Int))/\B<=2000000000:=by
  have:c/48%4/3=0\/c/48%4/3=1:=by omega
  rcases this with e|e<;>rw[e]
  ·exact⟨(T m1+X).toNat,by rw[eK (by omega)];rfl,by omega⟩
  ·exact⟨(T m1/3).toNat,by rw[eK (by omega)];rfl,by omega⟩
 obtain⟨most,LJ,RQ,Rr⟩:∃mo:Nat,d5 (.lst [.int 5,.int 8]) (.int (c/192%8/7))=some (.int (mo:Int))/\mo<=8/\∃W:Int,d5 (.lst [.int 6,.int 61]) (.int ((1-(mo:Int)/8)*(c/192%8/6)))=some (.int W)/\1<=W/\W<=61:=by
  have:c/192%8/7=0\/c/192%8/7=1:=by omega
  rcases this with e|e<;>rw[e]
  ·refine⟨5,rfl,by decide,?_⟩
   have:c/192%8/6=0\/c/192%8/6=1:=by omega
   rcases this with e|e<;>rw[e]
   ·exact⟨6,rfl,by decide,by decide⟩
   ·exact⟨61,rfl,by decide,by decide⟩
  ·refine⟨8,rfl,by decide,6,?_,by decide,by decide⟩
   rw[show(1-((8:Nat):Int)/8)=0 from rfl,Int.zero_mul]
   rfl
 obtain⟨W,hW,w1,w2⟩:=Rr
 have MA:fI (.int (1-(most:Int)/8)) (.int (c/192%8/6))=some (.int ((1-(most:Int)/8)*(c/192%8/6))):=zaw (by omega) (by omega)
 have ce:=Yb (ns:=ns) (r:=[some (.lst (ns.map .int)),some (.int c),some (.int ((m1+1:Nat):Int)),some (.lst (dQ (m1+1) T)),some (.int (B:Int)),some (.int (most:Int)),some (.lst []),none,none,none,none,none,none,none,none,none,none]) 0 8 17 rfl
 obtain⟨as,y7,lp,LQ,CU,RA⟩:=Ye (B:=B) (most:=most) h2 h5 hB mono ((ns.drop 8).take (17-8)) (by rw[bZ];omega) (x0:=some (.lst (ns.map .int))) (x1:=some (.int c)) (x2:=some (.int ((m1+1:Nat):Int)))
 have L6:as.length<=9:=by rw[LQ,bZ];omega
 obtain⟨ps,vF,fT⟩:=Zc (many:=m1+1) (by omega) ((ns.drop 2).take (7-2)) (by rw[bZ];omega)
 have vU:iZ (.lst (ns.map .int)) (some 2) (some 7)=some (.lst (((ns.drop 2).take (7-2)).map .int)):=by
  show some (D.lst (cutD (ns.map .int) (some ((2:Nat):Int)) (some ((7:Nat):Int))))=_
  rw[N7,uJ,uI]
 have fT:ps.length<=1000:=by rw[fT,bZ];omega
 have nl:(pj (m1+1)).length=m1+1:=by unfold pj;rw[aA,dr]
 have ok:ku (m1+1) as:=⟨by omega,by omega,by omega,λa h=>by
  have:=CU a h
  exact⟨this.s,this.g,this.t0,this.t1,by have:=this.b;omega,this.r,this.k⟩,λg=>g,λa h z=>(CU a h).up z⟩
 have sl:∀a∈as,0<=oC T B a:=λa h=>(CU a h).sl
 have nt:=zui (ns:=pj (m1+1)) ok nl (zuj (by omega) (by omega))
 have tbl:=Zv (ns:=pj (m1+1)) (B:=B) (pl:=T) ok (by omega) sl
 have w8:(ke as).length<=8:=by rw[ztr];omega
 obtain⟨g,hg,L0⟩:∃g:Nat,d7 (.int d) (.int ((m1+1:Nat):Int))=some (.int (g:Int))/\g<m1+1:=by
  refine⟨(d%((m1+1:Nat):Int)).toNat,?_,?_⟩
  ·rw[wx (by omega),eK (eS _ (by omega))]
  ·have:=gJ d (show(0:Int)<((m1+1:Nat):Int)by omega)
   have:=eS d (show((m1+1:Nat):Int)≠0 by omega)
   omega
 obtain⟨b,hb,Ak⟩:∃b:Nat,d7 (.int (d/5)) (.int W)=some (.int (b:Int))/\b<=60:=by
  refine⟨(d/5%W).toNat,?_,?_⟩
  ·rw[wx (by omega),eK (eS _ (by omega))]
  ·have:=gJ (d/5) (show(0:Int)<W by omega)
   have:=eS (d/5) (show W≠0 by omega)
   omega
 obtain⟨lf,H⟩:∃lf:List Nat->Bool,∀out:List Nat,xw [di (bL (pj (m1+1)) as) (m1+1) T B,.lst (ps.map cq),.int (g:Int),.int (b:Int),.lst (az out)]=some (.bl (lf out)):=by
  have:∀out:List Nat,∃e:Bool,xw [di (bL (pj (m1+1)) as) (m1+1) T B,.lst (ps.map cq),.int (g:Int),.int (b:Int),.lst (az out)]=some (.bl e):=λout=>by
   obtain⟨_,_,y,_,e⟩:=X4 (ns:=pj (m1+1)) (pl:=T) (puts:=ps) ok nl (by omega:b<=900) (by omega:B<=1000000000000) L0 fT out
   exact⟨_,e⟩
  exact⟨λout=>(this out).choose,λout=>(this out).choose_spec⟩
 obtain⟨w,gv,gw⟩:=ztk (ns:=pj (m1+1)) (as:=as) (many:=m1+1) (B:=B) (going:=(g:Int)) (beat:=(b:Int)) (pl:=T) (puts:=ps) (lf:=lf) (by omega) w8 H
 have rt:=Ya (w:=w) w8 ((ZI as).trans (ZJ L6)) H gw
 have wl:w=.non\/∃xs:List D,w=.lst xs/\xs.length<16777216:=by
  rcases gw with⟨_,rfl⟩|⟨_,x,rfl,hx,_⟩
  ·exact .inl rfl
  ·have:=(zev.mp hx).length_le
   exact .inr ⟨_,rfl,by simp[az];omega⟩
 have rest:∀r:L3.Env,r[2]?.join=some (.int ((m1+1:Nat):Int))->r[6]?.join=some (.lst (as.map dO))->Kv r=some (.lst (pj (m1+1)))/\Ku r=some (.lst (as.map bU))/\GA r=some (.lst (az (ke as))):=λr hr Mh=>by
  have e6:eV 6 r=some (.lst (as.map dO)):=Mh
  refine⟨?_,?_,?_⟩
  ·refine ju (λ(t:Nat)=>D.int (t:Int)) _ (aV (m1+1)) (E9 hr (by omega)) (by simp;omega) λk hk=>⟨[some (.int (k:Int))],rfl,?_⟩
   have:=ztt (Jc k (by have:=bX.mp hk;omega))
   simp -implicitDefEqProofs [eC,eV,e2,this]
  ·refine ju dO bU as (by unfold lsD;rw[e6];rfl) (by omega) λa ha=>⟨[some (dO a)],rfl,?_⟩
   have:=Yd a (CU a ha).r
   show((aCons (eV 0) aNil) [some (dO a)]).bind _=_
   exact this
  ·have hc:eY r [6]=[some (.lst (as.map dO))]:=by unfold eY;simp[Mh]
   have ln:(eN eA (aCons (eV 6) aNil)) r=some (.int (as.length:Int)):=by
    have:eA [.lst (as.map dO)]=some (.int (as.length:Int)):=by rw[jh,aA]
    unfold eN aCons aNil
    rw[e6]
    exact this
   have:=qk (own:=1) (cap:=[6]) (fi:=λρ=>((aCons (eN eA (aCons (eV 6) aNil)) aNil) ρ).bind hE) (g:=gV 0) (p:=tb (e2 (gA false) (e2 d5 (e2 d5 (eV 1) (eV 0)) (eC (.int 4))) (eC (.str "wait")))) (f:=eV 0) (r:=r) (λ(t:Nat)=>D.int (t:Int)) (λk=>decide ((as[k]?.map (·.c))=some .wait)) (λ(t:Nat)=>D.int (t:Int)) (aV as.length) (E9 ln (by omega)) (by simp;omega) (λk hk=>by
    have hk:=bX.mp hk
    refine⟨[some (.int (k:Int)),some (.lst (as.map dO))],by rw[hc];rfl,?_,λ_=>rfl⟩
    have i1:d5 (.lst (as.map dO)) (.int (k:Int))=some (dO as[k]):=Gz dO (.inl rfl) (aR hk)
    have i4:d5 (dO as[k]) (.int 4)=some (.str (kd as[k].c)):=rfl
    have ew:=GB as[k].c
    rw[aR hk,eL]
    have e:decide (some as[k].c=some Kd.wait)=decide (as[k].c=.wait):=by simp
    rw[e]
    generalize dO as[k]=EA,kd as[k].c=KA,as.map dO=AQ at *
    simp -implicitDefEqProofs [tb,jx,eV,eC,e2,i1,i4,ew])
   rw[show GA r=_ from this,Xd]
   rfl
 have r3:=(rest [some (.lst (ns.map .int)),some (.int c),some (.int ((m1+1:Nat):Int)),some (.lst (dQ (m1+1) T)),some (.int (B:Int)),some (.int (most:Int)),some (.lst (as.map dO)),y7,some (.lst (ps.map cq)),none,none,none,none,none,none,none,none] rfl rfl)
 have r1:=(rest [some (.lst (ns.map .int)),some (.int c),some (.int ((m1+1:Nat):Int)),some (.lst (dQ (m1+1) T)),some (.int (B:Int)),some (.int (most:Int)),some (.lst (as.map dO)),y7,some (.lst (ps.map cq)),some (bL (pj (m1+1)) as),some (di (bL (pj (m1+1)) as) (m1+1) T B),none,none,none,none,none,none] rfl rfl).2.2
 obtain⟨r3,r2,_⟩:=r3
 have ls:gM [.lst (ps.map cq)]=some (.lst (ps.map cq)):=rfl
 have eq:=Zd true ps
 clear rest H gw
 generalize di (bL (pj (m1+1)) as) (m1+1) T B=TB at *
 generalize bL (pj (m1+1)) as=NT at *
 generalize pj (m1+1)=NM,dQ (m1+1) T=V1,az (ke as)=WT,as.map bU=AS,as.map dO=AQ,ps.map cq=PS,((ns.drop 8).take (17-8)).map D.int=CS,((ns.drop 2).take (7-2)).map D.int=CS2,D.lst (ns.map .int)=S0,((m1+1:Nat):Int)=M at *
 clear mono M0 tl Rt hB RQ LQ CU RA L6 fT nl ok sl w8 L0 Ak w1 w2 h2 h5
 unfold K0
 generalize (lsD (λρ=>((eV 0) ρ).bind λd=>((pInt (eC (.int 8))) ρ).bind λl=>((pInt (eC (.int 17))) ρ).bind λh=>iZ d l h))=LS,E6=B1,GA=Q1,Ku=Q2,Kv=Q3 at *
 rcases wl with rfl|⟨xs,rfl,lx⟩
 ·simp -implicitDefEqProofs [mOf,startD,sSeq,sIf,sSet,sRet,sApp,sFor,sSkip,eV,eC,e1,e2,eN,aNil,aCons,pNo,pInt,tb,jx,bNot,bAnd,bOr,zay,zb3,zed,zgv,D.isN,zav,wx,zax,sFz,zef,zeg,c0,c1,vD,tt,la,hX,LF,LJ,hW,MA,ce,lp,vF,vU,nt,tbl,hg,hb,gv,rt,r1,r2,r3,ls,eq]
 ·simp -implicitDefEqProofs [mOf,startD,sSeq,sIf,sSet,sRet,sApp,sFor,sSkip,eV,eC,e1,e2,eN,aNil,aCons,pNo,pInt,tb,jx,bNot,bAnd,bOr,zay,zb3,zed,zgv,D.isN,zav,wx,zax,sFz,zef,zeg,c0,c1,vD,tt,la,hX,LF,LJ,hW,MA,ce,lp,vF,vU,nt,tbl,hg,hb,gv,rt,r1,r2,r3,ls,eq,lx]
section
variable {P:aW}{w:bv}{K:ae}{mg:aP->Option aa}{base:aI}{a:AL}
theorem ztu (T:Txt K mg a):cI P w K mg base eP 6 a.f_law a.d_law ["_law_script"] (nj K):=zsw (zs5 T) Yf
end
abbrev cR (x q:aP)(s:bG):=gb x q (lN s) (gL s) (aY s)
theorem all_mk {l:kY}{w:bv}{K:ae}{h:aI}{mg:aP->Option aa}(X:K.In h)(G:h.Ns ax mg)(RF:mg "law"=some (.ref fa))
  
  (aC_Arrow:aC K ax "Arrow"=some (some (.ref c_Arrow))) (pg_Arrow:cO K c_Arrow aP.empty=true) (hd_Arrow:cy K c_Arrow=true) (po_Arrow:df K c_Arrow=true) (sa_Arrow:aq K (.ref c_Arrow) "__setattr__"=some (some (.builtin "object.__setattr__"))) (mk_Arrow:dm K c_Arrow=true) (kc_Arrow:ar K (.ref c_Arrow)=true)
  (aC_Ride:aC K ax "Ride"=some (some (.ref c_Ride))) (pg_Ride:cO K c_Ride aP.empty=true) (hd_Ride:cy K c_Ride=true) (po_Ride:df K c_Ride=true) (sa_Ride:aq K (.ref c_Ride) "__setattr__"=some (some (.builtin "object.__setattr__"))) (mk_Ride:dm K c_Ride=true) (kc_Ride:ar K (.ref c_Ride)=true)
  (aC_Wait:aC K ax "Wait"=some (some (.ref c_Wait))) (pg_Wait:cO K c_Wait aP.empty=true) (hd_Wait:cy K c_Wait=true) (po_Wait:df K c_Wait=true) (sa_Wait:aq K (.ref c_Wait) "__setattr__"=some (some (.builtin "object.__setattr__"))) (mk_Wait:dm K c_Wait=true) (kc_Wait:ar K (.ref c_Wait)=true)
  (aC_Back:aC K ax "Back"=some (some (.ref c_Back))) (pg_Back:cO K c_Back aP.empty=true) (hd_Back:cy K c_Back=true) (po_Back:df K c_Back=true) (sa_Back:aq K (.ref c_Back) "__setattr__"=some (some (.builtin "object.__setattr__"))) (mk_Back:dm K c_Back=true) (kc_Back:ar K (.ref c_Back)=true)
  (aC_Net:aC K ax "Net"=some (some (.ref c_Net))) (pg_Net:cO K c_Net aP.empty=true) (hd_Net:cy K c_Net=true) (po_Net:df K c_Net=true) (sa_Net:aq K (.ref c_Net) "__setattr__"=some (some (.builtin "object.__setattr__"))) (mk_Net:dm K c_Net=true) (kc_Net:ar K (.ref c_Net)=true)
  (aC_Table:aC K ax "Table"=some (some (.ref c_Table))) (pg_Table:cO K c_Table aP.empty=true) (hd_Table:cy K c_Table=true) (po_Table:df K c_Table=true) (sa_Table:aq K (.ref c_Table) "__setattr__"=some (some (.builtin "object.__setattr__"))) (mk_Table:dm K c_Table=true) (kc_Table:ar K (.ref c_Table)=true)
  (a0:aq K (.ref c_Arrow) "__init__"=some (some (.ref f0))) (i0:cj K (.ref f0)=true)
  (l0:K.lookup f0=some ⟨oc0,od0,.func (cR "__init__" "Arrow.__init__" yb .none Mp Lm MH K5 G7 Le),sl0⟩) (c0:aD K G7 "Arrow.__init__"=true) (k0:ar K (.ref f0)=true)
  (a1:aq K (.ref c_Ride) "__init__"=some (some (.ref f1))) (i1:cj K (.ref f1)=true)
  (l1:K.lookup f1=some ⟨oc1,od1,.func (cR "__init__" "Ride.__init__" yj .none Mq Ln MI K6 G8 Lf),sl1⟩) (c1:aD K G8 "Ride.__init__"=true) (k1:ar K (.ref f1)=true)
  (a2:aq K (.ref c_Wait) "__init__"=some (some (.ref f2))) (i2:cj K (.ref f2)=true)
  (l2:K.lookup f2=some ⟨oc2,od2,.func (cR "__init__" "Wait.__init__" zp (.ref Gd) Jd Hs Jp G3 Ft Ho),vU⟩) (c2:aD K Ft "Wait.__init__"=true) (k2:ar K (.ref f2)=true)
  (t2:K.lookup Gd=some ⟨tc2,UM,.seq #[.int 0 EO] tn2,UQ⟩)
  (a3:aq K (.ref c_Back) "__init__"=some (some (.ref f3))) (i3:cj K (.ref f3)=true)
  (l3:K.lookup f3=some ⟨oc3,od3,.func (cR "__init__" "Back.__init__" zq (.ref Ge) Je Ht Jq G4 Fu Hq),sl3⟩) (c3:aD K Fu "Back.__init__"=true) (k3:ar K (.ref f3)=true)
  (t3:K.lookup Ge=some ⟨tc3,UN,.seq #[.int 1 EQ] Gg,UR⟩)
  (a4:aC K ax "is_letter"=some (some (.ref f4)))
  (l4:K.lookup f4=some ⟨oc4,od4,.func (cR "is_letter" "is_letter" y9 .none Mr Lo MJ K7 G9 Lg),sl4⟩) (c4:aD K G9 "is_letter"=true) (k4:ar K (.ref f4)=true)
  (a5:aC K ax "is_figure"=some (some (.ref f5)))
  (l5:K.lookup f5=some ⟨oc5,od5,.func (cR "is_figure" "is_figure" xa .none Ms Lp MK K8 Ha Lh),sl5⟩) (c5:aD K Ha "is_figure"=true) (k5:ar K (.ref f5)=true)
  (a6:aC K ax "is_name"=some (some (.ref f6)))
  (l6:K.lookup f6=some ⟨oc6,od6,.func (cR "is_name" "is_name" we .none Mt Lq ML K9 Hb Li),sl6⟩) (c6:aD K Hb "is_name"=true) (k6:ar K (.ref f6)=true)
  (a7:aC K ax "are_names"=some (some (.ref f7)))
  (l7:K.lookup f7=some ⟨oc7,od7,.func (cR "are_names" "are_names" xb .none Mu Lr MM La Hc Lj),sl7⟩) (c7:aD K Hc "are_names"=true) (k7:ar K (.ref f7)=true)
  (a8:aC K ax "lies_within"=some (some (.ref f8)))
  (l8:K.lookup f8=some ⟨oc8,od8,.func (cR "lies_within" "lies_within" yk .none Mv Ls MN Lb Hd Lk),sl8⟩) (c8:aD K Hd "lies_within"=true) (k8:ar K (.ref f8)=true)
  (a9:aC K ax "is_right"=some (some (.ref f9)))
  (l9:K.lookup f9=some ⟨oc9,od9,.func (cR "is_right" "is_right" xq .none Mw Lu MO Lc He Ll),sl9⟩) (c9:aD K He "is_right"=true) (k9:ar K (.ref f9)=true)
  (a10:aC K ax "placed_goings"=some (some (.ref Hw)))
  (l10:K.lookup Hw=some ⟨Sr,Ta,.func (cR "placed_goings" "placed_goings" zt .none C6 B6 DS AY wV BA),T8⟩) (c10:aD K wV "placed_goings"=true) (k10:ar K (.ref Hw)=true)
  (a11:aq K (.ref c_Net) "__init__"=some (some (.ref Fy))) (i11:cj K (.ref Fy)=true)
  (l11:K.lookup Fy=some ⟨Ss,Tb,.func (cR "__init__" "Net.__init__" yt .none C7 B7 DT AZ wW BC),T9⟩) (c11:aD K wW "Net.__init__"=true) (k11:ar K (.ref Fy)=true)
  (a12:aq K (.ref c_Net) "most_behind"=some (some (.ref Fz))) (i12:cj K (.ref Fz)=true)
  (l12:K.lookup Fz=some ⟨Su,Tc,.func (cR "most_behind" "Net.most_behind" zm .none C8 B8 DV A0 wX BD),Ua⟩) (c12:aD K wX "Net.most_behind"=true) (k12:ar K (.ref Fz)=true)
  (a13:aq K (.ref c_Net) "into"=some (some (.ref FA))) (i13:cj K (.ref FA)=true)
  (l13:K.lookup FA=some ⟨Sv,Td,.func (cR "into" "Net.into" xr .none C9 B9 DW A6 wY BE),Ub⟩) (c13:aD K wY "Net.into"=true) (k13:ar K (.ref FA)=true)
  (a14:aq K (.ref c_Net) "order"=some (some (.ref FB))) (i14:cj K (.ref FB)=true)
  (l14:K.lookup FB=some ⟨Sw,Te,.func (cR "order" "Net.order" xf .none Dd Ca DX A7 wZ BG),Uc⟩) (c14:aD K wZ "Net.order"=true) (k14:ar K (.ref FB)=true)
  (a15:aC K ax "latest"=some (some (.ref Hx)))
  (l15:K.lookup Hx=some ⟨Sx,Tf,.func (cR "latest" "latest" wy .none De Cb DY A8 xA BH),Ud⟩) (c15:aD K xA "latest"=true) (k15:ar K (.ref Hx)=true)
  (a16:aC K ax "greatest_told"=some (some (.ref Hy)))
  (l16:K.lookup Hy=some ⟨Sy,Tg,.func (cR "greatest_told" "greatest_told" zu .none Df Cc DZ A9 xB BI),Ue⟩) (c16:aD K xB "greatest_told"=true) (k16:ar K (.ref Hy)=true)
  (a17:aq K (.ref c_Table) "slack"=some (some (.ref FC))) (i17:cj K (.ref FC)=true)
  (l17:K.lookup FC=some ⟨SA,Th,.func (cR "slack" "Table.slack" ym .none Dg Cd D0 Ba xC BJ),Ug⟩) (c17:aD K xC "Table.slack"=true) (k17:ar K (.ref FC)=true)
  (a18:aq K (.ref c_Table) "__init__"=some (some (.ref FD))) (i18:cj K (.ref FD)=true)
  (l18:K.lookup FD=some ⟨SC,Ti,.func (cR "__init__" "Table.__init__" yc .none Dh Ce D1 Bb xD BK),Uh⟩) (c18:aD K xD "Table.__init__"=true) (k18:ar K (.ref FD)=true)
  (a19:aC K ax "links_into"=some (some (.ref Hz)))
  (l19:K.lookup Hz=some ⟨SD,Tj,.func (cR "links_into" "links_into" yu .none Di Cf D2 Bc xE BL),Ui⟩) (c19:aD K xE "links_into"=true) (k19:ar K (.ref Hz)=true)
  (a20:aC K ax "lateness_in_last_row"=some (some (.ref HA)))
  (l20:K.lookup HA=some ⟨SE,Tl,.func (cR "lateness_in_last_row" "lateness_in_last_row" zj .none Dj Cg D3 Bd xF BM),Uj⟩) (c20:aD K xF "lateness_in_last_row"=true) (k20:ar K (.ref HA)=true)
  (a21:aC K ax "late"=some (some (.ref HB)))
  (l21:K.lookup HB=some ⟨SG,Tn,.func (cR "late" "late" uq (.ref uA) yX xZ zG wQ tL xX),Uk⟩) (c21:aD K tL "late"=true) (k21:ar K (.ref HB)=true)
  (t21:K.lookup uA=some ⟨UL,M3,.seq #[.none] UP,M5⟩)
  (a22:aq K (.ref c_Ride) "may_drop"=some (some (.ref FE))) (i22:cj K (.ref FE)=true)
  (l22:K.lookup FE=some ⟨SH,To,.func (cR "may_drop" "Ride.may_drop" zw .none Dk Ci D4 Be xG BN),Ul⟩) (c22:aD K xG "Ride.may_drop"=true) (k22:ar K (.ref FE)=true)
  (a23:aq K (.ref c_Wait) "may_drop"=some (some (.ref FF))) (i23:cj K (.ref FF)=true)
  (l23:K.lookup FF=some ⟨SI,Tp,.func (cR "may_drop" "Wait.may_drop" zx .none Dl Cj D5 Bf xH BO),Um⟩) (c23:aD K xH "Wait.may_drop"=true) (k23:ar K (.ref FF)=true)
  (a24:aq K (.ref c_Back) "may_drop"=some (some (.ref FG))) (i24:cj K (.ref FG)=true)
  (l24:K.lookup FG=some ⟨SJ,Tq,.func (cR "may_drop" "Back.may_drop" zy .none Dn Ck D6 Bg xI BP),Uo⟩) (c24:aD K xI "Back.may_drop"=true) (k24:ar K (.ref FG)=true)
  (a25:aC K ax "sets_of"=some (some (.ref HC)))
  (l25:K.lookup HC=some ⟨SK,Tr,.func (cR "sets_of" "sets_of" wf .none Do Cm D7 Bh xJ BQ),Up⟩) (c25:aD K xJ "sets_of"=true) (k25:ar K (.ref HC)=true)
  (a26:aC K ax "is_late"=some (some (.ref HD)))
  (l26:K.lookup HD=some ⟨SM,Ts,.func (cR "is_late" "is_late" wg .none Dp Co D8 Bi xK BR),Uq⟩) (c26:aD K xK "is_late"=true) (k26:ar K (.ref HD)=true)
  (a27:aC K ax "give_up"=some (some (.ref HE)))
  (l27:K.lookup HE=some ⟨SN,Tt,.func (cR "give_up" "give_up" wj .none Dr Cp D9 Bj xL BS),Ur⟩) (c27:aD K xL "give_up"=true) (k27:ar K (.ref HE)=true)
  (a28:aC K ax "_law_cell_at"=some (some (.ref HF)))
  (l28:K.lookup HF=some ⟨SO,Tu,.func (cR "_law_cell_at" "_law_cell_at" yn .none Ds Cq Ea Bk xM BU),Us⟩) (c28:aD K xM "_law_cell_at"=true) (k28:ar K (.ref HF)=true)
  (a29:aC K ax "_law_whole"=some (some (.ref HG)))
  (l29:K.lookup HG=some ⟨SQ,Tv,.func (cR "_law_whole" "_law_whole" xg .none Du Cr Ec Bl xN BV),Ut⟩) (c29:aD K xN "_law_whole"=true) (k29:ar K (.ref HG)=true)
  (a30:aC K ax "_law_mixed"=some (some (.ref HH)))
  (l30:K.lookup HH=some ⟨SU,Tw,.func (cR "_law_mixed" "_law_mixed" xh .none Dv Cs Ed Bm xO BW),Uu⟩) (c30:aD K xO "_law_mixed"=true) (k30:ar K (.ref HH)=true)
  (a31:aC K ax "_law_times"=some (some (.ref HI)))
  (l31:K.lookup HI=some ⟨SV,Tx,.func (cR "_law_times" "_law_times" xi .none Dw Ct Ee Bn xP BX),Uv⟩) (c31:aD K xP "_law_times"=true) (k31:ar K (.ref HI)=true)
  (a32:aC K ax "_law_part"=some (some (.ref HJ)))
  (l32:K.lookup HJ=some ⟨SX,Tz,.func (cR "_law_part" "_law_part" xt .none Dx Cu Ef Bo xQ BY),Uw⟩) (c32:aD K xQ "_law_part"=true) (k32:ar K (.ref HJ)=true)
  (a33:aC K ax "_law_arrow"=some (some (.ref HK)))
  (l33:K.lookup HK=some ⟨SY,TC,.func (cR "_law_arrow" "_law_arrow" xj .none Dy Cw Eg Bp xR BZ),Ux⟩) (c33:aD K xR "_law_arrow"=true) (k33:ar K (.ref HK)=true)
  (a34:aC K ax "_law_puts"=some (some (.ref HL)))
  (l34:K.lookup HL=some ⟨SZ,TD,.func (cR "_law_puts" "_law_puts" xu .none Dz Cy Eh Bq xS B0),Uy⟩) (c34:aD K xS "_law_puts"=true) (k34:ar K (.ref HL)=true)
  (a35:aC K ax "_law_longer"=some (some (.ref HM)))
  (l35:K.lookup HM=some ⟨S4,TH,.func (cR "_law_longer" "_law_longer" yw .none DA Cz Ej Br xT B2),Uz⟩) (c35:aD K xT "_law_longer"=true) (k35:ar K (.ref HM)=true)
  (a36:aC K ax "_law_choices"=some (some (.ref HN)))
  (l36:K.lookup HN=some ⟨S5,TJ,.func (cR "_law_choices" "_law_choices" yo .none DB CA Ek Bs xU B3),UA⟩) (c36:aD K xU "_law_choices"=true) (k36:ar K (.ref HN)=true)
  (a37:aC K ax "_law_late"=some (some (.ref HP)))
  (l37:K.lookup HP=some ⟨S6,TK,.func (cR "_law_late" "_law_late" xv .none DC CB Em Bt xV B4),UB⟩) (c37:aD K xV "_law_late"=true) (k37:ar K (.ref HP)=true)
  (a38:aC K ax "_law_right"=some (some (.ref HQ)))
  (l38:K.lookup HQ=some ⟨S7,TL,.func (cR "_law_right" "_law_right" xk .none DD CC En Bu xW B5),UC⟩) (c38:aD K xW "_law_right"=true) (k38:ar K (.ref HQ)=true)
  (a39:aC K ax "law"=some (some (.ref Lx)))
  (l39:K.lookup Lx=some ⟨S8,TN,.func (cR "law" "law" Aa .none yY yA zH wR tM xY),UD⟩) (c39:aD K tM "law"=true) (k39:ar K (.ref Lx)=true)
  (qs_Arrow:dg K (.ref c_Arrow) "__getattribute__"=some (some (.builtin "type.__getattribute__"))) (qr_Arrow:ir K c_Arrow (.type "type")=true) (qf_Arrow:iq K (.ref c_Arrow) (.type "type") "__init__"=some (.val (.ref f0)))
  (n_Net_arrows:aq K (.ref c_Net) "arrows"=some none)
  (n_Table_beat:aq K (.ref c_Table) "beat"=some none)
  (n_Arrow_behind:aq K (.ref c_Arrow) "behind"=some none)
  (n_Ride_behind:aq K (.ref c_Ride) "behind"=some none)
  (n_Wait_behind:aq K (.ref c_Wait) "behind"=some none)
  (n_Back_behind:aq K (.ref c_Back) "behind"=some none)
  (n_Arrow_goal:aq K (.ref c_Arrow) "goal"=some none)
  (n_Ride_goal:aq K (.ref c_Ride) "goal"=some none)
  (n_Wait_goal:aq K (.ref c_Wait) "goal"=some none)
  (n_Back_goal:aq K (.ref c_Back) "goal"=some none)
  (n_Net_names:aq K (.ref c_Net) "names"=some none)
  (n_Table_net:aq K (.ref c_Table) "net"=some none)
  (n_Arrow_start:aq K (.ref c_Arrow) "start"=some none)
  (n_Ride_start:aq K (.ref c_Ride) "start"=some none)
  (n_Wait_start:aq K (.ref c_Wait) "start"=some none)
  (n_Back_start:aq K (.ref c_Back) "start"=some none)
  (n_Arrow_time:aq K (.ref c_Arrow) "time"=some none)
  (n_Ride_time:aq K (.ref c_Ride) "time"=some none)
  (n_Wait_time:aq K (.ref c_Wait) "time"=some none)
  (n_Back_time:aq K (.ref c_Back) "time"=some none)
  (n_Table_times:aq K (.ref c_Table) "times"=some none)
  (ign:dg K (.builtin "object.__class__") "__get__"=some (some (.builtin "getset_descriptor.__get__"))) (igt:iu K (.builtin "object.__class__")=some true)
  (iga_Arrow:aq K (.ref c_Arrow) "__class__"=some (some (.builtin "object.__class__"))) (igm_Arrow:dA K c_Arrow (.type "object")=some true)
  (kit_Arrow_Back:bB K (.ref c_Arrow) (.ref c_Back)=some false)
  (kit_Arrow_Ride:bB K (.ref c_Arrow) (.ref c_Ride)=some false)
  (iga_Ride:aq K (.ref c_Ride) "__class__"=some (some (.builtin "object.__class__"))) (igm_Ride:dA K c_Ride (.type "object")=some true)
  (kit_Ride_Back:bB K (.ref c_Ride) (.ref c_Back)=some false)
  (kit_Ride_Ride:bB K (.ref c_Ride) (.ref c_Ride)=some true)
  (iga_Wait:aq K (.ref c_Wait) "__class__"=some (some (.builtin "object.__class__"))) (igm_Wait:dA K c_Wait (.type "object")=some true)
  (kit_Wait_Back:bB K (.ref c_Wait) (.ref c_Back)=some false)
  (kit_Wait_Ride:bB K (.ref c_Wait) (.ref c_Ride)=some false)
  (iga_Back:aq K (.ref c_Back) "__class__"=some (some (.builtin "object.__class__"))) (igm_Back:dA K c_Back (.type "object")=some true)
  (kit_Back_Back:bB K (.ref c_Back) (.ref c_Back)=some true)
  (kit_Back_Ride:bB K (.ref c_Back) (.ref c_Ride)=some false)
  (iga_Net:aq K (.ref c_Net) "__class__"=some (some (.builtin "object.__class__"))) (igm_Net:dA K c_Net (.type "object")=some true)
  (kit_Net_Back:bB K (.ref c_Net) (.ref c_Back)=some false)
  (kit_Net_Ride:bB K (.ref c_Net) (.ref c_Ride)=some false)
  (iga_Table:aq K (.ref c_Table) "__class__"=some (some (.builtin "object.__class__"))) (igm_Table:dA K c_Table (.type "object")=some true)
  (kit_Table_Back:bB K (.ref c_Table) (.ref c_Back)=some false)
  (kit_Table_Ride:bB K (.ref c_Table) (.ref c_Ride)=some false)
  (z0:aC K ax "all"=some none)
  (z1:aC K ax "bool"=some none)
  (z2:aC K ax "enumerate"=some none)
  (z3:aC K ax "int"=some none)
  (z4:aC K ax "isinstance"=some none)
  (z5:aC K ax "len"=some none)
  (z6:aC K ax "list"=some none)
  (z7:aC K ax "max"=some none)
  (z8:aC K ax "min"=some none)
  (z9:aC K ax "range"=some none)
  (z10:aC K ax "set"=some none)
  (z11:aC K ax "sorted"=some none)
  (z12:aC K ax "str"=some none)
  (gc0:aC K ax "MOST_ARROWS"=some (some (.int 120 gt0)))
  (gc1:aC K ax "MOST_BEHIND"=some (some (.int 4 gt1)))
  (gc2:aC K ax "MOST_NAMES"=some (some (.int 40 gt2)))
  (gc3:aC K ax "MOST_SIGNS"=some (some (.int 8 gt3)))
  (gc4:aC K ax "MOST_TIME"=some (some (.int 1000000000 gt4)))
  (gc5:aC K ax "MOST_WAITS"=some (some (.int 8 gt5))) :
  ∃fd:aM,(∀(s:ah) (v:aa),nY s fd ⟨[v],[]⟩ [("_law_script",v)])/\∀base:aI,K.In base->base.Ns ax mg->cI l.prog w K mg base eP 6 fa fd ["_law_script"] (nj K):=by
 have e:=RF.symm.trans (aL X G a39)
 cases e
 have F0:=zo (st:=yb) l0 c0 k0
 have b0:bE K (cR "__init__" "Arrow.__init__" yb .none Mp Lm MH K5 G7 Le) ["self","start","goal","time","behind"] []:=.all (lA5 λ_ _ _ _ _=>rfl)
 have F1:=zo (st:=yj) l1 c1 k1
 have b1:bE K (cR "__init__" "Ride.__init__" yj .none Mq Ln MI K6 G8 Lf) ["self","start","goal","time"] []:=.all (lA4 λ_ _ _ _=>rfl)
 have F2:=zo (st:=zp) l2 c2 k2
 have b2:bE K (cR "__init__" "Wait.__init__" zp (.ref Gd) Jd Hs Jp G3 Ft Ho) ["self","start","goal","time","behind"] []:=AC 5 t2 (lA5 λ_ _ _ _ _=>⟨_,rfl,rfl⟩)
 have G5:bE K (cR "__init__" "Wait.__init__" zp (.ref Gd) Jd Hs Jp G3 Ft Ho) ["self","start","goal","time","behind"] [.int 0 EO]:=AC 4 t2 (lA4 λ_ _ _ _=>⟨_,rfl,rfl⟩)
 have F3:=zo (st:=zq) l3 c3 k3
 have b3:bE K (cR "__init__" "Back.__init__" zq (.ref Ge) Je Ht Jq G4 Fu Hq) ["self","start","goal","time","behind"] []:=AC 5 t3 (lA5 λ_ _ _ _ _=>⟨_,rfl,rfl⟩)
 have G6:bE K (cR "__init__" "Back.__init__" zq (.ref Ge) Je Ht Jq G4 Fu Hq) ["self","start","goal","time","behind"] [.int 1 EQ]:=AC 4 t3 (lA4 λ_ _ _ _=>⟨_,rfl,rfl⟩)
 have F4:=zo (st:=y9) l4 c4 k4
 have b4:bE K (cR "is_letter" "is_letter" y9 .none Mr Lo MJ K7 G9 Lg) ["sign"] []:=.all (lA1 λ_=>rfl)
 have F5:=zo (st:=xa) l5 c5 k5
 have b5:bE K (cR "is_figure" "is_figure" xa .none Ms Lp MK K8 Ha Lh) ["sign"] []:=.all (lA1 λ_=>rfl)
 have F6:=zo (st:=we) l6 c6 k6
 have b6:bE K (cR "is_name" "is_name" we .none Mt Lq ML K9 Hb Li) ["word"] []:=.all (lA1 λ_=>rfl)
 have F7:=zo (st:=xb) l7 c7 k7
 have b7:bE K (cR "are_names" "are_names" xb .none Mu Lr MM La Hc Lj) ["names"] []:=.all (lA1 λ_=>rfl)
 have F8:=zo (st:=yk) l8 c8 k8
 have b8:bE K (cR "lies_within" "lies_within" yk .none Mv Ls MN Lb Hd Lk) ["number","least","most"] []:=.all (lA3 λ_ _ _=>rfl)
 have F9:=zo (st:=xq) l9 c9 k9
 have b9:bE K (cR "is_right" "is_right" xq .none Mw Lu MO Lc He Ll) ["arrow","many"] []:=.all (lA2 λ_ _=>rfl)
 have PX:=zo (st:=zt) l10 c10 k10
 have Qv:bE K (cR "placed_goings" "placed_goings" zt .none C6 B6 DS AY wV BA) ["many","arrows"] []:=.all (lA2 λ_ _=>rfl)
 have PY:=zo (st:=yt) l11 c11 k11
 have Qw:bE K (cR "__init__" "Net.__init__" yt .none C7 B7 DT AZ wW BC) ["self","names","arrows"] []:=.all (lA3 λ_ _ _=>rfl)
 have PZ:=zo (st:=zm) l12 c12 k12
 have Qx:bE K (cR "most_behind" "Net.most_behind" zm .none C8 B8 DV A0 wX BD) ["self"] []:=.all (lA1 λ_=>rfl)
 have P0:=zo (st:=xr) l13 c13 k13
 have Qy:bE K (cR "into" "Net.into" xr .none C9 B9 DW A6 wY BE) ["self","going"] []:=.all (lA2 λ_ _=>rfl)
 have P1:=zo (st:=xf) l14 c14 k14
 have Qz:bE K (cR "order" "Net.order" xf .none Dd Ca DX A7 wZ BG) ["self"] []:=.all (lA1 λ_=>rfl)
 have P2:=zo (st:=wy) l15 c15 k15
 have QA:bE K (cR "latest" "latest" wy .none De Cb DY A8 xA BH) ["one","other"] []:=.all (lA2 λ_ _=>rfl)
 have P3:=zo (st:=zu) l16 c16 k16
 have QB:bE K (cR "greatest_told" "greatest_told" zu .none Df Cc DZ A9 xB BI) ["told"] []:=.all (lA1 λ_=>rfl)
 have P4:=zo (st:=ym) l17 c17 k17
 have QC:bE K (cR "slack" "Table.slack" ym .none Dg Cd D0 Ba xC BJ) ["self","arrow"] []:=.all (lA2 λ_ _=>rfl)
 have P5:=zo (st:=yc) l18 c18 k18
 have QD:bE K (cR "__init__" "Table.__init__" yc .none Dh Ce D1 Bb xD BK) ["self","net","times","beat"] []:=.all (lA4 λ_ _ _ _=>rfl)
 have P6:=zo (st:=yu) l19 c19 k19
 have QE:bE K (cR "links_into" "links_into" yu .none Di Cf D2 Bc xE BL) ["table","going","left_out"] []:=.all (lA3 λ_ _ _=>rfl)
 have P7:=zo (st:=zj) l20 c20 k20
 have QF:bE K (cR "lateness_in_last_row" "lateness_in_last_row" zj .none Dj Cg D3 Bd xF BM) ["rows","links","put"] []:=.all (lA3 λ_ _ _=>rfl)
 have P8:=zo (st:=uq) l21 c21 k21
 have QG:bE K (cR "late" "late" uq (.ref uA) yX xZ zG wQ tL xX) ["table","rounds","puts","without"] []:=AC 4 t21 (lA4 λ_ _ _ _=>⟨_,rfl,rfl⟩)
 have Bv:bE K (cR "late" "late" uq (.ref uA) yX xZ zG wQ tL xX) ["table","rounds","puts","without"] [.none]:=AC 3 t21 (lA3 λ_ _ _=>⟨_,rfl,rfl⟩)
 have P9:=zo (st:=zw) l22 c22 k22
 have QH:bE K (cR "may_drop" "Ride.may_drop" zw .none Dk Ci D4 Be xG BN) ["self"] []:=.all (lA1 λ_=>rfl)
 have Qa:=zo (st:=zx) l23 c23 k23
 have QI:bE K (cR "may_drop" "Wait.may_drop" zx .none Dl Cj D5 Bf xH BO) ["self"] []:=.all (lA1 λ_=>rfl)
 have Qb:=zo (st:=zy) l24 c24 k24
 have QJ:bE K (cR "may_drop" "Back.may_drop" zy .none Dn Ck D6 Bg xI BP) ["self"] []:=.all (lA1 λ_=>rfl)
 have Qc:=zo (st:=wf) l25 c25 k25
 have QK:bE K (cR "sets_of" "sets_of" wf .none Do Cm D7 Bh xJ BQ) ["waits"] []:=.all (lA1 λ_=>rfl)
 have Qd:=zo (st:=wg) l26 c26 k26
 have QL:bE K (cR "is_late" "is_late" wg .none Dp Co D8 Bi xK BR) ["table","puts","going","beat","without"] []:=.all (lA5 λ_ _ _ _ _=>rfl)
 have Qe:=zo (st:=wj) l27 c27 k27
 have QM:bE K (cR "give_up" "give_up" wj .none Dr Cp D9 Bj xL BS) ["table","puts","going","beat"] []:=.all (lA4 λ_ _ _ _=>rfl)
 have Qf:=zo (st:=yn) l28 c28 k28
 have QN:bE K (cR "_law_cell_at" "_law_cell_at" yn .none Ds Cq Ea Bk xM BU) ["_law_script","_law_k"] []:=.all (lA2 λ_ _=>rfl)
 have Qg:=zo (st:=xg) l29 c29 k29
 have QO:bE K (cR "_law_whole" "_law_whole" xg .none Du Cr Ec Bl xN BV) ["_law_found"] []:=.all (lA1 λ_=>rfl)
 have Qh:=zo (st:=xh) l30 c30 k30
 have QP:bE K (cR "_law_mixed" "_law_mixed" xh .none Dv Cs Ed Bm xO BW) ["_law_cell","_law_k"] []:=.all (lA2 λ_ _=>rfl)
 have Qi:=zo (st:=xi) l31 c31 k31
 have QQ:bE K (cR "_law_times" "_law_times" xi .none Dw Ct Ee Bn xP BX) ["_law_cell","_law_many"] []:=.all (lA2 λ_ _=>rfl)
 have Qj:=zo (st:=xt) l32 c32 k32
 have QR:bE K (cR "_law_part" "_law_part" xt .none Dx Cu Ef Bo xQ BY) ["_law_cell","_law_times_here","_law_beat","_law_waits","_law_most"] []:=.all (lA5 λ_ _ _ _ _=>rfl)
 have Qk:=zo (st:=xj) l33 c33 k33
 have QS:bE K (cR "_law_arrow" "_law_arrow" xj .none Dy Cw Eg Bp xR BZ) ["_law_part_here"] []:=.all (lA1 λ_=>rfl)
 have Ql:=zo (st:=xu) l34 c34 k34
 have QT:bE K (cR "_law_puts" "_law_puts" xu .none Dz Cy Eh Bq xS B0) ["_law_cells","_law_many"] []:=.all (lA2 λ_ _=>rfl)
 have Qm:=zo (st:=yw) l35 c35 k35
 have QU:bE K (cR "_law_longer" "_law_longer" yw .none DA Cz Ej Br xT B2) ["_law_found","_law_some"] []:=.all (lA2 λ_ _=>rfl)
 have Qn:=zo (st:=yo) l36 c36 k36
 have QW:bE K (cR "_law_choices" "_law_choices" yo .none DB CA Ek Bs xU B3) ["_law_some","_law_many"] []:=.all (lA2 λ_ _=>rfl)
 have Qo:=zo (st:=xv) l37 c37 k37
 have QX:bE K (cR "_law_late" "_law_late" xv .none DC CB Em Bt xV B4) ["_law_table","_law_puts_here","_law_going","_law_beat","_law_without"] []:=.all (lA5 λ_ _ _ _ _=>rfl)
 have Qp:=zo (st:=xk) l38 c38 k38
 have QY:bE K (cR "_law_right" "_law_right" xk .none DD CC En Bu xW B5) ["_law_found","_law_table","_law_puts_here","_law_going","_law_beat","_law_waits"] []:=.all (lA6 λ_ _ _ _ _ _=>rfl)
 have Qq:=zo (st:=Aa) l39 c39 k39
 have QZ:bE K (cR "law" "law" Aa .none yY yA zH wR tM xY) ["_law_script"] []:=.all (lA1 λ_=>rfl)
 have T:Txt K mg ⟨c_Arrow,c_Ride,c_Wait,c_Back,c_Net,c_Table,f0,cR "__init__" "Arrow.__init__" yb .none Mp Lm MH K5 G7 Le,f1,cR "__init__" "Ride.__init__" yj .none Mq Ln MI K6 G8 Lf,f2,cR "__init__" "Wait.__init__" zp (.ref Gd) Jd Hs Jp G3 Ft Ho,f3,cR "__init__" "Back.__init__" zq (.ref Ge) Je Ht Jq G4 Fu Hq,f4,cR "is_letter" "is_letter" y9 .none Mr Lo MJ K7 G9 Lg,f5,cR "is_figure" "is_figure" xa .none Ms Lp MK K8 Ha Lh,f6,cR "is_name" "is_name" we .none Mt Lq ML K9 Hb Li,f7,cR "are_names" "are_names" xb .none Mu Lr MM La Hc Lj,f8,cR "lies_within" "lies_within" yk .none Mv Ls MN Lb Hd Lk,f9,cR "is_right" "is_right" xq .none Mw Lu MO Lc He Ll,Hw,cR "placed_goings" "placed_goings" zt .none C6 B6 DS AY wV BA,Fy,cR "__init__" "Net.__init__" yt .none C7 B7 DT AZ wW BC,Fz,cR "most_behind" "Net.most_behind" zm .none C8 B8 DV A0 wX BD,FA,cR "into" "Net.into" xr .none C9 B9 DW A6 wY BE,FB,cR "order" "Net.order" xf .none Dd Ca DX A7 wZ BG,Hx,cR "latest" "latest" wy .none De Cb DY A8 xA BH,Hy,cR "greatest_told" "greatest_told" zu .none Df Cc DZ A9 xB BI,FC,cR "slack" "Table.slack" ym .none Dg Cd D0 Ba xC BJ,FD,cR "__init__" "Table.__init__" yc .none Dh Ce D1 Bb xD BK,Hz,cR "links_into" "links_into" yu .none Di Cf D2 Bc xE BL,HA,cR "lateness_in_last_row" "lateness_in_last_row" zj .none Dj Cg D3 Bd xF BM,HB,cR "late" "late" uq (.ref uA) yX xZ zG wQ tL xX,FE,cR "may_drop" "Ride.may_drop" zw .none Dk Ci D4 Be xG BN,FF,cR "may_drop" "Wait.may_drop" zx .none Dl Cj D5 Bf xH BO,FG,cR "may_drop" "Back.may_drop" zy .none Dn Ck D6 Bg xI BP,HC,cR "sets_of" "sets_of" wf .none Do Cm D7 Bh xJ BQ,HD,cR "is_late" "is_late" wg .none Dp Co D8 Bi xK BR,HE,cR "give_up" "give_up" wj .none Dr Cp D9 Bj xL BS,HF,cR "_law_cell_at" "_law_cell_at" yn .none Ds Cq Ea Bk xM BU,HG,cR "_law_whole" "_law_whole" xg .none Du Cr Ec Bl xN BV,HH,cR "_law_mixed" "_law_mixed" xh .none Dv Cs Ed Bm xO BW,HI,cR "_law_times" "_law_times" xi .none Dw Ct Ee Bn xP BX,HJ,cR "_law_part" "_law_part" xt .none Dx Cu Ef Bo xQ BY,HK,cR "_law_arrow" "_law_arrow" xj .none Dy Cw Eg Bp xR BZ,HL,cR "_law_puts" "_law_puts" xu .none Dz Cy Eh Bq xS B0,HM,cR "_law_longer" "_law_longer" yw .none DA Cz Ej Br xT B2,HN,cR "_law_choices" "_law_choices" yo .none DB CA Ek Bs xU B3,HP,cR "_law_late" "_law_late" xv .none DC CB Em Bt xV B4,HQ,cR "_law_right" "_law_right" xk .none DD CC En Bu xW B5,fa,cR "law" "law" Aa .none yY yA zH wR tM xY⟩:=by
  constructor
  ·exact⟨⟨pg_Arrow,hd_Arrow,po_Arrow,sa_Arrow⟩,aL X G aC_Arrow,mk_Arrow,kc_Arrow⟩
  ·exact⟨⟨pg_Ride,hd_Ride,po_Ride,sa_Ride⟩,aL X G aC_Ride,mk_Ride,kc_Ride⟩
  ·exact⟨⟨pg_Wait,hd_Wait,po_Wait,sa_Wait⟩,aL X G aC_Wait,mk_Wait,kc_Wait⟩
  ·exact⟨⟨pg_Back,hd_Back,po_Back,sa_Back⟩,aL X G aC_Back,mk_Back,kc_Back⟩
  ·exact⟨⟨pg_Net,hd_Net,po_Net,sa_Net⟩,aL X G aC_Net,mk_Net,kc_Net⟩
  ·exact⟨⟨pg_Table,hd_Table,po_Table,sa_Table⟩,aL X G aC_Table,mk_Table,kc_Table⟩
  ·exact⟨F0,⟨a0,i0,k0⟩,b0⟩
  ·exact⟨F1,⟨a1,i1,k1⟩,b1⟩
  ·exact⟨F2,⟨a2,i2,k2⟩,b2⟩
  ·exact⟨_,trivial,(.cons ⟨_,rfl⟩ .nil),G5⟩
  ·exact⟨F3,⟨a3,i3,k3⟩,b3⟩
  ·exact⟨_,trivial,(.cons ⟨_,rfl⟩ .nil),G6⟩
  ·exact⟨F4,aL X G a4,b4⟩
  ·exact⟨F5,aL X G a5,b5⟩
  ·exact⟨F6,aL X G a6,b6⟩
  ·exact⟨F7,aL X G a7,b7⟩
  ·exact⟨F8,aL X G a8,b8⟩
  ·exact⟨F9,aL X G a9,b9⟩
  ·exact⟨PX,aL X G a10,Qv⟩
  ·exact⟨PY,⟨a11,i11,k11⟩,Qw⟩
  ·exact⟨PZ,⟨a12,i12,k12⟩,Qx⟩
  ·exact⟨P0,⟨a13,i13,k13⟩,Qy⟩
  ·exact⟨P1,⟨a14,i14,k14⟩,Qz⟩
  ·exact⟨P2,aL X G a15,QA⟩
  ·exact⟨P3,aL X G a16,QB⟩
  ·exact⟨P4,⟨a17,i17,k17⟩,QC⟩
  ·exact⟨P5,⟨a18,i18,k18⟩,QD⟩
  ·exact⟨P6,aL X G a19,QE⟩
  ·exact⟨P7,aL X G a20,QF⟩
  ·exact⟨P8,aL X G a21,QG⟩
  ·exact⟨_,trivial,(.cons rfl .nil),Bv⟩
  ·exact⟨P9,⟨a22,i22,k22⟩,QH⟩
  ·exact⟨Qa,⟨a23,i23,k23⟩,QI⟩
  ·exact⟨Qb,⟨a24,i24,k24⟩,QJ⟩
  ·exact⟨Qc,aL X G a25,QK⟩
  ·exact⟨Qd,aL X G a26,QL⟩
  ·exact⟨Qe,aL X G a27,QM⟩
  ·exact⟨Qf,aL X G a28,QN⟩
  ·exact⟨Qg,aL X G a29,QO⟩
  ·exact⟨Qh,aL X G a30,QP⟩
  ·exact⟨Qi,aL X G a31,QQ⟩
  ·exact⟨Qj,aL X G a32,QR⟩
  ·exact⟨Qk,aL X G a33,QS⟩
  ·exact⟨Ql,aL X G a34,QT⟩
  ·exact⟨Qm,aL X G a35,QU⟩
  ·exact⟨Qn,aL X G a36,QW⟩
  ·exact⟨Qo,aL X G a37,QX⟩
  ·exact⟨Qp,aL X G a38,QY⟩
  ·exact⟨Qq,aL X G a39,QZ⟩
  ·exact⟨qs_Arrow,qr_Arrow,qf_Arrow⟩
  ·exactλc hc=>by
    simp only[av,bQ,or_false]at hc
    rcases hc with rfl
    all_goals first|exact⟨⟨pg_Net,hd_Net,po_Net,sa_Net⟩,n_Net_arrows⟩
  ·exactλc hc=>by
    simp only[av,bQ,or_false]at hc
    rcases hc with rfl
    all_goals first|exact⟨⟨pg_Table,hd_Table,po_Table,sa_Table⟩,n_Table_beat⟩
  ·exactλc hc=>by
    simp only[av,bQ,or_false]at hc
    rcases hc with rfl|rfl|rfl|rfl
    all_goals first|exact⟨⟨pg_Arrow,hd_Arrow,po_Arrow,sa_Arrow⟩,n_Arrow_behind⟩|exact⟨⟨pg_Ride,hd_Ride,po_Ride,sa_Ride⟩,n_Ride_behind⟩|exact⟨⟨pg_Wait,hd_Wait,po_Wait,sa_Wait⟩,n_Wait_behind⟩|exact⟨⟨pg_Back,hd_Back,po_Back,sa_Back⟩,n_Back_behind⟩
  ·exactλc hc=>by
    simp only[av,bQ,or_false]at hc
    rcases hc with rfl|rfl|rfl|rfl
    all_goals first|exact⟨⟨pg_Arrow,hd_Arrow,po_Arrow,sa_Arrow⟩,n_Arrow_goal⟩|exact⟨⟨pg_Ride,hd_Ride,po_Ride,sa_Ride⟩,n_Ride_goal⟩|exact⟨⟨pg_Wait,hd_Wait,po_Wait,sa_Wait⟩,n_Wait_goal⟩|exact⟨⟨pg_Back,hd_Back,po_Back,sa_Back⟩,n_Back_goal⟩
  ·exactλc hc=>by
    simp only[av,bQ,or_false]at hc
    rcases hc with rfl
    all_goals first|exact⟨⟨pg_Net,hd_Net,po_Net,sa_Net⟩,n_Net_names⟩
  ·exactλc hc=>by
    simp only[av,bQ,or_false]at hc
    rcases hc with rfl
    all_goals first|exact⟨⟨pg_Table,hd_Table,po_Table,sa_Table⟩,n_Table_net⟩
  ·exactλc hc=>by
    simp only[av,bQ,or_false]at hc
    rcases hc with rfl|rfl|rfl|rfl
    all_goals first|exact⟨⟨pg_Arrow,hd_Arrow,po_Arrow,sa_Arrow⟩,n_Arrow_start⟩|exact⟨⟨pg_Ride,hd_Ride,po_Ride,sa_Ride⟩,n_Ride_start⟩|exact⟨⟨pg_Wait,hd_Wait,po_Wait,sa_Wait⟩,n_Wait_start⟩|exact⟨⟨pg_Back,hd_Back,po_Back,sa_Back⟩,n_Back_start⟩
  ·exactλc hc=>by
    simp only[av,bQ,or_false]at hc
    rcases hc with rfl|rfl|rfl|rfl
    all_goals first|exact⟨⟨pg_Arrow,hd_Arrow,po_Arrow,sa_Arrow⟩,n_Arrow_time⟩|exact⟨⟨pg_Ride,hd_Ride,po_Ride,sa_Ride⟩,n_Ride_time⟩|exact⟨⟨pg_Wait,hd_Wait,po_Wait,sa_Wait⟩,n_Wait_time⟩|exact⟨⟨pg_Back,hd_Back,po_Back,sa_Back⟩,n_Back_time⟩
  ·exactλc hc=>by
    simp only[av,bQ,or_false]at hc
    rcases hc with rfl
    all_goals first|exact⟨⟨pg_Table,hd_Table,po_Table,sa_Table⟩,n_Table_times⟩
  ·exactλc hc=>by
    simp only[av,bQ,or_false]at hc
    rcases hc with rfl|rfl|rfl|rfl|rfl|rfl
    all_goals first|exact⟨⟨⟨pg_Arrow,hd_Arrow,po_Arrow,sa_Arrow⟩,iga_Arrow,ign,igt,igm_Arrow⟩,kit_Arrow_Back⟩|exact⟨⟨⟨pg_Ride,hd_Ride,po_Ride,sa_Ride⟩,iga_Ride,ign,igt,igm_Ride⟩,kit_Ride_Back⟩|exact⟨⟨⟨pg_Wait,hd_Wait,po_Wait,sa_Wait⟩,iga_Wait,ign,igt,igm_Wait⟩,kit_Wait_Back⟩|exact⟨⟨⟨pg_Back,hd_Back,po_Back,sa_Back⟩,iga_Back,ign,igt,igm_Back⟩,kit_Back_Back⟩|exact⟨⟨⟨pg_Net,hd_Net,po_Net,sa_Net⟩,iga_Net,ign,igt,igm_Net⟩,kit_Net_Back⟩|exact⟨⟨⟨pg_Table,hd_Table,po_Table,sa_Table⟩,iga_Table,ign,igt,igm_Table⟩,kit_Table_Back⟩
  ·exactλc hc=>by
    simp only[av,bQ,or_false]at hc
    rcases hc with rfl|rfl|rfl|rfl|rfl|rfl
    all_goals first|exact⟨⟨⟨pg_Arrow,hd_Arrow,po_Arrow,sa_Arrow⟩,iga_Arrow,ign,igt,igm_Arrow⟩,kit_Arrow_Ride⟩|exact⟨⟨⟨pg_Ride,hd_Ride,po_Ride,sa_Ride⟩,iga_Ride,ign,igt,igm_Ride⟩,kit_Ride_Ride⟩|exact⟨⟨⟨pg_Wait,hd_Wait,po_Wait,sa_Wait⟩,iga_Wait,ign,igt,igm_Wait⟩,kit_Wait_Ride⟩|exact⟨⟨⟨pg_Back,hd_Back,po_Back,sa_Back⟩,iga_Back,ign,igt,igm_Back⟩,kit_Back_Ride⟩|exact⟨⟨⟨pg_Net,hd_Net,po_Net,sa_Net⟩,iga_Net,ign,igt,igm_Net⟩,kit_Net_Ride⟩|exact⟨⟨⟨pg_Table,hd_Table,po_Table,sa_Table⟩,iga_Table,ign,igt,igm_Table⟩,kit_Table_Ride⟩
  ·exact bH X G z0
  ·exact bH X G z1
  ·exact bH X G z2
  ·exact bH X G z3
  ·exact bH X G z4
  ·exact bH X G z5
  ·exact bH X G z6
  ·exact bH X G z7
  ·exact bH X G z8
  ·exact bH X G z9
  ·exact bH X G z10
  ·exact bH X G z11
  ·exact bH X G z12
  ·exact⟨_,aL X G gc0⟩
  ·exact⟨_,aL X G gc1⟩
  ·exact⟨_,aL X G gc2⟩
  ·exact⟨_,aL X G gc3⟩
  ·exact⟨_,aL X G gc4⟩
  ·exact⟨_,aL X G gc5⟩
 exact⟨cR "law" "law" Aa .none yY yA zH wR tM xY,λs v=>.of_eq rfl,λbase _ _=>ztu T⟩
theorem walk {l:kY}{q:aW}{loose:List aP}{XP:(aP->Option aa)->aI->Prop}{YP:bv->aI->Prop}{d:DefRec}{K:Params->ae}(hn:l.most=some 63)(CI:d.params.defaults=[])
  (hY:∀(w:bv) (h:aI),YP w h->(K w.params).In h)
  (F:∀(w:bv) (mg:aP->Option aa) (fa:af) (h:aI),(K w.params).In h->h.Ns ax mg->mg d.name=some (.ref fa) ->
   ∃fd:aM,(∀(s:ah) (u:aa),nY s fd ⟨[u],[]⟩ [("_law_script",u)])/\∀base:aI,(K w.params).In base->base.Ns ax mg->cI l.prog w (K w.params) mg base eP 6 fa fd ["_law_script"] (nj (K w.params))) :
  rM q loose XP YP l.row.toRowW d [] (λf vs=>PySem.call f vs) :=
 L2.walk_of (n:=63) (k:=6) (x:="_law_script") (CX:=λ_=>eP) (sp:=λw=>nj (K w.params)) hn (by decide) CI ⟨rfl,by decide,by decide,rfl⟩ hY F (λ_ _ a ns hl _ hS=>⟨a,ns,rfl,hS,hl,λ_=>rfl⟩) λ_ _ _ _ _ z=>z
end My
-- KEEP
namespace PySem.W.Fast
def tw203671853385220213:=0
def tw3003289458346324374:=0
def tw18063080892081594093:=0
def tw7513471117134720526:=0
def tw16996452025865616766:=0
def tw10539527801206328247:=0
def tw5736588893571052548:=0
def tw4369570818848363855:=0
def tw15565289069346560121:=0
def tw2959071644442601944:=0
def tw16084136915778392604:=0
def tw10783504406915468189:=0
def tw17841915944239950935:=0
def tw3025077755227053554:=0
def tw168589732886854544:=0
def tw131107061198900747:=0
def tw3177312045634019102:=0
def tw12891292631089317291:=0
def tw1017019171810268096:=0
def tw17662860926484343486:=0
def tw14964823098732370412:=0
def tw17203473883976147743:=0
def tw3116962719690391953:=0
def tw14569710799995543954:=0
def tw8065186548545132086:=0
def tw17729287100190145789:=0
def tw14537956619913565924:=0
def tw5527042780774876520:=0
def tw16193441805539211797:=0
def tw4357093837938313508:=0
def tw9528095401841590750:=0
def tw2397576338427674093:=0
def tw2120531805311865364:=0
def tw6853394589808105808:=0
def tw7298927891409438727:=0
def tw8952950230187090981:=0
def tw630959656911510457:=0
def tw6788032051665674491:=0
def tw3650839173000612878:=0
def tw17757156897281086342:=0
def tw9683547826853113434:=0
def tw4554658458448176866:=0
def tw7676379343934429267:=0
def tw5492620986974316752:=0
def tw1392980122170494220:=0
def tw13014165660653402261:=0
def tw5339427004803332167:=0
def tw9003279294290773137:=0
def tw5585379882901282853:=0
def tw17803119907102509040:=0
def tw11427811889232350290:=0
def tw5493354899057084624:=0
def tw16858914479471385203:=0
def tw2712230267620248936:=0
def tw16877686793523067715:=0
end PySem.W.Fast
open PySem PySem.W PyProof.Rows
set_option maxRecDepth 100000 in
set_option maxHeartbeats 0 in
theorem PySem.Challenge.cw_ringbeat_k67_whole_fewest_given_up_holds : PySem.Challenge.rw_ringbeat_k67_whole_fewest_given_up.Holds := by
  w_on; o_law; k_head; (case hw => w_witness2)
  k_fill
  refine My.walk (l := PySem.Challenge.rw_ringbeat_k67_whole_fewest_given_up) rfl rfl (fun w h Y => PySem.W.kIn_of Y) ?F
  case F =>
    intro w mg fa h KX G hmg
    refine' My.all_mk KX G hmg ?aC_Arrow ?pg_Arrow ?hd_Arrow ?po_Arrow ?sa_Arrow ?mk_Arrow ?kc_Arrow ?aC_Ride ?pg_Ride ?hd_Ride ?po_Ride ?sa_Ride ?mk_Ride ?kc_Ride ?aC_Wait ?pg_Wait ?hd_Wait ?po_Wait ?sa_Wait ?mk_Wait ?kc_Wait ?aC_Back ?pg_Back ?hd_Back ?po_Back ?sa_Back ?mk_Back ?kc_Back ?aC_Net ?pg_Net ?hd_Net ?po_Net ?sa_Net ?mk_Net ?kc_Net ?aC_Table ?pg_Table ?hd_Table ?po_Table ?sa_Table ?mk_Table ?kc_Table ?a0 ?i0 ?l0 ?c0 ?k0 ?a1 ?i1 ?l1 ?c1 ?k1 ?a2 ?i2 ?l2 ?c2 ?k2 ?t2 ?a3 ?i3 ?l3 ?c3 ?k3 ?t3 ?a4 ?l4 ?c4 ?k4 ?a5 ?l5 ?c5 ?k5 ?a6 ?l6 ?c6 ?k6 ?a7 ?l7 ?c7 ?k7 ?a8 ?l8 ?c8 ?k8 ?a9 ?l9 ?c9 ?k9 ?a10 ?l10 ?c10 ?k10 ?a11 ?i11 ?l11 ?c11 ?k11 ?a12 ?i12 ?l12 ?c12 ?k12 ?a13 ?i13 ?l13 ?c13 ?k13 ?a14 ?i14 ?l14 ?c14 ?k14 ?a15 ?l15 ?c15 ?k15 ?a16 ?l16 ?c16 ?k16 ?a17 ?i17 ?l17 ?c17 ?k17 ?a18 ?i18 ?l18 ?c18 ?k18 ?a19 ?l19 ?c19 ?k19 ?a20 ?l20 ?c20 ?k20 ?a21 ?l21 ?c21 ?k21 ?t21 ?a22 ?i22 ?l22 ?c22 ?k22 ?a23 ?i23 ?l23 ?c23 ?k23 ?a24 ?i24 ?l24 ?c24 ?k24 ?a25 ?l25 ?c25 ?k25 ?a26 ?l26 ?c26 ?k26 ?a27 ?l27 ?c27 ?k27 ?a28 ?l28 ?c28 ?k28 ?a29 ?l29 ?c29 ?k29 ?a30 ?l30 ?c30 ?k30 ?a31 ?l31 ?c31 ?k31 ?a32 ?l32 ?c32 ?k32 ?a33 ?l33 ?c33 ?k33 ?a34 ?l34 ?c34 ?k34 ?a35 ?l35 ?c35 ?k35 ?a36 ?l36 ?c36 ?k36 ?a37 ?l37 ?c37 ?k37 ?a38 ?l38 ?c38 ?k38 ?a39 ?l39 ?c39 ?k39 ?qs_Arrow ?qr_Arrow ?qf_Arrow ?n_Net_arrows ?n_Table_beat ?n_Arrow_behind ?n_Ride_behind ?n_Wait_behind ?n_Back_behind ?n_Arrow_goal ?n_Ride_goal ?n_Wait_goal ?n_Back_goal ?n_Net_names ?n_Table_net ?n_Arrow_start ?n_Ride_start ?n_Wait_start ?n_Back_start ?n_Arrow_time ?n_Ride_time ?n_Wait_time ?n_Back_time ?n_Table_times ?ign ?igt ?iga_Arrow ?igm_Arrow ?kit_Arrow_Back ?kit_Arrow_Ride ?iga_Ride ?igm_Ride ?kit_Ride_Back ?kit_Ride_Ride ?iga_Wait ?igm_Wait ?kit_Wait_Back ?kit_Wait_Ride ?iga_Back ?igm_Back ?kit_Back_Back ?kit_Back_Ride ?iga_Net ?igm_Net ?kit_Net_Back ?kit_Net_Ride ?iga_Table ?igm_Table ?kit_Table_Back ?kit_Table_Ride ?z0 ?z1 ?z2 ?z3 ?z4 ?z5 ?z6 ?z7 ?z8 ?z9 ?z10 ?z11 ?z12 ?gc0 ?gc1 ?gc2 ?gc3 ?gc4 ?gc5
    (case aC_Arrow => k_is)
    (case pg_Arrow => k_is)
    (case hd_Arrow => k_is)
    (case po_Arrow => k_is)
    (case sa_Arrow => k_is)
    (case mk_Arrow => k_is)
    (case kc_Arrow => k_is)
    (case aC_Ride => k_is)
    (case pg_Ride => k_is)
    (case hd_Ride => k_is)
    (case po_Ride => k_is)
    (case sa_Ride => k_is)
    (case mk_Ride => k_is)
    (case kc_Ride => k_is)
    (case aC_Wait => k_is)
    (case pg_Wait => k_is)
    (case hd_Wait => k_is)
    (case po_Wait => k_is)
    (case sa_Wait => k_is)
    (case mk_Wait => k_is)
    (case kc_Wait => k_is)
    (case aC_Back => k_is)
    (case pg_Back => k_is)
    (case hd_Back => k_is)
    (case po_Back => k_is)
    (case sa_Back => k_is)
    (case mk_Back => k_is)
    (case kc_Back => k_is)
    (case aC_Net => k_is)
    (case pg_Net => k_is)
    (case hd_Net => k_is)
    (case po_Net => k_is)
    (case sa_Net => k_is)
    (case mk_Net => k_is)
    (case kc_Net => k_is)
    (case aC_Table => k_is)
    (case pg_Table => k_is)
    (case hd_Table => k_is)
    (case po_Table => k_is)
    (case sa_Table => k_is)
    (case mk_Table => k_is)
    (case kc_Table => k_is)
    (case a0 => k_is)
    (case i0 => k_is)
    (case l0 => k_is)
    (case c0 => k_is)
    (case k0 => k_is)
    (case a1 => k_is)
    (case i1 => k_is)
    (case l1 => k_is)
    (case c1 => k_is)
    (case k1 => k_is)
    (case a2 => k_is)
    (case i2 => k_is)
    (case l2 => k_is)
    (case c2 => k_is)
    (case k2 => k_is)
    (case t2 => k_is)
    (case a3 => k_is)
    (case i3 => k_is)
    (case l3 => k_is)
    (case c3 => k_is)
    (case k3 => k_is)
    (case t3 => k_is)
    (case a4 => k_is)
    (case l4 => k_is)
    (case c4 => k_is)
    (case k4 => k_is)
    (case a5 => k_is)
    (case l5 => k_is)
    (case c5 => k_is)
    (case k5 => k_is)
    (case a6 => k_is)
    (case l6 => k_is)
    (case c6 => k_is)
    (case k6 => k_is)
    (case a7 => k_is)
    (case l7 => k_is)
    (case c7 => k_is)
    (case k7 => k_is)
    (case a8 => k_is)
    (case l8 => k_is)
    (case c8 => k_is)
    (case k8 => k_is)
    (case a9 => k_is)
    (case l9 => k_is)
    (case c9 => k_is)
    (case k9 => k_is)
    (case a10 => k_is)
    (case l10 => k_is)
    (case c10 => k_is)
    (case k10 => k_is)
    (case a11 => k_is)
    (case i11 => k_is)
    (case l11 => k_is)
    (case c11 => k_is)
    (case k11 => k_is)
    (case a12 => k_is)
    (case i12 => k_is)
    (case l12 => k_is)
    (case c12 => k_is)
    (case k12 => k_is)
    (case a13 => k_is)
    (case i13 => k_is)
    (case l13 => k_is)
    (case c13 => k_is)
    (case k13 => k_is)
    (case a14 => k_is)
    (case i14 => k_is)
    (case l14 => k_is)
    (case c14 => k_is)
    (case k14 => k_is)
    (case a15 => k_is)
    (case l15 => k_is)
    (case c15 => k_is)
    (case k15 => k_is)
    (case a16 => k_is)
    (case l16 => k_is)
    (case c16 => k_is)
    (case k16 => k_is)
    (case a17 => k_is)
    (case i17 => k_is)
    (case l17 => k_is)
    (case c17 => k_is)
    (case k17 => k_is)
    (case a18 => k_is)
    (case i18 => k_is)
    (case l18 => k_is)
    (case c18 => k_is)
    (case k18 => k_is)
    (case a19 => k_is)
    (case l19 => k_is)
    (case c19 => k_is)
    (case k19 => k_is)
    (case a20 => k_is)
    (case l20 => k_is)
    (case c20 => k_is)
    (case k20 => k_is)
    (case a21 => k_is)
    (case l21 => k_is)
    (case c21 => k_is)
    (case k21 => k_is)
    (case t21 => k_is)
    (case a22 => k_is)
    (case i22 => k_is)
    (case l22 => k_is)
    (case c22 => k_is)
    (case k22 => k_is)
    (case a23 => k_is)
    (case i23 => k_is)
    (case l23 => k_is)
    (case c23 => k_is)
    (case k23 => k_is)
    (case a24 => k_is)
    (case i24 => k_is)
    (case l24 => k_is)
    (case c24 => k_is)
    (case k24 => k_is)
    (case a25 => k_is)
    (case l25 => k_is)
    (case c25 => k_is)
    (case k25 => k_is)
    (case a26 => k_is)
    (case l26 => k_is)
    (case c26 => k_is)
    (case k26 => k_is)
    (case a27 => k_is)
    (case l27 => k_is)
    (case c27 => k_is)
    (case k27 => k_is)
    (case a28 => k_is)
    (case l28 => k_is)
    (case c28 => k_is)
    (case k28 => k_is)
    (case a29 => k_is)
    (case l29 => k_is)
    (case c29 => k_is)
    (case k29 => k_is)
    (case a30 => k_is)
    (case l30 => k_is)
    (case c30 => k_is)
    (case k30 => k_is)
    (case a31 => k_is)
    (case l31 => k_is)
    (case c31 => k_is)
    (case k31 => k_is)
    (case a32 => k_is)
    (case l32 => k_is)
    (case c32 => k_is)
    (case k32 => k_is)
    (case a33 => k_is)
    (case l33 => k_is)
    (case c33 => k_is)
    (case k33 => k_is)
    (case a34 => k_is)
    (case l34 => k_is)
    (case c34 => k_is)
    (case k34 => k_is)
    (case a35 => k_is)
    (case l35 => k_is)
    (case c35 => k_is)
    (case k35 => k_is)
    (case a36 => k_is)
    (case l36 => k_is)
    (case c36 => k_is)
    (case k36 => k_is)
    (case a37 => k_is)
    (case l37 => k_is)
    (case c37 => k_is)
    (case k37 => k_is)
    (case a38 => k_is)
    (case l38 => k_is)
    (case c38 => k_is)
    (case k38 => k_is)
    (case a39 => k_is)
    (case l39 => k_is)
    (case c39 => k_is)
    (case k39 => k_is)
    (case qs_Arrow => k_is)
    (case qr_Arrow => k_is)
    (case qf_Arrow => k_is)
    (case n_Net_arrows => k_is)
    (case n_Table_beat => k_is)
    (case n_Arrow_behind => k_is)
    (case n_Ride_behind => k_is)
    (case n_Wait_behind => k_is)
    (case n_Back_behind => k_is)
    (case n_Arrow_goal => k_is)
    (case n_Ride_goal => k_is)
    (case n_Wait_goal => k_is)
    (case n_Back_goal => k_is)
    (case n_Net_names => k_is)
    (case n_Table_net => k_is)
    (case n_Arrow_start => k_is)
    (case n_Ride_start => k_is)
    (case n_Wait_start => k_is)
    (case n_Back_start => k_is)
    (case n_Arrow_time => k_is)
    (case n_Ride_time => k_is)
    (case n_Wait_time => k_is)
    (case n_Back_time => k_is)
    (case n_Table_times => k_is)
    (case ign => k_is)
    (case igt => k_is)
    (case iga_Arrow => k_is)
    (case igm_Arrow => k_is)
    (case kit_Arrow_Back => kit_is)
    (case kit_Arrow_Ride => kit_is)
    (case iga_Ride => k_is)
    (case igm_Ride => k_is)
    (case kit_Ride_Back => kit_is)
    (case kit_Ride_Ride => kit_is)
    (case iga_Wait => k_is)
    (case igm_Wait => k_is)
    (case kit_Wait_Back => kit_is)
    (case kit_Wait_Ride => kit_is)
    (case iga_Back => k_is)
    (case igm_Back => k_is)
    (case kit_Back_Back => kit_is)
    (case kit_Back_Ride => kit_is)
    (case iga_Net => k_is)
    (case igm_Net => k_is)
    (case kit_Net_Back => kit_is)
    (case kit_Net_Ride => kit_is)
    (case iga_Table => k_is)
    (case igm_Table => k_is)
    (case kit_Table_Back => kit_is)
    (case kit_Table_Ride => kit_is)
    (case z0 => k_is)
    (case z1 => k_is)
    (case z2 => k_is)
    (case z3 => k_is)
    (case z4 => k_is)
    (case z5 => k_is)
    (case z6 => k_is)
    (case z7 => k_is)
    (case z8 => k_is)
    (case z9 => k_is)
    (case z10 => k_is)
    (case z11 => k_is)
    (case z12 => k_is)
    (case gc0 => k_is)
    (case gc1 => k_is)
    (case gc2 => k_is)
    (case gc3 => k_is)
    (case gc4 => k_is)
    (case gc5 => k_is)
