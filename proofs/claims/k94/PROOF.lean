import PyProof.Rows.All
import Wide.All
import OpenK.AllK
import Wide.FinOn
import Lean
import PyProof.EqAt
import PyProof.EqKinds
import PyProof.TupleCall
import PyProof.ExcClass3
import PyProof.ExcBaseAll.ValueError
import KE.KTryMore
import PyProof.FString2
import KE.KDictList
import PySem.Challenge.RW_ringbeat_k94_whole_turned_about
set_option Elab.async false
set_option linter.all false
set_option maxRecDepth 100000
open Array renaming length_toList→dP,getElem?_eq_some_iff→ij
open Bool renaming false_ne_true→aJ,and_eq_true→bS,false_eq_true→cE,or_eq_false_iff→qP,or_false→yC
open Int renaming mul_le_mul_of_nonneg_right→aR,mul_le_mul_of_nonneg_left→cw,le_of_lt→cS,mul_le_mul→dE,mul_pos→dF,gcd→eK,mul_comm→eL,eq_of_mul_eq_mul_right→fF,le_of_mul_le_mul_right→fG,le_refl→fV,mul_nonneg→gj,toNat_natCast→gk,fdiv_eq_ediv_of_nonneg→iz,mul_assoc→iS,natAbs_dvd_natAbs→jS,mul_nonneg_of_nonpos_of_nonpos→lh,gcd_dvd_right→lJ,le_trans→lK,add_mul→mJ,mul_one→mK,nonneg_of_mul_nonneg_left→mL,one_mul→mM,fmod_eq_emod_of_nonneg→nQ,natAbs_mul→nR,le_of_mul_le_mul_left→ot,pos_of_mul_pos_right→o7,fdiv_eq_ediv_of_dvd→pA,fmod_nonneg_of_pos→p3,mul_ediv_cancel'→rR,toNat_of_nonneg→sr,fmod_lt_of_pos→tG,gcd_dvd_left→vH,emod_nonneg→wF
open List renaming mem_cons_self→af,mem_cons_of_mem→ak,length_map→aq,replicate→ax,mem_singleton→aB,length_cons→aC,mem_append_right→aD,mem_cons→aE,size_toArray→aL,map_cons→aV,length_append→aX,mem_append→aZ,range→ba,getElem?_eq_some_iff→bg,lookup_cons→bj,mem_append_left→bq,nodup_append→br,getElem?_map→bw,length_range→bF,nodup_cons→bJ,mem_map→bK,nodup_nil→bL,append_nil→bO,mem_range→bU,sum_cons→ce,replicate_succ→cj,not_mem_nil→cA,length_singleton→cB,mem_iff_getElem?→cN,Nodup→cU,getElem?_set_ne→cV,find?_cons→dg,length_replicate→dq,getElem?_eq_getElem→dA,flatten_cons→dL,mem_filter→dN,map_map→dR,getElem?_append_left→dZ,map_append→d8,append_assoc→ed,all_cons→ej,countP_cons→eu,range'→eE,length_zip→eQ,lookup→fw,mem_iff_getElem→fC,length_take→fJ,zip_cons_cons→fQ,getElem?_replicate→fS,drop_of_length_le→gd,take_of_length_le→gh,length_drop→gG,of_mem_zip→gR,length_reverse→gU,countP_append→ir,getElem?_append_right→iu,drop_eq_getElem_cons→iF,reverse_cons→iK,reverse_perm→iL,any_cons→iM,map_reverse→iY,nodup_range→iZ,drop_eq_nil_of_le→jB,getElem?_set_self→jC,countP_mono_left→jM,mem_of_getElem?→jZ,filterMap_cons→kx,map_congr_left→ky,contains_cons→kL,findIdx?_cons→kN,ext_getElem?→lA,range'_succ→lX,all_eq_true→lY,getElem_inj→lZ,mem_reverse→ma,eq_nil_of_length_eq_zero→my,take_append_of_le_length→mz,map_const'→mP,foldl_cons→mQ,forIn_cons→mR,length_nil→mS,perm_ext_iff_of_nodup→nE,Pairwise→ou,contains→oy,map_drop→oz,filter_cons_of_neg→o8,filter_cons_of_pos→o9,length_eq_zero_iff→pf,map_nil→pB,countP_singleton→p4,getElem?_eq_none→p5,range_eq_range'→qR,getElem_toArray→qS,length→qT,mem_of_mem_take→qU,length_pos_iff→rS,find?_eq_none→su,foldl→sx,map_singleton→sy,mem_filterMap→sA,foldl_append→tH,getElem?_set→tJ,getElem_take→tK,idxOf_append→tL,ext_getElem→t9,getElem_set→uA,find?_some→vI,length_set→vJ,nil_append→vK,zip_append→vL,forIn_nil→wG
open Nat renaming le_refl→aF,lt_of_lt_of_le→bc,ne_of_lt→bo,le_trans→bZ,zero_le→dh,pow_le_pow_right→dG,lt_irrefl→er,lt_succ_of_lt→eX,lt_succ_self→fM,lt_of_le_of_lt→fU,min_self→ik,le_succ→iN,le_of_lt→lL,le_of_succ_le→lM,ne_of_gt→lN,pow_succ→lO,min_eq_right→mC,log2_lt→mT,min_eq_left→ni,mod_lt→nS,le_of_eq→p6,le_total→p7,zero_add→p9,add_le_add→yD,mul_le_mul→yE
open Option renaming map_eq_some_iff→bY,bind_some→ck,isSome_map→kO,isSome_iff_exists→nF,getD_none→sC,map_some→tM
open PyProof.Rows renaming callWith_type1→cz,callWith_builtin1→ka
open PySem renaming Value→aa,Addr→ah,Shared→aj,starEach→ap,mainGlobals→av,wpAny_bind→aw,FuncData→aH,model→aI,Str→aK,Heap→aM,wpAny→aT,wpAny_pure→bi,Program→bn,NameKind→bp,Around→bx,Stmt→bD,eval→bG,World→bP,PassesOwn→bV,bootBuiltins→bW,sizeLine_eq→bX,backTo→cu,wpAny_Call_Name_kw→cJ,compareOp→cL,strIterType→cP,Pos→cX,assignEach→cZ,wpAny_mono→dc,Obj→df,Builtin→di,PyData→dk,foldedSetIterable→dm,keywordEach→dz,swapsWith→dH,behindInMarks→dM,holding→dS,binaryOp→d9,codeAny→eJ,backToKw→e9,wpAny_passesOwn→fk,attributeBase→fD,wpAny_truthy_bool→fK,standAt→fO,Scope→gc,sysModules→gq,getMethod→gx,codeAny_mono→gJ,assign→gW,Keyword→gZ,cLine→ip,sliceBounds→iq,letOwnedTupleGo→iA,callWith→iT,tupleKind_room_in1→iU,wpAny_newObj_type→jD,wpAny_standAt→jH,Operator→jT,Data→kj,wpAny_execs_nil→kz,newFunctionEnv→li,CmpOp→mh,swappedStores→mj,swapsWithSole→ml,wpAny_holding→mm,call_meets→mD,typeLookup→mE,callerA→nj,getItem→nk,seqIndex_neg→nq,setItem→nr,valueAt→nu,tupleKind→nU,seqIndex_of→oA,subscripted→oB,Code→pj,Sem→pq,wpAny_specialOf→pw,BindsTo→pC,atKey→qA,closureFor→qB,compEnvC→qC,compPost→qD,isTrue→qE,bindC→sD,bindL→sE,concat_meets→tO,release→tP,builtinsNs→yF,revObj→yG,typeIs_int→yH,wpAny_Name→yI
open PySem.Heap renaming get?_push_of_some→ar,lt_size→aO,get?_push_size→bH,get?_update_other→cI,get?_update_self→dW,size_push→et,SameBut→gY,update_setField_same→nP,get?_none_of_le→qQ,get?_update_ne→rQ,get?_push_at→tF
open PySem.W renaming Frag→ae,findIn→am,keepIn→ao,nsIn→ay,codeIn→az,mg_of→aA,mroIn→bz,kitOne→bA,hasDictIn→bM,specialIn→bQ,mg_none_of→bT,kia_one→cD,isFn→cH,Looks→cM,plainGet→cT,emptyDict→de,plainOver→dC,makesIn→dI,instObj→dX,takerIn→dY,callWith_K→ez,findCls→eF,readsIn→eI,methodCall_KW→eM,exmOne→eW,takesIn→gK,fnOf→gP,cellsFrom_some→iV,lookIn→jI,looks_findIn→jJ,looks_clsIn→jU,plainGet_of→jV,clsIn→kb,subIn→kc,kitx_list→kG,methodObj→kJ,OpenLaw→lP,isClsIn→lQ,typeIn→mF,check_slot→qF,method_cls→qG,cls_value→qV,kitx_dict→qW,set_plain→qX,InitBack→rT,handedIn→rV,bind_fn→sI,InstAt→tQ,instIn→tR,notCls→tS,WalkO→uB
namespace L2
open PySem PySem.Spec PyProof.Rows
abbrev fu:=Sum Int aK
def n8:fu->aa->Bool
 |.inl k,v=>aa.isInt k v
 |.inr x,v=>aa.isStrOf x v
def Mn (w:bP):fu->Int
 |.inl k=>hashInt k
 |.inr x=>hashStr w x
theorem w6:∀{k:fu} {v:aa},n8 k v=true->(∃i t,k=Sum.inl i/\v=aa.int i t)\/(∃x t,k=Sum.inr x/\v=aa.str x t)
 |.inl i,v,h=>by
  obtain⟨t,e⟩:=aa.isInt_shape (k:=i) (v:=v) h
  exact .inl ⟨i,t,rfl,e⟩
 |.inr x,v,h=>by
  obtain⟨t,e⟩:=aa.isStrOf_shape (x:=x) (v:=v) h
  exact .inr ⟨x,t,rfl,e⟩
theorem Z3 (i:Int)(t:Tok):n8 (.inl i) (.int i t)=true:=by simp[n8,aa.isInt]
theorem Z4 (x:aK)(t:Tok):n8 (.inr x) (.str x t)=true:=by simp[n8,aa.isStrOf]
theorem zse (a b:Int):decide ((Sum.inl a:fu)=Sum.inl b)=(a==b):=by
 by_cases e:a=b
 ·subst e;simp
 ·have h:¬(Sum.inl a:fu)=Sum.inl b:=λq=>e (Sum.inl.inj q)
  rw[decide_eq_false h]
  exact(beq_eq_false_iff_ne.mpr e).symm
theorem zsf (a b:aK):decide ((Sum.inr a:fu)=Sum.inr b)=decide (a=b):=by
 by_cases e:a=b
 ·subst e;simp
 ·have h:¬(Sum.inr a:fu)=Sum.inr b:=λq=>e (Sum.inr.inj q)
  rw[decide_eq_false h,decide_eq_false e]
theorem zsg (a:Int)(b:aK):decide ((Sum.inl a:fu)=Sum.inr b)=false:=decide_eq_false (λq=>nomatch q)
theorem zsh (a:aK)(b:Int):decide ((Sum.inr a:fu)=Sum.inl b)=false:=decide_eq_false (λq=>nomatch q)
def fE (prog:bn)(w:bP):PySem.KeyKind prog w fu where
 is:=n8
 hash:=Mn w
 inj:=λv a b ha hb=>by
  rcases w6 ha with⟨i,t,rfl,rfl⟩|⟨x,t,rfl,rfl⟩
  ·rcases w6 hb with⟨j,u,rfl,e⟩|⟨y,u,rfl,e⟩
   ·injection e with e1 _;rw[e1]
   ·exact nomatch e
  ·rcases w6 hb with⟨j,u,rfl,e⟩|⟨y,u,rfl,e⟩
   ·exact nomatch e
   ·injection e with e1 _;rw[e1]
 byValue:=λk v h=>by
  rcases w6 h with⟨i,t,rfl,rfl⟩|⟨x,t,rfl,rfl⟩<;>rfl
 pyHash:=λhv h=>by
  rcases w6 hv with⟨i,t,rfl,rfl⟩|⟨x,t,rfl,rfl⟩
  ·exact wpAny_pyHash_int h
  ·exact wpAny_pyHash_str h
 eqBool:=λhu hv h=>by
  rcases w6 hu with⟨i,t,rfl,rfl⟩|⟨x,t,rfl,rfl⟩
  ·rcases w6 hv with⟨j,u,rfl,rfl⟩|⟨y,u,rfl,rfl⟩
   ·rw[zse]at h;exact wpAny_eqBool_int h
   ·rw[zsg]at h;exact SeqAt.EqAt.int_str i t y u _ _ _ _ h
  ·rcases w6 hv with⟨j,u,rfl,rfl⟩|⟨y,u,rfl,rfl⟩
   ·rw[zsh]at h;exact SeqAt.EqAt.str_int x t j u _ _ _ _ h
   ·rw[zsf]at h;exact wpAny_eqBool_str h
 «strs»:=λk x t v h=>by
  rcases w6 h with⟨i,u,rfl,e⟩|⟨y,u,rfl,e⟩
  ·exact nomatch e
  ·injection e with e1 _
   subst e1
   cases v<;>rfl
theorem Zx (prog:bn)(w:bP)(i:Int)(t:Tok):(fE prog w).is (.inl i) (.int i t)=true:=Z3 i t
theorem Zy (prog:bn)(w:bP)(x:aK)(t:Tok):(fE prog w).is (.inr x) (.str x t)=true:=Z4 x t
end L2
namespace L2
open PySem PySem.Spec PyProof.Rows
inductive V where
 |non|bl (b:Bool)|int (i:Int)|str (x:aK)|byt (b:Array UInt8)|flt (b:UInt64)|ref (a:ah)|ty (n:String)
 deriving DecidableEq
def RelV:V->aa->Prop
 |.non,u=>u=aa.none
 |.bl b,u=>u=aa.bool b
 |.int i,u=>∃t,u=aa.int i t
 |.str x,u=>∃t,u=aa.str x t
 |.byt b,u=>∃t,u=aa.bytes b t
 |.flt b,u=>∃t,u=aa.float b t
 |.ref a,u=>u=aa.ref a
 |.ty n,u=>u=aa.type n
abbrev bR:List V->List aa->Prop:=Paired RelV
theorem bR.length {xs:List V}{us:List aa}(r:bR xs us):xs.length=us.length:=Paired.length r
theorem bR.get:∀{xs:List V} {us:List aa} {i:Nat} {x:V},bR xs us->xs[i]?=some x->∃u,us[i]?=some u/\RelV x u
 |_,_,_,_,.nil,e=>by simp at e
 |_,_,0,_,.cons r _,e=>by simp at e;subst e;exact⟨_,rfl,r⟩
 |_,_,i+1,x,.cons _ t,e=>by
  obtain⟨u,h1,h2⟩:=bR.get (i:=i) (x:=x) t (by simpa using e)
  exact⟨u,by simpa using h1,h2⟩
theorem bR.set {x:V}{u:aa}(r:RelV x u):∀{xs:List V} {us:List aa} (i:Nat),bR xs us->bR (xs.set i x) (us.set i u)
 |_,_,_,.nil=>.nil
 |_,_,0,.cons _ t=>.cons r t
 |_,_,i+1,.cons q t=>.cons q (bR.set r i t)
theorem bR.append:∀{xs ys:List V} {us ws:List aa},bR xs us->bR ys ws->bR (xs++ys) (us++ws)
 |_,_,_,_,.nil,s=>s
 |_,_,_,_,.cons r t,s=>.cons r (bR.append t s)
theorem bR.take:∀{xs:List V} {us:List aa} (n:Nat),bR xs us->bR (xs.take n) (us.take n)
 |_,_,0,_=>.nil
 |_,_,_+1,.nil=>.nil
 |_,_,n+1,.cons r t=>.cons r (bR.take n t)
theorem bR.drop:∀{xs:List V} {us:List aa} (n:Nat),bR xs us->bR (xs.drop n) (us.drop n)
 |_,_,0,r=>r
 |_,_,_+1,.nil=>.nil
 |_,_,n+1,.cons _ t=>bR.drop n t
def kd:Option V->Option aa->Prop
 |some v,some u=>RelV v u
 |none,none=>True
 |_,_=>False
def KV {κ:Type}:List (κ×V)->List (κ×aa)->Prop:=Paired λ(p:κ×V) (q:κ×aa)=>p.1=q.1/\RelV p.2 q.2
def kV:fu->V
 |.inl i=>.int i
 |.inr x=>.str x
inductive HO where
 |lst (xs:List V)
 |tup (xs:List V)
 |dK (cC:List (fu×V))|dT (cC:List (List fu×V))
 |set (S:Int->Bool) (n:Nat)
 |ins (C dx:ah) (fs:List (aK×V))
 |own (x:ah)
 |xd (fs:List (aK×V))
 |met (f x:ah)
 |rng (lo hi:Int)
 |frz (o:df) (u:HO)
 |tbl (ps:Array aa)
 |ext (φ:aM->Prop)
abbrev Hp:=ah->Option HO
def cY (H:Hp)(a:ah)(o:HO):Hp:=λb=>if b=a then some o else H b
theorem zt {H:Hp}{a:ah}{o:HO}:cY H a o a=some o:=by unfold cY;rw[if_pos rfl]
theorem zk {H:Hp}{a b:ah}{o:HO}(h:b≠a):cY H a o b=H b:=by unfold cY;rw[if_neg h]
theorem zut {H:Hp}{a b:ah}{o u:HO}(h:H a=some o)(h':H b=some u)(d:o≠u):a≠b:=by
 intro e;subst e;rw[h]at h';exact d (Option.some.inj h')
theorem zl {H:Hp}{a b:ah}{o:HO}(h:H a=some o)(h':H b=none):a≠b:=by
 intro e;subst e;rw[h]at h';cases h'
section
variable (P:bn)(w:bP)
def d4 (H:Hp)(h:aM)(a:ah):HO->Prop
  |.lst xs=>xs.length<=sizeLine/\∃(cx:List aa) (n:Nat),bR xs cx/\h.get? a=some { cls:=.type "list",data:=.seq cx.toArray n }
  |.tup xs=>xs.length<=sizeLine/\∃cx:List aa,bR xs cx/\IsTup h a cx.toArray
  |.dK cC=>cC.length<=sizeLine/\(a==gq)=false/\∃vs,KV cC vs/\h.DictOf (fE P w) a vs
  |.dT cC=>cC.length<=sizeLine/\(a==gq)=false/\∃xs:List (List fu×ah×aa),
      Paired (λ(p:List fu×V) (q:List fu×ah×aa)=>p.1=q.1/\H q.2.1=some (.tup (p.1.map kV))/\RelV p.2 q.2.2) cC xs /\
      ∃o es ep,h.get? a=some o/\o.ExactDict/\o.data=.dict es ep/\es.toList=xs.map (entryOfKey (nU (fE P w)))/\(xs.map (·.1)).Nodup
  |.set S n=>h.SetOf (intKind P w) a S n
  |.ins C dx fs=>H dx=some (.own a)/\fs.length<=1000/\dx≠a/\h.get? a=some (dX C dx) /\
      ∃mA,h.Ns1 dx mA/\(∀f,kd (fs.lookup f) (mA f))/\PySem.Within mA (fs.map (·.1))
  |.own _=>∃o,h.get? a=some o
  |.xd fs=>∃mA,h.Ns1 a mA/\∀f,kd (fs.lookup f) (mA f)
  |.rng lo hi=>∃t u v,h.get? a=some { cls:=.type "range",data:=.fields #[.int lo t,.int hi u,.int 1 v] }
  |.frz o u=>h.get? a=some o/\d4 H h a u
  |.tbl ps=>h.get? a=some { cls:=.none,data:=.fields ps }
  |.met f x=>h.get? a=some (kJ (.ref f) (.ref x))
  |.ext φ=>φ h/\(∃o,h.get? a=some o)/\∀h1 h2:aM,φ h1->(∀o,h1.get? a=some o->h2.get? a=some o)->φ h2
def kB (H:Hp)(h:aM):Prop:=∀a o,H a=some o->d4 P w H h a o
end
section
variable {P:bn}{w:bP}{H H':Hp}{h h':aM}{a:ah}{o:HO}
theorem d4.lt (x:d4 P w H h a o):a<h.objs.size:=by
 cases o with
 |lst xs=>obtain⟨_,_,_,_,e⟩:=x;exact aO e
 |tup xs=>obtain⟨_,_,_,p⟩:=x;exact p.lt
 |dK cC=>obtain⟨_,_,_,_,o,_,_,e,_⟩:=x;exact aO e
 |dT cC=>obtain⟨_,_,_,_,o,_,_,e,_⟩:=x;exact aO e
 |set S n=>obtain⟨o,_,_,_,e,_⟩:=x;exact aO e
 |ins C dx fs=>obtain⟨_,_,_,e,_⟩:=x;exact aO e
 |own y=>obtain⟨_,e⟩:=x;exact aO e
 |xd fs=>obtain⟨_,⟨_,_,_,e,_⟩,_⟩:=x;exact aO e
 |rng lo hi=>obtain⟨_,_,_,e⟩:=x;exact aO e
 |frz ob u=>obtain⟨e,_⟩:=x;exact aO e
 |tbl ps=>exact aO (show h.get? a=some _ from x)
 |met f y=>exact aO (show h.get? a=some _ from x)
 |ext φ=>obtain⟨_,⟨_,e⟩,_⟩:=x;exact aO e
theorem Paired.mapP {α β:Type}{F G:α->β->Prop}:∀{l₁:List α} {l₂:List β},Paired F l₁ l₂->(∀a b,F a b->G a b)->Paired G l₁ l₂
 |_,_,.nil,_=>.nil
 |_,_,.cons r t,f=>.cons (f _ _ r) (Paired.mapP t f)
theorem d4.stay (x:d4 P w H h a o)(k:∀b u,(b=a\/H b=some (.own a))->h.get? b=some u->h'.get? b=some u)
    (ho:∀b,H b=some (.own a)->H' b=some (.own a)) (ht:∀b xs,H b=some (.tup xs)->H' b=some (.tup xs)):d4 P w H' h' a o:=by
  induction o with
  |lst xs=>obtain⟨z,cx,n,r,e⟩:=x;exact⟨z,cx,n,r,k _ _ (.inl rfl) e⟩
  |tup xs=>obtain⟨z,cx,r,ob,e,c⟩:=x;exact⟨z,cx,r,ob,k _ _ (.inl rfl) e,c⟩
  |dK cC=>obtain⟨z,y,vs,r,ob,es,ep,e,c⟩:=x;exact⟨z,y,vs,r,ob,es,ep,k _ _ (.inl rfl) e,c⟩
  |dT cC=>
    obtain⟨z,y,xs,r,ob,es,ep,e,c⟩:=x
    exact⟨z,y,xs,Paired.mapP r λp q z=>⟨z.1,ht _ _ z.2.1,z.2.2⟩,ob,es,ep,k _ _ (.inl rfl) e,c⟩
  |set S n=>obtain⟨ob,es,ep,t,e,c⟩:=x;exact⟨ob,es,ep,t,k _ _ (.inl rfl) e,c⟩
  |ins C dx fs=>
    obtain⟨d,z,ne,e,mA,⟨od,es,ep,e2,c⟩,r⟩:=x
    exact⟨ho _ d,z,ne,k _ _ (.inl rfl) e,mA,⟨od,es,ep,k _ _ (.inr d) e2,c⟩,r⟩
  |own y=>obtain⟨ob,e⟩:=x;exact⟨ob,k _ _ (.inl rfl) e⟩
  |xd fs=>obtain⟨mA,⟨od,es,ep,e,c⟩,r⟩:=x;exact⟨mA,⟨od,es,ep,k _ _ (.inl rfl) e,c⟩,r⟩
  |rng lo hi=>obtain⟨t,u,v,e⟩:=x;exact⟨t,u,v,k _ _ (.inl rfl) e⟩
  |frz ob u ih=>obtain⟨e,q⟩:=x;exact⟨k _ _ (.inl rfl) e,ih q⟩
  |tbl ps=>
    have e:h.get? a=some { cls:=.none,data:=.fields ps }:=x
    show h'.get? a=some { cls:=.none,data:=.fields ps }
    exact k a _ (.inl rfl) e
  |met f y=>
    have e:h.get? a=some (kJ (.ref f) (.ref y)):=x
    show h'.get? a=some (kJ (.ref f) (.ref y))
    exact k a _ (.inl rfl) e
  |ext φ=>obtain⟨p,⟨o,e⟩,st⟩:=x;exact⟨st _ _ p λo q=>k _ _ (.inl rfl) q,⟨o,k _ _ (.inl rfl) e⟩,st⟩
theorem kB.lt (x:kB P w H h)(e:H a=some o):a<h.objs.size:=(x a o e).lt
theorem kB.fresh (x:kB P w H h)(e:h.objs.size<=a):H a=none:=by
 cases q:H a with
 |none=>rfl
 |some u=>exact absurd (bc (x.lt q) e) (er _)
theorem kB.kept (x:kB P w H h)(k:∀b u,h.get? b=some u->h'.get? b=some u):kB P w H h':=λa o e=>
 (x a o e).stay (λb u _ q=>k b u q) (λ_ q=>q) λ_ _ q=>q
theorem kB.laid (x:kB P w H h)(k:∀b u,h.get? b=some u->h'.get? b=some u)(hp:h.objs.size<=a)(new:d4 P w (cY H a o) h' a o):kB P w (cY H a o) h':=λb u e=>by
 have hn:=x.fresh hp
 by_cases hb:b=a
 ·subst hb;rw[zt]at e;cases e;exact new
 ·rw[zk hb]at e
  exact(x b u e).stay (λc v _ q=>k c v q) (λc q=>by rw[zk (zl q hn)];exact q) λc xs q=>by rw[zk (zl q hn)];exact q
end
def Rd (H:Hp)(a:ah)(u:HO):Prop:=H a=some u\/∃o,H a=some (.frz o u)
theorem Rd.ok {P:bn}{w:bP}{H:Hp}{h:aM}{a:ah}{u:HO}(r:Rd H a u)(x:kB P w H h):d4 P w H h a u:=by
 rcases r with r|⟨o,r⟩
 ·exact x a u r
 ·obtain⟨_,q⟩:=x a _ r
  exact q
def CL:Option HO->Prop
 |some (.lst _)=>True
 |some (.dK _)=>True
 |some (.dT _)=>True
 |some (.set _ _)=>True
 |some (.ins _ _ _)=>True
 |some (.ext _)=>True
 |_=>False
section
variable {P:bn}{w:bP}{H:Hp}{h h':aM}{x e:ah}{o':HO}
theorem kB.write (ok:kB P w H h)(mu:CL (H x))(he:e=x\/H e=some (.own x))(k:∀b u,b≠e->h.get? b=some u->h'.get? b=some u)(Cc:∃u,h'.get? e=some u)
  (new:d4 P w (cY H x o') h' x o'):kB P w (cY H x o') h':=λb u q=>by
 have GB:∀c y,H c=some (.own y)->c≠x:=λc y r z=>by subst z;rw[r]at mu;exact mu
 have Mu:∀c xs,H c=some (.tup xs)->c≠x:=λc xs r z=>by subst z;rw[r]at mu;exact mu
 by_cases hb:b=x
 ·subst hb;rw[zt]at q;cases q;exact new
 ·rw[zk hb]at q
  by_cases AX:b=e
  ·have q':H b=some (.own x):=by
    rcases he with z|z
    ·exact absurd (AX.trans z) hb
    ·rw[AX];exact z
   rw[q]at q';cases q'
   obtain⟨v,hv⟩:=Cc
   exact⟨v,by rw[AX];exact hv⟩
  ·refine(ok b u q).stay (λc v hc r=>k c v ?_ r) (λc r=>by rw[zk (GB c b r)];exact r) λc xs r=>by rw[zk (Mu c xs r)];exact r
   rcases hc with rfl|hc
   ·exact AX
   ·rintro rfl
    rcases he with z|z
    ·exact GB c b hc z
    ·rw[hc]at z;cases z;exact hb rfl
end
structure Un (fs ex:List ah)(H H':Hp)(h h':aM):Prop where
 keep:∀b o,h.get? b=some o->H b=none->b∉fs->b∉ex->h'.get? b=some o
 slot:∀b o,h.get? b=some o->H b=none->b∈fs->b∉ex->∃sl,h'.get? b=some { o with slots:=sl }
 free:∀b o,h.get? b=some o->H b=none->b∉ex->H' b=none
 there:∀b o,h.get? b=some o->b∉ex->∃o',h'.get? b=some o'
 tups:∀b xs,H b=some (.tup xs)->H' b=some (.tup xs)
 frzs:∀b o u,H b=some (.frz o u)->H' b=some (.frz o u)
 tbls:∀b ps,H b=some (.tbl ps)->∃more,H' b=some (.tbl (ps++more))
section
variable {fs U6 ex ex':List ah}{H H1 H2:Hp}{h h1 h2 h':aM}{a x e:ah}{o:HO}
theorem Un.any (u:Un fs ex H H1 h h1){b:ah}{ob:df}(q:h.get? b=some ob)(n:H b=none)(hx:b∉ex):∃sl,h1.get? b=some { ob with slots:=sl }:=by
 by_cases hb:b∈fs
 ·exact u.slot b ob q n hb hx
 ·exact⟨ob.slots,u.keep b ob q n hb hx⟩
theorem Un.kept (k:∀b u,h.get? b=some u->h'.get? b=some u):Un fs ex H H h h' :=
 ⟨λb ob q _ _ _=>k b ob q,λb ob q _ _ _=>⟨ob.slots,k b ob q⟩,λ_ _ _ n _=>n,λb ob q _=>⟨ob,k b ob q⟩,λ_ _ q=>q,λ_ _ _ q=>q,λ_ ps q=>⟨#[],by rw[q];simp⟩⟩
theorem Un.refl:Un fs ex H H h h:=Un.kept λ_ _ q=>q
theorem Un.laid (k:∀b u,h.get? b=some u->h'.get? b=some u)(hp:h.objs.size<=a)(hn:H a=none):Un fs ex H (cY H a o) h h' where
 keep:=λb u q _ _ _=>k b u q
 slot:=λb u q _ _ _=>⟨u.slots,k b u q⟩
 free:=λb u q n _=>by rw[zk (bo (bc (aO q) hp))];exact n
 there:=λb u q _=>⟨u,k b u q⟩
 tups:=λb xs q=>by rw[zk (zl q hn)];exact q
 frzs:=λb u xs q=>by rw[zk (zl q hn)];exact q
 tbls:=λb ps q=>⟨#[],by rw[zk (zl q hn),q];simp⟩
theorem Un.write (mu:CL (H x))(he:e=x\/H e=some (.own x))(k:∀b u,b≠e->h.get? b=some u->h'.get? b=some u)(Cc:∃u,h'.get? e=some u):Un fs ex H (cY H x o) h h':=by
 have hx:∀b,H b=none->b≠x:=λb n z=>by subst z;rw[n]at mu;exact mu
 have hb:∀b,H b=none->b≠e:=λb n z=>by
  subst z
  rcases he with r|r
  ·exact hx b n r
  ·rw[n]at r;cases r
 have hm:∀b u,H b=some u->¬CL (some u)->b≠x:=λb u q nm z=>by subst z;rw[q]at mu;exact nm mu
 refine⟨λb u q n _ _=>k b u (hb b n) q,λb u q n _ _=>⟨u.slots,k b u (hb b n) q⟩,λb u q n _=>by rw[zk (hx b n)];exact n,λb u q _=>?_,
  λb xs q=>by rw[zk (hm b _ q λz=>z)];exact q,λb u xs q=>by rw[zk (hm b _ q λz=>z)];exact q,λb ps q=>⟨#[],by rw[zk (hm b _ q λz=>z),q];simp⟩⟩
 by_cases AX:b=e
 ·subst AX;exact Cc
 ·exact⟨u,k b u AX q⟩
end
def Je (h:aM)(H:Hp):List ah:=(ba h.objs.size).filter λa=>(H a).isSome
def oO (h:aM)(H:Hp):aM:=PySem.W.hideAll h (Je h H)
theorem Z5 (h:aM)(H:Hp):(oO h H).objs.size=h.objs.size:=PySem.W.hideAll_size _ _
theorem zmq {h:aM}{H:Hp}{b:ah}{o:df}(e:h.get? b=some o)(n:H b=none):(oO h H).get? b=some o :=
 PySem.W.hideAll_get _ e λhm=>by
  have q:(H b).isSome=true:=(dN.mp hm).2
  rw[n]at q;simp at q
theorem zpk {h:aM}{H:Hp}{b:ah}{o:df}(e:(oO h H).get? b=some o):h.get? b=some o/\H b=none:=by
 have e':h.get? b=some o:=PySem.W.of_hideAll (Je h H) e
 refine⟨e',?_⟩
 cases q:H b with
 |none=>rfl
 |some x=>
  have hm:b∈Je h H:=dN.mpr ⟨bU.mpr (aO e'),by simp[q]⟩
  have z:(oO h H).get? b=none:=PySem.W.hideAll_none (Je h H) hm
  rw[z]at e;cases e
def wQ (g h:aM)(L:ah):List (ah×df):=(ba h.objs.size).filterMap λa=>if a=L\/(g.get? a).isSome=true then none else(h.get? a).map λo=>(a,o)
def rest (g h:aM)(L d:ah):List (ah×df):=(wQ g h L).filter λp=>decide (p.1≠d)
end L2
namespace L2
open PySem PySem.Spec PyProof.Rows
structure Mod (K:ae)(mg:aK->Option aa)(base:aM):Prop where
 kin:K.In base
 glob:base.Ns av mg
 blt:∃mb,base.Ns yF mb/\∀x:aK,x≠"__name__"->mb x=bW x
 nolimit:base.NoLimit
structure Cx where
 prog:bn
 w:bP
 K:ae
 mg:aK->Option aa
 base:aM
 A:bx
 N:List aK
 s₀:aj
 H₀:Hp
 env:Env
 outer:List Env
 stack:List Env
 ex:List ah
 fn:aK->Bool
 calm:Bool
 pn:List (ah×df)
 xe:aa->aj->Prop
def tW (l:List Env):List ah:=l.filterMap (·.frame)
abbrev Cx.fs (X:Cx):List ah:=tW X.outer
def oK (sc:gc)(x:aK):Prop:=sc.names.lookup x=some .local\/sc.names.lookup x=some .cell\/sc.names.lookup x=some .free
def Loc (sc:gc)(x:aK):Prop:=sc.names.lookup x=some .local\/sc.names.lookup x=some .cell
def Look (env:Env)(h:aM)(m:aK->Option aa)(x:aK)(u:aa):Prop :=
 (env.kindOf x=some .local/\m x=some u)\/((env.kindOf x=some .cell\/env.kindOf x=some .free)/\∃c,env.cells.lookup x=some c/\h.IsCell c (some u))
structure Cx.Ok (X:Cx):Prop where
 mod:Mod X.K X.mg X.base
 kind:X.env.scope.kind=.function
 glob:X.env.globals=av
 blt:X.env.builtins=yF
 above:X.s₀.heap.objs.size<=X.env.locals
 inj:∀x y c,X.env.cells.lookup x=some c->X.env.cells.lookup y=some c->x=y
 has:∀x,(X.env.kindOf x=some .cell\/X.env.kindOf x=some .free)->∃c,X.env.cells.lookup x=some c
 cab:∀x c,X.fn x=true->X.env.cells.lookup x=some c->X.s₀.heap.objs.size<=c
 hd:X.calm=true->X.A.handled=none
 frames:X.A.frames=some X.stack
 stk:X.stack=X.outer\/(X.stack=X.env::X.outer/\X.env.frame=some X.env.locals)
 exf:∀b∈X.ex,b≠X.env.locals/\∀x c,X.env.cells.lookup x=some c->c≠b
 bs:∀b o,X.base.get? b=some o->X.s₀.heap.get? b=some o/\X.H₀ b=none
 bsz:X.base.objs.size<=X.s₀.heap.objs.size
 noex:∀b o,X.base.get? b=some o->b∉X.ex
 exfs:∀b∈X.ex,b∉X.fs
 funs:X.s₀.heap.FunFrames X.base X.outer
 frf:∀b∈X.fs,X.H₀ b=none
structure Inv (X:Cx)(ai:List (ah×df))(σ:List (Option V))(H:Hp)(s:aj):Prop where
 ok:X.Ok
 os:s.os=X.s₀.os
 bare:AllBare s.gens
 base:Un X.fs X.ex X.H₀ H X.s₀.heap s.heap
 loc:∃m,s.heap.Ns X.env.locals m/\∀(i:Nat) (x:aK) (v:V),X.N[i]?=some x->σ[i]?=some (some v)->oK X.env.scope x->∃u,RelV v u/\Look X.env s.heap m x u
 cell:∀x c,X.env.cells.lookup x=some c->∃v,s.heap.IsCell c v
 free:H X.env.locals=none
 freeC:∀x c,X.env.cells.lookup x=some c->H c=none
 pin:∀p∈X.pn++ai,s.heap.get? p.1=some p.2/\H p.1=none/\p.1≠X.env.locals/\p.1∉X.fs/\∀v,p.2.data≠.cell v
 hok:kB X.prog X.w H s.heap
 len:σ.length=X.N.length
section
variable {X:Cx}{ai:List (ah×df)}{σ:List (Option V)}{H H':Hp}{s:aj}{h':aM}
theorem Cx.Ok.nofr (ok:X.Ok){b:ah}{o:df}(e:X.base.get? b=some o):b∉X.fs:=λhb=>by
 have:=(ok.funs.mem hb).1
 rw[e]at this;cases this
theorem Inv.bs (I:Inv X ai σ H s):∀b o,X.base.get? b=some o->s.heap.get? b=some o/\H b=none:=λb o e=>
 ⟨I.base.keep b o (I.ok.bs b o e).1 (I.ok.bs b o e).2 (I.ok.nofr e) (I.ok.noex b o e),I.base.free b o (I.ok.bs b o e).1 (I.ok.bs b o e).2 (I.ok.noex b o e)⟩
theorem Inv.bk (I:Inv X ai σ H s):∀b o,X.base.get? b=some o->s.heap.get? b=some o:=λb o e=>(I.bs b o e).1
theorem Inv.mod (I:Inv X ai σ H s):Mod X.K X.mg X.base:=I.ok.mod
theorem Inv.kIn (I:Inv X ai σ H s):X.K.In s.heap:=I.ok.mod.kin.keeps I.bk
theorem Inv.fr (I:Inv X ai σ H s):∃m,Fr X.base X.env.locals s.heap m :=
 let⟨m,hn,_⟩:=I.loc
 ⟨m,hn,I.bk,bZ I.ok.bsz I.ok.above⟩
theorem Inv.lt (I:Inv X ai σ H s):X.env.locals<s.heap.objs.size:=let⟨_,hn,_⟩:=I.loc;hn.lt
theorem Inv.sz (I:Inv X ai σ H s):X.s₀.heap.objs.size<=s.heap.objs.size:=bZ I.ok.above (lL I.lt)
theorem Inv.nofs (I:Inv X ai σ H s){a:ah}(h:s.heap.objs.size<=a):a∉X.fs:=λhb=>by
 obtain⟨_,o,ho,_⟩:=I.ok.funs.mem hb
 exact absurd (bc (aO ho) (bZ I.sz h)) (er _)
theorem Inv.cne (I:Inv X ai σ H s):∀x c,X.env.cells.lookup x=some c->c≠X.env.locals:=λx c e z=>by
 obtain⟨v,o,ho,hd⟩:=I.cell x c e
 obtain⟨m,⟨o',es,ep,vV,E7,_⟩,_⟩:=I.loc
 rw[z,vV]at ho;cases ho;rw[E7]at hd;cases hd
theorem Inv.funs (I:Inv X ai σ H s):s.heap.FunFrames X.base X.outer:=by
 have all:∀(l:List Env),(∀b∈tW l,b∈X.fs)->X.s₀.heap.FunFrames X.base l->s.heap.FunFrames X.base l:=by
  intro l
  induction l with
  |nil=>intro _ _;trivial
  |cons env r ih=>
   intro hs hl
   obtain⟨hk,⟨L,o,hf,hn,ho,hd⟩,hr⟩:=hl
   have hL:L∈X.fs:=hs L (by unfold tW;rw[kx,hf];exact af)
   obtain⟨sl,e⟩:=I.base.slot L o ho (I.ok.frf L hL) hL λz=>I.ok.exfs L z hL
   exact⟨hk,⟨L,_,hf,hn,e,hd⟩,ih (λb hb=>hs b (by unfold tW;rw[kx,hf];exact ak _ hb)) hr⟩
 exact all X.outer (λ_ hb=>hb) I.ok.funs
theorem Inv.stack (I:Inv X ai σ H s):s.heap.FunFrames X.base X.stack:=by
 rcases I.ok.stk with e|⟨e,hf⟩
 ·rw[e];exact I.funs
 ·rw[e]
  obtain⟨m,hn,_⟩:=I.loc
  refine .cons (by rw[I.ok.kind];decide) hf hn ?_ I.funs
  exact qQ (bZ I.ok.bsz I.ok.above)
theorem Inv.stkSub (I:Inv X ai σ H s):∀b∈tW X.stack,b∈X.env.locals::X.fs:=λb hb=>by
 rcases I.ok.stk with e|⟨e,hf⟩
 ·rw[e]at hb;exact ak _ hb
 ·rw[e]at hb
  unfold tW at hb
  rw[kx,hf]at hb
  exact hb
theorem Inv.stkFree (I:Inv X ai σ H s):∀b∈tW X.stack,H b=none:=λb hb=>by
 rcases aE.mp (I.stkSub b hb)with e|hb
 ·rw[e];exact I.free
 ·obtain⟨_,o,ho,_⟩:=I.ok.funs.mem hb
  exact I.base.free b o ho (I.ok.frf b hb) λz=>I.ok.exfs b z hb
theorem Inv.step {g':Array GenState}{t':Nat}{d':Drawn}{ch:List ah}(I:Inv X ai σ H s)
  (kX:∀b∈ch,(b∈X.ex\/X.s₀.heap.objs.size<=b)/\b≠X.env.locals/\(∀x c,X.env.cells.lookup x=some c->c≠b)/\∀p∈X.pn++ai,p.1≠b)
  (keep:∀b o,b≠X.env.locals->b∉X.fs->b∉ch->s.heap.get? b=some o->H b=none->h'.get? b=some o)
  (slot:∀b o,b≠X.env.locals->b∈X.fs->b∉ch->s.heap.get? b=some o->H b=none->∃sl,h'.get? b=some { o with slots:=sl }) (free:∀b o,b∉ch->s.heap.get? b=some o->H b=none->H' b=none)
  (there:∀b o,b∉ch->s.heap.get? b=some o->∃o',h'.get? b=some o')
  (tups:∀b xs,H b=some (.tup xs)->H' b=some (.tup xs)) (frzs:∀b o u,H b=some (.frz o u)->H' b=some (.frz o u)) (tbls:∀b ps,H b=some (.tbl ps)->∃more,H' b=some (.tbl (ps++more)))
  (ns:∀m,s.heap.Ns X.env.locals m->h'.Ns X.env.locals m) (hok:kB X.prog X.w H' h') (hg:AllBare g') :
  Inv X ai σ H' { s with heap:=h',gens:=g',drawn:=d',toks:=t' }:=by
 have PN:∀b o,X.s₀.heap.get? b=some o->b≠X.env.locals:=λb o e=>bo (bc (aO e) I.ok.above)
 have IT:∀b o,X.s₀.heap.get? b=some o->b∉X.ex->b∉ch:=λb o e hx hb=>by
  rcases(kX b hb).1 with z|z
  ·exact hx z
  ·exact absurd (bc (aO e) z) (er _)
 have cellK:∀x c,X.env.cells.lookup x=some c->∀v,s.heap.IsCell c v->h'.IsCell c v:=λx c e v ⟨o,ho,hd⟩=>by
  have Gy:c∉ch:=λz=>(kX c z).2.2.1 x c e rfl
  by_cases hc:c∈X.fs
  ·obtain⟨sl,q⟩:=slot c o (I.cne x c e) hc Gy ho (I.freeC x c e)
   exact⟨_,q,hd⟩
  ·exact⟨o,keep c o (I.cne x c e) hc Gy ho (I.freeC x c e),hd⟩
 refine⟨I.ok,I.os,hg,⟨λb o e n hb hx=>?_,λb o e n hb hx=>?_,λb o e n hx=>?_,λb o e hx=>?_,λb xs e=>tups b xs (I.base.tups b xs e),λb o xs e=>frzs b o xs (I.base.frzs b o xs e),λb ps e=>?_⟩,?_,λx c e=>?_,?_,λx c e=>?_,λp hp=>?_,hok,I.len⟩
 ·exact keep b o (PN b o e) hb (IT b o e hx) (I.base.keep b o e n hb hx) (I.base.free b o e n hx)
 ·obtain⟨sl,e1⟩:=I.base.slot b o e n hb hx
  obtain⟨XD,e2⟩:=slot b _ (PN b o e) hb (IT b o e hx) e1 (I.base.free b o e n hx)
  exact⟨XD,e2⟩
 ·obtain⟨o',e1⟩:=I.base.there b o e hx
  exact free b o' (IT b o e hx) e1 (I.base.free b o e n hx)
 ·obtain⟨o',e1⟩:=I.base.there b o e hx
  exact there b o' (IT b o e hx) e1
 ·obtain⟨m1,e1⟩:=I.base.tbls b ps e
  obtain⟨m2,e2⟩:=tbls b _ e1
  exact⟨m1++m2,by rw[e2,Array.append_assoc]⟩
 ·obtain⟨m,hn,hl⟩:=I.loc
  refine⟨m,ns m hn,λi x v e1 e2 e3=>?_⟩
  obtain⟨u,r,l⟩:=hl i x v e1 e2 e3
  refine⟨u,r,?_⟩
  rcases l with l|⟨k,c,e,z⟩
  ·exact .inl l
  ·exact .inr ⟨k,c,e,cellK x c e _ z⟩
 ·obtain⟨v,z⟩:=I.cell x c e
  exact⟨v,cellK x c e v z⟩
 ·obtain⟨m,⟨o,_,_,ho,_⟩,_⟩:=I.loc
  exact free _ o (λz=>(kX _ z).2.1 rfl) ho I.free
 ·obtain⟨v,o,ho,hd⟩:=I.cell x c e
  exact free c o (λz=>(kX c z).2.2.1 x c e rfl) ho (I.freeC x c e)
 ·obtain⟨e,n,ne,nf,d⟩:=I.pin p hp
  have Gy:p.1∉ch:=λz=>(kX p.1 z).2.2.2 p hp rfl
  exact⟨keep p.1 p.2 ne nf Gy e n,free p.1 p.2 Gy e n,ne,nf,d⟩
theorem Inv.un {t':Nat}(I:Inv X ai σ H s)(u:Un X.fs [] H H' s.heap h')(hok:kB X.prog X.w H' h'):Inv X ai σ H' { s with heap:=h',toks:=t' }:=by
 obtain⟨m,⟨o,es,ep,ho,r⟩,_⟩:=id I.loc
 obtain⟨sl,hL⟩:=u.any ho I.free (by simp)
 exact I.step (g':=s.gens) (d':=s.drawn) (ch:=[]) (λ_ z=>nomatch z) (λb o _ hb _ e n=>u.keep b o e n hb (by simp)) (λb o _ hb _ e n=>u.slot b o e n hb (by simp)) (λb o _ e n=>u.free b o e n (by simp)) (λb o _ e=>u.there b o e (by simp)) u.tups u.frzs u.tbls (λm' hm=>by
  obtain⟨o',KH,KG,vV,r'⟩:=hm
  rw[ho]at vV;cases vV
  exact⟨_,KH,KG,hL,r'⟩) hok I.bare
theorem Inv.call {g':Array GenState}{t':Nat}{d':Drawn}{ch:List ah}(I:Inv X ai σ H s)(u:Un (tW X.stack) ch H H' s.heap h')(hok:kB X.prog X.w H' h')(hg:AllBare g')
  (kX:∀b∈ch,(b∈X.ex\/X.s₀.heap.objs.size<=b)/\b≠X.env.locals/\(∀x c,X.env.cells.lookup x=some c->c≠b)/\∀p∈X.pn++ai,p.1≠b) :
  Inv X ai σ H' { s with heap:=h',gens:=g',drawn:=d',toks:=t' }:=by
 obtain⟨m,⟨o,es,ep,ho,r⟩,_⟩:=id I.loc
 obtain⟨sl,hL⟩:=u.any ho I.free λz=>(kX _ z).2.1 rfl
 exact I.step (ch:=ch) kX (λb o hL hb hc e n=>u.keep b o e n (λz=>(aE.mp (I.stkSub b z)).elim hL hb) hc) (λb o _ _ hc e n=>u.any e n hc) (λb o hc e n=>u.free b o e n hc) (λb o hc e=>u.there b o e hc) u.tups u.frzs u.tbls (λm' hm=>by
  obtain⟨o',KH,KG,vV,r'⟩:=hm
  rw[ho]at vV;cases vV
  exact⟨_,KH,KG,hL,r'⟩) hok hg
theorem Inv.turned {t':Nat}{it:ah}(I:Inv X ai σ H s)(k:∀b o,b≠it->s.heap.get? b=some o->h'.get? b=some o)(hn:H it=none)(hL:it≠X.env.locals)
  (h1:it∈X.ex\/X.s₀.heap.objs.size<=it) (h2:∀x c,X.env.cells.lookup x=some c->c≠it) (h3:∀p∈X.pn++ai,p.1≠it):Inv X ai σ H { s with heap:=h',toks:=t' }:=by
 have PQ:∀b u,H b=some u->b≠it:=λb u e z=>by rw[z,hn]at e;cases e
 refine I.step (g':=s.gens) (d':=s.drawn) (ch:=[it]) (λb hb=>?_) (λb o _ _ hc e _=>k b o (λz=>hc (by simp[z])) e) (λb o _ _ hc e _=>⟨o.slots,k b o (λz=>hc (by simp[z])) e⟩) (λ_ _ _ _ n=>n)
  (λb o hc e=>⟨o,k b o (λz=>hc (by simp[z])) e⟩) (λ_ _ e=>e) (λ_ _ _ e=>e) (λb ps e=>⟨#[],by rw[e];simp⟩) (λm hm=>?_) (λb u e=>?_) I.bare
 ·have e:b=it:=by simpa using hb
  subst e
  exact⟨h1,hL,h2,h3⟩
 ·obtain⟨o,es,ep,ho,r⟩:=hm
  exact⟨o,es,ep,k _ o (Ne.symm hL) ho,r⟩
 ·refine(I.hok b u e).stay (λc v hc q=>k c v ?_ q) (λ_ q=>q) λ_ _ q=>q
  rcases hc with z|z
  ·rw[z];exact PQ b u e
  ·exact PQ c _ z
theorem Inv.tok (I:Inv X ai σ H s)(t:Nat):Inv X ai σ H { s with toks:=t }:=I.un (h':=s.heap) (t':=t) Un.refl I.hok
theorem Inv.kept {t':Nat}(I:Inv X ai σ H s)(k:∀b u,s.heap.get? b=some u->h'.get? b=some u):Inv X ai σ H { s with heap:=h',toks:=t' }:=I.un (Un.kept k) (I.hok.kept k)
theorem Inv.laid {a:ah}{o:HO}{t':Nat}(I:Inv X ai σ H s)(k:∀b u,s.heap.get? b=some u->h'.get? b=some u)(hp:s.heap.objs.size<=a)(new:d4 X.prog X.w (cY H a o) h' a o) :
  Inv X ai σ (cY H a o) { s with heap:=h',toks:=t' }:=I.un (Un.laid k hp (I.hok.fresh hp)) (I.hok.laid k hp new)
theorem Inv.write {x e:ah}{o:HO}{t':Nat}(I:Inv X ai σ H s)(mu:CL (H x))(he:e=x\/H e=some (.own x))(k:∀b u,b≠e->s.heap.get? b=some u->h'.get? b=some u)(Cc:∃u,h'.get? e=some u)
  (new:d4 X.prog X.w (cY H x o) h' x o):Inv X ai σ (cY H x o) { s with heap:=h',toks:=t' }:=I.un (Un.write mu he k Cc) (I.hok.write mu he k Cc new)
theorem Inv.weak {σ':List (Option V)}(I:Inv X ai σ H s)(hl:σ'.length = σ.length)(w:∀(i:Nat) v,σ'[i]?=some (some v)->σ[i]?=some (some v)):Inv X ai σ' H s :=
 ⟨I.ok,I.os,I.bare,I.base,let⟨m,hn,Fh⟩:=I.loc;⟨m,hn,λi x v e1 e2 e3=>Fh i x v e1 (w i v e2) e3⟩,I.cell,I.free,I.freeC,I.pin,I.hok,hl.trans I.len⟩
theorem Inv.pins_of {zD:List (ah×df)}(I:Inv X ai σ H s)(h:∀p∈zD,s.heap.get? p.1=some p.2/\H p.1=none/\p.1≠X.env.locals/\p.1∉X.fs/\∀v,p.2.data≠.cell v):Inv X zD σ H s :=
 ⟨I.ok,I.os,I.bare,I.base,I.loc,I.cell,I.free,I.freeC,λp hp=>(aZ.mp hp).elim (λz=>I.pin p (bq _ z)) (h p),I.hok,I.len⟩
theorem Rq {N:List aK}(hN:N.Nodup){i j:Nat}{x:aK}(a:N[i]?=some x)(b:N[j]?=some x):i=j:=by
 obtain⟨h1,e1⟩:=bg.mp a
 obtain⟨h2,e2⟩:=bg.mp b
 exact(lZ hN).mp (e1.trans e2.symm)
theorem QP {M:Model}{A:bx}{E:aa->aj->Prop}{i:Nat}{x:aK}{v:V}{u:aa}{Q:Unit->aj->Prop}(I:Inv X ai σ H s)(hN:X.N.Nodup)(hi:X.N[i]?=some x)(hx:Loc X.env.scope x)(r:RelV v u)
  (h:∀s',Inv X ai (σ.set i (some v)) H s'->(∃a,gY a s.heap s'.heap/\(a=X.env.locals\/X.env.cells.lookup x=some a))->Q () s') (hf:X.fn x=true\/X.env.scope.names.lookup x=some .local:=by first|exact .inl rfl|exact .inr rfl|assumption):aT M A (storeName X.env x u) Q E s:=by
 obtain⟨m,hn,hl⟩:=id I.loc
 have LJ:(X.env.scope.kind==.class || (X.env.scope.kind==.module&&X.env.locals != X.env.globals))=false:=by rw[I.ok.kind];rfl
 have Pe:i < σ.length:=by rw[I.len];exact(bg.mp hi).1
 have cne:=I.cne
 have tracked:∀{a:ah} {h':aM},(∃o,s.heap.get? a=some o/\H a=none)->gY a s.heap h'->kB X.prog X.w H h':=λ{a h'} ha hs b ob e=>by
  obtain⟨_,_,yP⟩:=ha
  refine(I.hok b ob e).stay (λc w' hc q=>(hs.2 c ?_).trans q) (λ_ q=>q) λ_ _ q=>q
  rintro rfl
  rcases hc with rfl|hc
  ·rw[yP]at e;cases e
  ·rw[yP]at hc;cases hc
 rcases hx with hk|hk
 ·refine wpAny_storeName_local hk hn (λh' yT hs=>?_) LJ
  obtain⟨oL,_,_,VI,_⟩:=id hn
  refine h _ ⟨I.ok,I.os,I.bare,⟨λb o e n hb hx=>?_,λb o e n hb hx=>?_,I.base.free,λb o e hx=>?_,I.base.tups,I.base.frzs,I.base.tbls⟩,⟨_,yT,λj y v' e1 e2 e3=>?_⟩,λy c e=>?_,I.free,I.freeC,λp hp=>?_,tracked ⟨oL,VI,I.free⟩ hs,by simpa using I.len⟩ ⟨_,hs,.inl rfl⟩
  ·exact(hs.2 b (bo (bc (aO e) I.ok.above))).trans (I.base.keep b o e n hb hx)
  ·obtain⟨sl,e1⟩:=I.base.slot b o e n hb hx
   exact⟨sl,(hs.2 b (bo (bc (aO e) I.ok.above))).trans e1⟩
  ·obtain⟨o',e1⟩:=I.base.there b o e hx
   exact⟨o',(hs.2 b (bo (bc (aO e) I.ok.above))).trans e1⟩
  ·by_cases hj:j=i
   ·subst hj
    rw[hi]at e1;cases e1
    rw[jC Pe]at e2
    cases e2
    exact⟨u,r,.inl ⟨hk,by simp⟩⟩
   ·rw[cV (Ne.symm hj)]at e2
    obtain⟨u',r',q⟩:=hl j y v' e1 e2 e3
    refine⟨u',r',?_⟩
    rcases q with⟨k,e⟩|⟨k,c,e,z⟩
    ·refine .inl ⟨k,?_⟩
     have:y≠x:=λe=>hj (Rq hN e1 (e▸hi))
     simp[this,e]
    ·exact .inr ⟨k,c,e,z.sameBut hs (cne y c e)⟩
  ·obtain⟨w',z⟩:=I.cell y c e
   exact⟨w',z.sameBut hs (cne y c e)⟩
  ·obtain⟨e,n,ne,nf,d⟩:=I.pin p hp
   exact⟨(hs.2 p.1 ne).trans e,n,ne,nf,d⟩
 ·have tX:X.fn x=true:=by
   rcases hf with z|z
   ·exact z
   ·rw[z]at hk;cases hk
  obtain⟨c,hc⟩:=I.ok.has x (.inl hk)
  obtain⟨w',z⟩:=I.cell x c hc
  refine wpAny_storeName_cell I.ok.kind hk hc z (λh' qK hs=>?_)
  obtain⟨oc,Ph,L6⟩:=id z
  refine h { s with heap:=h' } ⟨I.ok,I.os,I.bare,⟨λb o e n hb hx=>?_,λb o e n hb hx=>?_,I.base.free,λb o e hx=>?_,I.base.tups,I.base.frzs,I.base.tbls⟩,⟨m,hn.sameBut hs (Ne.symm (cne x c hc)),λj y v' e1 e2 e3=>?_⟩,λy c' e=>?_,I.free,I.freeC,λp hp=>?_,tracked ⟨oc,Ph,I.freeC x c hc⟩ hs,by simpa using I.len⟩ ⟨c,hs,.inr hc⟩
  ·exact(hs.2 b (bo (bc (aO e) (I.ok.cab x c tX hc)))).trans (I.base.keep b o e n hb hx)
  ·obtain⟨sl,e1⟩:=I.base.slot b o e n hb hx
   exact⟨sl,(hs.2 b (bo (bc (aO e) (I.ok.cab x c tX hc)))).trans e1⟩
  ·obtain⟨o',e1⟩:=I.base.there b o e hx
   exact⟨o',(hs.2 b (bo (bc (aO e) (I.ok.cab x c tX hc)))).trans e1⟩
  ·by_cases hj:j=i
   ·subst hj
    rw[hi]at e1;cases e1
    rw[jC Pe]at e2
    cases e2
    exact⟨u,r,.inr ⟨.inl hk,c,hc,qK⟩⟩
   ·rw[cV (Ne.symm hj)]at e2
    obtain⟨u',r',q⟩:=hl j y v' e1 e2 e3
    refine⟨u',r',?_⟩
    rcases q with q|⟨k,c',e,z'⟩
    ·exact .inl q
    ·refine .inr ⟨k,c',e,z'.sameBut hs ?_⟩
     rintro rfl
     exact hj (Rq hN e1 (I.ok.inj _ _ _ e hc▸hi))
  ·by_cases O9:c'=c
   ·subst O9;exact⟨_,qK⟩
   ·obtain⟨w2,z2⟩:=I.cell y c' e
    exact⟨w2,z2.sameBut hs O9⟩
  ·obtain⟨e,n,ne,nf,d⟩:=I.pin p hp
   refine⟨(hs.2 p.1 ?_).trans e,n,ne,nf,d⟩
   intro q
   rw[q,Ph]at e
   have q':oc=p.2:=Option.some.inj e
   exact d w' (by rw[←q'];exact L6)
theorem Nk {M:Model}{A:bx}{E:aa->aj->Prop}{i:Nat}{x:aK}{v:V}{u:aa}{Q:Unit->aj->Prop}(I:Inv X ai σ H s)(hN:X.N.Nodup)(hi:X.N[i]?=some x)(hx:Loc X.env.scope x)(r:RelV v u)
  (h:∀s',Inv X ai (σ.set i (some v)) H s'->Q () s') (hf:X.fn x=true\/X.env.scope.names.lookup x=some .local:=by first|exact .inl rfl|exact .inr rfl|assumption):aT M A (storeName X.env x u) Q E s :=
 QP I hN hi hx r (λs' I' _=>h s' I') hf
theorem Inv.call' {s':aj}{ch:List ah}(I:Inv X ai σ H s)(ho:s'.os=s.os)(u:Un (tW X.stack) ch H H' s.heap s'.heap)(hok:kB X.prog X.w H' s'.heap)(hg:AllBare s'.gens)
  (kX:∀b∈ch,(b∈X.ex\/X.s₀.heap.objs.size<=b)/\b≠X.env.locals/\(∀x c,X.env.cells.lookup x=some c->c≠b)/\∀p∈X.pn++ai,p.1≠b):Inv X ai σ H' s':=by
 obtain⟨h',g',d',t',o'⟩:=s'
 have e:o'=s.os:=ho
 subst e
 exact I.call (g':=g') (t':=t') (d':=d') u hok hg kX
end
abbrev XK:=aa->Option ah->Hp->Prop
abbrev St:=List (Option V)
abbrev VK:=V->Hp->Prop
abbrev TE:=St->Hp->VK->Prop
abbrev TT:=St->Hp->(Bool->Hp->Prop)->Prop
abbrev TA:=St->Hp->(List V->Hp->Prop)->Prop
structure iw where
 nx:St->Hp->Prop
 rt:VK
 bk:St->Hp->Prop:=λ_ _=>False
 ct:St->Hp->Prop:=λ_ _=>False
abbrev TS:=iw->St->Hp->Prop
def EP (X:Cx)(ai:List (ah×df))(σ:St)(Q:VK)(u:aa)(s':aj):Prop:=∃v H',Inv X ai σ H' s'/\RelV v u/\Q v H'
def TP (X:Cx)(ai:List (ah×df))(σ:St)(Q:Bool->Hp->Prop)(b:Bool)(s':aj):Prop:=∃H',Inv X ai σ H' s'/\Q b H'
def AP (X:Cx)(ai:List (ah×df))(σ:St)(Q:List V->Hp->Prop)(us:List aa)(s':aj):Prop:=∃vs H',Inv X ai σ H' s'/\bR vs us/\Q vs H'
def SP (X:Cx)(ai:List (ah×df))(D:iw)(f:Flow)(s':aj):Prop :=
 match f with
 |.next=>∃σ' H',Inv X ai σ' H' s'/\D.nx σ' H'
 |.brk=>∃σ' H',Inv X ai σ' H' s'/\D.bk σ' H'
 |.cont=>∃σ' H',Inv X ai σ' H' s'/\D.ct σ' H'
 |.ret u=>∃v σ' H',Inv X ai σ' H' s'/\RelV v u/\D.rt v H'
def PE (X:Cx)(e:Expr)(t:TE):Prop :=
 ∀(ai:List (ah×df)) (s:aj) (σ:St) (H:Hp) (Q:VK),Inv X ai σ H s->t σ H Q->aT (aI X.prog X.w) X.A (bG e X.env) (EP X ai σ Q) X.xe s
def PT (X:Cx)(e:Expr)(t:TT):Prop :=
 ∀(ai:List (ah×df)) (s:aj) (σ:St) (H:Hp) (Q:Bool->Hp->Prop),Inv X ai σ H s->t σ H Q->aT (aI X.prog X.w) X.A (qE e X.env (bG e X.env)) (TP X ai σ Q) X.xe s
def PW (X:Cx)(e:Expr)(t:TT):Prop :=
 ∀(whole:pq aa) (ai:List (ah×df)) (s:aj) (σ:St) (H:Hp) (Q:Bool->Hp->Prop),Inv X ai σ H s->t σ H Q->aT (aI X.prog X.w) X.A (qE e X.env whole) (TP X ai σ Q) X.xe s
theorem PW.pt {X:Cx}{e:Expr}{t:TT}(h:PW X e t):PT X e t:=h _
def PA (X:Cx)(es:List Expr)(t:TA):Prop :=
 ∀(pos:cX) (ai:List (ah×df)) (s:aj) (σ:St) (H:Hp) (Q:List V->Hp->Prop),Inv X ai σ H s->t σ H Q->aT (aI X.prog X.w) X.A (spliced (cu pos (ap es X.env))) (AP X ai σ Q) X.xe s
def PS (X:Cx)(st:bD)(t:TS):Prop :=
 ∀(ai:List (ah×df)) (s:aj) (σ:St) (H:Hp) (D:iw),Inv X ai σ H s->t D σ H->aT (aI X.prog X.w) X.A (exec st X.env) (SP X ai D) X.xe s
def oH (X:Cx)(st:List bD)(t:TS):Prop :=
 ∀(ai:List (ah×df)) (s:aj) (σ:St) (H:Hp) (D:iw),Inv X ai σ H s->t D σ H->aT (aI X.prog X.w) X.A (execs st X.env) (SP X ai D) X.xe s
theorem dw {α:Type}{t:pq α}{Q Q':α->aj->Prop}{M:Model}{A:bx}{E:aa->aj->Prop}{s:aj}(h:aT M A t Q E s)(hQ:∀a s,Q a s->Q' a s):aT M A t Q' E s:=dc h hQ λ_ _ x=>x
end L2
namespace L2
open PySem PySem.Spec PyProof.Rows
section
variable {X:Cx}
theorem bin {a b:Expr}{ta tb:TE}(ha:PE X a ta)(hb:PE X b tb){ai:List (ah×df)}{s:aj}{σ:St}{H:Hp}{R:V->V->Hp->Prop}(I:Inv X ai σ H s)(h:ta σ H λx H1=>tb σ H1 λy H2=>R x y H2)
  {α:Type} {Q:α->aj->Prop} {f:aa->aa->pq α}
  (hf:∀v u s2 x y H2,Inv X ai σ H2 s2->RelV x v->RelV y u->R x y H2->aT (aI X.prog X.w) X.A (f v u) Q X.xe s2) :
  aT (aI X.prog X.w) X.A (bG a X.env) (λv s₁=>aT (aI X.prog X.w) X.A (bG b X.env) (λu s₂=>aT (aI X.prog X.w) X.A (f v u) Q X.xe s₂) X.xe s₁) X.xe s:=by
 refine dw (ha ai s σ H _ I h) λv s1 dO=>?_
 obtain⟨x,H1,I1,r1,q1⟩:=dO
 refine dw (hb ai s1 σ H1 _ I1 q1) λu s2 dO=>?_
 obtain⟨y,H2,I2,r2,q2⟩:=dO
 exact hf v u s2 x y H2 I2 r1 r2 q2
def tw (i:Nat):TE:=λσ H Q=>∃v,σ[i]?=some (some v)/\Q v H
def tC (v:V):TE:=λ_ H Q=>Q v H
theorem v8 {i:Nat}{x:aK}{pos:cX}(hN:X.N[i]?=some x)(hv:oK X.env.scope x)(hd:(x==("__debug__":aK))=false:=by decide)(iI:(x==("__classdict__":aK))=false:=by decide):PE X (.Name x pos) (tw i):=by
 intro ai s σ H Q I h
 obtain⟨v,e,h⟩:=h
 obtain⟨m,hn,hl⟩:=I.loc
 obtain⟨u,r,l⟩:=hl i x v hN e hv
 have fin:EP X ai σ Q u s:=⟨v,H,I,r,h⟩
 rcases l with⟨hk,hm⟩|⟨hk,c,hc,sd⟩
 ·exact yI (wpAny_loadName_local I.ok.kind hk hn hm fin) hd
 ·rcases hk with hk|hk
  ·exact yI (wpAny_loadName_cell I.ok.kind hk hc sd fin) hd
  ·exact yI (wpAny_loadName_free I.ok.kind hk hc sd fin iI) hd
theorem zsi {i j pos}:PE X (.Constant (.int i) j pos) (tC (.int i)):=λ_ _ _ H _ I h=>wpAny_Constant_int ⟨.int i,H,I.tok _,⟨_,rfl⟩,h⟩
theorem zuu {b j pos}:PE X (.Constant (.bool b) j pos) (tC (.bl b)):=λ_ _ _ H _ I h=>Constant_bool ⟨.bl b,H,I,rfl,h⟩
theorem zsj {j pos}:PE X (.Constant .none j pos) (tC .non):=λ_ _ _ H _ I h=>Constant_none ⟨.non,H,I,rfl,h⟩
theorem zsk {x j pos}:PE X (.Constant (.str x) j pos) (tC (.str x)):=λ_ _ _ H _ I h=>Calls.Constant_str ⟨.str x,H,I.tok _,⟨_,rfl⟩,h⟩
def Gl (X:Cx)(x:aK):Prop:=X.env.kindOf x=some .globalImplicit
theorem qm {E:aa->aj->Prop}{ai:List (ah×df)}{s:aj}{σ:St}{H:Hp}{x:aK}{u:aa}{pos:cX}{Q:aa->aj->Prop}(I:Inv X ai σ H s)(hg:Gl X x)(hm:X.mg x=some u)(h:Q u s)
  (hd:(x==("__debug__":aK))=false:=by decide):aT (aI X.prog X.w) X.A (bG (.Name x pos) X.env) Q E s :=
 Calls.Name_function_global I.ok.kind hg (Calls.loadGlobal_global (by rw[I.ok.glob];exact I.mod.glob.keeps I.bk) hm h) hd
theorem xX {E:aa->aj->Prop}{ai:List (ah×df)}{s:aj}{σ:St}{H:Hp}{x:aK}{u:aa}{pos:cX}{Q:aa->aj->Prop}(I:Inv X ai σ H s)(hg:Gl X x)(hm:X.mg x=none)(hv:bW x=some u)(h:Q u s)
  (hn:x≠"__name__":=by decide) (hd:(x==("__debug__":aK))=false:=by decide):aT (aI X.prog X.w) X.A (bG (.Name x pos) X.env) Q E s:=by
 obtain⟨mb,h1,h2⟩:=I.mod.blt
 exact Calls.Name_function_global I.ok.kind hg (Calls.loadGlobal_builtin (by rw[I.ok.glob];exact I.mod.glob.keeps I.bk) hm (by rw[I.ok.blt];exact h1.keeps I.bk) ((h2 x hn).trans hv) h) hd
theorem R3 {x:aK}{v:V}{u:aa}{pos:cX}(hg:Gl X x)(hm:X.mg x=some u)(r:RelV v u)(hd:(x==("__debug__":aK))=false:=by decide):PE X (.Name x pos) (tC v) :=
 λ_ _ _ H _ I h=>qm I hg hm ⟨v,H,I,r,h⟩ hd
theorem zpl {x:aK}{v:V}{u:aa}{pos:cX}(hg:Gl X x)(hm:X.mg x=none)(hv:bW x=some u)(r:RelV v u)(hn:x≠"__name__":=by decide)(hd:(x==("__debug__":aK))=false:=by decide):PE X (.Name x pos) (tC v) :=
 λ_ _ _ H _ I h=>xX I hg hm hv ⟨v,H,I,r,h⟩ hn hd
variable {a b:Expr}{ta tb:TE}{pos:cX}
def PC (X:Cx)(op:mh)(a b:Expr)(t:TE):Prop :=
 ∀(ai:List (ah×df)) (s:aj) (σ:St) (H:Hp) (Q:VK),Inv X ai σ H s->t σ H Q ->
  aT (aI X.prog X.w) X.A (bG a X.env) (λv s₁=>aT (aI X.prog X.w) X.A (bG b X.env) (λu s₂=>aT (aI X.prog X.w) X.A (cL op v u) (EP X ai σ Q) X.xe s₂) X.xe s₁) X.xe s
theorem uV (b:Expr){op:mh}(h:op≠.In)(h2:op≠.NotIn):dM op b=false:=by
 have e1:(op==mh.In)=false:=by cases op<;>first|rfl|exact absurd rfl h
 have e2:(op==mh.NotIn)=false:=by cases op<;>first|rfl|exact absurd rfl h2
 cases b<;>simp[dM,e1,e2]
def tB (t:TE):TT:=λσ H Q=>t σ H λx H1=>∃c,x=.bl c/\Q c H1
theorem SW {op:mh}{t:TE}(h:PC X op a b t)(h1:dM op b=false:=by first|exact uV _ (by decide) (by decide)|rfl):PT X (.Compare a [op] [b] pos) (tB t):=by
 intro ai s σ H Q I hw
 refine wpAny_isTrue_Compare1 (dw (h ai s σ H _ I hw) λv s1 h1=>dw h1 λu s2 h2=>dw h2 λc s3 ⟨x,H1,I1,r1,q1⟩=>?_) h1
 obtain⟨d,rfl,q⟩:=q1
 cases r1
 exact fK ⟨H1,I1,q⟩
theorem SX {e:Expr}{t:TE}(h:PE X e t)(he:∀whole,qE e X.env whole=(do let v ← whole;fO e.pos;dS [v] (truthy v)):=by intro _;rfl):PT X e (tB t):=by
 intro ai s σ H Q I hw
 refine isTrue_plain (dw (h ai s σ H _ I hw) λv s1 ⟨x,H1,I1,r1,q1⟩=>?_) (he _)
 obtain⟨d,rfl,q⟩:=q1
 cases r1
 exact fK ⟨H1,I1,q⟩
variable {tA IZ:TT}{rest:List Expr}
def MH (t u:TT):TT:=λσ H Q=>t σ H λc H1=>if c=true then u σ H1 Q else Q false H1
def Yt (t u:TT):TT:=λσ H Q=>t σ H λc H1=>if c=true then Q true H1 else u σ H1 Q
def MP (t:TT):TT:=λσ H Q=>t σ H λc H1=>Q (!c) H1
theorem zpm (ha:PT X a tA):PW X (.BoolOp .And [a] pos) tA:=by
 intro wh ai s σ H Q I h
 refine isTrue_and (dw (ha ai s σ H Q I h) λc s1 e=>?_)
 cases c with
 |true=>exact isTrue_and_nil e
 |false=>exact e
theorem zsl (ha:PT X a tA):PW X (.BoolOp .Or [a] pos) tA:=by
 intro wh ai s σ H Q I h
 refine isTrue_or (dw (ha ai s σ H Q I h) λc s1 e=>?_)
 cases c with
 |false=>exact isTrue_or_nil e
 |true=>exact e
theorem zsm (ha:PT X a tA)(hb:PW X (.BoolOp .And (b::rest) pos) IZ):PW X (.BoolOp .And (a::b::rest) pos) (MH tA IZ):=by
 intro wh ai s σ H Q I h
 refine isTrue_and (dw (ha ai s σ H _ I h) λc s1 dO=>?_)
 obtain⟨H1,I1,q1⟩:=dO
 cases c with
 |true=>exact hb wh ai s1 σ H1 Q I1 q1
 |false=>exact⟨H1,I1,q1⟩
theorem zuv (ha:PT X a tA)(hb:PW X (.BoolOp .Or (b::rest) pos) IZ):PW X (.BoolOp .Or (a::b::rest) pos) (Yt tA IZ):=by
 intro wh ai s σ H Q I h
 refine isTrue_or (dw (ha ai s σ H _ I h) λc s1 dO=>?_)
 obtain⟨H1,I1,q1⟩:=dO
 cases c with
 |true=>exact⟨H1,I1,q1⟩
 |false=>exact hb wh ai s1 σ H1 Q I1 q1
theorem zsn (ha:PT X a tA):PT X (.UnaryOp .Not a pos) (MP tA):=by
 intro ai s σ H Q I h
 exact isTrue_not (ha ai s σ H (λc H1=>Q (!c) H1) I h)
def Hu (ta tb:TE):TE:=λσ H Q=>ta σ H λx H1=>∃c,x=.bl c/\if c=true then tb σ H1 Q else Q (.bl false) H1
def MQ (ta tb:TE):TE:=λσ H Q=>ta σ H λx H1=>∃c,x=.bl c/\if c=true then Q (.bl true) H1 else tb σ H1 Q
theorem zso {op}{t:TE}(h:PE X a t):PE X (.BoolOp op [a] pos) t:=λai s σ H Q I hw=>BoolOp_one (h ai s σ H Q I hw)
theorem zsp (ha:PE X a ta)(hb:PE X (.BoolOp .And (b::rest) pos) tb):PE X (.BoolOp .And (a::b::rest) pos) (Hu ta tb):=by
 intro ai s σ H Q I h
 refine BoolOp_and (dw (ha ai s σ H _ I h) λv s1 dO=>?_)
 obtain⟨x,H1,I1,r1,q1⟩:=dO
 obtain⟨c,rfl,q1⟩:=q1
 cases r1
 refine fK ?_
 cases c with
 |true=>exact hb ai s1 σ H1 Q I1 q1
 |false=>exact⟨.bl false,H1,I1,rfl,q1⟩
theorem zuw (ha:PE X a ta)(hb:PE X (.BoolOp .Or (b::rest) pos) tb):PE X (.BoolOp .Or (a::b::rest) pos) (MQ ta tb):=by
 intro ai s σ H Q I h
 refine BoolOp_or (dw (ha ai s σ H _ I h) λv s1 dO=>?_)
 obtain⟨x,H1,I1,r1,q1⟩:=dO
 obtain⟨c,rfl,q1⟩:=q1
 cases r1
 refine fK ?_
 cases c with
 |false=>exact hb ai s1 σ H1 Q I1 q1
 |true=>exact⟨.bl true,H1,I1,rfl,q1⟩
def Ys (t:TT)(ta tb:TE):TE:=λσ H Q=>t σ H λc H1=>if c=true then ta σ H1 Q else tb σ H1 Q
theorem zmr {c:Expr}(hc:PT X c tA)(ha:PE X a ta)(hb:PE X b tb):PE X (.IfExp c a b pos) (Ys tA ta tb):=by
 intro ai s σ H Q I h
 refine wpAny_IfExp (dw (hc ai s σ H _ I h) λd s1 dO=>?_)
 obtain⟨H1,I1,q1⟩:=dO
 cases d with
 |true=>exact ha ai s1 σ H1 Q I1 q1
 |false=>exact hb ai s1 σ H1 Q I1 q1
end
end L2
namespace L2
open PySem PySem.Spec PyProof.Rows
def gz (K:ae)(H:Hp)(a:ah)(xs:List V):Prop :=
 Rd H a (.lst xs) \/
  ∃(o:df) (cx:Array aa) (n:Nat),K.lookup a=some o/\o.cls=.type "list"/\o.dict=none/\o.data=.seq cx n/\cx.size<=sizeLine/\bR xs cx.toList
def lE (K:ae)(H:Hp)(a:ah)(xs:List V):Prop :=
 Rd H a (.tup xs) \/
  ∃(o:df) (cx:Array aa) (n:Nat),K.lookup a=some o/\o.cls=.type "tuple"/\o.data=.seq cx n/\cx.size<=sizeLine/\bR xs cx.toList
def Kf:aa->Option V
 |.none=>some .non
 |.bool b=>some (.bl b)
 |.int i _=>some (.int i)
 |.str x _=>some (.str x)
 |.bytes b _=>some (.byt b)
 |.float b _=>some (.flt b)
 |.ref a=>some (.ref a)
 |.type n=>some (.ty n)
 |_=>none
theorem RelV.abs {x:V}{u:aa}(r:RelV x u):Kf u=some x:=by
 cases x with
 |non=>cases r;rfl
 |bl _=>cases r;rfl
 |int _=>obtain⟨t,rfl⟩:=r;rfl
 |str _=>obtain⟨t,rfl⟩:=r;rfl
 |byt _=>obtain⟨t,rfl⟩:=r;rfl
 |flt _=>obtain⟨t,rfl⟩:=r;rfl
 |ref _=>cases r;rfl
 |ty _=>cases r;rfl
theorem RelV.inj {x y:V}{u:aa}(r:RelV x u)(q:RelV y u):x=y:=Option.some.inj (r.abs.symm.trans q.abs)
theorem bR.inj:∀{xs ys:List V} {us:List aa},bR xs us->bR ys us->xs=ys
 |_,_,_,.nil,.nil=>rfl
 |_,_,_,.cons r t,.cons r' t'=>by rw[r.inj r',bR.inj t t']
section
variable {X:Cx}{ai:List (ah×df)}{σ:St}{H:Hp}{s:aj}{a:ah}{xs ys:List V}
theorem gz.of {K:ae}(h:H a=some (.lst xs)):gz K H a xs:=.inl (.inl h)
theorem lE.of {K:ae}(h:H a=some (.tup xs)):lE K H a xs:=.inl (.inl h)
theorem Inv.list (I:Inv X ai σ H s)(h:gz X.K H a xs):∃cx:List aa,bR xs cx/\PlainL s.heap a cx.toArray/\xs.length<=sizeLine:=by
 rcases h with h|⟨o,cx,n,hk,hc,hd,hs,hz,r⟩
 ·obtain⟨z,cx,n,r,e⟩:=h.ok I.hok
  exact⟨cx,r,⟨_,n,e,rfl,rfl,rfl⟩,z⟩
 ·refine⟨cx.toList,r,⟨o,n,I.kIn a o hk,hc,hd,by simpa using hs⟩,?_⟩
  have e:=r.length
  simp only[dP]at e
  omega
theorem Inv.tuple (I:Inv X ai σ H s)(h:lE X.K H a xs):∃cx:List aa,bR xs cx/\IsTup s.heap a cx.toArray/\xs.length<=sizeLine:=by
 rcases h with h|⟨o,cx,n,hk,hc,hs,hz,r⟩
 ·obtain⟨z,cx,r,p⟩:=h.ok I.hok
  exact⟨cx,r,p,z⟩
 ·refine⟨cx.toList,r,⟨o,I.kIn a o hk,hc,n,by simpa using hs⟩,?_⟩
  have e:=r.length
  simp only[dP]at e
  omega
theorem Inv.list_inj (I:Inv X ai σ H s)(h:gz X.K H a xs)(h':gz X.K H a ys):xs=ys:=by
 obtain⟨cx,r,⟨o,n,e,_,_,d⟩,_⟩:=I.list h
 obtain⟨its',r',⟨o',n',e',_,_,d'⟩,_⟩:=I.list h'
 rw[e]at e';cases e'
 rw[d]at d'
 injection d' with d1 _
 have:cx=its':=by simpa using congrArg Array.toList d1
 subst this
 exact r.inj r'
end
abbrev Cx.wish (X:Cx)(E:aa->aj->Prop):Cx:={ X with xe:=E }
abbrev Cx.nox (X:Cx):Cx:=X.wish λ_ _=>False
theorem Cx.Ok.wish {X:Cx}(ok:X.Ok)(E:aa->aj->Prop):(X.wish E).Ok :=
 ⟨ok.mod,ok.kind,ok.glob,ok.blt,ok.above,ok.inj,ok.has,ok.cab,ok.hd,ok.frames,ok.stk,ok.exf,ok.bs,ok.bsz,ok.noex,ok.exfs,ok.funs,ok.frf⟩
theorem Cx.Ok.unwish {X:Cx}{E:aa->aj->Prop}(ok:(X.wish E).Ok):X.Ok :=
 ⟨ok.mod,ok.kind,ok.glob,ok.blt,ok.above,ok.inj,ok.has,ok.cab,ok.hd,ok.frames,ok.stk,ok.exf,ok.bs,ok.bsz,ok.noex,ok.exfs,ok.funs,ok.frf⟩
section
variable {X:Cx}{ai:List (ah×df)}{σ:St}{H:Hp}{s:aj}{E:aa->aj->Prop}
theorem Inv.wish (I:Inv X ai σ H s)(E:aa->aj->Prop):Inv (X.wish E) ai σ H s:=⟨I.ok.wish E,I.os,I.bare,I.base,I.loc,I.cell,I.free,I.freeC,I.pin,I.hok,I.len⟩
theorem Inv.unwish (I:Inv (X.wish E) ai σ H s):Inv X ai σ H s:=⟨I.ok.unwish,I.os,I.bare,I.base,I.loc,I.cell,I.free,I.freeC,I.pin,I.hok,I.len⟩
theorem SP.unwish {D:iw}{f:Flow}{s':aj}(h:SP (X.wish E) ai D f s'):SP X ai D f s':=by
 cases f with
 |next=>obtain⟨σ',H',I,q⟩:=h;exact⟨σ',H',I.unwish,q⟩
 |brk=>obtain⟨σ',H',I,q⟩:=h;exact⟨σ',H',I.unwish,q⟩
 |cont=>obtain⟨σ',H',I,q⟩:=h;exact⟨σ',H',I.unwish,q⟩
 |ret u=>obtain⟨v,σ',H',I,r,q⟩:=h;exact⟨v,σ',H',I.unwish,r,q⟩
theorem oH.nox {st:List bD}{t:TS}(h:oH X.nox st t):oH X st t:=λai s σ H D I hw=>
 dc (h ai s σ H D (I.wish _) hw) (λ_ _ q=>q.unwish) λ_ _ z=>False.elim z
end
section
variable {X:Cx}{st:bD}{rest:List bD}{t u:TS}{e:Expr}{te:TE}{pos:cX}
def zL:TS:=λD σ H=>D.nx σ H
def HC (t u:TS):TS:=λD σ H=>t { D with nx:=u D } σ H
theorem zpn:oH X [] zL:=λ_ _ σ H _ I h=>kz ⟨σ,H,I,h⟩
theorem Jq (h1:PS X st t)(h2:oH X rest u):oH X (st::rest) (HC t u):=by
 intro ai s σ H D I h
 refine wpAny_execs_cons (dw (h1 ai s σ H { D with nx:=u D } I h) λf s1 q=>?_)
 cases f with
 |next=>
  obtain⟨σ',H',I',q⟩:=q
  exact h2 ai s1 σ' H' D I' q
 |ret v=>exact q
 |brk=>exact q
 |cont=>exact q
theorem JB (h1:PS X st t):oH X [st] t:=by
 intro ai s σ H D I h
 refine wpAny_execs_cons (dw (h1 ai s σ H D I h) λf s1 q=>?_)
 cases f with
 |next=>exact kz q
 |ret v=>exact q
 |brk=>exact q
 |cont=>exact q
theorem zpo:PS X (.Pass pos) zL:=λ_ _ σ H _ I h=>wpAny_Pass ⟨σ,H,I,h⟩
theorem Inv.quiet {ai:List (ah×df)}{σ:St}{H:Hp}{s:aj}(I:Inv X ai σ H s):interactive X.env=false:=by simp[interactive,I.ok.kind]
def zJ (te:TE):TS:=λD σ H=>te σ H λ_ H1=>D.nx σ H1
theorem JC (he:PE X e te)(hs:dH e none pos.line X.env=pure false:=by rfl):PS X (.Expr e pos) (zJ te):=by
 intro ai s σ H D I h
 exact wpAny_Expr_any (dw (he ai s σ H _ I h) λv s1 ⟨x,H1,I1,r1,q1⟩=>⟨σ,H1,I1,q1⟩) I.quiet hs
def MR (te:TE):TS:=λD σ H=>te σ H D.rt
theorem JR (he:PE X e te):PS X (.Return (some e) pos) (MR te):=by
 intro ai s σ H D I h
 exact wpAny_Return_some (dw (he ai s σ H _ I h) λv s1 ⟨x,H1,I1,r1,q1⟩=>⟨x,σ,H1,I1,r1,q1⟩)
def MN (c:TT)(t u:TS):TS:=λD σ H=>c σ H λb H1=>if b=true then t D σ H1 else u D σ H1
theorem Tj {c:Expr}{a b:List bD}{tc:TT}(hc:PT X c tc)(ha:oH X a t)(hb:oH X b u):PS X (.If c a b pos) (MN tc t u):=by
 intro ai s σ H D I h
 refine wpAny_If (dw (hc ai s σ H _ I h) λd s1 dO=>?_)
 obtain⟨H1,I1,q1⟩:=dO
 cases d with
 |true=>exact ha ai s1 σ H1 D I1 q1
 |false=>exact hb ai s1 σ H1 D I1 q1
def BH:TS:=λ_ _ _=>False
theorem zms:PS X st BH:=λ_ _ _ _ _ _ h=>h.elim
end
abbrev TG:=V->St->Hp->(St->Hp->Prop)->Prop
abbrev yL:=List V->St->Hp->(St->Hp->Prop)->Prop
def PG (X:Cx)(target:Expr)(t:TG):Prop :=
 ∀(ai:List (ah×df)) (s:aj) (σ:St) (H:Hp) (v:V) (u:aa) (Q:St->Hp->Prop),Inv X ai σ H s->RelV v u->t v σ H Q ->
  aT (aI X.prog X.w) X.A (gW target X.env u) (λ_ s'=>∃σ' H',Inv X ai σ' H' s'/\Q σ' H') X.xe s
def BZ (X:Cx)(ts:List Expr)(t:yL):Prop :=
 ∀(ai:List (ah×df)) (s:aj) (σ:St) (H:Hp) (vs:List V) (us:List aa) (Q:St->Hp->Prop),Inv X ai σ H s->bR vs us->t vs σ H Q ->
  aT (aI X.prog X.w) X.A (assignInOrder ((cZ ts X.env).map (·.2)) us) (λ_ s'=>∃σ' H',Inv X ai σ' H' s'/\Q σ' H') X.xe s
abbrev uH:=V->V->V->Hp->(Hp->Prop)->Prop
def zW (X:Cx)(t:uH):Prop :=
 ∀(ai:List (ah×df)) (s:aj) (σ:St) (H:Hp) (o i v:V) (ov iv u:aa) (Q:Hp->Prop),Inv X ai σ H s->RelV o ov->RelV i iv->RelV v u->t o i v H Q ->
  aT (aI X.prog X.w) X.A (nr ov iv u) (λ_ s'=>∃H',Inv X ai σ H' s'/\Q H') X.xe s
abbrev B1:=V->V->Hp->VK->Prop
def B0 (X:Cx)(op:jT)(t:B1):Prop :=
 ∀(ai:List (ah×df)) (s:aj) (σ:St) (H:Hp) (x y:V) (v u:aa) (Q:VK),Inv X ai σ H s->RelV x v->RelV y u->t x y H Q ->
  aT (aI X.prog X.w) X.A (inplaceOp op v u) (EP X ai σ Q) X.xe s
section
variable {X:Cx}{pos:cX}
def rZ (i:Nat):TG:=λv σ H Q=>Q (σ.set i (some v)) H
theorem R4 {i:Nat}{x:aK}(hN:X.N.Nodup)(hi:X.N[i]?=some x)(hx:Loc X.env.scope x)(hf:X.fn x=true\/X.env.scope.names.lookup x=some .local:=by first|exact .inl rfl|exact .inr rfl|assumption):PG X (.Name x pos) (rZ i):=by
 intro ai s σ H v u Q I r h
 exact wpAny_assign_Name (Nk I hN hi hx r (λs' I'=>⟨_,H,I',h⟩) hf)
def Lm:yL:=λvs σ H Q=>vs=[]/\Q σ H
def EU (t:TG)(u:yL):yL:=λvs σ H Q=>∃v r,vs=v::r/\t v σ H λσ' H'=>u r σ' H' Q
theorem R5:BZ X [] Lm:=by
 intro ai s σ H vs us Q I r h
 obtain⟨e,h⟩:=h
 subst e
 cases r
 exact assignInOrder_nil ⟨σ,H,I,h⟩
theorem Rr {e:Expr}{es:List Expr}{t:TG}{u:yL}(h1:PG X e t)(h2:BZ X es u)
  (hs:(cZ (e::es) X.env).map (·.2)=gW e X.env::(cZ es X.env).map (·.2):=by rfl):BZ X (e::es) (EU t u):=by
 intro ai s σ H vs us Q I r h
 obtain⟨v,vr,e1,h⟩:=h
 subst e1
 cases r with
 |cons r rr=>
  rw[hs]
  refine assignInOrder_cons (dw (h1 ai s σ H _ _ _ I r h) λ_ s1 dO=>?_)
  obtain⟨σ1,H1,I1,q1⟩:=dO
  exact h2 ai s1 σ1 H1 _ _ Q I1 rr q1
def Lo (K:ae)(n:Nat)(t:yL):TG:=λv σ H Q=>∃a xs,v=.ref a/\lE K H a xs/\xs.length=n/\t xs σ H Q
theorem SY {es:List Expr}{k:Nat}{t:yL}{n:Nat}(hc:X.calm=true)(h:BZ X es t)
  (hn:(cZ es X.env).length=n:=by rfl) (iX:(cZ es X.env).findIdx? (·.1)=none:=by rfl):PG X (.Tuple es k pos) (Lo X.K n t):=by
 intro ai s σ H v u Q I r hw
 obtain⟨a,xs,e1,hq,hl,hw⟩:=hw
 subst e1
 cases r
 obtain⟨cx,rv,ht,hz⟩:=I.tuple hq
 refine assign_Tuple_tuple (I.ok.hd hc) ht (by simp[hn,←hl,rv.length]) iX λh' hx=>?_
 have I1:Inv X ai σ H { s with heap:=h' }:=I.kept (t':=s.toks) λb o e=>hx b o (bo (aO e)) e
 exact h ai _ σ H xs _ Q I1 (by simpa using rv) hw
def Ln (to ti:TE)(t:uH):TG:=λv σ H Q=>to σ H λo H1=>ti σ H1 λi H2=>t o i v H2 λH3=>Q σ H3
theorem SZ {o i:Expr}{to ti:TE}{t:uH}(ho:PE X o to)(hi:PE X i ti)(hs:zW X t)
  (ha:∀v,gW (.Subscript o i pos) X.env v=(do
   let ov ← dS [v] (bG o X.env)
   let iv ← dS [v,ov] (bG i X.env)
   fO pos
   dS [v,ov,iv] (nr ov iv v)
   tP [v,ov,iv] []):=by intro _;rfl):PG X (.Subscript o i pos) (Ln to ti t):=by
 intro ai s σ H v u Q I r h
 rw[ha]
 refine aw (mm (dw (ho ai s σ H _ I h) λov s1 dO=>?_))
 obtain⟨x,H1,I1,r1,q1⟩:=dO
 refine aw (mm (dw (hi ai s1 σ H1 _ I1 q1) λiv s2 dO=>?_))
 obtain⟨y,H2,I2,r2,q2⟩:=dO
 refine aw (jH (aw (mm (dw (hs ai s2 σ H2 x y v ov iv u _ I2 r1 r2 r q2) λ_ s3 dO=>?_))))
 obtain⟨H3,I3,q3⟩:=dO
 exact wpAny_release ⟨σ,H3,I3,q3⟩
def BD (te:TE)(g:TG):TS:=λD σ H=>te σ H λx H1=>g x σ H1 D.nx
theorem NU {tg e:Expr}{te:TE}{g:TG}(he:PE X e te)(hg:PG X tg g)(hs:ml [tg] e pos.line X.env=pure false:=by rfl)(hw:mj [tg] e X.env=pure none:=by rfl)
  (h1:(cZ [tg] X.env).map (·.2)=[gW tg X.env]:=by rfl):PS X (.Assign [tg] e pos) (BD te g):=by
 intro ai s σ H D I h
 refine wpAny_Assign_stores (dw (he ai s σ H _ I h) λv s1 ⟨x,H1,I1,r1,q1⟩=>?_) hs hw
 rw[h1]
 exact dw (hg ai s1 σ H1 x v _ I1 r1 q1) λ_ s2 q=>q
theorem NV {i:Nat}{x:aK}{e:Expr}{te:TE}{pos':cX}(hN:X.N.Nodup)(hi:X.N[i]?=some x)(hx:Loc X.env.scope x)(he:PE X e te)(hs:dH e (some (.Name x pos')) pos.line X.env=pure false:=by rfl)(hf:X.fn x=true\/X.env.scope.names.lookup x=some .local:=by first|exact .inl rfl|exact .inr rfl|assumption) :
  PS X (.Assign [.Name x pos'] e pos) (BD te (rZ i)):=by
 intro ai s σ H D I h
 refine wpAny_Assign_Name (dw (he ai s σ H _ I h) λv s1 ⟨y,H1,I1,r1,q1⟩=>?_) hs
 exact Nk I1 hN hi hx r1 (λs2 I2=>⟨_,H1,I2,q1⟩) hf
def MI (i:Nat)(te:TE)(ti:B1):TS:=λD σ H=>∃x,σ[i]?=some (some x)/\te σ H λy H1=>ti x y H1 λz H2=>D.nx (σ.set i (some z)) H2
theorem zsr {i:Nat}{x:aK}{e:Expr}{te:TE}{op:jT}{ti:B1}{pos':cX}(hN:X.N.Nodup)(hi:X.N[i]?=some x)(hx:Loc X.env.scope x)(he:PE X e te)(ho:B0 X op ti)(hf:X.fn x=true\/X.env.scope.names.lookup x=some .local:=by first|exact .inl rfl|exact .inr rfl|assumption) :
  PS X (.AugAssign (.Name x pos') op e pos) (MI i te ti):=by
 intro ai s σ H D I h
 obtain⟨v,e1,h⟩:=h
 obtain⟨m,hn,hl⟩:=I.loc
 have YC:oK X.env.scope x:=by rcases hx with k|k;exact .inl k;exact .inr (.inl k)
 obtain⟨u,r,l⟩:=hl i x v hi e1 YC
 refine wpAny_AugAssign_Name ?_
 have go:aT (aI X.prog X.w) X.A (bG e X.env) (λw s₂=>aT (aI X.prog X.w) X.A (inplaceOp op u w) (λr s₃=>aT (aI X.prog X.w) X.A (storeName X.env x r) (λ_=>SP X ai D .next) X.xe s₃) X.xe s₂) X.xe s:=by
  refine dw (he ai s σ H _ I h) λw s1 dO=>?_
  obtain⟨y,H1,I1,r1,q1⟩:=dO
  refine dw (ho ai s1 σ H1 v y u w _ I1 r r1 q1) λz s2 dO=>?_
  obtain⟨zv,H2,I2,r2,q2⟩:=dO
  exact Nk I2 hN hi hx r2 (λs3 I3=>⟨_,H2,I3,q2⟩) hf
 rcases l with⟨hk,hm⟩|⟨hk,c,hc,sd⟩
 ·exact wpAny_loadName_local I.ok.kind hk hn hm go
 ·rcases hk with hk|hk
  ·exact wpAny_loadName_cell I.ok.kind hk hc sd go
  ·rcases hx with k|k
   ·have:X.env.scope.names.lookup x=some .free:=hk
    rw[k]at this;cases this
   ·have:X.env.scope.names.lookup x=some .free:=hk
    rw[k]at this;cases this
def Hv (to ti te:TE)(xR:V->V->Hp->VK->Prop)(Jc:B1)(xT:uH):TS:=λD σ H=>to σ H λo H1=>ti σ H1 λi H2=>xR o i H2 λx H3=>te σ H3 λy H4=>Jc x y H4 λz H5=>xT o i z H5 λH6=>D.nx σ H6
def CN (X:Cx)(t:V->V->Hp->VK->Prop):Prop :=
 ∀(ai:List (ah×df)) (s:aj) (σ:St) (H:Hp) (o i:V) (ov iv:aa) (Q:VK),Inv X ai σ H s->RelV o ov->RelV i iv->t o i H Q ->
  aT (aI X.prog X.w) X.A (nk ov iv) (EP X ai σ Q) X.xe s
theorem zpp {o i e:Expr}{to ti te:TE}{xR:V->V->Hp->VK->Prop}{Jc:B1}{xT:uH}{op:jT}{gE:cX}(ho:PE X o to)(hi:PE X i ti)(hg:CN X xR)(he:PE X e te)(hp:B0 X op Jc)(hs:zW X xT)
  (ha:∀ov iv new,augStore i ov iv new=(do dS [new,ov,iv] (nr ov iv new);tP [new,ov,iv] [];pure .next):=by intros;rfl):PS X (.AugAssign (.Subscript o i gE) op e pos) (Hv to ti te xR Jc xT):=by
 intro ai s σ H D I h
 refine wpAny_AugAssign_SubscriptAny (dw (ho ai s σ H _ I h) λov s1 ⟨x1,H1,I1,r1,q1⟩=>?_) ha
 refine dw (hi ai s1 σ H1 _ I1 q1) λiv s2 dO=>?_
 obtain⟨x2,H2,I2,r2,q2⟩:=dO
 refine dw (hg ai s2 σ H2 x1 x2 ov iv _ I2 r1 r2 q2) λold s3 dO=>?_
 obtain⟨x3,H3,I3,r3,q3⟩:=dO
 refine dw (he ai s3 σ H3 _ I3 q3) λv s4 dO=>?_
 obtain⟨x4,H4,I4,r4,q4⟩:=dO
 refine dw (hp ai s4 σ H4 x3 x4 old v _ I4 r3 r4 q4) λnew s5 dO=>?_
 obtain⟨x5,H5,I5,r5,q5⟩:=dO
 exact dw (hs ai s5 σ H5 x1 x2 x5 ov iv new _ I5 r1 r2 r5 q5) λ_ s6 ⟨H6,I6,q6⟩=>⟨σ,H6,I6,q6⟩
def IQ (f:Int->Int->Int):B1:=λx y H Q=>∃i j,x=.int i/\y=.int j/\Q (.int (f i j)) H
theorem S1:B0 X .Add (IQ λi j=>i+j):=by
 intro ai s σ H x y v u Q I r1 r2 h
 obtain⟨i,j,e1,e2,q⟩:=h
 subst e1;subst e2
 obtain⟨t,rfl⟩:=r1
 obtain⟨t',rfl⟩:=r2
 exact iadd_int ⟨.int _,H,I.tok _,⟨_,rfl⟩,q⟩
theorem zss:B0 X .Sub (IQ λi j=>i-j):=by
 intro ai s σ H x y v u Q I r1 r2 h
 obtain⟨i,j,e1,e2,q⟩:=h
 subst e1;subst e2
 obtain⟨t,rfl⟩:=r1
 obtain⟨t',rfl⟩:=r2
 exact isub_int ⟨.int _,H,I.tok _,⟨_,rfl⟩,q⟩
end
section
variable {X:Cx}{pos:cX}
def BJ (c:TT)(tb:TS):TS:=λD σ H=>∃W:Nat->St->Hp->Prop,(∃m,W m σ H)/\∀m σ H,W m σ H ->
 c σ H λb H1=>if b=true then∃N:St->Hp->Prop,(∀σ' H',N σ' H'->∃m',m'<m/\W m' σ' H')/\tb { D with nx:=N,ct:=N,bk:=D.nx } σ H1 else D.nx σ H1
theorem Rt {c:Expr}{body:List bD}{tc:TT}{tb:TS}(hp:bV (aI X.prog X.w) X.A X.env X.xe)(hc:PT X c tc)(hb:oH X body tb):PS X (.While c body [] pos) (BJ tc tb):=by
 intro ai s σ H D I h
 obtain⟨W,⟨m0,w0⟩,cy⟩:=h
 refine wpAny_While (codeAny_whileLoop (λn s'=>∃σ' H',Inv X ai σ' H' s'/\W n σ' H') ?_ m0 ⟨σ,H,I,w0⟩)
 rintro n s1 ⟨σ1,H1,I1,w1⟩
 refine fk hp (dw (hc ai s1 σ1 H1 _ I1 (cy n σ1 H1 w1)) λb s2 dO=>?_)
 obtain⟨H2,I2,q2⟩:=dO
 cases b with
 |true=>
  obtain⟨N,hN,q2⟩:=q2
  rw[if_pos rfl]
  refine fk hp (dw (hb ai s2 σ1 H2 _ I2 q2) λf s3 q3=>?_)
  cases f with
  |next=>
   obtain⟨σ3,H3,I3,n3⟩:=q3
   obtain⟨m',hm,w3⟩:=hN σ3 H3 n3
   exact⟨m',hm,σ3,H3,I3,w3⟩
  |cont=>
   obtain⟨σ3,H3,I3,n3⟩:=q3
   obtain⟨m',hm,w3⟩:=hN σ3 H3 n3
   exact⟨m',hm,σ3,H3,I3,w3⟩
  |brk=>exact q3
  |ret v=>exact q3
 |false=>
  rw[if_neg aJ]
  exact kz ⟨σ1,H2,I2,q2⟩
end
structure It where
 go:Nat->Hp->Prop
 yld:Nat->Hp->V->Hp->Prop
 stop:Nat->Hp->Prop
def kR (X:Cx)(ai:List (ah×df))(H:Hp)(b:ah):Prop :=
 H b=none/\b≠X.env.locals/\b∉X.fs/\(b∈X.ex\/X.s₀.heap.objs.size<=b)/\(∀x c,X.env.cells.lookup x=some c->c≠b)/\∀p∈X.pn++ai,p.1≠b
theorem Inv.fpOk {X:Cx}{ai:List (ah×df)}{σ:St}{H H':Hp}{s:aj}{b:ah}(I:Inv X ai σ H s)(hb:s.heap.objs.size<=b)(hn:H' b=none):kR X ai H' b:=by
 refine⟨hn,lN (bc I.lt hb),I.nofs hb,.inr (bZ I.sz hb),λx c e z=>?_,λp hp z=>?_⟩
 ·obtain⟨v,q⟩:=I.cell x c e
  exact absurd (bc q.lt (by rw[z];exact hb)) (er _)
 ·exact absurd (bc (aO (I.pin p hp).1) (by rw[z];exact hb)) (er _)
structure Turn (P:bn)(w:bP)(K:ae)(tg:Expr)(J:It)(fp:List ah)(it:ah)(tn:Nat->aM->Prop):Prop where
 mem:it∈fp
 obj:∀i h,tn i h->∀b∈fp,∃o,h.get? b=some o/\∀v,o.data≠.cell v
 keep:∀i h h',tn i h->(∀b∈fp,∀o,h.get? b=some o->h'.get? b=some o)->tn i h'
 item:∀(X:Cx),X.prog=P->X.w=w->X.K=K->X.calm=true->∀(i:Nat) (ai:List (ah×df)) (s:aj) (σ:St) (H:Hp) (E:aa->aj->Prop),Inv X ai σ H s->(∀b∈fp,kR X ai H b)->tn i s.heap->J.go i H ->
  aT (aI P w) X.A (pyNext (.ref it)) (λr s1=>∃u,r=some u /\
   aT (aI P w) X.A (iA tg (.ref it) u) (λ_ s2=>∃x H',Inv X ai σ H' s2/\RelV x u/\J.yld i H x H'/\tn (i+1) s2.heap/\∀b∈fp,H' b=none) E s1) E s
 done:∀(X:Cx),X.prog=P->X.w=w->X.K=K->X.calm=true->∀(i:Nat) (ai:List (ah×df)) (s:aj) (σ:St) (H:Hp) (E:aa->aj->Prop),Inv X ai σ H s->(∀b∈fp,kR X ai H b)->tn i s.heap->J.stop i H ->
  aT (aI P w) X.A (pyNext (.ref it)) (λr s1=>r=none/\Inv X ai σ H s1) E s
 self:∀(A:bx) (i:Nat) (s:aj) (Q:aa->aj->Prop) (E:aa->aj->Prop),tn i s.heap->Q (.ref it) s->aT (aI P w) A (pyIter (.ref it)) Q E s
abbrev TI:=St->Hp->(It->Hp->Prop)->Prop
def Oq (X:Cx)(ai:List (ah×df))(σ:St)(tg:Expr)(R:It->Hp->Prop)(IR:aa)(s2:aj):Prop :=
 ∃(it:ah) (fp:List ah) (tn:Nat->aM->Prop) (J:It) (H':Hp),IR=.ref it/\Inv X ai σ H' s2/\Turn X.prog X.w X.K tg J fp it tn/\tn 0 s2.heap/\(∀b∈fp,kR X ai H' b)/\R J H'
def PI (X:Cx)(tg iter:Expr)(wi:TI):Prop :=
 ∀(ai:List (ah×df)) (s:aj) (σ:St) (H:Hp) (R:It->Hp->Prop),Inv X ai σ H s->wi σ H R ->
  aT (aI X.prog X.w) X.A (bG iter X.env) (λv s1=>aT (aI X.prog X.w) X.A (pyIter v) (Oq X ai σ tg R) X.xe s1) X.xe s
theorem Oh {M:Model}{A:bx}{E:aa->aj->Prop}{s:aj}{tg:Expr}{it:ah}{u:aa}{o:df}{n:String}{vs:Array aa}{Q:Unit->aj->Prop}(ho:s.heap.get? it=some o)(hc:o.cls=.type n)(hd:o.data=.fields vs)
    (hn:["enumerate","zip","dict_itemiterator","dict_reverseitemiterator","odict_iterator","itertools.zip_longest","itertools.pairwise"].contains n=false) (hQ:Q () s):aT M A (iA tg (.ref it) u) Q E s:=by
  unfold iA
  cases tg<;>first
    |exact bi hQ
    |(cases u<;>first
        |exact bi hQ
        |(refine aw (wpAny_load ho ?_)
          rw[hc,hd]
          show aT M A (if(["enumerate","zip","dict_itemiterator","dict_reverseitemiterator","odict_iterator","itertools.zip_longest","itertools.pairwise"].contains n&&vs[0]?==some (rawInt _))=true then _ else _) Q E s
          rw[if_neg (by intro h;rw[hn,Bool.false_and]at h;cases h)]
          exact bi hQ))
def Kc (K:ae)(a:ah):It :=
 ⟨λi H=>∃xs x,gz K H a xs/\xs[i]?=some x,λi H x H'=>H'=H/\∀xs,gz K H a xs->xs[i]?=some x,λi H=>∃xs,gz K H a xs/\xs.length<=i⟩
def HW (lo:Int)(n:Nat):It:=⟨λi _=>i<n,λi H x H'=>H'=H/\x=.int (lo+i),λi _=>n<=i⟩
theorem Z6 {P:bn}{w:bP}{K:ae}{tg:Expr}(a it:ah):Turn P w K tg (Kc K a) [it] it (λi h=>h.IsListIter it a i) where
 mem:=by simp
 obj:=λi h st b hb=>by
  have e:b=it:=by simpa using hb
  subst e
  obtain⟨o,e,c,d⟩:=st
  exact⟨o,e,λv z=>by rw[d]at z;cases z⟩
 keep:=λi h h' st k=>st.at λo e=>k it (by simp) o e
 item:=by
  intro X hP hw hK hc i ai s σ H E I hf st hg
  subst hP hw hK
  obtain⟨xs,x,hq,hx⟩:=hg
  obtain⟨cx,rv,p,hz⟩:=I.list hq
  obtain⟨u,hu,ru⟩:=rv.get hx
  obtain⟨f0,f1,f2,f3,f4,f5⟩:=hf it (by simp)
  refine wpAny_pyNext_list_item st p.isList (x:=u) (by simpa using hu) λh' t6 sb=>?_
  have I1:Inv X ai σ H { s with heap:=h' }:=I.turned (t':=s.toks) (λb o hb e=>(sb.2 b hb).trans e) f0 f1 f3 f4 f5
  obtain⟨o,e,c,d⟩:=id t6
  exact⟨u,rfl,Oh (s:={ s with heap:=h' }) e c d (by decide) ⟨x,H,I1,ru,⟨rfl,λys hy=>by rw[I.list_inj hy hq];exact hx⟩,t6,λb hb=>(hf b hb).1⟩⟩
 done:=by
  intro X hP hw hK hc i ai s σ H E I hf st hg
  subst hP hw hK
  obtain⟨xs,hq,hx⟩:=hg
  obtain⟨cx,rv,p,hz⟩:=I.list hq
  obtain⟨f0,f1,f2,f3,f4,f5⟩:=hf it (by simp)
  have hl:=rv.length
  exact wpAny_pyNext_list_end (I.ok.hd hc) st p.isList (by simp;omega) λh' eb=>⟨rfl,I.turned (t':=s.toks) (λb o hb e=>eb b o hb e) f0 f1 f3 f4 f5⟩
 self:=λ_ _ _ _ _ st h=>wpAny_pyIter_listiter st h
theorem ZC {P:bn}{w:bP}{K:ae}{tg:Expr}(it:ah)(lo:Int)(n:Nat):Turn P w K tg (HW lo n) [it] it (λi h=>IsRangeIter h it (lo+(i:Nat)*1) ((n:Int)-(i:Nat)) 1) where
 mem:=by simp
 obj:=λi h st b hb=>by
  have e:b=it:=by simpa using hb
  subst e
  exact⟨_,st,λv z=>by
   have z':kj.fields _=kj.cell v:=z
   cases z'⟩
 keep:=λi h h' st k=>k it (by simp) _ st
 item:=by
  intro X hP hw hK hc i ai s σ H E I hf st hg
  subst hP hw hK
  obtain⟨f0,f1,f2,f3,f4,f5⟩:=hf it (by simp)
  have W:=Walks.range (prog:=X.prog) (w:=X.w) (I.ok.hd hc) it lo 1 n
  refine W.item i s _ _ hg st λv h' tk hv t6 kk=>?_
  obtain⟨t,rfl⟩:=hv
  have I1:Inv X ai σ H { s with heap:=h',toks:=tk }:=I.turned (λb o hb e=>kk b o (by simpa using hb) e) f0 f1 f3 f4 f5
  refine⟨_,rfl,Oh (s:={ s with heap:=h',toks:=tk }) (n:="range_iterator") t6 rfl rfl (by decide) ⟨.int (lo+i),H,I1,⟨t,?_⟩,⟨rfl,rfl⟩,t6,λb hb=>(hf b hb).1⟩⟩
  rw[mK]
 done:=by
  intro X hP hw hK hc i ai s σ H E I hf st hg
  subst hP hw hK
  obtain⟨f0,f1,f2,f3,f4,f5⟩:=hf it (by simp)
  exact wpAny_pyNext_range_end (I.ok.hd hc) st (by have:n<=i:=hg;omega) λh' eb=>⟨rfl,I.turned (t':=s.toks) (λb o hb e=>eb b o hb e) f0 f1 f3 f4 f5⟩
 self:=λ_ _ _ _ _ st h=>wpAny_pyIter_rangeiter st h
end L2
namespace L2
open PySem PySem.Spec PyProof.Rows
section
variable {X:Cx}{tg:Expr}
def FE (K:ae)(tl:TE):TI:=λσ H R=>tl σ H λx H1=>∃a,x=.ref a/\(∃xs,gz K H1 a xs)/\R (Kc K a) H1
theorem RZ {l:Expr}{tl:TE}(hl:PE X l tl):PI X tg l (FE X.K tl):=by
 intro ai s σ H R I h
 refine dw (hl ai s σ H _ I h) λv s1 dO=>?_
 obtain⟨x,H1,I1,r1,q1⟩:=dO
 obtain⟨a,e,⟨xs,hq⟩,q⟩:=q1
 subst e
 cases r1
 obtain⟨cx,rv,p,hz⟩:=I1.list hq
 refine wpAny_pyIter_list p.isList ?_
 refine⟨s1.heap.objs.size,[s1.heap.objs.size],_,_,H1,rfl,I1.kept (t':=s1.toks) λb o e=>ar _ e,Z6 a _,⟨_,bH _ rfl,rfl,rfl⟩,λb hb=>?_,q⟩
 have e:b=s1.heap.objs.size:=by simpa using hb
 subst e
 exact I1.fpOk (aF _) (I1.hok.fresh (aF _))
theorem zmt {ai:List (ah×df)}{σ:St}{H:Hp}{s:aj}{R:It->Hp->Prop}{E:aa->aj->Prop}{lo hi:Int}{t u v:Tok}{tk:Nat}(I:Inv X ai σ H s)(h1:-(2 ^ 62)<=lo)(h2:lo<2 ^ 62)(h3:-(2 ^ 62)<=hi)(h4:hi<2 ^ 62)
    (q:R (HW lo (hi-lo).toNat) H):aT (aI X.prog X.w) X.A (pyIter (.ref s.heap.objs.size)) (Oq X ai σ tg R) E { s with heap:=s.heap.push { cls:=.type "range",data:=.fields #[.int lo t,.int hi u,.int 1 v] },toks:=tk }:=by
  refine wpAny_pyIter_range (IsRange.new ..) (small_one h1 h2 h3 h4) ?_
  have I1:Inv X ai σ H { s with heap:=s.heap.push { cls:=.type "range",data:=.fields #[.int lo t,.int hi u,.int 1 v] },toks:=tk }:=I.kept λb o e=>ar _ e
  refine⟨(s.heap.push { cls:=.type "range",data:=.fields #[.int lo t,.int hi u,.int 1 v] }).objs.size,[(s.heap.push { cls:=.type "range",data:=.fields #[.int lo t,.int hi u,.int 1 v] }).objs.size],_,_,H,rfl,
    I1.kept (t':=tk) λb o e=>ar _ e,ZC _ lo (hi-lo).toNat,?_,λb hb=>?_,q⟩
  · have e1:lo+((0:Nat):Int)*1=lo:=by simp
    have e2:(((hi-lo).toNat:Nat):Int)-((0:Nat):Int)=di.Range.rangeSize lo hi 1:=by rw[rangeSize_one];split<;>omega
    show IsRangeIter _ _ (lo+((0:Nat):Int)*1) ((((hi-lo).toNat:Nat):Int)-((0:Nat):Int)) 1
    rw[e1,e2]
    exact bH _ rfl
  · have e:b=(s.heap.push { cls:=.type "range",data:=.fields #[.int lo t,.int hi u,.int 1 v] }).objs.size:=by simpa using hb
    subst e
    exact I1.fpOk (aF _) (I1.hok.fresh (aF _))
def FF (ta:TA):TI:=λσ H R=>ta σ H λvs H1=>∃j:Int,vs=[.int j]/\-(2 ^ 62)<=j/\j<2 ^ 62/\R (HW 0 j.toNat) H1
theorem ZH {a:Expr}{ta:TA}{p pos:cX}(hg:Gl X "range")(hm:X.mg "range"=none)(ha:PA X [a] ta)(hs:ap [a] X.env=[(false,bG a X.env)]:=by rfl):PI X tg (.Call (.Name "range" p) [a] [] pos) (FF ta):=by
 intro ai s σ H R I h
 refine Call_ (xX I hg hm boot_range (cz (dw (ha pos ai s σ H _ I h) λus s1 ⟨vs,H1,I1,r1,q1⟩=>?_) hs rfl))
 obtain⟨j,e,q1,q2,q⟩:=q1
 subst e
 cases r1 with
 |cons r rr=>
  cases rr
  obtain⟨t,rfl⟩:=r
  exact call_range_1 (zmt I1 (by omega) (by omega) q1 q2 (by simpa using q))
def MM (wi:TI)(g:TG)(tb:TS):TS:=λD σ H=>wi σ H λJ H1=>∃W:Nat->Nat->St->Hp->Prop,(∃m,W 0 m σ H1)/\∀i m σ H,W i m σ H ->
 (J.stop i H/\D.nx σ H)\/(J.go i H/\∃N:St->Hp->Prop,(∀σ' H',N σ' H'->∃m',m'<m/\W (i+1) m' σ' H')/\∀x H',J.yld i H x H'->g x σ H' λσ2 H2=>tb { D with nx:=N,ct:=N,bk:=D.nx } σ2 H2)
def lH (fp:List ah)(h:aM):List (ah×df):=fp.filterMap λb=>(h.get? b).map λo=>(b,o)
theorem u8 {fp:List ah}{h:aM}{b:ah}{o:df}(hb:b∈fp)(e:h.get? b=some o):(b,o)∈lH fp h:=sA.mpr ⟨b,hb,by rw[e];rfl⟩
theorem ZI {fp:List ah}{h:aM}{p:ah×df}(hp:p∈lH fp h):p.1∈fp/\h.get? p.1=some p.2:=by
 obtain⟨b,hb,e⟩:=sA.mp hp
 cases q:h.get? b with
 |none=>rw[q]at e;cases e
 |some o=>
  rw[q]at e
  have e':(b,o)=p:=Option.some.inj e
  subst e'
  exact⟨hb,q⟩
theorem Inv.pinned {ai:List (ah×df)}{σ:St}{H:Hp}{s:aj}{fp:List ah}(I:Inv X ai σ H s)(hf:∀b∈fp,kR X ai H b)(ho:∀b∈fp,∃o,s.heap.get? b=some o/\∀v,o.data≠.cell v):Inv X (ai++lH fp s.heap) σ H s :=
 I.pins_of λp hp=>(aZ.mp hp).elim (λz=>I.pin p (aD _ z)) λz=>by
  obtain⟨hb,e⟩:=ZI z
  obtain⟨f0,f1,f2,_⟩:=hf p.1 hb
  obtain⟨o,e',d⟩:=ho p.1 hb
  rw[e]at e';cases e'
  exact⟨e,f0,f1,f2,d⟩
theorem Inv.unpinned {ai pl:List (ah×df)}{σ:St}{H:Hp}{s:aj}(I:Inv X (ai++pl) σ H s):Inv X ai σ H s:=I.pins_of λp hp=>I.pin p (aD _ (bq _ hp))
theorem S2 {iter:Expr}{body:List bD}{wi:TI}{g:TG}{tb:TS}{pos:cX}(hp:bV (aI X.prog X.w) X.A X.env X.xe)(hc:X.calm=true)(hi:PI X tg iter wi)(hg:PG X tg g)(hb:oH X body tb)
  (hs:∀x,dm iter X.env x=pure x:=by intro _;rfl):PS X (.For tg iter body [] pos) (MM wi g tb):=by
 intro ai s σ H D I h
 refine wpAny_For (dw (hi ai s σ H _ I h) λv s1 h1=>dw h1 λIR s2 h2=>?_) hs
 obtain⟨it,fp,tn,J,H2,e,I2,T,tq,f2,W,⟨m0,w0⟩,cy⟩:=h2
 subst e
 have ng:∀{H':Hp},(∀b∈fp,H' b=none)->∀b∈fp,kR X ai H' b:=λhn b hb=>⟨hn b hb,(f2 b hb).2⟩
 refine codeAny_forLoop_any (λn s'=>∃i σ' H',Inv X ai σ' H' s'/\tn i s'.heap/\(∀b∈fp,H' b=none)/\W i n σ' H') ?_ m0 ⟨0,σ,H2,I2,tq,λb hb=>(f2 b hb).1,w0⟩
 rintro n s3 ⟨i,σ3,H3,I3,Qa,Iy,w3⟩
 rcases cy i n σ3 H3 w3 with⟨stop,qn⟩|⟨go,N,hN,step⟩
 ·refine fk hp (dw (T.done X rfl rfl rfl hc i ai s3 σ3 H3 X.xe I3 (ng Iy) Qa stop) λr s4 dO=>?_)
  obtain⟨hr,I4⟩:=dO
  subst hr
  exact kz ⟨σ3,H3,I4,qn⟩
 ·refine fk hp (dw (T.item X rfl rfl rfl hc i ai s3 σ3 H3 X.xe I3 (ng Iy) Qa go) λr s4 dO=>?_)
  obtain⟨u,hr,h4⟩:=dO
  subst hr
  refine fk hp (dw h4 λ_ s5 dO=>?_)
  obtain⟨x,H5,I5,r5,y5,xN,AS⟩:=dO
  have Ui:=I5.pinned (ng AS) (T.obj _ _ xN)
  refine fk hp (dw (hg _ s5 σ3 H5 x u _ Ui r5 (step x H5 y5)) λ_ s6 dO=>?_)
  obtain⟨σ6,H6,I6,q6⟩:=dO
  refine fk hp (dw (hb _ s6 σ6 H6 _ I6 q6) λf s7 q7=>?_)
  have again:∀{σ7:St} {H7:Hp},Inv X (ai++lH fp s5.heap) σ7 H7 s7->N σ7 H7->∃m,m<n/\∃i σ' H',Inv X ai σ' H' s7/\tn i s7.heap/\(∀b∈fp,H' b=none)/\W i m σ' H':=λ{σ7 H7} I7 n7=>by
   obtain⟨m',hm,w7⟩:=hN σ7 H7 n7
   refine⟨m',hm,i+1,σ7,H7,I7.unpinned,T.keep _ _ _ xN λb hb o e=>(I7.pin (b,o) (aD _ (aD _ (u8 hb e)))).1,λb hb=>?_,w7⟩
   obtain⟨o,e,d⟩:=T.obj _ _ xN b hb
   exact(I7.pin (b,o) (aD _ (aD _ (u8 hb e)))).2.1
  cases f with
  |next=>obtain⟨σ7,H7,I7,n7⟩:=q7;exact again I7 n7
  |cont=>obtain⟨σ7,H7,I7,n7⟩:=q7;exact again I7 n7
  |brk=>obtain⟨σ7,H7,I7,q7⟩:=q7;exact⟨σ7,H7,I7.unpinned,q7⟩
  |ret v=>obtain⟨x7,σ7,H7,I7,r7,q7⟩:=q7;exact⟨x7,σ7,H7,I7.unpinned,r7,q7⟩
end
end L2
namespace L2
open PySem PySem.Spec PyProof.Rows
abbrev R2:=V->V->Hp->VK->Prop
def gM (X:Cx)(f:aa->aa->pq aa)(r:R2):Prop :=
 ∀(ai:List (ah×df)) (s:aj) (σ:St) (H:Hp) (x y:V) (v u:aa) (Q:VK),Inv X ai σ H s->RelV x v->RelV y u->r x y H Q ->
  aT (aI X.prog X.w) X.A (f v u) (EP X ai σ Q) X.xe s
def HY (X:Cx)(f:aa->pq aa)(r:V->Hp->VK->Prop):Prop :=
 ∀(ai:List (ah×df)) (s:aj) (σ:St) (H:Hp) (x:V) (v:aa) (Q:VK),Inv X ai σ H s->RelV x v->r x H Q ->
  aT (aI X.prog X.w) X.A (f v) (EP X ai σ Q) X.xe s
def eY (X:Cx)(f:aa)(r:List V->Hp->VK->Prop):Prop :=
 ∀(ai:List (ah×df)) (s:aj) (σ:St) (H:Hp) (xs:List V) (us:List aa) (Q:VK),Inv X ai σ H s->bR xs us->r xs H Q ->
  aT (aI X.prog X.w) X.A (call f us) (EP X ai σ Q) X.xe s
def I0 (r:R2)(ta tb:TE):TE:=λσ H Q=>ta σ H λx H1=>tb σ H1 λy H2=>r x y H2 Q
def Yv (r:V->Hp->VK->Prop)(ta:TE):TE:=λσ H Q=>ta σ H λx H1=>r x H1 Q
def rI (C:Int->Int->Prop)(g:Int->Int->V):R2:=λx y H Q=>∃i j,x=.int i/\y=.int j/\C i j/\Q (g i j) H
def qN (g:Int->Int->V):R2:=λx y H Q=>∃i j,x=.int i/\y=.int j/\Q (g i j) H
def rU (g:Int->V):V->Hp->VK->Prop:=λx H Q=>∃i,x=.int i/\Q (g i) H
section
variable {X:Cx}{a b c:Expr}{ta tb tc:TE}{pos:cX}
theorem Ac (ha:PE X a ta)(hb:PE X b tb){ai:List (ah×df)}{s:aj}{σ:St}{H:Hp}{R:V->V->Hp->Prop}(I:Inv X ai σ H s)
  (h:ta σ H λx H1=>tb σ H1 λy H2=>R x y H2) {Q:aa->aj->Prop} {f:aa->aa->pq aa}
  (hf:∀v u s2 x y H2,Inv X ai σ H2 s2->RelV x v->RelV y u->R x y H2->aT (aI X.prog X.w) X.A (f v u) Q X.xe s2) :
  aT (aI X.prog X.w) X.A (bG a X.env) (λv s₁=>aT (aI X.prog X.w) X.A (bG b X.env) (λu s₂=>aT (aI X.prog X.w) X.A (f v u) Q X.xe s₂) X.xe s₁) X.xe s:=by
 refine dw (ha ai s σ H _ I h) λv s1 dO=>?_
 obtain⟨x,H1,I1,r1,q1⟩:=dO
 refine dw (hb ai s1 σ H1 _ I1 q1) λu s2 dO=>?_
 obtain⟨y,H2,I2,r2,q2⟩:=dO
 exact hf v u s2 x y H2 I2 r1 r2 q2
theorem Oi {op:jT}{r:R2}(ho:gM X (d9 op) r)(ha:PE X a ta)(hb:PE X b tb):PE X (.BinOp a op b pos) (I0 r ta tb):=by
 intro ai s σ H Q I h
 exact wpAny_BinOp (Ac ha hb I h λv u s2 x y H2 I2 rx ry q=>ho ai s2 σ H2 x y v u Q I2 rx ry q)
theorem zux {op:UnaryOp}{r:V->Hp->VK->Prop}(ho:HY X (unaryOp op) r)(ha:PE X a ta):PE X (.UnaryOp op a pos) (Yv r ta):=by
 intro ai s σ H Q I h
 exact UnaryOp_ (dw (ha ai s σ H _ I h) λv s1 ⟨x,H1,I1,r1,q1⟩=>ho ai s1 σ H1 x v Q I1 r1 q1)
theorem Cj {f:aa->aa->pq aa}{C:Int->Int->Prop}{g:Int->Int->Int}
  (rule:∀(i j:Int) (t u:Tok) (s:aj) (Q:aa->aj->Prop) (E:aa->aj->Prop),C i j->Q (.int (g i j) s.toks) { s with toks:=s.toks+1 }->aT (aI X.prog X.w) X.A (f (.int i t) (.int j u)) Q E s) :
  gM X f (rI C λi j=>.int (g i j)):=by
 intro ai s σ H x y v u Q I rx ry h
 obtain⟨i,j,rfl,rfl,hc,q⟩:=h
 obtain⟨t,rfl⟩:=rx
 obtain⟨t',rfl⟩:=ry
 exact rule i j t t' s _ _ hc ⟨.int (g i j),H,I.tok _,⟨_,rfl⟩,q⟩
theorem GC {f:aa->aa->pq aa}{g:Int->Int->Int}
  (rule:∀(i j:Int) (t u:Tok) (s:aj) (Q:aa->aj->Prop) (E:aa->aj->Prop),Q (.int (g i j) s.toks) { s with toks:=s.toks+1 }->aT (aI X.prog X.w) X.A (f (.int i t) (.int j u)) Q E s) :
  gM X f (qN λi j=>.int (g i j)):=by
 intro ai s σ H x y v u Q I rx ry h
 obtain⟨i,j,rfl,rfl,q⟩:=h
 obtain⟨t,rfl⟩:=rx
 obtain⟨t',rfl⟩:=ry
 exact rule i j t t' s _ _ ⟨.int (g i j),H,I.tok _,⟨_,rfl⟩,q⟩
theorem xI {f:aa->aa->pq aa}{g:Int->Int->Bool}
  (rule:∀(i j:Int) (t u:Tok) (s:aj) (Q:aa->aj->Prop) (E:aa->aj->Prop),Q (.bool (g i j)) s->aT (aI X.prog X.w) X.A (f (.int i t) (.int j u)) Q E s) :
  gM X f (qN λi j=>.bl (g i j)):=by
 intro ai s σ H x y v u Q I rx ry h
 obtain⟨i,j,rfl,rfl,q⟩:=h
 obtain⟨t,rfl⟩:=rx
 obtain⟨t',rfl⟩:=ry
 exact rule i j t t' s _ _ ⟨.bl (g i j),H,I,rfl,q⟩
def wH (i j:Int):Prop:=0<=j/\j<=1000000/\i.natAbs<2 ^ 64
def zQ (i j:Int):Prop:=(-(2 ^ 64)<i/\i<2 ^ 64)\/(-(2 ^ 64)<j/\j<2 ^ 64)
theorem zQ.ok {i j:Int}(h:zQ i j):IntMulOk i j:=by
 rcases h with⟨h1,h2⟩|⟨h1,h2⟩
 ·exact .of_left (intBits_le_64 h1 h2)
 ·exact .of_right (intBits_le_64 h1 h2)
theorem ZD (k:Nat):(0:Int)<=2 ^ k:=by
 rw[two_pow_cast]
 exact Int.natCast_nonneg _
theorem zst:gM X (d9 .Add) (qN λi j=>.int (i+j)):=GC λ_ _ _ _ _ _ _ q=>add_int q
theorem BS:gM X (d9 .Sub) (qN λi j=>.int (i-j)):=GC λ_ _ _ _ _ _ _ q=>sub_int q
theorem wf:gM X (d9 .Mod) (rI (λ_ j=>j≠0) λi j=>.int (i.fmod j)):=Cj λ_ _ _ _ _ _ _ hc q=>mod_int' hc q
theorem NT:gM X (d9 .Pow) (rI wH λi j=>.int (i ^ j.toNat)):=Cj λ_ _ _ _ _ _ _ hc q=>pow_int_small hc.1 hc.2.1 hc.2.2 q
theorem zsu:gM X (d9 .LShift) (rI wH λi j=>.int (i*2 ^ j.toNat)):=Cj λ_ _ _ _ _ _ _ hc q=>lshift_int_small hc.1 hc.2.1 hc.2.2 q
theorem S3:gM X (d9 .RShift) (rI (λ_ j=>0<=j) λi j=>.int (i/2 ^ j.toNat)):=Cj λi j _ _ _ _ _ hc q=>
 rshift_int hc (by rw[iz i (ZD _)];exact q)
theorem YB {f:aa->pq aa}{g:Int->Int}
  (rule:∀(i:Int) (t:Tok) (s:aj) (Q:aa->aj->Prop) (E:aa->aj->Prop),Q (.int (g i) s.toks) { s with toks:=s.toks+1 }->aT (aI X.prog X.w) X.A (f (.int i t)) Q E s) :
  HY X f (rU λi=>.int (g i)):=by
 intro ai s σ H x v Q I rx h
 obtain⟨i,rfl,q⟩:=h
 obtain⟨t,rfl⟩:=rx
 exact rule i t s _ _ ⟨.int (g i),H,I.tok _,⟨_,rfl⟩,q⟩
theorem zsv:HY X (unaryOp .USub) (rU λi=>.int (-i)):=YB λ_ _ _ _ _ q=>neg_int q
end
section
variable {X:Cx}{a b c:Expr}{ta tb tc:TE}{pos:cX}
theorem JS {ai:List (ah×df)}{σ:St}{H:Hp}{s:aj}{Q:VK}{k k':Bool}(I:Inv X ai σ H s)(q:Q (.bl k) H)(e:k=k'):EP X ai σ Q (.bool k') s:=by
 subst e
 exact⟨.bl k,H,I,rfl,q⟩
theorem yA:gM X (cL .Lt) (qN λi j=>.bl (decide (i<j))):=xI λ_ _ _ _ _ _ _ q=>lt_int q
theorem zuy:gM X (cL .LtE) (qN λi j=>.bl (decide (i<=j))):=xI λ_ _ _ _ _ _ _ q=>le_int q
theorem CC:gM X (cL .Gt) (qN λi j=>.bl (decide (j<i))):=xI λ_ _ _ _ _ _ _ q=>gt_int q
theorem Tl:gM X (cL .GtE) (qN λi j=>.bl (decide (j<=i))):=xI λ_ _ _ _ _ _ _ q=>ge_int q
theorem zsx:gM X (cL .Is) (λx y H Q=>y=.non/\Q (.bl (decide (x=.non))) H):=by
 intro ai s σ H x y v u Q I rx ry h
 obtain⟨rfl,q⟩:=h
 cases ry
 refine is_none_gen (JS I q ?_)
 cases x<;>first
  |(cases rx;rfl)
  |(obtain⟨t,rfl⟩:=rx;rfl)
theorem zps:gM X (cL .IsNot) (λx y H Q=>y=.non/\Q (.bl (!decide (x=.non))) H):=by
 intro ai s σ H x y v u Q I rx ry h
 obtain⟨rfl,q⟩:=h
 cases ry
 refine isnot_none_gen (JS I q ?_)
 cases x<;>first
  |(cases rx;rfl)
  |(obtain⟨t,rfl⟩:=rx;rfl)
theorem gM.or {f:aa->aa->pq aa}{r r':R2}(h:gM X f r)(h':gM X f r'):gM X f (λx y H Q=>r x y H Q\/r' x y H Q):=by
 intro ai s σ H x y v u Q I rx ry q
 rcases q with q|q
 ·exact h ai s σ H x y v u Q I rx ry q
 ·exact h' ai s σ H x y v u Q I rx ry q
theorem bE (b:Expr){op:mh}(h:op≠.In:=by decide)(h2:op≠.NotIn:=by decide):dM op b=false:=by
 have e1:(op==mh.In)=false:=by cases op<;>first|rfl|exact absurd rfl h
 have e2:(op==mh.NotIn)=false:=by cases op<;>first|rfl|exact absurd rfl h2
 cases b<;>simp[dM,e1,e2]
theorem zpt {op:mh}{r:R2}(ho:gM X (cL op) r)(ha:PE X a ta)(hb:PE X b tb)(hm:dM op b=false):PE X (.Compare a [op] [b] pos) (I0 r ta tb):=by
 intro ai s σ H Q I h
 exact wpAny_Compare1 (Ac ha hb I h λv u s2 x y H2 I2 rx ry q=>ho ai s2 σ H2 x y v u Q I2 rx ry q) hm
def HD (t:TE):TT:=λσ H Q=>t σ H λx H'=>∃k,x=.bl k/\Q k H'
theorem zpu {op:mh}{r:R2}(ho:gM X (cL op) r)(ha:PE X a ta)(hb:PE X b tb)(hm:dM op b=false):PT X (.Compare a [op] [b] pos) (HD (I0 r ta tb)):=by
 intro ai s σ H Q I h
 refine wpAny_isTrue_Compare1 (dw (ha ai s σ H _ I h) λv s1 ⟨x,H1,I1,r1,q1⟩=>dw (hb ai s1 σ H1 _ I1 q1) λu s2 ⟨y,H2,I2,r2,q2⟩=>
  dw (ho ai s2 σ H2 x y v u _ I2 r1 r2 q2) λc s3 ⟨z,H3,I3,r3,k,e,q3⟩=>?_) hm
 subst e
 cases r3
 exact fK ⟨H3,I3,q3⟩
theorem kF:(sizeLine:Nat)<2 ^ 63:=by rw[bX];decide
theorem ZE:gM X (d9 .Add) (λx y H Q=>∃i j,x=.str i/\y=.str j/\i.length+j.length<=sizeLine/\Q (.str (i++j)) H):=by
 intro ai s σ H x y v u Q I rx ry h
 obtain⟨i,j,rfl,rfl,hz,q⟩:=h
 obtain⟨t,rfl⟩:=rx
 obtain⟨t',rfl⟩:=ry
 exact add_str (λt' tk=>⟨.str (i++j),H,I.tok _,⟨_,rfl⟩,q⟩) hz
theorem nh {x:V}{us:List aa}(r:bR [x] us):∃u,us=[u]/\RelV x u:=by
 cases r with
 |cons r1 r2=>cases r2;exact⟨_,rfl,r1⟩
theorem vals2 {x y:V}{us:List aa}(r:bR [x,y] us):∃u w',us=[u,w']/\RelV x u/\RelV y w':=by
 cases r with
 |cons r1 r2=>
  cases r2 with
  |cons r3 r4=>cases r4;exact⟨_,_,rfl,r1,r3⟩
theorem zmu:eY X (.builtin "abs") (λxs H Q=>∃i,xs=[.int i]/\Q (.int (if i<0 then -i else i)) H):=by
 intro ai s σ H xs us Q I r h
 obtain⟨i,rfl,q⟩:=h
 obtain⟨u,rfl,t,rfl⟩:=nh r
 exact call_abs_int λu tk=>⟨.int (if i<0 then -i else i),H,I.tok _,⟨_,rfl⟩,q⟩
theorem ZJ (hc:X.calm=true):eY X (.builtin "max") (λxs H Q=>∃i j,xs=[.int i,.int j]/\Q (.int (if j > i then j else i)) H):=by
 intro ai s σ H xs us Q I r h
 obtain⟨i,j,rfl,q⟩:=h
 obtain⟨u,w',rfl,⟨t,rfl⟩,⟨t',rfl⟩⟩:=vals2 r
 refine max_two_ints (I.ok.hd hc) λh' tk k=>⟨_,H,I.kept k,?_,q⟩
 by_cases hj:j > i
 ·rw[if_pos hj,if_pos hj];exact⟨_,rfl⟩
 ·rw[if_neg hj,if_neg hj];exact⟨_,rfl⟩
theorem Y5:eY X (.type "str") (λxs H Q=>∃i,xs=[.int i]/\i.natAbs.log2<1920/\Q (.str (toString i)) H):=by
 intro ai s σ H xs us Q I r h
 obtain⟨i,rfl,hz,q⟩:=h
 obtain⟨u,rfl,t,rfl⟩:=nh r
 exact PySem.P.str_of_int hz ⟨.str _,H,I.tok _,⟨_,rfl⟩,q⟩
end
end L2
namespace L2
open PySem PySem.Spec PyProof.Rows
structure rm (h:aM)(x dx C:ah)(mA:aK->Option aa):Prop where
 obj:h.get? x=some (dX C dx)
 ns:h.Ns1 dx mA
 ne:dx≠x
theorem ZK {h:aM}{dx:ah}{mA:aK->Option aa}(n:h.Ns1 dx mA):∃od,h.get? dx=some od/\∀name,jI name od=some (mA name):=by
 obtain⟨o,es,ep,ho,hd,hk,_,hm⟩:=n
 refine⟨o,ho,λname=>?_⟩
 have e:=hm name
 unfold nsFind findBy at e
 rw[←Array.find?_toList]at e
 unfold jI
 rw[hd]
 dsimp only
 split
 ·rename_i y q
  rw[q]at e
  exact congrArg some e
 ·rename_i q
  rw[q]at e
  have a:es.toList.any (·.refKey)=false:=by
   rw[List.any_eq_false]
   intro y hy
   obtain⟨z,t,L0⟩:=hk y (Array.mem_toList_iff.mp hy)
   simp[DictEntry.refKey,L0]
  have a':¬es.toList.any (·.refKey)=true:=by rw[a];exact aJ
  rw[if_neg a']
  exact congrArg some e
theorem rm.look {h:aM}{x dx C:ah}{mA:aK->Option aa}(I:rm h x dx C mA):∃od,tQ h x (dX C dx) C (some od)/\∀name,jI name od=some (mA name) :=
 let⟨od,ho,hl⟩:=ZK I.ns
 ⟨od,⟨I.obj,rfl,rfl,ho⟩,hl⟩
section
variable {prog:bn}{w:bP}{A:bx}{E:aa->aj->Prop}{s:aj}{K:ae}{x dx C f:ah}{mA:aK->Option aa}{name:aK}{v:aa}
theorem zpv {expr:Bool}{Q:aa->aj->Prop}(X:K.In s.heap)(I:rm s.heap x dx C mA)(hg:cT K C name=true)(hh:bM K C=true)
  (ha:am K (.ref C) name=some none) (hv:mA name=some v) (vY:rV v=true) (h:Q v { s with toks:=s.toks+1 }) :
  aT (aI prog w) A (getAttr (.ref x) name expr) Q E s:=by
 obtain⟨od,J,hl⟩:=I.look
 exact PySem.W.get_value X J (jV hg).1 (PySem.W.findObj_own hh ha rfl (by rw[hl,hv])) vY h
theorem zmv {pl:pq Bool}{Q:aa×List aa->aj->Prop}(X:K.In s.heap)(I:rm s.heap x dx C mA)(hg:cT K C name=true)
  (hf:am K (.ref C) name=some (some (.ref f))) (ht:cH K (.ref f)=true) (hv:mA name=none) (h:Q (.ref f,[.ref x]) s) :
  aT (aI prog w) A (gx (.ref x) name pl) Q E s:=by
 obtain⟨od,J,hl⟩:=I.look
 exact PySem.W.method_fn X J (jV hg).1 (jV hg).2 hf (beq_iff_eq.mp ht) (by show(jI name od).map (·.isSome)=some false;rw[hl,hv];rfl) h
theorem zpw {ns:List aK}{Q:Unit->aj->Prop}(X:K.In s.heap)(I:rm s.heap x dx C mA)
  (hs:am K (.ref C) "__setattr__"=some (some (.builtin "object.__setattr__"))) (hp:dC K C=true) (ht:dY K C name=some none) (hh:bM K C=true)
  (hw:PySem.Within mA ns) (hsz:ns.length<=sizeLine)
  (h:∀h',rm h' x dx C (λy=>if y=name then some v else mA y)->gY dx s.heap h'->Q () { s with heap:=h',toks:=s.toks+2 }) :
  aT (aI prog w) A (setAttr (.ref x) name v) Q E s:=by
 obtain⟨od,J,hl⟩:=I.look
 refine qX X J hs (PySem.W.osa_open (s:={ s with toks:=s.toks+1 }) (r:=none) X J hp ht λb=>?_)
 obtain⟨cd,hc,E7⟩:=PySem.W.any_some hh
 have hx:s.heap.get? x=some ⟨.ref C,some dx,.plain,#[]⟩:=I.obj
 refine aw (bi (aw (aw (wpAny_loadPart hx (aw (cM.here (s:={ s with toks:=s.toks+1 }) (jU X hc) ?_))))))
 rw[E7]
 refine bi (a:=some dx) (aw (bi (aw ?_)))
 refine wpAny_nsSet1 (s:={ s with toks:=s.toks+1 }) I.ns λh' yU qM=>?_
 obtain⟨oD,U3,U2,L5,LM,LH⟩:=yU.count (PySem.Within.cons name v hw)
 refine aw (wpAny_lookBehind L5 (by rw[LM];exact pastItsLine_dict (bZ LH (by rw[aC];omega))) ?_)
 exact bi (h _ ⟨(qM.2 _ (Ne.symm I.ne)).trans I.obj,yU,I.ne⟩ qM)
theorem Ru {R:Result->aj->Prop}{vs:List aa}{kw:List (aK×aa)}(X:K.In s.heap)(hm:dI K C=true)
  (hi:am K (.ref C) "__init__"=some (some (.ref f))) (hf:mF K (.ref f)=some (.type "function"))
  (h:eJ (aI prog w) (A.under (.builtin "type.__call__" ⟨.ref C::vs,kw⟩)) (.call (.ref f) ⟨.ref (s.heap.objs.size+1)::vs,kw⟩) (rT (s.heap.objs.size+1) R)
   { s with heap:=(s.heap.push de).push (dX C s.heap.objs.size) }) :
  eJ (aI prog w) A (.call (.ref C) ⟨vs,kw⟩) R s:=by
 obtain⟨hh,g,d,t,os⟩:=s
 exact PySem.W.make_core (PySem.W.makes_of X hm) (jJ X hi) (λself=>sI X self hf) (.inl rfl) h
end
def jG (f:aK)(v:V):List (aK×V)->List (aK×V)
 |[]=>[(f,v)]
 |(g,x)::r=>if g=f then(g,v)::r else(g,x)::jG f v r
theorem Qy (f g:aK)(v:V):∀fs:List (aK×V),(jG f v fs).lookup g=if g=f then some v else fs.lookup g
 |[]=>by
  show fw g [(f,v)]=_
  by_cases h:g=f
  ·have hb:(g==f)=true:=beq_iff_eq.mpr h
   simp only[fw,hb,if_pos h]
  ·have hb:(g==f)=false:=beq_eq_false_iff_ne.mpr h
   simp only[fw,hb,if_neg h]
 |(k,x)::r=>by
  have ih:=Qy f g v r
  rw[show jG f v ((k,x)::r)=(if k=f then(k,v)::r else(k,x)::jG f v r)from rfl]
  by_cases hk:k=f
  ·rw[if_pos hk]
   by_cases h:g=k
   ·have hb:(g==k)=true:=beq_iff_eq.mpr h
    simp only[fw,hb,if_pos (h.trans hk)]
   ·have hb:(g==k)=false:=beq_eq_false_iff_ne.mpr h
    simp only[fw,hb,if_neg (λe:g=f=>h (e.trans hk.symm))]
  ·rw[if_neg hk]
   by_cases h:g=k
   ·have hb:(g==k)=true:=beq_iff_eq.mpr h
    simp only[fw,hb,if_neg (λe:g=f=>hk (h.symm.trans e))]
   ·have hb:(g==k)=false:=beq_eq_false_iff_ne.mpr h
    simp only[fw,hb]
    exact ih
theorem M5 (f:aK)(v:V):∀fs:List (aK×V),f∈(jG f v fs).map (·.1)/\∀g,g∈fs.map (·.1)->g∈(jG f v fs).map (·.1)
 |[]=>⟨by simp[jG],λg h=>by simp at h⟩
 |(k,x)::r=>by
  obtain⟨i1,i2⟩:=M5 f v r
  rw[show jG f v ((k,x)::r)=(if k=f then(k,v)::r else(k,x)::jG f v r)from rfl]
  by_cases hk:k=f
  ·rw[if_pos hk]
   subst hk
   exact⟨by simp,λg h=>by simpa using h⟩
  ·rw[if_neg hk]
   refine⟨?_,λg h=>?_⟩
   ·rw[aV]
    exact ak _ i1
   ·rw[aV]at h ⊢
    rcases aE.mp h with e|e
    ·exact aE.mpr (.inl e)
    ·exact ak _ (i2 g e)
theorem Qz (f:aK)(v:V):∀fs:List (aK×V),(jG f v fs).length<=fs.length+1
 |[]=>by simp[jG]
 |(k,x)::r=>by
  have ih:=Qz f v r
  rw[show jG f v ((k,x)::r)=(if k=f then(k,v)::r else(k,x)::jG f v r)from rfl]
  by_cases hk:k=f
  ·rw[if_pos hk,aC,aC];omega
  ·rw[if_neg hk,aC,aC];omega
theorem kd.some_of {v:V}{o:Option aa}(r:kd (some v) o):∃u,o=some u/\RelV v u:=by
 cases o with
 |none=>exact(show False from r).elim
 |some u=>exact⟨u,rfl,r⟩
theorem kd.none_of {o:Option aa}(r:kd none o):o=none:=by
 cases o with
 |none=>rfl
 |some u=>exact(show False from r).elim
theorem ZL {v:V}{u:aa}(r:RelV v u):rV u=true:=by
 cases v with
 |non=>cases(show u=aa.none from r);rfl
 |bl b=>cases(show u=aa.bool b from r);rfl
 |int i=>obtain⟨t,e⟩:=(show∃t,u=aa.int i t from r);cases e;rfl
 |str x=>obtain⟨t,e⟩:=(show∃t,u=aa.str x t from r);cases e;rfl
 |byt b=>obtain⟨t,e⟩:=(show∃t,u=aa.bytes b t from r);cases e;rfl
 |flt b=>obtain⟨t,e⟩:=(show∃t,u=aa.float b t from r);cases e;rfl
 |ref a=>cases(show u=aa.ref a from r);rfl
 |ty n=>cases(show u=aa.type n from r);rfl
section
variable {P:bn}{w:bP}{H H':Hp}{h h':aM}{a C dx:ah}{fs U6:List (aK×V)}
theorem JD (hok:kB P w H h)(e:H a=some (.ins C dx fs)):∃mA,rm h a dx C mA/\(∀f,kd (fs.lookup f) (mA f))/\PySem.Within mA (fs.map (·.1))/\fs.length<=1000/\H dx=some (.own a):=by
 obtain⟨d,z,ne,ob,mA,n,r,q⟩:=(show d4 P w H h a (.ins C dx fs)from hok a _ e)
 exact⟨mA,⟨ob,n,ne⟩,r,q,z,d⟩
end
structure Cls (K:ae)(C:ah):Prop where
 pg:cT K C aK.empty=true
 hd:bM K C=true
 po:dC K C=true
 sa:am K (.ref C) "__setattr__"=some (some (.builtin "object.__setattr__"))
theorem Cls.get {K:ae}{C:ah}(c:Cls K C)(f:aK):cT K C f=true:=c.pg
def e5 (K:ae)(C:ah)(f:aK):Prop:=am K (.ref C) f=some none
theorem e5.taker {K:ae}{C:ah}{f:aK}(n:e5 K C f):dY K C f=some none:=by
 unfold dY
 rw[show am K (.ref C) f=some none from n]
 rfl
structure rj (K:ae)(C:ah)(m:aK)(f:ah):Prop where
 at_:am K (.ref C) m=some (some (.ref f))
 fn:cH K (.ref f)=true
 kp:ao K (.ref f)=true
section
variable {X:Cx}{ai:List (ah×df)}{σ:St}{H:Hp}{s:aj}{a C dx:ah}{fs:List (aK×V)}{f:aK}{v:V}{A:bx}{E:aa->aj->Prop}
theorem ZF {b:Bool}{Q:aa->aj->Prop}(I:Inv X ai σ H s)(e:H a=some (.ins C dx fs))(c:Cls X.K C)(n:e5 X.K C f)(l:fs.lookup f=some v)
  (h:∀u s',Inv X ai σ H s'->RelV v u->Q u s'):aT (aI X.prog X.w) A (getAttr (.ref a) f b) Q E s:=by
 obtain⟨mA,O,r,_,_,_⟩:=JD I.hok e
 obtain⟨u,hu,ru⟩:=kd.some_of (v:=v) (o:=mA f) (by rw[←l];exact r f)
 exact zpv I.kIn O (c.get f) c.hd n hu (ZL ru) (h u _ (I.tok _) ru)
theorem M3 {m:aK}{g:ah}{pl:pq Bool}{Q:aa×List aa->aj->Prop}(I:Inv X ai σ H s)(e:H a=some (.ins C dx fs))(c:Cls X.K C)(k:rj X.K C m g)(l:fs.lookup m=none)
  (h:Q (.ref g,[.ref a]) s):aT (aI X.prog X.w) A (gx (.ref a) m pl) Q E s:=by
 obtain⟨mA,O,r,_,_,_⟩:=JD I.hok e
 have hn:mA m=none:=kd.none_of (by rw[←l];exact r m)
 exact zmv I.kIn O (c.get m) k.at_ k.fn hn h
theorem ZG {y:V}{u:aa}{Q:Unit->aj->Prop}(I:Inv X ai σ H s)(e:H a=some (.ins C dx fs))(c:Cls X.K C)(n:e5 X.K C f)(hl:fs.length<1000)(ry:RelV y u)
  (h:∀s',Inv X ai σ (cY H a (.ins C dx (jG f y fs))) s'->Q () s'):aT (aI X.prog X.w) A (setAttr (.ref a) f u) Q E s:=by
 obtain⟨mA,O,r,wi,_,ho⟩:=JD I.hok e
 have hz:(fs.map (·.1)).length<=sizeLine:=by rw[aq,bX];omega
 refine zpw I.kIn O c.sa c.po n.taker c.hd wi hz λh' O' sb=>h _ ?_
 have hd:∃o,h'.get? dx=some o:=let⟨o,_,_,e',_⟩:=O'.ns;⟨o,e'⟩
 refine I.write (x:=a) (e:=dx) (by rw[e];exact True.intro) (.inr ho) (λb q hb z=>(sb.2 b hb).trans z) hd ?_
 refine⟨by rw[zk O.ne];exact ho,?_,O.ne,O'.obj,_,O'.ns,λg=>?_,λg hg=>?_⟩
 ·have:=Qz f y fs;omega
 ·show kd ((jG f y fs).lookup g) (if g=f then some u else mA g)
  rw[Qy]
  by_cases q:g=f
  ·rw[if_pos q,if_pos q];exact ry
  ·rw[if_neg q,if_neg q];exact r g
 ·by_cases q:g=f
  ·rw[q];exact(M5 f y fs).1
  ·refine(M5 f y fs).2 g (wi g λz=>hg ?_)
   show(if g=f then some u else mA g)=none
   rw[if_neg q];exact z
theorem Inv.made (I:Inv X ai σ H s):Inv X ai σ (cY (cY H s.heap.objs.size (.own (s.heap.objs.size+1))) (s.heap.objs.size+1) (.ins C s.heap.objs.size []))
  { s with heap:=(s.heap.push de).push (dX C s.heap.objs.size) }:=by
 have e1:(s.heap.push de).get? s.heap.objs.size=some de:=bH s.heap rfl
 have e2:((s.heap.push de).push (dX C s.heap.objs.size)).get? (s.heap.objs.size+1)=some (dX C s.heap.objs.size):=by
  have:=bH (s.heap.push de) (o:=dX C s.heap.objs.size) rfl
  rwa[et]at this
 have e3:(s.heap.push de).Ns s.heap.objs.size (λ_=>none):=⟨de,#[],_,e1,rfl,(λe he=>absurd he (by simp)),λ_=>rfl⟩
 have I1:=I.laid (a:=s.heap.objs.size) (o:=.own (s.heap.objs.size+1)) (h':=s.heap.push de) (t':=s.toks) (λb u q=>ar _ q) (aF _) ⟨_,e1⟩
 refine I1.laid (a:=s.heap.objs.size+1) (o:=.ins C s.heap.objs.size []) (t':=s.toks) (λb u q=>ar _ q) (p6 (et _ _)) ?_
 have ne:s.heap.objs.size≠s.heap.objs.size+1:=bo (fM _)
 refine⟨by rw[zk ne,zt],dh _,ne,e2,λ_=>none,(aM.Ns1.of_empty e3).at λo q=>ar _ q,λ_=>True.intro,λy hy=>absurd rfl hy⟩
theorem zpx {prog:bn}{w:bP}{env:Env}{e:Expr}{f:aK}{pos:cX}{s:aj}{Q:aa->aj->Prop}(hb:fD e f env (bG e env)=bG e env)
  (h:aT (aI prog w) A (bG e env) (λo s₁=>aT (aI prog w) A (getAttr o f true) Q E s₁) E s):aT (aI prog w) A (bG (.Attribute e f pos) env) Q E s :=
 Attribute_any_ h (by rw[arm_eval_Attribute,hb])
end
def ML (K:ae)(ta:TE)(f:aK):TE:=λσ H Q=>ta σ H λx H1=>∃a C dx fs v,x=.ref a/\H1 a=some (.ins C dx fs)/\Cls K C/\e5 K C f/\fs.lookup f=some v/\Q v H1
def ME (K:ae)(ta tv:TE)(f:aK):TS:=λD σ H=>tv σ H λy H1=>ta σ H1 λx H2=>∃a C dx fs,x=.ref a/\H2 a=some (.ins C dx fs)/\Cls K C/\e5 K C f/\fs.length<1000 /\
 D.nx σ (cY H2 a (.ins C dx (jG f y fs)))
section
variable {X:Cx}{o e value:Expr}{f:aK}{pos pos' gE:cX}{ta tv:TE}
theorem zsy (he:PE X e ta)(hb:fD e f X.env (bG e X.env)=bG e X.env):PE X (.Attribute e f pos) (ML X.K ta f):=by
 intro ai s σ H Q I h
 refine zpx hb (dw (he ai s σ H _ I h) λu s1 dO=>?_)
 obtain⟨x,H1,I1,rx,a,C,dx,fs,v,ex,ea,c,n,l,q⟩:=dO
 subst ex
 obtain rfl:u=aa.ref a:=rx
 exact ZF I1 ea c n l λu' s2 I2 ru=>⟨v,H1,I2,ru,q⟩
theorem zsz (ha:PE X o ta)(hv:PE X value tv)(hs:dH value (some (.Attribute o f pos')) pos.line X.env=pure false):PS X (.Assign [.Attribute o f pos'] value pos) (ME X.K ta tv f):=by
 intro ai s σ H D I h
 refine plainObj_wpAny_Assign_Attribute (dw (hv ai s σ H _ I h) λu s1 ⟨y,H1,I1,ry,q⟩=>dw (ha ai s1 σ H1 _ I1 q) λov s2 ⟨x,H2,I2,rx,a,C,dx,fs,ex,ea,c,n,l,q2⟩=>?_) hs
 subst ex
 obtain rfl:ov=aa.ref a:=rx
 exact ZG I2 ea c n l ry λs3 I3=>⟨σ,_,I3,q2⟩
def Bv:V->V->Hp->VK->Prop:=λx y H Q=>∃i j,x=.int i/\y=.int j/\Q (.int (i+j)) H
theorem zpy {pl:pq Bool}{m:aK}{dQ:cX}{args:List Expr}{ai:List (ah×df)}{s:aj}{σ:St}{H:Hp}{Q:aa->aj->Prop}{te:TE}(he:PE X e te)(I:Inv X ai σ H s)
  (h:te σ H λx H1=>∃a C dx fs g,x=.ref a/\H1 a=some (.ins C dx fs)/\Cls X.K C/\rj X.K C m g/\fs.lookup m=none /\
   ∀s1,Inv X ai σ H1 s1->aT (aI X.prog X.w) X.A (iT pos (.ref g) [.ref a] (cu pos (ap args X.env)) (e9 pos (dz [] X.env))) Q X.xe s1)
  (ht:bG (.Call (.Attribute e m dQ) args [] pos) X.env=(do
   let ov ← bG e X.env
   fO dQ.atName
   let(f,first) ← dS [ov] (gx ov m pl)
   iT pos f first (cu pos (ap args X.env)) (e9 pos (dz [] X.env)))) :
  aT (aI X.prog X.w) X.A (bG (.Call (.Attribute e m dQ) args [] pos) X.env) Q X.xe s:=by
 refine eM (pl:=pl) (dw (he ai s σ H _ I h) λu s1 ⟨x,H1,I1,rx,a,C,dx,fs,g,ex,ea,c,k,l,q⟩=>?_) ht
 subst ex
 obtain rfl:u=aa.ref a:=rx
 exact M3 I1 ea c k l (q s1 I1)
end
section
variable {X:Cx}{ai:List (ah×df)}{σ:St}{H:Hp}{s:aj}{A:bx}{E:aa->aj->Prop}{Q:aa->aj->Prop}{c:aa}{b:Bool}
inductive kC (K:ae)(H:Hp):V->aa->Prop where
 |non:kC K H .non (.type "NoneType")
 |bl (x:Bool):kC K H (.bl x) (.type "bool")
 |int (i:Int):kC K H (.int i) (.type "int")
 |str (x:aK):kC K H (.str x) (.type "str")
 |flt (x:UInt64):kC K H (.flt x) (.type "float")
 |lst {a:ah} {xs:List V} (e:H a=some (.lst xs)):kC K H (.ref a) (.type "list")
 |frz {a:ah} {o:df} {xs:List V} (e:H a=some (.frz o (.lst xs))):kC K H (.ref a) (.type "list")
 |tup {a:ah} {xs:List V} (e:H a=some (.tup xs)):kC K H (.ref a) (.type "tuple")
 |dK {a:ah} {cC:List (fu×V)} (e:H a=some (.dK cC)):kC K H (.ref a) (.type "dict")
 |dT {a:ah} {cC:List (List fu×V)} (e:H a=some (.dT cC)):kC K H (.ref a) (.type "dict")
 |ins {a C dx:ah} {fs:List (aK×V)} (e:H a=some (.ins C dx fs)) (cl:Cls K C) (ha:am K (.ref C) "__class__"=some (some (.builtin "object.__class__")))
   (hn:bQ K (.builtin "object.__class__") "__get__"=some (some (.builtin "getset_descriptor.__get__"))) (IM:gK K (.builtin "object.__class__")=some true)
   (hm:bz K C (.type "object")=some true):kC K H (.ref a) (.ref C)
theorem QQ {x:V}{u t:aa}(I:Inv X ai σ H s)(rx:RelV x u)(ty:kC X.K H x t)(e:bA X.K t c=some b)(h:∀tk,Q (.bool b) { s with toks:=tk }) :
  aT (aI X.prog X.w) A (call (.builtin "isinstance") [u,c]) Q E s:=by
 cases ty with
 |non=>cases(show u=aa.none from rx);exact cD PySem.W.kitx_none I.kIn True.intro e (λz=>nomatch z) h
 |bl y=>cases(show u=aa.bool y from rx);exact cD PySem.W.kitx_bool I.kIn True.intro e (λz=>nomatch z) h
 |int i=>obtain⟨t,q⟩:=(show∃t,u=aa.int i t from rx);cases q;exact cD PySem.W.kitx_int I.kIn True.intro e (λz=>nomatch z) h
 |str y=>obtain⟨t,q⟩:=(show∃t,u=aa.str y t from rx);cases q;exact cD PySem.W.kitx_str I.kIn True.intro e (λz=>nomatch z) h
 |flt y=>obtain⟨t,q⟩:=(show∃t,u=aa.float y t from rx);cases q;exact cD PySem.W.kitx_float I.kIn True.intro e (λz=>nomatch z) h
 |@lst a xs ea=>
  cases(show u=aa.ref a from rx)
  obtain⟨_,_,n,_,h1⟩:=(show d4 X.prog X.w H s.heap a (.lst xs)from I.hok a _ ea)
  exact cD kG I.kIn ⟨_,h1,rfl⟩ e (λz=>nomatch z) h
 |@frz a ob xs ea=>
  cases(show u=aa.ref a from rx)
  obtain⟨_,_,_,n,_,h1⟩:=(show d4 X.prog X.w H s.heap a (.frz ob (.lst xs))from I.hok a _ ea)
  exact cD kG I.kIn ⟨_,h1,rfl⟩ e (λz=>nomatch z) h
 |@tup a xs ea=>
  cases(show u=aa.ref a from rx)
  obtain⟨_,_,_,p⟩:=(show d4 X.prog X.w H s.heap a (.tup xs)from I.hok a _ ea)
  obtain⟨o,h1,h2,_⟩:=p
  exact cD PySem.W.kitx_tuple I.kIn ⟨o,h1,h2⟩ e (λz=>nomatch z) h
 |@dK a cC ea=>
  cases(show u=aa.ref a from rx)
  obtain⟨_,_,vs,_,p⟩:=(show d4 X.prog X.w H s.heap a (.dK cC)from I.hok a _ ea)
  obtain⟨o,es,ep,h1,h2,_⟩:=p
  exact cD qW I.kIn ⟨o,h1,h2.1⟩ e (λz=>nomatch z) h
 |@dT a cC ea=>
  cases(show u=aa.ref a from rx)
  obtain⟨_,_,xs,_,o,es,ep,h1,h2,_⟩:=(show d4 X.prog X.w H s.heap a (.dT cC)from I.hok a _ ea)
  exact cD qW I.kIn ⟨o,h1,h2.1⟩ e (λz=>nomatch z) h
 |@ins a C dx fs ea cl ha hn IM hm=>
  cases(show u=aa.ref a from rx)
  obtain⟨mA,O,_⟩:=JD I.hok ea
  obtain⟨od,J,_⟩:=O.look
  exact cD (PySem.W.kitx_own (cl.get _) cl.hd ha hn IM hm) I.kIn J e (λz=>nomatch z) h
end
end L2
namespace L2
open PySem PySem.Spec PyProof.Rows
structure dU (k:Nat)(A:bx):Prop where
 hd:A.handled=none
 dp:A.depth+3*k+5<recursionLimit
 un:A.units+16*k+200<ip
theorem dU.mono {j k:Nat}{A:bx}(r:dU k A)(h:j<=k):dU j A:=⟨r.hd,by have:=r.dp;omega,by have:=r.un;omega⟩
theorem dU.deeper {k:Nat}{A:bx}(r:dU (k+1) A)(env:Env):dU k (A.deeper env) :=
 ⟨r.hd,by have:=r.dp;show A.depth+1+3*k+5<_;omega,by have:=r.un;show A.units+3+16*k+200<_;omega⟩
theorem ZO {A:bx}{C:ah}{us:List aa}{kw:List (aK×aa)}:(A.under (.builtin "type.__call__" ⟨.ref C::us,kw⟩)).depth=A.depth+1:=by
 first|rfl|simp[bx.under,pj.weight,pj.isCreation,pj.isGuard,pj.isCaller,pj.frames,pj.isFrame,guardIds]
theorem ZP {A:bx}{C:ah}{us:List aa}{kw:List (aK×aa)}:(A.under (.builtin "type.__call__" ⟨.ref C::us,kw⟩)).units=A.units+1:=by
 first|rfl|simp[bx.under,pj.cUnits,pj.frames,pj.isFrame]
theorem dU.make {k:Nat}{A:bx}(r:dU (k+1) A)(C:ah)(us:List aa)(kw:List (aK×aa)):dU k (A.under (.builtin "type.__call__" ⟨.ref C::us,kw⟩)) :=
 ⟨r.hd,by have:=r.dp;rw[ZO];omega,by have:=r.un;rw[ZP];omega⟩
theorem dU.depth {k:Nat}{A:bx}(r:dU k A):A.depth<recursionLimit:=by have:=r.dp;omega
theorem dU.units {k:Nat}{A:bx}(r:dU k A):A.units+64<ip:=by have:=r.un;omega
def HA:TA:=λ_ H Q=>Q [] H
def Hw (ta:TE)(tr:TA):TA:=λσ H Q=>ta σ H λx H1=>tr σ H1 λxs H2=>Q (x::xs) H2
section
variable {X:Cx}{e:Expr}{es:List Expr}{te:TE}{t:TA}{pos:cX}
theorem jp:PA X [] HA:=λ_ _ _ _ H Q I h=>Calls.spliced_nil ⟨[],H,I,.nil,h⟩
theorem wv (ha:PE X e te)(hr:PA X es t)(hs:ap (e::es) X.env=(false,bG e X.env)::ap es X.env:=by rfl):PA X (e::es) (Hw te t):=by
 intro pos ai s σ H Q I h
 rw[hs]
 show aT _ _ (spliced ((false,bG e X.env)::cu pos (ap es X.env))) _ _ s
 refine Calls.spliced_cons (dw (ha ai s σ H _ I h) λu s1 dO=>?_)
 obtain⟨x,H1,I1,r1,q1⟩:=dO
 exact dw (hr pos ai s1 σ H1 _ I1 q1) λus s2 ⟨xs,H2,I2,r2,q2⟩=>⟨x::xs,H2,I2,.cons r1 r2,q2⟩
def MS (t:TA):TE:=λσ H Q=>t σ H λxs H1=>xs.length<=sizeLine/\∀p,H1 p=none->Q (.ref p) (cY H1 p (.tup xs))
def MO (t:TA):TE:=λσ H Q=>t σ H λxs H1=>xs.length<=sizeLine/\∀p,H1 p=none->Q (.ref p) (cY H1 p (.lst xs))
theorem S4 {x1}(h:PA X es t):PE X (.Tuple es x1 pos) (MS t):=by
 intro ai s σ H Q I hq
 refine wpAny_Tuple_spliced (dw (h pos ai s σ H _ I hq) λus s1 ⟨xs,H1,I1,r,z,q⟩=>⟨by rw[←r.length];exact z,?_⟩)
 have hf:H1 s1.heap.objs.size=none:=I1.hok.fresh (aF _)
 refine⟨.ref s1.heap.objs.size,cY H1 s1.heap.objs.size (.tup xs),I1.laid (t':=s1.toks) (λb u e=>ar _ e) (aF _) ?_,rfl,q _ hf⟩
 exact⟨z,us,r,⟨_,bH _ rfl,rfl,_,rfl⟩⟩
theorem zs0 (h:PA X es t):PE X (.List es pos) (MO t):=by
 intro ai s σ H Q I hq
 refine wpAny_List_spliced (dw (h pos ai s σ H _ I hq) λus s1 ⟨xs,H1,I1,r,z,q⟩=>⟨by rw[←r.length];exact z,?_⟩)
 have hf:H1 s1.heap.objs.size=none:=I1.hok.fresh (aF _)
 refine⟨.ref s1.heap.objs.size,cY H1 s1.heap.objs.size (.lst xs),I1.laid (t':=s1.toks) (λb u e=>ar _ e) (aF _) ?_,rfl,q _ hf⟩
 exact⟨z,us,0,r,bH _ rfl⟩
end
abbrev Sp:=List V->Hp->VK->XK->Prop
abbrev sJ:=List Env->Hp->aj->XK->aa->aj->Prop
structure qY (P:bn)(w:bP)(K:ae)(mg:aK->Option aa)(base:aM)(A:bx)(outer:List Env)(s:aj)(H:Hp):Prop where
 frames:A.frames=some outer
 mod:Mod K mg base
 bs:∀b o,base.get? b=some o->s.heap.get? b=some o/\H b=none
 bsz:base.objs.size<=s.heap.objs.size
 funs:s.heap.FunFrames base outer
 frf:∀b∈tW outer,H b=none
 hok:kB P w H s.heap
 bare:AllBare s.gens
def CE (outer:List Env)(P:bn)(w:bP)(H:Hp)(s:aj)(Q:VK)(u:aa)(s':aj):Prop :=
 ∃v H',s'.os=s.os/\AllBare s'.gens/\Un (tW outer) [] H H' s.heap s'.heap/\kB P w H' s'.heap/\RelV v u/\Q v H'
def CR (CX:sJ)(outer:List Env)(P:bn)(w:bP)(H:Hp)(s:aj)(Q:VK)(E:XK)(r:Result)(s':aj):Prop :=
 match r with
 |.ok (.ret u)=>CE outer P w H s Q u s'
 |.ok _=>False
 |.error e=>CX outer H s E e s'
structure cv (P:bn)(w:bP)(K:ae)(mg:aK->Option aa)(base:aM)(CX:sJ)(k:Nat)(f:ah)(fd:aH)(ps:List aK)(sp:Sp):Prop where
 len:∀vs H Q E,sp vs H Q E->vs.length=ps.length
 run:∀(A:bx) (outer:List Env) (s:aj) (H:Hp) (args:Args) (us:List aa) (vs:List V) (Q:VK) (E:XK),dU k A->qY P w K mg base A outer s H->pC s fd args (ps.zip us)->bR vs us->sp vs H Q E ->
  eJ (aI P w) A (.call (.ref f) args) (CR CX outer P w H s Q E) s
theorem qY.make {P:bn}{w:bP}{K:ae}{mg:aK->Option aa}{base:aM}{A:bx}{outer:List Env}{s:aj}{H:Hp}(e:qY P w K mg base A outer s H)(C:ah)(us:List aa)(kw:List (aK×aa)) :
  qY P w K mg base (A.under (.builtin "type.__call__" ⟨.ref C::us,kw⟩)) outer s H:=⟨by first|exact e.frames|(simpa[bx.under,pj.envs,pj.isFrame,pushEnvs]using e.frames),e.mod,e.bs,e.bsz,e.funs,e.frf,e.hok,e.bare⟩
section
variable {X:Cx}{ai:List (ah×df)}{σ:St}{H:Hp}{s s':aj}
theorem Inv.env0 (I:Inv X ai σ H s):qY X.prog X.w X.K X.mg X.base X.A X.stack s H :=
 ⟨I.ok.frames,I.ok.mod,I.bs,bZ I.ok.bsz I.sz,I.stack,I.stkFree,I.hok,I.bare⟩
theorem Inv.after {Q:VK}{u:aa}(I:Inv X ai σ H s)(h:CE X.stack X.prog X.w H s Q u s'):EP X ai σ Q u s':=by
 obtain⟨v,H',os,bare,un,hok,r,q⟩:=h
 obtain⟨hh,g,d,t,PU⟩:=s'
 obtain rfl:PU=s.os:=os
 exact⟨v,H',I.call (h':=hh) (g':=g) (d':=d) (t':=t) (ch:=[]) un hok bare (λb z=>absurd z (by simp)),r,q⟩
end
def zI (sp:Sp)(gS:List V)(E:XK)(t:TA):TE:=λσ H Q=>t σ H λvs H1=>sp (vs++gS) H1 Q E
def zK (C:ah)(m:aK)(sp:Sp)(gS:List V)(E:XK)(ta:TE)(t:TA):TE:=λσ H Q=>ta σ H λx H1=>∃a dx fs,x=.ref a/\H1 a=some (.ins C dx fs)/\fs.lookup m=none /\
 t σ H1 λvs H2=>sp (x::(vs++gS)) H2 Q E
def Hz (C:ah)(sp:Sp)(gS:List V)(E:XK)(t:TA):TE:=λσ H Q=>t σ H λvs H1=>∀x dx,H1 x=none->H1 dx=none->dx≠x ->
 sp (.ref x::(vs++gS)) (cY (cY H1 dx (.own x)) x (.ins C dx [])) (λv H2=>v=.non/\Q (.ref x) H2) E
def bB (K:ae)(fd:aH)(ps:List aK)(ds:List aa):Prop :=
 ∀(s:aj) (us:List aa),K.In s.heap->(us++ds).length=ps.length->pC s fd ⟨us,[]⟩ (ps.zip (us++ds))
theorem bB.all {K:ae}{fd:aH}{ps:List aK}(h:∀us:List aa,us.length=ps.length->bindArgs fd ⟨us,[]⟩=pure (ps.zip us)):bB K fd ps []:=λs us _ hl=>by
 rw[bO]at hl ⊢
 exact .of_eq (h us hl)
def jO (CX:sJ)(X:Cx)(E:XK):Prop:=∀(ai:List (ah×df)) (σ:St) (H:Hp) (s:aj) (e:aa) (s':aj),Inv X ai σ H s->CX X.stack H s E e s'->X.xe e s'
section
variable {X:Cx}{CX:sJ}{k:Nat}{f C:ah}{fd:aH}{ps:List aK}{sp:Sp}{gS:List V}{ds:List aa}{E:XK}{x m:aK}{p pos dQ:cX}{e o:Expr}{es:List Expr}{ta:TE}{t:TA}
theorem JT {ai:List (ah×df)}{σ:St}{H:Hp}{s:aj}{Q:VK}{us:List aa}{vs:List V}(F:cv X.prog X.w X.K X.mg X.base CX k f fd ps sp)(hr:dU k X.A)(hb:bB X.K fd ps ds)(hd:bR gS ds)(hx:jO CX X E)
  (I:Inv X ai σ H s) (r:bR vs us) (h:sp (vs++gS) H Q E):aT (aI X.prog X.w) X.A (call (.ref f) us) (EP X ai σ Q) X.xe s:=by
 have r2:bR (vs++gS) (us++ds):=r.append hd
 have hl:(us++ds).length=ps.length:=by rw[←r2.length];exact F.len _ _ _ _ h
 refine wpAny_call (gJ (F.run X.A X.stack s H ⟨us,[]⟩ (us++ds) (vs++gS) Q E hr I.env0 (hb s us I.kIn hl) r2 h) λr s' hq=>?_)
 cases r with
 |error e=>exact hx ai σ H s e s' I hq
 |ok fl=>
  cases fl with
  |ret u=>exact I.after hq
  |next=>exact False.elim hq
  |brk=>exact False.elim hq
  |cont=>exact False.elim hq
theorem R1 (F:cv X.prog X.w X.K X.mg X.base CX k f fd ps sp)(hr:dU k X.A)(hg:Gl X x)(hm:X.mg x=some (.ref f))(hk:ao X.K (.ref f)=true)(hb:bB X.K fd ps ds)(hd:bR gS ds)(hx:jO CX X E)
  (ha:PA X (e::es) t) (i7:(x==("__debug__":aK))=false:=by decide) (he:ap (e::es) X.env=(false,bG e X.env)::ap es X.env:=by rfl) (gI:(cu pos (ap es X.env)).any (·.1)=false:=by rfl) :
  PE X (.Call (.Name x p) (e::es) [] pos) (zI sp gS E t):=by
 intro ai s σ H Q I h
 refine cJ (qm I hg hm ?_ i7)
 refine ez (h₀:=X.base) I.ok.mod.kin hk (dw (ha pos ai s σ H _ I h) λus s1 ⟨vs,H1,I1,r,q⟩=>⟨I1.kIn,?_⟩) he gI
 exact JT F hr hb hd hx I1 r q
theorem zpz {pl:pq Bool}(he:PE X o ta)(c:Cls X.K C)(hm:rj X.K C m f)(F:cv X.prog X.w X.K X.mg X.base CX k f fd ps sp)(hr:dU k X.A)(hb:bB X.K fd ps ds)(hd:bR gS ds)(hx:jO CX X E)(ha:PA X (e::es) t)
  (iX:ap (e::es) X.env=(false,bG e X.env)::ap es X.env:=by rfl) (gI:(cu pos (ap es X.env)).any (·.1)=false:=by rfl)
  (ht:bG (.Call (.Attribute o m dQ) (e::es) [] pos) X.env=(do
   let ov ← bG o X.env
   fO dQ.atName
   let(f,first) ← dS [ov] (gx ov m pl)
   iT pos f first (cu pos (ap (e::es) X.env)) (e9 pos (dz [] X.env))):=by rfl) :
  PE X (.Call (.Attribute o m dQ) (e::es) [] pos) (zK C m sp gS E ta t):=by
 intro ai s σ H Q I h
 refine eM (pl:=pl) (dw (he ai s σ H _ I h) λu s1 ⟨x,H1,I1,rx,a,dx,fs,ex,ea,l,q⟩=>?_) ht
 subst ex
 obtain rfl:u=aa.ref a:=rx
 refine M3 I1 ea c hm l ?_
 refine ez (first:=[.ref a]) (h₀:=X.base) I.ok.mod.kin hm.kp (dw (ha pos ai s1 σ H1 _ I1 q) λus s2 ⟨vs,H2,I2,r,q2⟩=>⟨I2.kIn,?_⟩) iX gI
 exact JT (us:=.ref a::us) (vs:=.ref a::vs) F hr hb hd hx I2 (.cons rfl r) q2
theorem zmw {pl:pq Bool}(he:PE X o ta)(c:Cls X.K C)(hm:rj X.K C m f)(F:cv X.prog X.w X.K X.mg X.base CX k f fd ps sp)(hr:dU k X.A)(hb:bB X.K fd ps ds)(hd:bR gS ds)(hx:jO CX X E)
  (ht:bG (.Call (.Attribute o m dQ) [] [] pos) X.env=(do
   let ov ← bG o X.env
   fO dQ.atName
   let(f,first) ← dS [ov] (gx ov m pl)
   iT pos f first (cu pos (ap [] X.env)) (e9 pos (dz [] X.env))):=by rfl) :
  PE X (.Call (.Attribute o m dQ) [] [] pos) (zK C m sp gS E ta HA):=by
 intro ai s σ H Q I h
 refine eM (pl:=pl) (dw (he ai s σ H _ I h) λu s1 ⟨x,H1,I1,rx,a,dx,fs,ex,ea,l,q⟩=>?_) ht
 subst ex
 obtain rfl:u=aa.ref a:=rx
 refine M3 I1 ea c hm l ?_
 exact PySem.W.callWith_K0 (first:=[.ref a]) I1.kIn hm.kp (JT (us:=[.ref a]) (vs:=[.ref a]) F hr hb hd hx I1 (.cons rfl .nil) q)
structure Mk (K:ae)(C f:ah):Prop where
 makes:dI K C=true
 init:am K (.ref C) "__init__"=some (some (.ref f))
 fn:cH K (.ref f)=true
 kp:ao K (.ref C)=true
theorem zmx {ai:List (ah×df)}{σ:St}{H:Hp}{s:aj}{Q:VK}{us:List aa}{vs:List V}(M:Mk X.K C f)(F:cv X.prog X.w X.K X.mg X.base CX k f fd ps sp)(hr:dU (k+1) X.A)(hb:bB X.K fd ps ds)(hd:bR gS ds)
  (hx:jO CX X E) (I:Inv X ai σ H s) (r:bR vs us)
  (h:∀x dx,H x=none->H dx=none->dx≠x->sp (.ref x::(vs++gS)) (cY (cY H dx (.own x)) x (.ins C dx [])) (λv H2=>v=.non/\Q (.ref x) H2) E) :
  aT (aI X.prog X.w) X.A (call (.ref C) us) (EP X ai σ Q) X.xe s:=by
 have hq:=h (s.heap.objs.size+1) s.heap.objs.size (I.hok.fresh (iN _)) (I.hok.fresh (aF _)) (bo (fM _))
 have I2:=Inv.made (C:=C) I
 have r2:bR (V.ref (s.heap.objs.size+1)::(vs++gS)) (aa.ref (s.heap.objs.size+1)::(us++ds)):=.cons rfl (r.append hd)
 have hl:(aa.ref (s.heap.objs.size+1)::us++ds).length=ps.length:=by
  have e:=r2.length
  rw[F.len _ _ _ _ hq]at e
  exact e.symm
 refine wpAny_call (Ru (f:=f) I.kIn M.makes M.init (beq_iff_eq.mp M.fn) (gJ (F.run _ X.stack _ _ ⟨aa.ref (s.heap.objs.size+1)::us,[]⟩ (aa.ref (s.heap.objs.size+1)::(us++ds)) _ _ E (hr.make C us [])
  (I2.env0.make C us []) (hb _ (aa.ref (s.heap.objs.size+1)::us) I2.kIn hl) r2 hq) λr s' qL=>?_))
 cases r with
 |error e=>exact hx ai σ _ _ e s' I2 qL
 |ok fl=>
  cases fl with
  |ret u=>
   obtain⟨v,H',I3,rv,ev,q3⟩:=I2.after qL
   subst ev
   exact⟨rv,⟨V.ref (s.heap.objs.size+1),H',I3,rfl,q3⟩⟩
  |next=>exact False.elim qL
  |brk=>exact False.elim qL
  |cont=>exact False.elim qL
theorem zp0 (M:Mk X.K C f)(F:cv X.prog X.w X.K X.mg X.base CX k f fd ps sp)(hr:dU (k+1) X.A)(hg:Gl X x)(hm:X.mg x=some (.ref C))(hb:bB X.K fd ps ds)(hd:bR gS ds)(hx:jO CX X E)
  (ha:PA X (e::es) t) (i7:(x==("__debug__":aK))=false:=by decide) (he:ap (e::es) X.env=(false,bG e X.env)::ap es X.env:=by rfl) (gI:(cu pos (ap es X.env)).any (·.1)=false:=by rfl) :
  PE X (.Call (.Name x p) (e::es) [] pos) (Hz C sp gS E t):=by
 intro ai s σ H Q I h
 refine cJ (qm I hg hm ?_ i7)
 refine ez (h₀:=X.base) I.ok.mod.kin M.kp (dw (ha pos ai s σ H _ I h) λus s1 ⟨vs,H1,I1,r,q⟩=>⟨I1.kIn,?_⟩) he gI
 exact zmx M F hr hb hd hx I1 r q
end
section
variable {X:Cx}{CX:sJ}{k:Nat}{f C:ah}{fd:aH}{ps ks:List aK}{sp:Sp}{E:XK}{x m:aK}{p pos dQ Bq:cX}{e o:Expr}{es:List Expr}{kws:List gZ}{te ta:TE}{t tk:TA}{nm:Option aK}
variable {g:List aa->List aa->List aa}{gV:List V->List V->List V}
end
structure bu (N P:List aK)(sc:gc):Prop where
 kind:sc.kind=.function
 co:sc.isCoroutine=false
 gen:sc.isGenerator=false
 nd:N.Nodup
 pre:N.take P.length=P
 par:∀x∈P,sc.names.lookup x=some .local\/sc.names.lookup x=some .cell
 nofree:∀y∈sc.names,y.2≠.free
theorem QU {kindOf:aK->Option bp}{x:aK}:∀{binds:List (aK×aa)} {m:aK->Option aa},(∀v,(x,v)∉binds)->sE kindOf binds m x=m x
 |[],_,_=>rfl
 |(n,v)::r,m,h=>by
  unfold sE
  rw[QU λw hw=>h w (ak _ hw)]
  split
  ·have:x≠n:=by rintro rfl;exact h v af
   simp[this]
  ·rfl
theorem QW {kindOf:aK->Option bp}{x:aK}:∀{binds:List (aK×aa)} {m:aK->Option aa},(∀v,(x,v)∉binds)->sD kindOf binds m x=m x
 |[],_,_=>rfl
 |(n,v)::r,m,h=>by
  unfold sD
  rw[QW λw hw=>h w (ak _ hw)]
  split
  ·rfl
  ·have:x≠n:=by rintro rfl;exact h v af
   simp[this]
theorem QX {kindOf:aK->Option bp}{x:aK}{v:aa}:∀{P:List aK} {vs:List aa} {i:Nat} {m:aK->Option aa},P.Nodup->P[i]?=some x->vs[i]?=some v->kindOf x=some .local ->
  sE kindOf (P.zip vs) m x=some v
 |[],_,_,_,_,h,_,_=>by simp at h
 |_::_,[],_,_,_,_,h,_=>by simp at h
 |p::P,w::vs,0,m,nd,h1,h2,hk=>by
  simp at h1 h2;subst h1;subst h2
  show sE kindOf ((p,w)::P.zip vs) m p=_
  unfold sE
  rw[QU λv hv=>(bJ.mp nd).1 (gR hv).1,if_pos hk]
  simp
 |p::P,w::vs,i+1,m,nd,h1,h2,hk=>by
  show sE kindOf ((p,w)::P.zip vs) m x=_
  unfold sE
  exact QX (i:=i) (bJ.mp nd).2 (by simpa using h1) (by simpa using h2) hk
theorem QY {kindOf:aK->Option bp}{x:aK}{v:aa}:∀{P:List aK} {vs:List aa} {i:Nat} {m:aK->Option aa},P.Nodup->P[i]?=some x->vs[i]?=some v->kindOf x≠some .local ->
  sD kindOf (P.zip vs) m x=some v
 |[],_,_,_,_,h,_,_=>by simp at h
 |_::_,[],_,_,_,_,h,_=>by simp at h
 |p::P,w::vs,0,m,nd,h1,h2,hk=>by
  simp at h1 h2;subst h1;subst h2
  show sD kindOf ((p,w)::P.zip vs) m p=_
  unfold sD
  rw[QW λv hv=>(bJ.mp nd).1 (gR hv).1,if_neg hk]
  simp
 |p::P,w::vs,i+1,m,nd,h1,h2,hk=>by
  show sD kindOf ((p,w)::P.zip vs) m x=_
  unfold sD
  exact QY (i:=i) (bJ.mp nd).2 (by simpa using h1) (by simpa using h2) hk
def start (N:List aK)(vs:List V):St:=vs.map some++ax (N.length-vs.length) none
def lF (CX:sJ)(P:bn)(w:bP)(K:ae)(mg:aK->Option aa)(base:aM)(N:List aK)(qual:aK)(scope:gc)(f:ah)(cd:aa)(A:bx)(outer:List Env)(s:aj)(H:Hp)(E:XK):Cx where
 prog:=P
 w:=w
 K:=K
 mg:=mg
 base:=base
 A:=A.deeper (envOfC qual scope s.heap.objs.size f cd)
 N:=N
 s₀:=s
 H₀:=H
 env:=envOfC qual scope s.heap.objs.size f cd
 outer:=outer
 stack:=envOfC qual scope s.heap.objs.size f cd::outer
 ex:=[]
 calm:=true
 fn:=λ_=>true
 pn:=[]
 xe:=λe s'=>aT (aI P w) (A.deeper (envOfC qual scope s.heap.objs.size f cd)) (leaving (envOfC qual scope s.heap.objs.size f cd) e) (λ_ s''=>CX outer H s E e s'') (λe' s''=>CX outer H s E e' s'') s'
theorem Rv {sc:gc}{n:Nat}{x:aK}(h:sc.names.lookup x=some .cell):∃c,(cellsFrom n sc.names []).lookup x=some c:=by
 have q:=iV sc.names n [] (.inl h)
 exact nF.mp q
theorem ZM {CX:sJ}{P:bn}{w:bP}{K:ae}{mg:aK->Option aa}{base:aM}{N ps:List aK}{qual:aK}{scope:gc}{f:ah}{cd:aa}{A:bx}{outer:List Env}{s s1:aj}{H:Hp}{E:XK}{us:List aa}{vs:List V}
  (S:bu N ps scope) (hd:A.handled=none) (e0:qY P w K mg base A outer s H) (hl:vs.length=ps.length) (r:bR vs us)
  (x:InCallC s s.heap.objs.size (sE (envOfC qual scope s.heap.objs.size f cd).kindOf (ps.zip us) λ_=>none) (cellsFrom (s.heap.objs.size+1) scope.names []) (sD (envOfC qual scope s.heap.objs.size f cd).kindOf (ps.zip us) λ_=>none) s1) :
  Inv (lF CX P w K mg base N qual scope f cd A outer s H E) [] (start N vs) H s1:=by
 have gI:ps.length<=N.length:=by have:=congrArg qT S.pre;rw[fJ]at this;omega
 obtain⟨h1,tk,rfl,hk⟩:=x.done
 have GA:∀b:ah,b∉(lF CX P w K mg base N qual scope f cd A outer s H E).ex:=λb z=>absurd (show b∈([]:List ah)from z) (by simp)
 refine⟨⟨e0.mod,S.kind,rfl,rfl,aF _,λy z c h1 h2=>?_,λy hy=>?_,λy c _ h=>?_,λ_=>hd,bx.frames_deeper e0.frames,.inr ⟨rfl,rfl⟩,λb z=>absurd z (GA b),e0.bs,e0.bsz,λb _ _=>GA b,λb z=>absurd z (GA b),e0.funs,e0.frf⟩,
  rfl,e0.bare,Un.kept hk,⟨_,x.toInCall.ns,λi y v h1 h2 h3=>?_⟩,λy c h=>⟨_,x.cell y c h⟩,e0.hok.fresh (aF _),λy c h=>?_,λp hp=>absurd (show p∈([]:List (ah×df))from hp) (by simp),e0.hok.kept hk,?_⟩
 ·exact name_of_addr x.apart (PySem.mem_of_lookup h1) (PySem.mem_of_lookup h2)
 ·have hy:scope.names.lookup y=some .cell\/scope.names.lookup y=some .free:=hy
  rcases hy with hy|hy
  ·exact Rv hy
  ·exact absurd rfl (S.nofree _ (PySem.mem_of_lookup hy))
 ·exact lL (x.above y c (PySem.mem_of_lookup h))
 ·have hi:i<vs.length:=by
   unfold start at h2
   by_cases hi:i<vs.length
   ·exact hi
   ·rw[iu (by simpa using hi)]at h2
    rw[fS]at h2
    split at h2<;>cases h2
  have ha:vs[i]?=some v:=by
   unfold start at h2
   rw[dZ (by simpa using hi),bw]at h2
   cases e:vs[i]? with
   |none=>rw[e]at h2;cases h2
   |some a=>rw[e]at h2;cases h2;rfl
  obtain⟨u,hu,rv⟩:=r.get ha
  have hp:ps[i]?=some y:=by
   rw[←S.pre,List.getElem?_take_of_lt (by omega)];exact h1
  have PM:ps.Nodup:=by rw[←S.pre];exact S.nd.sublist (List.take_sublist _ _)
  refine⟨u,rv,?_⟩
  rcases S.par y (jZ hp)with k|k
  ·exact .inl ⟨k,QX PM hp hu k⟩
  ·obtain⟨c,e⟩:=Rv (n:=s.heap.objs.size+1) k
   refine .inr ⟨.inl k,c,e,?_⟩
   have q:=x.cell y c e
   rw[QY PM hp hu (by show scope.names.lookup y≠_;rw[k];decide)]at q
   exact q
 ·exact e0.hok.fresh (lL (x.above y c (PySem.mem_of_lookup h)))
 ·unfold start
  show _=N.length
  rw[aX,aq,dq]
  omega
theorem Ti {CX:sJ}{P:bn}{w:bP}{K:ae}{mg:aK->Option aa}{base:aM}{k:Nat}{f:ah}{name qual:aK}{params:Arguments}{body:List bD}{scope:gc}{dV kV doc pm gu ct oc:aa}{an od:Option ah}
    {zC:Array (Option aa)} {N ps:List aK} {sp:Sp} (lk:K.lookup f=some ⟨oc,od,.func (gP name qual params body scope dV kV doc pm an gu ct),zC⟩) (iI:az K gu qual=true) (S:bu N ps scope)
    (len:∀vs H Q E,sp vs H Q E->vs.length=ps.length)
    (uL:∀(A:bx) (outer:List Env) (s:aj) (H:Hp) (vs:List V) (Q:VK) (E:XK),dU k (A.deeper (envOfC qual scope s.heap.objs.size f gu))->sp vs H Q E ->
      ∃t,oH (lF CX P w K mg base N qual scope f gu A outer s H E) body t/\t { nx:=λ_ H'=>Q .non H',rt:=Q } (start N vs) H) :
    cv P w K mg base CX (k+1) f (gP name qual params body scope dV kV doc pm an gu ct) ps sp:=by
  refine⟨len,λA outer s H args us vs Q E hr e0 hb r yW=>?_⟩
  have hl:=len _ _ _ _ yW
  have KX:K.In s.heap:=e0.mod.kin.keeps λb o e=>(e0.bs b o e).1
  have lim:s.heap.NoLimit:=e0.mod.nolimit.keeps λb o e=>(e0.bs b o e).1
  have Fg:∀y∈ps.zip us,scope.names.lookup y.1=some .local\/(scope.names.lookup y.1=some .cell/\((cellsFrom (s.heap.objs.size+1) scope.names []).lookup y.1).isSome=true):=λ⟨n,v⟩ hy=>by
    rcases S.par n (gR hy).1 with q|q
    · exact .inl q
    · exact .inr ⟨q,iV _ _ _ (.inl q)⟩
  refine codeAny_call_function hr.depth (KX _ _ lk) rfl S.co S.gen rfl (PySem.W.codeRec_of KX iI) (hb _ _ _ _ ?_)
  refine wpAny_newFunctionEnv_cells S.kind Fg λenv he s1 x=>?_
  subst he
  refine⟨lim.keeps x.toInCall.keep,codeAny_func ?_⟩
  obtain⟨t,ht,hq⟩:=uL A outer s H vs Q E (hr.deeper _) yW
  have I:Inv (lF CX P w K mg base N qual scope f gu A outer s H E) [] (start N vs) H s1:=ZM S hr.hd e0 hl r x
  refine dc (ht [] s1 (start N vs) H _ I hq) (λfl s' hs=>?_) λe s' hs=>hs
  have fin:∀{σ':St} {H':Hp} {v:V} {u:aa},Inv (lF CX P w K mg base N qual scope f gu A outer s H E) [] σ' H' s'->RelV v u->Q v H'->CE outer P w H s Q u s' :=
    λ{σ' H' v u} J rv q=>⟨v,H',J.os,J.bare,J.base,J.hok,rv,q⟩
  cases fl with
  |ret u=>
    obtain⟨v,σ',H',J,rv,q⟩:=hs
    exact fin J rv q
  |next=>
    obtain⟨σ',H',J,q⟩:=hs
    exact fin (v:=V.non) (u:=aa.none) J rfl q
  |brk=>
    obtain⟨_,_,_,q⟩:=hs
    exact False.elim q
  |cont=>
    obtain⟨_,_,_,q⟩:=hs
    exact False.elim q
end L2
namespace L2
open PySem PySem.Spec PyProof.Rows
section
variable {X:Cx}{x:aK}{p pos:cX}{e:Expr}{es:List Expr}{t:TA}{id T:String}{r:List V->Hp->VK->Prop}
def MJ (r:List V->Hp->VK->Prop)(t:TA):TE:=λσ H Q=>t σ H λvs H1=>r vs H1 Q
theorem Nl (hc:eY X (.builtin id) r)(hg:Gl X x)(hm:X.mg x=none)(hv:bW x=some (.builtin id))(ha:PA X (e::es) t)(hn:x≠"__name__":=by decide)(i7:(x==("__debug__":aK))=false:=by decide)
  (he:ap (e::es) X.env=(false,bG e X.env)::ap es X.env:=by rfl) (gI:(cu pos (ap es X.env)).any (·.1)=false:=by rfl):PE X (.Call (.Name x p) (e::es) [] pos) (MJ r t):=by
 intro ai s σ H Q I h
 refine cJ (xX I hg hm hv ?_ hn i7)
 exact ka (dw (ha pos ai s σ H _ I h) λus s1 ⟨vs,H1,I1,r1,q1⟩=>hc ai s1 σ H1 vs us Q I1 r1 q1) he gI
theorem QZ (hc:eY X (.type T) r)(hg:Gl X x)(hm:X.mg x=none)(hv:bW x=some (.type T))(ha:PA X (e::es) t)(hn:x≠"__name__":=by decide)(i7:(x==("__debug__":aK))=false:=by decide)
  (he:ap (e::es) X.env=(false,bG e X.env)::ap es X.env:=by rfl) (gI:(cu pos (ap es X.env)).any (·.1)=false:=by rfl):PE X (.Call (.Name x p) (e::es) [] pos) (MJ r t):=by
 intro ai s σ H Q I h
 refine cJ (xX I hg hm hv ?_ hn i7)
 exact cz (dw (ha pos ai s σ H _ I h) λus s1 ⟨vs,H1,I1,r1,q1⟩=>hc ai s1 σ H1 vs us Q I1 r1 q1) he gI
end
end L2
namespace HT
open PySem PyProof.Rows
section
open PySem.SeqAt
open PySem.AutoSeq1 (wpAny_loadPart')
open PySem.MeetsSeq PySem.MeetsSeq2 PySem.MeetsSeq3
end
section
variable {prog:bn}{w:bP}{A:bx}{E:aa->aj->Prop}{s:aj}
theorem cat_tup {t b:ah}{vs ws:List aa}{Q:aa->aj->Prop}(ht:IsTup s.heap t vs.toArray)(hb:IsTup s.heap b ws.toArray)(hv:vs≠[])
    (h1:ws=[]->Q (.ref t) s) (h2:ws≠[]->Q (.ref s.heap.objs.size) { s with heap:=s.heap.push { cls:=.type "tuple",data:=.seq (vs++ws).toArray } })
    (hsz:vs.length+ws.length<=sizeLine):aT (aI prog w) A (d9 .Add (.ref t) (.ref b)) Q E s:=by
  obtain⟨⟨cls,dd,data,sl⟩,ho,hc,n,hd⟩:=id ht
  obtain⟨⟨Kv,wU,data2,sZ⟩,IJ,yO,n2,hd2⟩:=id hb
  simp only at hc hd yO hd2
  subst hc hd yO hd2
  have e:vs.toArray++ws.toArray=(vs++ws).toArray:=by simp
  by_cases hw:ws=[]
  · exact tO ⟨_,ho,rfl⟩ ⟨_,IJ,rfl⟩ noFill_tuple_add seq_tuple_add PySem.F.slot_tuple_add PySem.F.entry_tuple_add (PySem.F.args_tuple_add_2 _ _)
      (tuple_addW1 t b vs.toArray ws.toArray n n2 dd wU sl sZ (by simpa using hv) (by simp[hw])) ⟨ho,IJ,h1 hw⟩
  · refine tO ⟨_,ho,rfl⟩ ⟨_,IJ,rfl⟩ noFill_tuple_add seq_tuple_add PySem.F.slot_tuple_add PySem.F.entry_tuple_add (PySem.F.args_tuple_add_2 _ _)
      (tuple_addW2 t b vs.toArray ws.toArray n n2 dd wU sl sZ (by simpa using hv) (by simpa using hw) (by rw[aL,aL];exact hsz)) ⟨ho,IJ,?_⟩
    rw[e]
    exact h2 hw
def sIx (n d:Nat):Option Int->Nat
 |none=>d
 |some v=>if v<0 then(v+(n:Int)).toNat else min v.toNat n
theorem sIx_none (n d:Nat):sIx n d none=d:=rfl
theorem sIx_nat (n d k:Nat):sIx n d (some (k:Int))=min k n:=by
 show(if(k:Int)<0 then((k:Int)+(n:Int)).toNat else min (k:Int).toNat n)=min k n
 rw[if_neg (by omega),gk]
end
end HT
namespace L2
open PySem PySem.Spec PyProof.Rows
abbrev TO:=St->Hp->(Option Int->Hp->Prop)->Prop
def PO (X:Cx)(e:Option Expr)(t:TO):Prop :=
 ∀(ai:List (ah×df)) (s:aj) (σ:St) (H:Hp) (Q:Option Int->Hp->Prop),Inv X ai σ H s->t σ H Q ->
  aT (aI X.prog X.w) X.A (evalPart e X.env) (λu s'=>∃o H',Inv X ai σ H' s'/\IsPart u o/\Q o H') X.xe s
def xP:TO:=λ_ H Q=>Q none H
def HB (t:TE):TO:=λσ H Q=>t σ H λx H1=>∃i,x=.int i/\Q (some i) H1
theorem ZQ {ns:List Int}:∀{us:List aa},bR (ns.map V.int) us->IntsAre us ns:=by
 induction ns with
 |nil=>intro us r;rw[pB]at r;cases r;exact .nil
 |cons n ns ih=>
  intro us r
  rw[aV]at r
  cases r with
  |cons r1 r2=>
   obtain⟨t,e⟩:=r1
   subst e
   exact .cons n t (ih r2)
section
variable {X:Cx}{e:Expr}{te:TE}{lo hi:Option Expr}{tl th:TO}{pos p2:cX}
theorem zp1:PO X none xP:=by
 intro ai s σ H Q I h
 rw[evalPart_none]
 exact bi ⟨none,H,I,.none,h⟩
theorem zp2 (h:PE X e te):PO X (some e) (HB te):=by
 intro ai s σ H Q I hw
 rw[evalPart_some]
 refine dw (h ai s σ H _ I hw) λu s1 dO=>?_
 obtain⟨x,H1,I1,r1,q1⟩:=dO
 obtain⟨i,rfl,q⟩:=q1
 obtain⟨t,rfl⟩:=r1
 exact⟨some i,H1,I1,.int i t,q⟩
def Ot (X:Cx)(r:V->Option Int->Option Int->Hp->VK->Prop):Prop :=
 ∀(ai:List (ah×df)) (s:aj) (σ:St) (H:Hp) (x:V) (v vl vu:aa) (lo hi:Option Int) (sl:ah) (Q:VK),Inv X ai σ H s->RelV x v->s.heap.IsSliceOf sl vl vu .none->IsPart vl lo->IsPart vu hi->r x lo hi H Q ->
  ∃T id,mE (.type T) "__getitem__"=pure (some (.builtin id))/\s.TypeIs v T/\aT (aI X.prog X.w) X.A (nk v (.ref sl)) (EP X ai σ Q) X.xe s
def Yu (r:V->Option Int->Option Int->Hp->VK->Prop)(te:TE)(tl th:TO):TE:=λσ H Q=>te σ H λx H1=>tl σ H1 λl H2=>th σ H2 λu H3=>r x l u H3 Q
theorem zmy {r:V->Option Int->Option Int->Hp->VK->Prop}(hr:Ot X r)(he:PE X e te)(hl:PO X lo tl)(hu:PO X hi th):PE X (.Subscript e (.Slice lo hi none p2) pos) (Yu r te tl th):=by
  intro ai s σ H Q I h
  refine Subscript_ (dw (he ai s σ H _ I h) λv s1 dO=>?_)
  obtain⟨x,H1,I1,r1,q1⟩:=dO
  refine wpAny_Slice (dw (hl ai s1 σ H1 _ I1 q1) λvl s2 ⟨l,H2,I2,pl,q2⟩=>dw (hu ai s2 σ H2 _ I2 q2) λvu s3 dO=>?_)
  obtain⟨u,H3,I3,pu,q3⟩:=dO
  rw[evalPart_none]
  refine bi ?_
  have I4:Inv X ai σ H3 { s3 with heap:=s3.heap.push { cls:=.type "slice",data:=.fields #[vl,vu,.none] } }:=I3.kept (t':=s3.toks) λb ob q=>ar _ q
  obtain⟨T,id,hT,ht,hg⟩:=hr ai { s3 with heap:=s3.heap.push { cls:=.type "slice",data:=.fields #[vl,vu,.none] } } σ H3 x v vl vu l u s3.heap.objs.size Q I4 r1 (aM.IsSliceOf.new ..) pl pu q3
  show aT (aI X.prog X.w) X.A (subscriptTail e (.Slice lo hi none p2) v (.ref s3.heap.objs.size)) (EP X ai σ Q) X.xe { s3 with heap:=s3.heap.push { cls:=.type "slice",data:=.fields #[vl,vu,.none] } }
  exact tail_any (ops:=[.ref s3.heap.objs.size,v]) ht hT hg (by with_unfolding_all rfl)
def sO (xs:List V)(lo hi:Option Int):List V:=(xs.drop (HT.sIx xs.length 0 lo)).take (HT.sIx xs.length xs.length hi-HT.sIx xs.length 0 lo)
theorem Zz (xs:List V)(lo hi:Option Int):(sO xs lo hi).length<=xs.length:=by
 unfold sO
 rw[fJ,gG]
 omega
def zF (K:ae):R2:=λx y H Q=>∃a b xs ys,x=.ref a/\y=.ref b/\lE K H a xs/\lE K H b ys/\xs≠[]/\xs.length+ys.length<=sizeLine /\
 (ys=[]->Q (.ref a) H)/\(ys≠[]->∀p,H p=none->Q (.ref p) (cY H p (.tup (xs++ys))))
theorem bR.nil_iff {xs:List V}{us:List aa}(r:bR xs us):us=[]↔xs=[]:=by
 cases r with
 |nil=>simp
 |cons _ _=>simp
theorem zp3:gM X (d9 .Add) (zF X.K):=by
 intro ai s σ H x y v u Q I rx ry h
 obtain⟨a,b,xs,ys,rfl,rfl,ha,hb,hx,hz,q1,q2⟩:=h
 cases rx
 cases ry
 obtain⟨cx,r1,p1,_⟩:=I.tuple ha
 obtain⟨xG,r2,p2,_⟩:=I.tuple hb
 refine HT.cat_tup p1 p2 (λz=>hx (r1.nil_iff.mp z)) (λz=>⟨.ref a,H,I,rfl,q1 (r2.nil_iff.mp z)⟩) (λz=>?_) (by rw[←r1.length,←r2.length];exact hz)
 refine⟨.ref s.heap.objs.size,_,I.laid (t':=s.toks) (o:=.tup (xs++ys)) (λb ob q=>ar _ q) (aF _) ?_,rfl,q2 (λw=>z (r2.nil_iff.mpr w)) _ (I.hok.fresh (aF _))⟩
 exact⟨by rw[aX];exact hz,_,r1.append r2,IsTup.new _ _⟩
end
end L2
namespace L2
open PySem PySem.Spec PyProof.Rows
def ixN (n:Nat)(i:Int):Option Nat:=if 0<=i then(if i<n then some i.toNat else none)else if -(n:Int)<=i then some (i+n).toNat else none
def atI {α:Type}(xs:List α)(i:Int):Option α:=(ixN xs.length i).bind λj=>xs[j]?
theorem NB {n:Nat}{i:Int}{j:Nat}(h:ixN n i=some j):seqIndex? i n=some j/\j<n/\-(n:Int)<=i/\i<n:=by
 unfold ixN at h
 by_cases h0:0<=i
 ·rw[if_pos h0]at h
  by_cases h1:i<n
  ·rw[if_pos h1]at h
   have e:i.toNat=j:=Option.some.inj h
   exact⟨by rw[oA h0 h1,e],by omega,by omega,h1⟩
  ·rw[if_neg h1]at h;cases h
 ·rw[if_neg h0]at h
  by_cases h1:-(n:Int)<=i
  ·rw[if_pos h1]at h
   have e:(i+n).toNat=j:=Option.some.inj h
   exact⟨by rw[nq (by omega) h1,e],by omega,h1,by omega⟩
  ·rw[if_neg h1]at h;cases h
theorem JE {α:Type}{xs:List α}{i:Int}{v:α}(h:atI xs i=some v):∃j,seqIndex? i xs.length=some j/\xs[j]?=some v/\j<xs.length/\-(xs.length:Int)<=i/\i<xs.length:=by
 unfold atI at h
 cases e:ixN xs.length i with
 |none=>rw[e]at h;cases h
 |some j=>
  rw[e]at h
  obtain⟨h1,h2,h3,h4⟩:=NB e
  exact⟨j,h1,h,h2,h3,h4⟩
theorem qo {α:Type}{xs:List α}{j:Nat}{v:α}(h:xs[j]?=some v):atI xs (j:Int)=some v:=by
 have hj:j<xs.length:=(bg.mp h).1
 have e:ixN xs.length (j:Int)=some j:=by
  unfold ixN
  rw[if_pos (by omega),if_pos (by omega)];simp
 unfold atI;rw[e];exact h
def oI (b:Expr):Prop:=∀o i,oB b false o i=operate [o,i] (nk o i)
def vM (X:Cx)(r:R2):Prop :=
 ∀(value slice:Expr) (ai:List (ah×df)) (s:aj) (σ:St) (H:Hp) (x y:V) (v u:aa) (Q:VK),Inv X ai σ H s->RelV x v->RelV y u->r x y H Q ->
  oB slice false v u=operate [v,u] (nk v u)->aT (aI X.prog X.w) X.A (subscriptTail value slice v u) (EP X ai σ Q) X.xe s
def Oo (X:Cx)(id:String)(r:V->List V->Hp->VK->Prop):Prop :=
 ∀(ai:List (ah×df)) (s:aj) (σ:St) (H:Hp) (x:V) (xs:List V) (v:aa) (us:List aa) (Q:VK),Inv X ai σ H s->RelV x v->bR xs us->r x xs H Q ->
  aT (aI X.prog X.w) X.A (call (.builtin id) (v::us)) (EP X ai σ Q) X.xe s
section
variable {X:Cx}{a b:Expr}{ta tb:TE}{pos:cX}
theorem vM.or {r r':R2}(h:vM X r)(h':vM X r'):vM X (λx y H Q=>r x y H Q\/r' x y H Q):=by
 intro value slice ai s σ H x y v u Q I rx ry q hs
 rcases q with q|q
 ·exact h value slice ai s σ H x y v u Q I rx ry q hs
 ·exact h' value slice ai s σ H x y v u Q I rx ry q hs
theorem zuz {r:R2}(hr:vM X r)(ha:PE X a ta)(hb:PE X b tb)(hs:oI b):PE X (.Subscript a b pos) (I0 r ta tb):=by
 intro ai s σ H Q I h
 exact Subscript_ (Ac ha hb I h λv u s2 x y H2 I2 rx ry q=>hr a b ai s2 σ H2 x y v u Q I2 rx ry q (hs _ _))
def Hl (K:ae):R2:=λx y H Q=>∃p xs i v,x=.ref p/\y=.int i/\gz K H p xs/\atI xs i=some v/\Q v H
def Hn (K:ae):R2:=λx y H Q=>∃p xs i v,x=.ref p/\y=.int i/\lE K H p xs/\atI xs i=some v/\Q v H
def Hm:R2:=λx y H Q=>∃z i c,x=.str z/\y=.int i/\z.length<=sizeLine/\atI z.cps.toList i=some c/\Q (.str ⟨#[c]⟩) H
theorem zp4:vM X (Hl X.K):=by
 intro value slice ai s σ H x y v u Q I rx ry h hs
 obtain⟨p,xs,i,z,rfl,rfl,hq,he,q⟩:=h
 cases rx
 obtain⟨t,rfl⟩:=ry
 obtain⟨cx,r,pl,hz⟩:=I.list hq
 obtain⟨j,h1,h2,h3,h4,h5⟩:=JE he
 obtain⟨w,ew,oW⟩:=r.get h2
 have hl:=r.length
 have hn:=kF
 have fin:EP X ai σ Q w s:=⟨z,H,I,oW,q⟩
 by_cases h0:0<=i
 ·have hj:i.toNat=j:=by
   rw[oA h0 h5]at h1
   exact Option.some.inj h1
  exact item_listR pl.isList h0 (by omega) (by rw[hj];simpa using ew) fin hs
 ·have hj:(i+(cx.toArray.size:Int)).toNat=j:=by
   rw[nq (by omega) h4]at h1
   rw[aL,←hl]
   exact Option.some.inj h1
  exact subscriptTail_builtinR (x:=w) pl.isList.typeIs slot_list_getitem.lookup
   (wpAny_getItem_list_neg (Q:=λr s'=>r=w/\EP X ai σ Q r s') pl.isList (by omega) (by rw[aL]<;>omega) (by omega) (by rw[hj];simpa using ew) ⟨rfl,fin⟩) hs
theorem zs2:vM X (Hn X.K):=by
 intro value slice ai s σ H x y v u Q I rx ry h hs
 obtain⟨p,xs,i,z,rfl,rfl,hq,he,q⟩:=h
 cases rx
 obtain⟨t,rfl⟩:=ry
 obtain⟨cx,r,pl,hz⟩:=I.tuple hq
 obtain⟨j,h1,h2,h3,h4,h5⟩:=JE he
 obtain⟨w,ew,oW⟩:=r.get h2
 have hl:=r.length
 have hn:=kF
 have fin:EP X ai σ Q w s:=⟨z,H,I,oW,q⟩
 exact subscriptTail_builtinR (x:=w) pl.typeIs slot_tuple_getitem.lookup
  (getItem_tuple (j:=j) (Q:=λr s'=>r=w/\EP X ai σ Q r s') pl (by omega) (by omega) (by rw[aL,←hl];exact h1) (by simpa using ew) ⟨rfl,fin⟩) hs
theorem zs3:vM X Hm:=by
 intro value slice ai s σ H x y v u Q I rx ry h hs
 obtain⟨z,i,c,rfl,rfl,hz,he,q⟩:=h
 obtain⟨t,rfl⟩:=rx
 obtain⟨t',rfl⟩:=ry
 obtain⟨j,h1,h2,h3,h4,h5⟩:=JE he
 have hl:z.cps.toList.length=z.length:=by simp[aK.length]
 rw[hl]at h1 h4 h5
 have hn:=kF
 exact tail_any (typeIs_str s z t) slot_str_getitem.lookup (getItem_str (c:=c) (by
  have e1:decide (i < -(2 ^ 63:Int))=false:=decide_eq_false (by omega)
  have e2:decide (i >= 2 ^ 63)=false:=decide_eq_false (by omega)
  rw[e1,e2,yC]) (by rw[h1];simpa using h2) ⟨.str ⟨#[c]⟩,H,I.tok _,⟨_,rfl⟩,q⟩) hs
def P9 (K:ae):R2:=λx y H Q=>Hl K x y H Q\/Hn K x y H Q\/Hm x y H Q
theorem je:vM X (P9 X.K):=zp4.or (zs2.or zs3)
theorem ZR (cx:List aa)(n j:Nat)(u:aa):df.mapSeq (·.setIfInBounds j u) { cls:=.type "list",data:=.seq cx.toArray n } = { cls:=.type "list",data:=.seq (cx.set j u).toArray n }:=by
  simp[df.mapSeq]
theorem Inv.lst {ai:List (ah×df)}{σ:St}{H:Hp}{s:aj}{p:ah}{xs:List V}(I:Inv X ai σ H s)(h:H p=some (.lst xs)) :
    ∃(cx:List aa) (n:Nat),bR xs cx/\s.heap.get? p=some { cls:=.type "list",data:=.seq cx.toArray n }/\xs.length<=sizeLine:=by
  obtain⟨z,cx,n,r,e⟩:=I.hok p _ h
  exact⟨cx,n,r,e,z⟩
theorem Inv.lstUpd {ai:List (ah×df)}{σ:St}{H:Hp}{s:aj}{p:ah}{xs ys:List V}{cx its':List aa}{n n':Nat}{f:df->df}(I:Inv X ai σ H s)(h:H p=some (.lst xs))
    (ho:s.heap.get? p=some { cls:=.type "list",data:=.seq cx.toArray n }) (hf:f { cls:=.type "list",data:=.seq cx.toArray n } = { cls:=.type "list",data:=.seq its'.toArray n' }) (r:bR ys its') (hz:ys.length<=sizeLine) (t:Nat) :
    Inv X ai σ (cY H p (.lst ys)) { s with heap:=s.heap.update p f,toks:=t }:=by
  have e:(s.heap.update p f).get? p=some { cls:=.type "list",data:=.seq its'.toArray n' }:=by
    rw[dW f ho (by rw[hf]<;>rfl),hf]
  refine I.write (x:=p) (e:=p) (by rw[h];trivial) (.inl rfl) (λb u hb q=>(cI _ _ (Ne.symm hb)).trans q) ⟨_,e⟩ ?_
  exact⟨hz,its',n',r,e⟩
def Hr:V->V->V->Hp->(Hp->Prop)->Prop:=λo i v H Q=>∃p xs k j,o=.ref p/\i=.int k/\H p=some (.lst xs)/\ixN xs.length k=some j/\Q (cY H p (.lst (xs.set j v)))
theorem Nd:zW X Hr:=by
 intro ai s σ H o i v ov iv u Q I ro ri rv h
 obtain⟨p,xs,k,j,rfl,rfl,hp,hj,q⟩:=h
 cases ro
 obtain⟨t,rfl⟩:=ri
 obtain⟨cx,n,r,ho,hz⟩:=I.lst hp
 obtain⟨h1,h2,h3,h4⟩:=NB hj
 have hl:=r.length
 have hn:=kF
 have I':Inv X ai σ (cY H p (.lst (xs.set j v))) { s with heap:=s.heap.update p (df.mapSeq (·.setIfInBounds j u)) } :=
  I.lstUpd hp ho (ZR cx n j u) (r.set rv j) (by rw[vJ];exact hz) s.toks
 by_cases h0:0<=k
 ·have hk:k.toNat=j:=by
   rw[oA h0 h4]at h1
   exact Option.some.inj h1
  exact PySem.W.ki_setAt ho h0 (by omega) (by rw[aL,←hl];exact h4) (by rw[hk];exact⟨_,I',q⟩)
 ·have hk:(k+(cx.toArray.size:Int)).toNat=j:=by
   rw[nq (by omega) h3]at h1
   rw[aL,←hl]
   exact Option.some.inj h1
  exact PySem.W.ki_setBack ho (by omega) (by rw[aL,←hl];exact h3) (by omega) (by rw[hk];exact⟨_,I',q⟩)
theorem Zj (lo hi:Option Int)(n:Nat):(iq lo hi none n).1=((HT.sIx n 0 lo:Nat):Int)/\(iq lo hi none n).2.1=((HT.sIx n n hi:Nat):Int)/\(iq lo hi none n).2.2=1:=by
 refine⟨?_,?_,rfl⟩
 ·cases lo with
  |none=>simp[iq,HT.sIx]
  |some i=>
   simp only[iq,HT.sIx,sC,show(1:Int) > 0 by decide,if_true]
   by_cases h:i<0
   ·simp only[h,if_true]<;>omega
   ·simp only[h,if_false]<;>omega
 ·cases hi with
  |none=>simp[iq,HT.sIx]
  |some i=>
   simp only[iq,HT.sIx,sC,show(1:Int) > 0 by decide,if_true]
   by_cases h:i<0
   ·simp only[h,if_true]<;>omega
   ·simp only[h,if_false]<;>omega
theorem YX (cx:List aa)(lo hi:Option Int):slicePick cx.toArray lo hi none=((cx.drop (HT.sIx cx.length 0 lo)).take (HT.sIx cx.length cx.length hi-HT.sIx cx.length 0 lo)).toArray:=by
 obtain⟨h1,h2,h3⟩:=Zj lo hi cx.toArray.size
 unfold slicePick
 rw[h1,h2,h3]
 simp only[sliceRange_one,pick_run,aL]<;>rfl
def MB (K:ae):V->Option Int->Option Int->Hp->VK->Prop:=λx lo hi H Q=>∃a xs,x=.ref a/\gz K H a xs/\∀p,H p=none->Q (.ref p) (cY H p (.lst (sO xs lo hi)))
theorem zp5:Ot X (MB X.K):=by
 intro ai s σ H x v vl vu lo hi sl Q I rx hs pl pu h
 obtain⟨a,xs,rfl,hx,q⟩:=h
 cases rx
 obtain⟨cx,r,ht,hz⟩:=I.list hx
 have gC:=r.length
 refine⟨"list",_,slot_list_getitem.lookup,ht.isList.typeIs,?_⟩
 refine wpAny_getItem_list_slice ht.isList hs pl pu .none (by simp) ?_ (by rw[aL]<;>omega)
 rw[YX,←gC]
 refine⟨.ref s.heap.objs.size,_,I.laid (t':=s.toks) (o:=.lst (sO xs lo hi)) (λb ob q=>ar _ q) (aF _) ?_,rfl,q _ (I.hok.fresh (aF _))⟩
 exact⟨bZ (Zz xs lo hi) hz,_,0,(r.drop (HT.sIx xs.length 0 lo)).take (HT.sIx xs.length xs.length hi-HT.sIx xs.length 0 lo),bH _ rfl⟩
def ko:V->Bool
 |.non=>true
 |.bl _=>true
 |.int _=>true
 |.str _=>true
 |_=>false
def tV:V->V->Bool
 |.non,.non=>true
 |.bl a,.bl b=>a==b
 |.bl a,.int b=>(if a then 1 else 0)==b
 |.int a,.bl b=>a==(if b then 1 else 0)
 |.int a,.int b=>a==b
 |.str a,.str b=>a==b
 |_,_=>false
theorem zs4 {A:bx}{s:aj}{y x:V}{u v:aa}(ry:RelV y u)(rx:RelV x v)(fy:ko y=true)(fx:ko x=true):SeqAt.EqAt A s u v (tV y x):=by
 cases y with
 |non=>
  cases ry
  cases x with
  |non=>cases rx;exact SeqAt.EqAt.same _
  |bl b=>cases rx;exact SeqAt.EqAt.none_bool b
  |int b=>obtain⟨t,rfl⟩:=rx;exact SeqAt.EqAt.none_int b t
  |str b=>obtain⟨t,rfl⟩:=rx;exact SeqAt.EqAt.none_str b t
  |_=>exact absurd (show false=true from fx) aJ
 |bl a=>
  cases ry
  cases x with
  |non=>cases rx;exact SeqAt.EqAt.bool_none a
  |bl b=>cases rx;exact SeqAt.EqAt.bool_bool a b
  |int b=>obtain⟨t,rfl⟩:=rx;exact SeqAt.EqAt.bool_int a b t
  |str b=>obtain⟨t,rfl⟩:=rx;exact SeqAt.EqAt.bool_str a b t
  |_=>exact absurd (show false=true from fx) aJ
 |int a=>
  obtain⟨t',rfl⟩:=ry
  cases x with
  |non=>cases rx;exact SeqAt.EqAt.int_none a t'
  |bl b=>cases rx;exact SeqAt.EqAt.int_bool a t' b
  |int b=>obtain⟨t,rfl⟩:=rx;exact SeqAt.EqAt.int_int a t' b t
  |str b=>obtain⟨t,rfl⟩:=rx;exact SeqAt.EqAt.int_str a t' b t
  |_=>exact absurd (show false=true from fx) aJ
 |str a=>
  obtain⟨t',rfl⟩:=ry
  cases x with
  |non=>cases rx;exact SeqAt.EqAt.str_none a t'
  |bl b=>cases rx;exact SeqAt.EqAt.str_bool a t' b
  |int b=>obtain⟨t,rfl⟩:=rx;exact SeqAt.EqAt.str_int a t' b t
  |str b=>obtain⟨t,rfl⟩:=rx;exact SeqAt.EqAt.str_str a t' b t
  |_=>exact absurd (show false=true from fx) aJ
 |_=>exact absurd (show false=true from fy) aJ
def ES (x:V)(u:aa):Bool:=match u with
 |.none=>tV .non x
 |.bool b=>tV (.bl b) x
 |.int i _=>tV (.int i) x
 |.str z _=>tV (.str z) x
 |_=>false
theorem S5 {x y:V}{u:aa}(r:RelV y u)(f:ko y=true):ES x u=tV y x:=by
 cases y with
 |non=>cases r;rfl
 |bl b=>cases r;rfl
 |int i=>obtain⟨t,rfl⟩:=r;rfl
 |str z=>obtain⟨t,rfl⟩:=r;rfl
 |_=>exact absurd (show false=true from f) aJ
theorem Rw {A:bx}{s:aj}{x:V}{v:aa}(rx:RelV x v)(fx:ko x=true):∀{xs:List V} {us:List aa},bR xs us->xs.all ko=true->∀u∈us,SeqAt.EqAt A s u v (ES x u)
 |_,_,.nil,_=>λu hu=>by cases hu
 |y::xs,u::us,.cons r t,f=>λu' hu=>by
  rw[ej,bS]at f
  rcases aE.mp hu with rfl|hu
  ·rw[S5 r f.1];exact zs4 r rx f.1 fx
  ·exact Rw rx fx t f.2 u' hu
def Pn (x:V)(xs:List V):Bool:=xs.any λy=>tV y x
theorem Zk:eY X (.builtin "len") (λxs H Q=>∃p ys,xs=[.ref p]/\(gz X.K H p ys\/lE X.K H p ys)/\Q (.int ys.length) H):=by
 intro ai s σ H xs us Q I r h
 obtain⟨p,ys,rfl,hq,q⟩:=h
 obtain⟨u,rfl,rx⟩:=nh r
 cases rx
 have hn:=kF
 rcases hq with hq|hq
 ·obtain⟨cx,r',pl,hz⟩:=I.list hq
  have gC:=r'.length
  exact Calls.call_len_list pl.isList (by simp only[aL]<;>omega) ⟨.int ys.length,H,I.tok _,⟨s.toks+1,by rw[aL,gC]⟩,q⟩
 ·obtain⟨cx,r',pl,hz⟩:=I.tuple hq
  have gC:=r'.length
  exact len_tuple pl (by simp only[aL]<;>omega) ⟨.int ys.length,H,I.tok _,⟨s.toks+1,by rw[aL,gC]⟩,q⟩
theorem Zl:eY X (.builtin "len") (λxs H Q=>∃z,xs=[.str z]/\z.length<=sizeLine/\Q (.int z.length) H):=by
 intro ai s σ H xs us Q I r h
 obtain⟨z,rfl,hz,q⟩:=h
 obtain⟨u,rfl,t,rfl⟩:=nh r
 have hn:=kF
 exact len_str (by omega) ⟨.int z.length,H,I.tok _,⟨_,rfl⟩,q⟩
theorem eY.or {f:aa}{r r':List V->Hp->VK->Prop}(h:eY X f r)(h':eY X f r'):eY X f (λxs H Q=>r xs H Q\/r' xs H Q):=by
 intro ai s σ H xs us Q I rs q
 rcases q with q|q
 ·exact h ai s σ H xs us Q I rs q
 ·exact h' ai s σ H xs us Q I rs q
theorem qp:eY X (.type "list") (λxs H Q=>∃p ys,xs=[.ref p]/\(gz X.K H p ys\/lE X.K H p ys)/\∀l,H l=none->Q (.ref l) (cY H l (.lst ys))):=by
  intro ai s σ H xs us Q I r h
  obtain⟨p,ys,rfl,hq,q⟩:=h
  obtain⟨u,rfl,rx⟩:=nh r
  cases rx
  have fin:∀(cx:List aa),bR ys cx->ys.length<=sizeLine->∀(h':aM) (c':Nat),(∀b o',s.heap.get? b=some o'->h'.get? b=some o') ->
      h'.get? s.heap.objs.size=some { cls:=.type "list",dict:=none,data:=.seq cx.toArray c',slots:=#[] }->EP X ai σ Q (.ref s.heap.objs.size) { s with heap:=h' }:=λcx r' hz h' c' kp e=>
    ⟨.ref s.heap.objs.size,_,I.laid (t':=s.toks) kp (aF _) (show d4 X.prog X.w _ h' _ (.lst ys)from⟨hz,cx,c',r',e⟩),rfl,q _ (I.hok.fresh (aF _))⟩
  rcases hq with hq|hq
  · obtain⟨cx,r',pl,hz⟩:=I.list hq
    have gC:=r'.length
    obtain⟨o,ho,hc,n,hd⟩:=pl.isList
    exact call_list_seq p (.inl rfl) ho hc hd (λh' c' kp e=>fin cx r' hz h' c' kp e) (by simp only[aL]<;>omega)
  · obtain⟨cx,r',pl,hz⟩:=I.tuple hq
    have gC:=r'.length
    obtain⟨o,ho,hc,n,hd⟩:=pl
    exact call_list_seq p (.inr rfl) ho hc hd (λh' c' kp e=>fin cx r' hz h' c' kp e) (by simp only[aL]<;>omega)
def Qf (K:ae)(T:String)(x:V)(H:Hp):Prop:=match x with
 |.str _=>T = "str"
 |.int _=>T = "int"
 |.ref p=>(T = "list"/\∃xs,gz K H p xs)\/(T = "tuple"/\∃o,K.lookup p=some o/\o.cls=.type "tuple"/\o.dict=none) \/
   (T = "dict"/\((∃cC,H p=some (.dK cC))\/∃cC,H p=some (.dT cC)))\/(T = "set"/\∃S n,H p=some (.set S n))
 |_=>False
theorem zs5 {ai:List (ah×df)}{σ:St}{H:Hp}{s:aj}{T:String}{x:V}{v:aa}(I:Inv X ai σ H s)(r:RelV x v)(ty:Qf X.K T x H) :
  s.TypeIs v T/\∀a,v=.ref a->∃ob,s.heap.get? a=some ob/\ob.dict=none:=by
 cases x with
 |str z=>
  obtain⟨t,rfl⟩:=r
  cases(show T = "str" from ty)
  exact⟨typeIs_str s z t,λ_ e=>nomatch e⟩
 |int i=>
  obtain⟨t,rfl⟩:=r
  cases(show T = "int" from ty)
  exact⟨yH s i t,λ_ e=>nomatch e⟩
 |ref p=>
  cases r
  rcases ty with⟨rfl,xs,hq⟩|⟨rfl,o,hk,hc,hd⟩|⟨rfl,hk⟩|⟨rfl,S,n,hk⟩
  ·obtain⟨cx,_,pl,_⟩:=I.list hq
   refine⟨pl.isList.typeIs,λa e=>?_⟩
   cases e
   obtain⟨o,n,e,c,hd,_⟩:=pl
   exact⟨o,e,hd⟩
  ·refine⟨⟨o,I.kIn p o hk,hc⟩,λa e=>?_⟩
   cases e
   exact⟨o,I.kIn _ o hk,hd⟩
  ·have z:∃o,s.heap.get? p=some o/\o.ExactDict:=by
    rcases hk with⟨cC,hk⟩|⟨cC,hk⟩
    ·obtain⟨_,_,_,_,o,_,_,e,ex,_⟩:=I.hok p _ hk
     exact⟨o,e,ex⟩
    ·obtain⟨_,_,_,_,o,_,_,e,ex,_⟩:=I.hok p _ hk
     exact⟨o,e,ex⟩
   obtain⟨o,e,ex⟩:=z
   refine⟨⟨o,e,ex.1⟩,λa e2=>?_⟩
   cases e2
   exact⟨o,e,ex.2.1⟩
  ·obtain⟨o,_,_,_,e,ex,_⟩:=I.hok p _ hk
   refine⟨⟨o,e,ex.1⟩,λa e2=>?_⟩
   cases e2
   exact⟨o,e,ex.2.1⟩
 |_=>exact False.elim ty
def Yr (K:ae)(T:String)(r:V->List V->Hp->VK->Prop)(to:TE)(t:TA):TE:=λσ H Q=>to σ H λx H1=>Qf K T x H1/\t σ H1 λxs H2=>r x xs H2 Q
variable {o e:Expr}{es:List Expr}{to:TE}{t:TA}{name:aK}{dQ eT:cX}{T id:String}{r:V->List V->Hp->VK->Prop}
theorem J1 (pa:PlainAttrs T)(slot:Slot T name id)(VU:typeOf (.builtin id)=pure (.type "method_descriptor"))(hm:Oo X id r)(ho:PE X o to)(ha:PA X (e::es) t)
  (m7:fD o name X.env (bG o X.env)=bG o X.env:=by rfl)
  (rE:((cu eT (ap (e::es) X.env)).all (λx=>!x.1)&&(e9 eT (dz [] X.env)).all (λx=>x.1.isSome)
   && decide ((e::es).length+([]:List gZ).length+(if([]:List gZ).isEmpty then 0 else 1)<30))=true:=by rfl)
  (m8:(dQ.endLine==eT.line)=true:=by rfl) (hs:ap (e::es) X.env=(false,bG e X.env)::ap es X.env:=by rfl) (kE:(cu eT (ap es X.env)).any (·.1)=false:=by rfl) :
  PE X (.Call (.Attribute o name dQ) (e::es) [] eT) (Yr X.K T r to t):=by
 intro ai s σ H Q I h
 refine wpAny_Call_method_late m7 rE m8 rfl (dw (ho ai s σ H _ I h) λv s1 dO=>?_)
 obtain⟨x,H1,I1,r1,ty,q1⟩:=dO
 obtain⟨h1,h2⟩:=zs5 I1 r1 ty
 refine⟨T,id,pa,slot,VU,h1,h2,?_⟩
 have hA:=ha eT ai s1 σ H1 _ I1 q1
 rw[hs]at hA ⊢
 refine Calls.callWith_builtin (by show(false || (cu eT (ap es X.env)).any (·.1))=false;rw[kE]<;>rfl) (Calls.evalArgs_plain ?_)
 exact dw hA λus s2 ⟨vs,H2,I2,r2,q2⟩=>hm ai s2 σ H2 x vs v us Q I2 r1 r2 q2
end
end L2
namespace L2
open PySem PySem.Spec PyProof.Rows
def On (X:Cx)(id:String)(r:V->List V->Hp->VK->Prop):Prop :=
 ∀(ai:List (ah×df)) (s:aj) (σ:St) (H:Hp) (x:V) (xs:List V) (v:aa) (us:List aa) (Q:VK),Inv X ai σ H s->RelV x v->bR xs us->r x xs H Q ->
  aT (aI X.prog X.w) X.A (call (.builtin id) (v::us)) (EP X ai σ Q) X.xe s
theorem bR.one:∀{x:V} {us:List aa},bR [x] us->∃u,us=[u]/\RelV x u
 |_,_,.cons r .nil=>⟨_,rfl,r⟩
theorem bR.eraseIdx:∀{xs:List V} {us:List aa} (i:Nat),bR xs us->bR (xs.eraseIdx i) (us.eraseIdx i)
 |_,_,_,.nil=>.nil
 |_,_,0,.cons _ t=>t
 |_,_,i+1,.cons r t=>.cons r (bR.eraseIdx i t)
theorem bR.rep {xs:List V}{us:List aa}(h:bR xs us):∀k:Nat,bR (ax k xs).flatten (ax k us).flatten
 |0=>.nil
 |k+1=>by
  rw[cj,cj,dL,dL]
  exact bR.append h (bR.rep h k)
theorem Q1 {α:Type}:∀(l:List α) (i:Nat),(l.eraseIdx i).length<=l.length
 |[],_=>aF _
 |_::_,0=>iN _
 |_::r,i+1=>Nat.succ_le_succ (Q1 r i)
theorem Q2 (cx:List aa):∀(k:Nat) (fv:List aa),
  sx (λx1 x2=>x1++x2) fv.toArray (ax k cx.toArray)=(fv++(ax k cx).flatten).toArray
 |0,fv=>by simp
 |k+1,fv=>by
  have e:fv.toArray++cx.toArray=(fv++cx).toArray:=by simp
  have e2:(fv++cx)++(ax k cx).flatten=fv++(ax (k+1) cx).flatten:=by
   rw[cj,dL,ed]
  rw[←e2,←Q2 cx k (fv++cx),←e,cj,mQ]
section
variable {X:Cx}{ai:List (ah×df)}{σ:St}{H:Hp}{s:aj}{l b:ah}{xs ys zs:List V}
theorem Inv.lset {cx its':List aa}{n:Nat}{f:Array aa->Array aa}{t':Nat}(I:Inv X ai σ H s)(hH:H l=some (.lst xs))
    (e:s.heap.get? l=some { cls:=.type "list",data:=.seq cx.toArray n }) (hf:f cx.toArray=its'.toArray) (hv:bR ys its') (hz:ys.length<=sizeLine) :
    Inv X ai σ (cY H l (.lst ys)) { s with heap:=s.heap.update l (df.mapSeq f),toks:=t' }:=by
  have q:=PySem.IsL.update e f
  rw[hf]at q
  refine I.write (x:=l) (e:=l) (by rw[hH];exact trivial) (.inl rfl) (λb' u hb hu=>(cI s.heap (df.mapSeq f) (Ne.symm hb)).trans hu) ⟨_,q⟩ ?_
  exact⟨hz,its',_,hv,q⟩
theorem Inv.lnew {cx:List aa}{t':Nat}(I:Inv X ai σ H s)(hv:bR ys cx)(hz:ys.length<=sizeLine) :
    Inv X ai σ (cY H s.heap.objs.size (.lst ys)) { s with heap:=s.heap.push { cls:=.type "list",data:=.seq cx.toArray },toks:=t' } :=
  I.laid (λ_ _ q=>ar _ q) (aF _) ⟨hz,cx,0,hv,bH _ rfl⟩
theorem Inv.fresh (I:Inv X ai σ H s):H s.heap.objs.size=none:=I.hok.fresh (aF _)
theorem Inv.lstM (I:Inv X ai σ H s)(hH:H l=some (.lst xs)):xs.length<=sizeLine/\∃(cx:List aa) (n:Nat),bR xs cx/\xs.length=cx.length/\s.heap.get? l=some { cls:=.type "list",data:=.seq cx.toArray n }:=by
  obtain⟨z,cx,n,r,e⟩:=I.hok l _ hH
  exact⟨z,cx,n,r,r.length,e⟩
theorem uW {n:Nat}(h:n<=sizeLine):di.List.listTooLong n=false:=by
 unfold di.List.listTooLong
 exact decide_eq_false (by omega)
end
section
variable {X:Cx}
def xL:V->List V->Hp->VK->Prop:=λx vs H Q=>∃l xs y,x=.ref l/\vs=[y]/\H l=some (.lst xs)/\xs.length<sizeLine/\Q .non (cY H l (.lst (xs++[y])))
theorem Jp:On X "list.append" xL:=by
 intro ai s σ H x vs v us Q I rx rv h
 obtain⟨l,xs,y,rfl,rfl,hH,hz,q⟩:=h
 cases rx
 obtain⟨u,rfl,ru⟩:=rv.one
 obtain⟨z,cx,n,r,hl,e⟩:=I.lstM hH
 refine mD F.slot_list_append ⟨_,e,rfl⟩ F.entry_list_append (F.args_list_append_2 _ _) (PySem.list_append l cx.toArray n u (by rw[aL];omega)) ⟨e,?_⟩
 refine⟨.non,_,I.lset (its':=cx++[u]) hH e (by simp) (r.append (.cons ru .nil)) ?_,rfl,q⟩
 rw[aX,cB]
 omega
def Bz:V->List V->Hp->VK->Prop:=λx vs H Q=>∃l xs i k y,x=.ref l/\vs=[.int i]/\H l=some (.lst xs)/\-(2 ^ 63)<=i/\i<2 ^ 63/\seqIndex? i xs.length=some k/\xs[k]?=some y/\Q y (cY H l (.lst (xs.eraseIdx k)))
theorem zm0:On X "list.pop" Bz:=by
 intro ai s σ H x vs v us Q I rx rv h
 obtain⟨l,xs,i,k,y,rfl,rfl,hH,h1,h2,hk,hy,q⟩:=h
 cases rx
 obtain⟨u,rfl,ru⟩:=rv.one
 obtain⟨t,rfl⟩:=ru
 obtain⟨z,cx,n,r,hl,e⟩:=I.lstM hH
 obtain⟨w,hw,oW⟩:=r.get hy
 refine mD F.slot_list_pop ⟨_,e,rfl⟩ F.entry_list_pop (F.args_list_pop_2 _ _)
  (MeetsSeq.list_pop_at l cx.toArray n i t k w (fitsIndex_both h1 h2) (by rw[aL,←hl];exact hk) (by rw[←Array.getElem?_toList];exact hw) (by rw[aL];omega)) ⟨e,?_⟩
 refine⟨y,_,I.lset (its':=cx.eraseIdx k) hH e ?_ (r.eraseIdx k) ?_,oW,q⟩
 ·show cx.toArray.eraseIdxIfInBounds k=(cx.eraseIdx k).toArray
  rw[List.eraseIdxIfInBounds_toArray]
 ·have:=Q1 xs k
  omega
theorem zp6 {α:Type}(xs:List α)(k:Nat):(ax k xs).flatten.length=k*xs.length:=by
 induction k with
 |zero=>simp
 |succ k ih=>rw[cj,dL,aX,ih,Nat.succ_mul,Nat.add_comm]
end
section
variable {prog:bn}{w:bP}{A:bx}{E:aa->aj->Prop}{s:aj}
end
section
variable {X:Cx}
end
end L2
namespace Att
open PySem PySem.W PySem.Calls PyProof.Rows
theorem YT {P:Params}{h:aM}:∀(ns:List Int) (vs:List aa),WellAll P h vs (ns.map WData.int)->IntsAre vs ns:=by
 intro ns
 induction ns with
 |nil=>
  intro vs w
  rw[pB]at w
  cases w
  exact .nil
 |cons n ns ih=>
  intro vs w
  rw[aV]at w
  cases w with
  |cons a b=>
   cases a
   exact .cons _ _ (ih _ b)
theorem ZN {l:OpenLaw}{n:Nat}(hn:l.most=some n){P:Params}{h:aM}{args:List WData}{vals:List aa}
    (xD:l.row.toRowW.claim.pre args=true) (yX:WellAll P h vals args) :
    ∃a vs ns,vals=[aa.ref a]/\args=[WData.list (ns.map WData.int)]/\h.get? a=some { cls:=.type "list",data:=.seq vs.toArray }/\IntsAre vs ns/\ns.length<=n:=by
  have VR:WShape.hasAll [] args [.list .int]=true:=(pre_splitW xD).1
  have hc:l.pre.holds [] { args:=args }=true:=(pre_splitW xD).2
  obtain⟨d,r,rfl,h1,h2⟩:=hasAllW_cons VR
  obtain rfl:=hasAllW_nil h2
  obtain⟨xs,rfl,h3⟩:=hasW_list h1
  obtain⟨ns,rfl⟩:=items_int h3
  have gC:ns.length<=n:=by
    unfold OpenLaw.pre at hc
    have h4:(WTm.not (.lt (.lit (.int (n:Int))) (.len (.arg 0)))).holds [] { args:=[.list (ns.map .int)] }=true:=by
      have h4:=(holds_andW hc).1
      rw[hn]at h4
      exact h4
    have h5:=condW_of h4 (w_not (w_lt w_lit (w_len_list (w_arg rfl))))
    rw[aq]at h5
    refine Nat.le_of_not_lt λq=>?_
    have q':(n:Int)<((ns.length:Nat):Int):=by omega
    first
      |(rw[decide_eq_true q']at h5;exact absurd h5 (by decide))
      |(simp at h5;omega)
  cases yX with
  |cons w1 w2=>
    cases w2
    cases w1 with
    |list ho LC=>exact⟨_,_,ns,rfl,rfl,ho,YT ns _ LC,gC⟩
theorem Z9 (l:OpenLaw)(args:List WData):l.row.toRowW.claim.post args (.bool true) args=true :=
  postW_of (r:=l.row.toRowW) (X:=(true==true))
    (show WShape.has [] (.bool true) .bool=true by first|rfl|decide|simp[WShape.has,WShape.arms,WShape.armsAll])
    (show(WTm.eq .res (.lit (.bool true))).value [] { args:=args,res:=some (.bool true),after:=args }=some (.bool (true==true))from w_eq_bool (w_res rfl) w_lit) rfl
theorem attach_call {l:OpenLaw}{n:Nat}{q:bn}{loose:List aK}{XP:(aK->Option aa)->aM->Prop}{YP:bP->aM->Prop}{d:DefRec}
    (hn:l.most=some n) (E9:d.params.defaults=[])
    (call:∀(w:bP) (s₀ s₁:aj) (mg mb:aK->Option aa) (fa:ah) (o:df) (pm cd doc:aa) (a:ah) (vs:List aa) (ns:List Int),
      Ground q loose [] XP w s₀ mg mb s₁.heap->YP w s₁.heap ->
      s₁.heap.get? fa=some o->o.data=.func (docDef d.name d.params d.body d.scope pm cd doc)->s₁.heap.CodeRec cd d.name->mg d.name=some (.ref fa) ->
      s₁.heap.get? a=some { cls:=.type "list",data:=.seq vs.toArray }->IntsAre vs ns->ns.length<=n->s₁.gens = #[] ->
      eJ (aI l.prog w) nj (.call (.ref fa) ⟨[.ref a],[]⟩) (λr s'=>r=.ok (.ret (.bool true))/\OldK s₁.heap s'.heap/\s'.os=s₁.os/\AllBare s'.gens) s₁) :
    WalkO q loose XP YP l.row.toRowW d [] (λf vs=>PySem.call f vs):=by
  intro w s₀ s₁ mg mb G Y fa o pm cd doc dV kV ho hd iI hD hmg hg args vals as xD VE hrd yX hlo
  obtain rfl:dV=.none:=Dflts.none hD E9
  obtain rfl:kV=.none:=Dflts.noKw hD
  obtain⟨a,vs,ns,rfl,rfl,Be,uN,gC⟩:=ZN hn xD yX
  refine enter_call (gJ (call w s₀ s₁ mg mb fa o pm cd doc a vs ns G Y ho (fd_plain hd) iI hmg Be uN gC hg) λr s' hq=>?_)
  obtain⟨rfl,h2,h3,h4⟩:=hq
  exact⟨.inl ⟨.bool true,.bool true,[],rfl,λ_=>rfl,.bool true,Z9 l _,λ_=>⟨ou.nil,λ_ hm=>(nomatch hm)⟩⟩,h2,h3,h4⟩
section
variable {prog:bn}{w:bP}{A:bx}{E:aa->aj->Prop}{s:aj}{K:Frag}
end
end Att
namespace L2
open PySem PySem.Spec PyProof.Rows
theorem Q3:∀{vs:List aa} {ns:List Int},IntsAre vs ns->bR (ns.map V.int) vs
 |_,_,.nil=>.nil
 |_,_,.cons n t h=>.cons ⟨t,rfl⟩ (Q3 h)
def zU (H:Hp):Prop:=∀b,H b=none\/∃o xs,H b=some (.frz o (.lst xs))
theorem zm1 {P:bn}{w:bP}{K:ae}{mg mb:aK->Option aa}{CX:sJ}{k:Nat}{fa a:ah}{fd:aH}{x:aK}{sp:Sp}{s₁:aj}{vs:List aa}{ns:List Int}
    (KX:K.In s₁.heap) (jP:s₁.heap.Ns av mg) (hb:s₁.heap.Ns yF mb) (AW:∀x:aK,x≠"__name__"->mb x=bW x) (L1:s₁.heap.NoLimit) (hg:s₁.gens = #[])
    (ha:s₁.heap.get? a=some { cls:=.type "list",data:=.seq vs.toArray }) (hi:IntsAre vs ns) (hl:ns.length<=sizeLine) (hr:dU k nj)
    (F:∀base:aM,K.In base->base.Ns av mg->cv P w K mg base CX k fa fd [x] sp) (E6:∀(s:aj) (u:aa),pC s fd ⟨[u],[]⟩ [(x,u)])
    (yW:∀H:Hp,zU H->gz K H a (ns.map V.int)->sp [.ref a] H (λv _=>v=.bl true) λ_ _ _=>False)
    (Lx:∀H e s',CX [] H s₁ (λ_ _ _=>False) e s'->False) :
    eJ (aI P w) nj (.call (.ref fa) ⟨[.ref a],[]⟩) (λr s'=>r=.ok (.ret (.bool true))/\OldK s₁.heap s'.heap/\s'.os=s₁.os/\AllBare s'.gens) s₁:=by
  have rv:=Q3 hi
  have Mp:=hi.length
  have core:∀H:Hp,zU H->gz K H a (ns.map V.int)->kB P w H s₁.heap->(∀b,H b≠none->b=a)->(H a≠none->K.lookup a=none) ->
      eJ (aI P w) nj (.call (.ref fa) ⟨[.ref a],[]⟩) (λr s'=>r=.ok (.ret (.bool true))/\OldK s₁.heap s'.heap/\s'.os=s₁.os/\AllBare s'.gens) s₁:=by
    intro H hO hS hok hA hK
    have rX:∀{b:ah} {o:df},s₁.heap.get? b=some o->H b=none->(oO s₁.heap H).get? b=some o:=λe n=>zmq e n
    have GA:∀{b:ah} {o:df} {es:Array DictEntry} {ep:Nat},s₁.heap.get? b=some o->o.data=.dict es ep->H b=none:=λ{b o es ep} e d=>by
      cases q:H b with
      |none=>rfl
      |some u=>
        have e':b=a:=hA b (by rw[q];simp)
        subst e'
        rw[ha]at e;cases e
        have d':kj.seq vs.toArray _=kj.dict es ep:=d
        cases d'
    have IX:∀{b:ah} {m:aK->Option aa},s₁.heap.Ns b m->(oO s₁.heap H).Ns b m:=λ{b m} ⟨o,es,ep,e,d,r⟩=>⟨o,es,ep,rX e (GA e d),d,r⟩
    have O3:K.In (oO s₁.heap H):=λb o e=>rX (KX b o e) (by
      cases q:H b with
      |none=>rfl
      |some u=>
        have e':b=a:=hA b (by rw[q];simp)
        subst e'
        rw[hK (by rw[q];simp)]at e;cases e)
    have hM:Mod K mg (oO s₁.heap H):=⟨O3,IX jP,⟨mb,IX hb,AW⟩,let⟨mc,h1,h2⟩:=L1;⟨mc,IX h1,h2⟩⟩
    have e0:qY P w K mg (oO s₁.heap H) nj [] s₁ H:=⟨rfl,hM,λb o e=>zpk e,p6 (Z5 _ _),trivial,λb hb=>absurd (show b∈([]:List ah)from hb) (by simp),hok,.of_eq hg⟩
    refine gJ ((F _ O3 (IX jP)).run nj [] s₁ H ⟨[.ref a],[]⟩ [.ref a] [.ref a] _ _ hr e0 (E6 s₁ (.ref a)) (.cons rfl .nil) (yW H hO hS)) λr s' h=>?_
    cases r with
    |error e=>exact(Lx H e s' h).elim
    |ok fl=>
      cases fl with
      |next=>exact False.elim h
      |brk=>exact False.elim h
      |cont=>exact False.elim h
      |ret u=>
        obtain⟨v,H',os,bare,un,L7,r',q⟩:=h
        have q':v=.bl true:=q
        subst q'
        obtain rfl:u=aa.bool true:=r'
        refine⟨rfl,OldK.of_keep λb o e=>?_,os,bare⟩
        cases q:H b with
        |none=>exact un.keep b o e q (by intro z;exact absurd (show b∈([]:List ah)from z) (by simp)) (by simp)
        |some u=>
          rcases hO b with z|⟨ob,xs,z⟩
          · rw[q]at z;cases z
          · have z2:=un.frzs b ob _ z
            obtain⟨e1,_⟩:=hok b _ z
            obtain⟨e2,_⟩:=L7 b _ z2
            rw[e]at e1;cases e1
            exact e2
  cases hk:K.lookup a with
  |some o=>
    have e:=KX a o hk
    rw[ha]at e
    cases e
    refine core (λ_=>none) (λ_=>.inl rfl) (.inr ⟨_,vs.toArray,_,hk,rfl,rfl,rfl,by rw[aL,Mp];exact hl,by simpa using rv⟩) (λb u z=>by have z':(none:Option HO)=some u:=z;cases z') (λb z=>absurd rfl z) λz=>absurd rfl z
  |none=>
    refine core (λb=>if b=a then some (.frz { cls:=.type "list",data:=.seq vs.toArray } (.lst (ns.map V.int)))else none) (λb=>?_) (.inl (.inr ⟨{ cls:=.type "list",data:=.seq vs.toArray },if_pos rfl⟩)) (λb u z=>?_) (λb z=>?_) λ_=>hk
    · by_cases hb:b=a
      · exact .inr ⟨_,_,if_pos hb⟩
      · exact .inl (if_neg hb)
    · by_cases hb:b=a
      · have z':=(if_pos hb).symm.trans z
        cases z'
        subst hb
        exact⟨ha,by rw[aq];exact hl,vs,_,rv,ha⟩
      · have z':=(if_neg hb).symm.trans z
        cases z'
    · by_cases hb:b=a
      · exact hb
      · exact absurd (if_neg hb) z
end L2
namespace L2
open PySem PySem.Spec PyProof.Rows
theorem walk_of {l:lP}{n k:Nat}{q:bn}{loose:List aK}{XP:(aK->Option aa)->aM->Prop}{YP:bP->aM->Prop}{d:DefRec}{K:Params->ae}{CX:bP->sJ}{sp:bP->Sp}{x:aK}
  (hn:l.most=some n) (yU:n<=sizeLine) (E9:d.params.defaults=[]) (hr:dU k nj)
  (hY:∀(w:bP) (h:aM),YP w h->(K w.params).In h)
  (F:∀(w:bP) (mg:aK->Option aa) (fa:ah) (h:aM),(K w.params).In h->h.Ns av mg->mg d.name=some (.ref fa) ->
   ∃fd:aH,(∀(s:aj) (u:aa),pC s fd ⟨[u],[]⟩ [(x,u)]) /\
    ∀base:aM,(K w.params).In base->base.Ns av mg->cv l.prog w (K w.params) mg base (CX w) k fa fd [x] (sp w))
  (yW:∀(w:bP) (H:Hp) (a:ah) (ns:List Int),ns.length<=n->zU H->gz (K w.params) H a (ns.map V.int)->sp w [.ref a] H (λv _=>v=.bl true) λ_ _ _=>False)
  (Lx:∀(w:bP) (H:Hp) (s:aj) (e:aa) (s':aj),CX w [] H s (λ_ _ _=>False) e s'->False) :
  uB q loose XP YP l.row.toRowW d [] (λf vs=>PySem.call f vs):=by
 refine Att.attach_call hn E9 λw s₀ s₁ mg mb fa o pm cd doc a vs ns G Y ho hd iI hmg Be uN gC hg=>?_
 have KX:=hY w _ Y
 obtain⟨fd,hb,hF⟩:=F w mg fa _ KX G.T.g hmg
 exact zm1 KX G.T.g G.T.b G.T.builtins G.T.nolimit hg Be uN (bZ gC yU) hr hF hb (λH hO hS=>yW w H a ns gC hO hS) λH e s'=>Lx w H s₁ e s'
end L2
namespace L2
open PySem PySem.Spec PyProof.Rows
def inClass (s:bD)(j:Nat):bD:=match s with
 |.ClassDef _ _ _ body _ _ _ _ _ _ _=>body.getD j (.Pass ⟨0,0,0,0⟩)
 |_=>.Pass ⟨0,0,0,0⟩
def mG (s:bD):Arguments:=match s with
  |.FunctionDef _ a _ _ _ _ _ _ _ _=>a
  |_=>{ posonlyargs:=[],args:=[],vararg:=none,kwonlyargs:=[],kw_defaults:=[],kwarg:=none,defaults:=[] }
def fY (s:bD):List bD:=match s with
 |.FunctionDef _ _ b _ _ _ _ _ _ _=>b
 |_=>[]
def aQ (s:bD):gc:=match s with
  |.FunctionDef _ _ _ _ _ _ sc _ _ _=>sc
  |_=>{ kind:=.function,names:=[],isGenerator:=false,isCoroutine:=false }
abbrev eO:sJ:=λ_ _ _ _ _ _=>False
abbrev E0:XK:=λ_ _ _=>False
theorem oe {X:Cx}:jO eO X E0:=λ_ _ _ _ _ _ _ h=>h.elim
section
variable {P:bn}{w:bP}{K:ae}{mg:aK->Option aa}{base:aM}
end
theorem vG {A:bx}{k:Nat}(hr:dU k A):A.units+1<ip:=fU (Nat.add_le_add_left (by decide:1<=64) _) hr.units
theorem tm {n:Nat}(h:n<=1000):n<sizeLine:=fU h (by decide)
section
variable {X:Cx}
theorem pv (i:Nat){x:aK}{pos:cX}(hN:X.N[i]?=some x:=by rfl)(hv:oK X.env.scope x:=by first|exact Or.inl rfl|exact Or.inr (Or.inl rfl)|exact Or.inr (Or.inr rfl))(hd:(x==("__debug__":aK))=false:=by decide)
  (iI:(x==("__classdict__":aK))=false:=by decide):PE X (.Name x pos) (tw i):=v8 hN hv hd iI
end
def bC (H H':Hp):Prop:=∀b o,H b=some o->H' b=some o
theorem bC.refl (H:Hp):bC H H:=λ_ _ h=>h
theorem bC.trans {H H1 H2:Hp}(a:bC H H1)(b:bC H1 H2):bC H H2:=λc o h=>b c o (a c o h)
theorem bC.free {H H':Hp}(e:bC H H'){l:ah}(h:H' l=Option.none):H l=Option.none:=by
 cases q:H l with
 |none=>rfl
 |some o=>
  rw[e l o q]at h
  cases h
theorem bC.seq {K:ae}{H H':Hp}{a:ah}{xs:List V}(e:bC H H')(h:gz K H a xs):gz K H' a xs:=by
 rcases h with(h|⟨o,h⟩)|h
 ·exact .inl (.inl (e _ _ h))
 ·exact .inl (.inr ⟨o,e _ _ h⟩)
 ·exact .inr h
end L2
namespace L2
open PySem PySem.Spec PyProof.Rows
def B3 (a C:ah)(dx tb:Option ah)(h:aM):Prop :=
  ∃a0,h.get? a=some { cls:=.ref C,dict:=dx,data:=.fields #[a0,tb.elim aa.none .ref,.none,.none,.bool false,.none] }
def CO (T:ah)(h:aM):Prop:=∃ts,h.get? T=some { cls:=.type "traceback",data:=.fields ts }/\ts[3]?=some .none
theorem B3.stay {a C:ah}{dx tb:Option ah}{h h':aM}(x:B3 a C dx tb h)(k:∀o,h.get? a=some o->h'.get? a=some o):B3 a C dx tb h' :=
 let⟨a0,e⟩:=x;⟨a0,k _ e⟩
theorem CO.stay {T:ah}{h h':aM}(x:CO T h)(k:∀o,h.get? T=some o->h'.get? T=some o):CO T h' :=
 let⟨ts,e,q⟩:=x;⟨ts,k _ e,q⟩
abbrev nB (a C:ah)(dx tb:Option ah):HO:=.ext (B3 a C dx tb)
abbrev Qd (T:ah):HO:=.ext (CO T)
def qI (H:Hp)(a C:ah)(dx tb:Option ah):Prop:=H a=some (nB a C dx tb)/\∀T,tb=some T->H T=some (Qd T)/\T≠a
def eA (H:Hp)(a C:ah)(dx:Option ah)(T:ah):Hp:=cY (cY H T (Qd T)) a (nB a C dx (some T))
theorem NC {H:Hp}{a C T:ah}{dx tb:Option ah}(x:qI H a C dx tb)(hT:H T=none):qI (eA H a C dx T) a C dx (some T):=by
 have ne:T≠a:=λe=>by rw[e,x.1]at hT;cases hT
 refine⟨zt,λT' e=>?_⟩
 cases e
 exact⟨by unfold eA;rw[zk ne,zt],ne⟩
section
variable {X:Cx}{ai:List (ah×df)}{σ:St}{H:Hp}{s:aj}{a C:ah}{dx tb:Option ah}{M:Model}{A1 A2:bx}{E1 E2:aa->aj->Prop}
theorem Inv.xc (I:Inv X ai σ H s)(x:qI H a C dx tb):B3 a C dx tb s.heap:=(I.hok a _ x.1).1
theorem Inv.tbo {T:ah}(I:Inv X ai σ H s)(x:qI H a C dx (some T)):CO T s.heap:=(I.hok T _ (x.2 T rfl).1).1
theorem Inv.entry {head:aa}{gN:Bool}{Q:Unit->aj->Prop}(I:Inv X ai σ H s)(iX:X.stack=X.env::X.outer)(hf:X.env.frame=some X.env.locals)(hA:A1.frames=some X.stack)(x:qI H a C dx tb)
    (h:∀s' T,H T=none->Inv X ai σ (eA H a C dx T) s'->Q () s') :
    aT M A1 (do let fr ← frameOf X.env;let pl ← entryPlaceOf X.env.locals gN;let b ← EntryCells.newEntry head fr .none (rawInt X.env.locals) .none pl;setField (.ref a) 1 b) (λ_ s1=>aT M A2 (setFlight (.ref a) none) Q E1 s1) E2 s:=by
  have Fd:=I.stack
  rw[iX]at Fd hA
  refine aw (wpAny_frameOf_fun hA Fd hf λh1 qO=>aw (wpAny_entryPlaceOf λpl gI=>?_))
  unfold EntryCells.newEntry newFields
  refine aw (jD ?_ (gI.sizeOk5 _ _ _ _ _))
  have fr:∀b,H b≠none->b∉(X.env::X.outer).filterMap (·.frame):=λb hb hm=>hb (I.stkFree b (by rw[iX];exact hm))
  obtain⟨a0,he⟩:=I.xc x
  have e1:=(qO.2.1 a (fr a (by rw[x.1];simp))).trans he
  generalize VT:([head,aa.ref X.env.locals,.none,rawInt X.env.locals,.none]++(if pl.isEmpty then ax 6 aa.none else pl)).toArray=ts
  have Vr:ts[3]?=some (rawInt X.env.locals):=by rw[←VT];simp
  have O4:3<ts.size:=(ij.mp Vr).1
  have e2:=ar (h:=h1) { cls:=.type "traceback",dict:=none,data:=.fields ts } e1
  refine wpAny_setField e2 rfl (by simp) ?_
  have neT:h1.objs.size≠a:=lN (aO e1)
  have e3:=dW (df.mapFields (·.setIfInBounds 1 (aa.ref h1.objs.size))) e2 rfl
  have t3:=(cI (h1.push { cls:=.type "traceback",dict:=none,data:=.fields ts }) (df.mapFields (·.setIfInBounds 1 (aa.ref h1.objs.size))) (Ne.symm neT)).trans (bH h1 rfl)
  unfold setFlight
  refine aw (wpAny_field e3 rfl (x:=.ref h1.objs.size) (by simp) ?_)
  rw[if_pos (show(aa.ref h1.objs.size != aa.none)=true from by simp)]
  refine wpAny_setField t3 rfl O4 ?_
  suffices z:∀h4,h4=((h1.push { cls:=.type "traceback",dict:=none,data:=.fields ts }).update a (df.mapFields (·.setIfInBounds 1 (aa.ref h1.objs.size)))).update h1.objs.size (df.mapFields (·.setIfInBounds 3 ((none:Option ah).elim aa.none λf=>rawInt f)))->Q () ⟨h4,s.gens,s.drawn,s.toks,s.os⟩from z _ rfl
  intro h4 Fe
  have LW:=Fe.symm
  clear Fe
  have IP:h1.objs.size=s.heap.objs.size:=qO.1
  have up:∀b o,b≠a->h1.get? b=some o->h4.get? b=some o:=λb o hb q=>by
    rw[←LW,cI _ _ (lN (aO q)),cI _ _ (Ne.symm hb)]
    exact ar _ q
  have B8:H h1.objs.size=none:=I.hok.fresh (by rw[IP];exact aF _)
  have e4:h4.get? a=some { cls:=.ref C,dict:=dx,data:=.fields #[a0,.ref h1.objs.size,.none,.none,.bool false,.none] }:=by
    rw[←LW,cI _ _ neT,e3];simp[df.mapFields]
  have t4:h4.get? h1.objs.size=some { cls:=.type "traceback",data:=.fields (ts.setIfInBounds 3 .none) }:=by
    rw[←LW,dW _ t3 rfl];simp[df.mapFields]
  have kp:∀b o,H b≠none->b≠a->s.heap.get? b=some o->h4.get? b=some o:=λb o hb ha q=>up b o ha ((qO.2.1 b (fr b hb)).trans q)
  have nn:∀b,H b=none->b≠a:=λb hb q=>by rw[q,x.1]at hb;cases hb
  have nT:∀b o,s.heap.get? b=some o->b≠h1.objs.size:=λb o q=>by rw[IP];exact bo (aO q)
  have hm:∀b,b∈(X.env::X.outer).filterMap (·.frame)->b=X.env.locals\/b∈X.fs:=λb hb=>aE.mp (I.stkSub b (by rw[iX];exact hb))
  refine h _ h1.objs.size B8 (I.step (g':=s.gens) (t':=s.toks) (d':=s.drawn) (ch:=[]) (λb z=>nomatch z) (λb o IA Lu _ q n=>up b o (nn b n) ((qO.2.1 b λz=>(hm b z).elim IA Lu).trans q)) (λb o _ _ _ q n=>?_) (λb o _ q n=>?_) (λb o _ q=>?_) (λb xs q=>?_) (λb o u q=>?_) (λb ps q=>?_) (λm q=>?_) (λb u q=>?_) I.bare)
  · obtain⟨sl,q'⟩:=qO.2.2 b o q
    exact⟨sl,up b _ (nn b n) q'⟩
  · unfold eA;rw[zk (nn b n),zk (nT b o q)];exact n
  · by_cases hb:b=a
    · rw[hb];exact⟨_,e4⟩
    · obtain⟨sl,q'⟩:=qO.2.2 b o q
      exact⟨_,up b _ hb q'⟩
  · unfold eA;rw[zk (λz=>by rw[z,x.1]at q;cases q),zk (zl q B8)];exact q
  · unfold eA;rw[zk (λz=>by rw[z,x.1]at q;cases q),zk (zl q B8)];exact q
  · exact⟨#[],by unfold eA;rw[zk (λz=>by rw[z,x.1]at q;cases q),zk (zl q B8),q];simp⟩
  · obtain⟨o,es,ep,ho,r⟩:=q
    obtain⟨sl,q'⟩:=qO.2.2 _ o ho
    exact⟨_,es,ep,up _ _ (nn _ I.free) q',r⟩
  · by_cases hb:b=a
    · subst hb
      have q:eA H b C dx h1.objs.size b=some u:=q
      unfold eA at q
      rw[zt]at q
      cases q
      exact⟨⟨a0,e4⟩,⟨_,e4⟩,λ_ _ z k=>z.stay k⟩
    · unfold eA at q
      rw[zk hb]at q
      by_cases wX:b=h1.objs.size
      · rw[wX,zt]at q
        cases q
        rw[wX]
        exact⟨⟨_,t4,by simp[O4]⟩,⟨_,t4⟩,λ_ _ z k=>z.stay k⟩
      · rw[zk wX]at q
        refine(I.hok b u q).stay (λc v hc z=>kp c v ?_ ?_ z) (λc z=>?_) (λc xs z=>?_)
        · rcases hc with rfl|hc
          · rw[q];simp
          · rw[hc];simp
        · rcases hc with rfl|hc
          · exact hb
          · intro e;rw[e,x.1]at hc;cases hc
        · unfold eA;rw[zk (λe=>by rw[e,x.1]at z;cases z),zk (zl z B8)];exact z
        · unfold eA;rw[zk (λe=>by rw[e,x.1]at z;cases z),zk (zl z B8)];exact z
theorem Inv.note {Q:Unit->aj->Prop}(I:Inv X ai σ H s)(iX:X.stack=X.env::X.outer)(hf:X.env.frame=some X.env.locals)(hA:A1.frames=some X.stack)(x:qI H a C dx tb)
  (h:∀s' T,H T=none->Inv X ai σ (eA H a C dx T) s'->Q () s') :
  aT M A1 (noteFrame (.ref a) X.env) (λ_ s1=>aT M A2 (setFlight (.ref a) none) Q E1 s1) E2 s:=by
 obtain⟨a0,he⟩:=I.xc x
 unfold noteFrame
 simp only[hf]
 cases tb with
 |none=>
  refine aw (wpAny_field he rfl (x:=.none) (by simp) ?_)
  rw[if_neg (by decide)]
  exact I.entry iX hf hA x h
 |some T=>
  obtain⟨ts,ht,h3⟩:=I.tbo x
  refine aw (wpAny_field he rfl (x:=.ref T) (by simp) ?_)
  rw[if_pos (show(aa.ref T != aa.none)=true from by simp)]
  refine aw (wpAny_field ht rfl h3 ?_)
  rw[if_neg (show¬((aa.none==rawInt X.env.locals)=true)from by simp[rawInt])]
  refine aw (wpAny_setField ht rfl (ij.mp h3).1 ?_)
  rw[nP s.heap T _ ts 3 .none ht rfl h3]
  exact I.entry iX hf hA x h
end
def yJ (P:bn)(w:bP):sJ:=λouter H s E u s'=>∃(a C:ah) (dx:Option ah) (T:ah) (H':Hp),u=.ref a/\s'.os=s.os/\AllBare s'.gens/\Un (tW outer) [] H H' s.heap s'.heap/\kB P w H' s'.heap/\qI H' a C dx (some T)/\E u none H'
abbrev GK:=St->ah->Hp->Prop
def km (X:Cx)(G:GK):Prop:=∀(ai:List (ah×df)) (σ:St) (H:Hp) (s:aj) (a C:ah) (dx tb:Option ah),Inv X ai σ H s->qI H a C dx tb->(∀T,H T=none->G σ a (eA H a C dx T))->X.xe (.ref a) s
theorem zkb {P:bn}{w:bP}{K:ae}{mg:aK->Option aa}{base:aM}{N:List aK}{qual:aK}{scope:gc}{f:ah}{cd:aa}{A:bx}{outer:List Env}{s:aj}{H:Hp}{E:XK} :
  km (lF (yJ P w) P w K mg base N qual scope f cd A outer s H E) (λ_ a H'=>E (.ref a) none H'):=by
 intro ai σ H1 s1 a C dx tb I x g
 show aT _ _ (leaving _ _) _ _ _
 unfold leaving
 refine aw (I.note rfl rfl I.ok.frames x λs2 T hT J=>?_)
 exact⟨a,C,dx,T,_,rfl,J.os,J.bare,J.base,J.hok,NC x hT,g T hT⟩
def EX (G:GK)(σ:St):XK:=λu _ H'=>∃a C dx T,u=.ref a/\qI H' a C dx (some T)/\∀T',H' T'=none->G σ a (eA H' a C dx T')
section
variable {X:Cx}{k:Nat}{f C:ah}{fd:aH}{ps:List aK}{sp:Sp}{gS:List V}{ds:List aa}{G:GK}{x m:aK}{p pos dQ:cX}{e o:Expr}{es:List Expr}{ta:TE}{t:TA}
theorem Inv.raised {ai:List (ah×df)}{σ:St}{H:Hp}{s:aj}{u:aa}{s':aj}(I:Inv X ai σ H s)(hx:km X G)(h:yJ X.prog X.w X.stack H s (EX G σ) u s'):X.xe u s':=by
 obtain⟨a,C,dx,T,H',rfl,ho,hg,un,hok,xr,w⟩:=h
 have J:Inv X ai σ H' s':=I.call' (ch:=[]) ho un hok hg (λb z=>nomatch z)
 obtain⟨a2,C2,KD,T2,e2,MY,w⟩:=w
 cases e2
 exact hx ai σ H' s' a C2 KD (some T2) J MY w
def BG (C:ah)(sp:Sp)(gS:List V)(G:GK)(t:TA):TE:=λσ H Q=>t σ H λvs H1=>∀x dx,H1 x=none->H1 dx=none->dx≠x ->
 sp (.ref x::(vs++gS)) (cY (cY H1 dx (.own x)) x (.ins C dx [])) (λv H2=>v=.non/\Q (.ref x) H2) (EX G σ)
theorem zkc {ai:List (ah×df)}{σ:St}{H:Hp}{s:aj}{Q:VK}{us:List aa}{vs:List V}(M:Mk X.K C f)(F:cv X.prog X.w X.K X.mg X.base (yJ X.prog X.w) k f fd ps sp)(hr:dU (k+1) X.A)(hb:bB X.K fd ps ds)(hd:bR gS ds)
  (hx:km X G) (I:Inv X ai σ H s) (r:bR vs us)
  (h:∀x dx,H x=none->H dx=none->dx≠x->sp (.ref x::(vs++gS)) (cY (cY H dx (.own x)) x (.ins C dx [])) (λv H2=>v=.non/\Q (.ref x) H2) (EX G σ)) :
  aT (aI X.prog X.w) X.A (call (.ref C) us) (EP X ai σ Q) X.xe s:=by
 have hq:=h (s.heap.objs.size+1) s.heap.objs.size (I.hok.fresh (iN _)) (I.hok.fresh (aF _)) (bo (fM _))
 have I2:=Inv.made (C:=C) I
 have r2:bR (V.ref (s.heap.objs.size+1)::(vs++gS)) (aa.ref (s.heap.objs.size+1)::(us++ds)):=.cons rfl (r.append hd)
 have hl:(aa.ref (s.heap.objs.size+1)::us++ds).length=ps.length:=(F.len _ _ _ _ hq▸r2.length).symm
 refine wpAny_call (Ru (f:=f) I.kIn M.makes M.init (beq_iff_eq.mp M.fn) (gJ (F.run _ X.stack _ _ ⟨aa.ref (s.heap.objs.size+1)::us,[]⟩ (aa.ref (s.heap.objs.size+1)::(us++ds)) _ _ (EX G σ) (hr.make C us []) (I2.env0.make C us []) (hb _ _ I2.kIn hl) r2 hq) λz s' qL=>?_))
 cases z with
 |error u=>exact I2.raised hx qL
 |ok fl=>
  cases fl with
  |ret u=>
   obtain⟨v,H',I3,rv,ev,q3⟩:=I2.after qL
   subst ev
   exact⟨rv,V.ref (s.heap.objs.size+1),H',I3,rfl,q3⟩
  |_=>exact False.elim qL
theorem zm2 (M:Mk X.K C f)(F:cv X.prog X.w X.K X.mg X.base (yJ X.prog X.w) k f fd ps sp)(hr:dU (k+1) X.A)(hg:Gl X x)(hm:X.mg x=some (.ref C))(hb:bB X.K fd ps ds)(hd:bR gS ds)(hx:km X G)
  (ha:PA X (e::es) t) (i7:(x==("__debug__":aK))=false:=by decide) (he:ap (e::es) X.env=(false,bG e X.env)::ap es X.env:=by rfl) (gI:(cu pos (ap es X.env)).any (·.1)=false:=by rfl) :
  PE X (.Call (.Name x p) (e::es) [] pos) (BG C sp gS G t):=by
 intro ai s σ H Q I h
 refine cJ (qm I hg hm (ez (h₀:=X.base) I.ok.mod.kin M.kp (dw (ha pos ai s σ H _ I h) λus s1 ⟨vs,H1,I1,r,q⟩=>⟨I1.kIn,?_⟩) he gI) i7)
 exact zkc M F hr hb hd hx I1 r q
end
end L2
namespace L2
open PySem PySem.Spec PyProof.Rows
abbrev rq:=PySem.F.excBase_ValueError
inductive gA:List aa->Prop
 |base:gA [.type "ValueError",.type "Exception",.type "BaseException",.type "object"]
 |own {c:ah} {r:List aa}:gA r->gA (.ref c::r)
theorem gA.refuse {l:List aa}(self:aa)(h:gA l):refuseLoop self "__setattr__" l=pure ():=by
 induction h with
 |base=>exact PySem.F.store_ValueError.passes self
 |own h ih=>rw[refuseLoop_ref];exact ih
theorem gA.obj {l:List aa}(h:gA l):l.contains (.type "object")=true:=by
 induction h with
 |base=>decide
 |own h ih=>rw[kL,ih,Bool.or_true]
structure uI (K:ae)(C:ah):Prop where
 ob:∃(nm q:aK) (N:ah) (bs bm:List aa) (kh:Bool) (sn:List aK) (sub:List aa) (ab:Bool) (col:Option Bool) (dd:Option ah) (k0 k1 k2 k3 k5:Option aa),
  K.lookup C=some (excClassObj nm q C N bs bm kh sn sub ab col dd k0 k1 k2 k3 k5 "ValueError.__new__")/\gA bm
 mV:bz K C (.type "ValueError")=some true
 mB:bz K C (.type "BaseException")=some true
 mA:bz K C (.type "AttributeError")=some false
 mN:bz K C (.type "NameError")=some false
 sp:bQ K (.ref C) "__call__"=some (some (.builtin "type.__call__"))
 ty:tR K (.ref C) (.type "type")=some true
section
variable {nm q:aK}{C N:ah}{bs bm:List aa}{kh:Bool}{sn:List aK}{sub:List aa}{ab:Bool}{col:Option Bool}{dd:Option ah}{k0 k1 k2 k3 k5:Option aa}
theorem Jy {K:ae}{b:aa}{v:Bool}(ho:K.lookup C=some (excClassObj nm q C N bs bm kh sn sub ab col dd k0 k1 k2 k3 k5 "ValueError.__new__"))(h:bz K C b=some v):(aa.ref C::bm).contains b=v:=by
 unfold bz kb at h
 rw[ho]at h
 simpa using h
variable {prog:bn}{w:bP}{A:bx}{R:Result->aj->Prop}{h:aM}{g:Array GenState}{d:Drawn}{t:Nat}{os:OsState}
theorem zs6 {rest:List aa}(Ca:(aa.ref C::bm).contains (.type "ValueError")=true)(LG:(aa.ref C::bm).contains (.type "AttributeError")=false)(LI:(aa.ref C::bm).contains (.type "NameError")=false)
    (hC:h.get? C=some (excClassObj nm q C N bs bm kh sn sub ab col dd k0 k1 k2 k3 k5 "ValueError.__new__")) (hz:rest.length<=sizeLine)
    (hq:R (.ok (.ret (.ref (h.objs.size+1)))) ⟨(h.push { cls:=.type "tuple",data:=.seq rest.toArray }).push { cls:=.ref C,data:=.fields #[.ref h.objs.size,.none,.none,.none,.bool false,.none] },g,d,t,os⟩) :
    eJ (aI prog w) A (.call (.builtin "ValueError.__new__") ⟨.ref C::rest,[]⟩) R ⟨h,g,d,t,os⟩:=by
  have Pk:=rq.noStar
  refine codeAny_call_builtin_code (pj.quiet_builtin _ rq.quiet) ?_
  simp only[checkBuiltinCall,rq.newKind,rq.newSplit,rq.newRow]
  repeat (first|refine wpAny_loadPart_at hC ?_|(refine wpAny_isSubtype_exc hC ?_;rw[Ca])|refine wpAny_staticBase_exc hC ?_|refine wpAny_madeBy_exc hC ?_|simp only[bne_self_eq_false,cE,if_false]|wp_step)
  have Pc:=rq.ends
  refine codeAny_builtinAt rq.entry ?_
  unfold di.«BaseException.__new__»
  refine PySem.wpAt_bind ?_
  show PySem.wpAt _ _ _ (stack >>= _) _ _ _
  refine PySem.wpAt_bind (PySem.wpAt_stack λp below=>PySem.wpAt_of_wpAny ?_)
  wp_walk
  refine PySem.wpAt_of_wpAny ?_
  rw[rq.owner]
  repeat (first|with_reducible refine wpAny_madeHere_exc rq.canon hC ?_|with_reducible refine wpAny_loadPart_at hC ?_|(with_reducible refine wpAny_isSubtype_exc hC ?_;first|rw[Ca]|rw[LG]|rw[LI])|wp_step)
  show R _ _
  rw[et]
  exact hq
theorem zp7 {rest:List aa}{init:aa}(Ca:(aa.ref C::bm).contains (.type "ValueError")=true)(LG:(aa.ref C::bm).contains (.type "AttributeError")=false)(LI:(aa.ref C::bm).contains (.type "NameError")=false)
    (hC:h.get? C=some (excClassObj nm q C N bs bm kh sn sub ab col dd k0 k1 k2 k3 k5 "ValueError.__new__")) (call:cM (aI prog w) h (specialOf (.ref C) "__call__") (some (.builtin "type.__call__"))) (typ:cM (aI prog w) h (isInstance (.ref C) (.type "type")) true)
    (hi:cM (aI prog w) h (mE (.ref C) "__init__") (some init)) (hb:∀self,cM (aI prog w) h (bindSpecial init self) (init,[self])) (hz:rest.length<=sizeLine)
    (hq:eJ (aI prog w) (A.under (.builtin "type.__call__" ⟨.ref C::rest,[]⟩)) (.call init ⟨.ref (h.objs.size+1)::rest,[]⟩) (rT (h.objs.size+1) R)
      ⟨(h.push { cls:=.type "tuple",data:=.seq rest.toArray }).push { cls:=.ref C,data:=.fields #[.ref h.objs.size,.none,.none,.none,.bool false,.none] },g,d,t,os⟩) :
    eJ (aI prog w) A (.call (.ref C) ⟨rest,[]⟩) R ⟨h,g,d,t,os⟩:=by
  have self:cM (aI prog w) h (isSubtype (.ref C) (.ref C)) true:=λA Q E s k z=>by
    obtain⟨hh,g',d',t',PU⟩:=s
    refine wpAny_isSubtype_exc (k _ _ hC) ?_
    rw[show(aa.ref C::bm).contains (.ref C)=true by simp];exact z
  refine codeAny_of_tree ?_
  show aT _ _ (callAny (.ref C) _) _ _ _
  refine PySem.W.nd_load hC ?_
  show aT _ _ (callAny.viaDunder (.ref C) _) _ _ _
  unfold callAny.viaDunder
  refine aw (call.at ?_)
  dsimp only
  rw[tc_bind]
  refine aw (bi (aw (bi ?_)))
  refine bi (a:=Fin.again (.call (.builtin "type.__call__") ⟨.ref C::rest,[]⟩)) (And.intro rfl ?_)
  refine codeAny_call_builtin_at (pj.quiet_builtin _ (by decide +kernel)) entry_typeCall (qF tc_kind tc_split typ (PySem.W.tc_args _ _ _) ?_)
  unfold di.«type.__call__»
  repeat (first|with_reducible refine wpAny_loadPart_at hC ?_|with_reducible refine wpAny_madeBy_exc hC ?_|with_reducible refine wpAny_mroOf_exc hC ?_|simp only[List.isEmpty_cons,cE,if_false]|with_reducible refine wpAny_call ?_|wp_step)
  refine zs6 Ca LG LI hC hz ?_
  have k:∀b o,h.get? b=some o->((h.push { cls:=.type "tuple",data:=.seq rest.toArray }).push { cls:=.ref C,data:=.fields #[.ref h.objs.size,.none,.none,.none,.bool false,.none] }).get? b=some o:=λb o e=>ar _ (ar _ e)
  have hx:((h.push { cls:=.type "tuple",data:=.seq rest.toArray }).push { cls:=.ref C,data:=.fields #[.ref h.objs.size,.none,.none,.none,.bool false,.none] }).get? (h.objs.size+1)=some { cls:=.ref C,data:=.fields #[.ref h.objs.size,.none,.none,.none,.bool false,.none] }:=by heap_get
  have t1:cM (aI prog w) ((h.push { cls:=.type "tuple",data:=.seq rest.toArray }).push { cls:=.ref C,data:=.fields #[.ref h.objs.size,.none,.none,.none,.bool false,.none] }) (typeOf (.ref (h.objs.size+1))) (.ref C):=(cM.ld hx).andThen .now
  have s1:=self.keeps k
  have i1:=hi.keeps k
  have b1:=(hb (.ref (h.objs.size+1))).keeps k
  unfold isInstance callSpecial? specialOf
  repeat (first|with_reducible refine wpAny_call ?_|lk)
  refine gJ hq λr s' z=>?_
  rcases r with e|(v|_|_|_)<;>first|exact z|exact z.elim|skip
  obtain⟨rfl,z⟩:=z
  exact bi (bi z)
end
end L2
namespace L2
open PySem PySem.Spec PyProof.Rows
section
variable {nm q:aK}{C N:ah}{bs bm:List aa}{kh:Bool}{sn:List aK}{sub:List aa}{ab:Bool}{col:Option Bool}{dd:Option ah}{k0 k1 k2 k3 k5:Option aa}
variable {prog:bn}{w:bP}{A:bx}{E:aa->aj->Prop}{h:aM}{g:Array GenState}{d:Drawn}{t:Nat}{os:OsState}
theorem zm3 {e:ah}{dx:Option ah}{a0 v1 v2 v3 v4 v5:aa}{rest:List aa}{R:Result->aj->Prop}(Ca:(aa.ref C::bm).contains (.type "ValueError")=true)
    (hC:h.get? C=some (excClassObj nm q C N bs bm kh sn sub ab col dd k0 k1 k2 k3 k5 "ValueError.__new__")) (he:h.get? e=some { cls:=.ref C,dict:=dx,data:=.fields #[a0,v1,v2,v3,v4,v5] }) (hz:rest.length<=sizeLine)
    (hq:∀h' a1,(∀b o,b≠e->h.get? b=some o->h'.get? b=some o)->h'.get? e=some { cls:=.ref C,dict:=dx,data:=.fields #[a1,v1,v2,v3,v4,v5] }->R (.ok (.ret .none)) ⟨h',g,d,t,os⟩) :
    eJ (aI prog w) A (.call (.builtin "ValueError.__init__") ⟨.ref e::rest,[]⟩) R ⟨h,g,d,t,os⟩:=by
  have Ma:=rq.noStar
  refine codeAny_call_builtin rq.init.plain rq.initEntry ?_
  simp only[checkBuiltinCall,rq.initKind,rq.initSplit,rq.initRow]
  repeat (first|with_reducible refine wpAny_loadPart_at he ?_|with_reducible refine wpAny_loadPart_at hC ?_|(with_reducible refine wpAny_isSubtype_exc hC ?_;rw[Ca])|wp_step)
  refine wpAny_onRaise ?_
  rw[show∀(a b:String) (n:Nat),Bind.check ⟨.positional,"*","ValueError",.self,[⟨"args",.varPos,false⟩]⟩ a b n (List.map (λx=>x.fst) ({ pos:=aa.ref e::rest }:Args).kw)=pure ()from
    λa b n=>check_star_args _ _ _ _ _ _]
  refine bi ?_
  unfold di.«BaseException.__init__»
  dsimp only
  rw[if_neg (by decide)]
  unfold newTuple
  refine aw (jD ?_ (by show rest.toArray.size<=sizeLine;rw[aL];exact hz))
  have e1:=ar (h:=h) { cls:=.type "tuple",data:=.seq rest.toArray } he
  unfold di.BaseException.bexcPut
  refine aw (aw (wpAny_field e1 rfl (x:=a0) (by simp) ?_))
  refine aw (wpAny_setField e1 rfl (by simp) ?_)
  have e2:=dW (df.mapFields (·.setIfInBounds 0 (aa.ref h.objs.size))) e1 rfl
  have fin:R (.ok (.ret .none)) ⟨(h.push { cls:=.type "tuple",data:=.seq rest.toArray }).update e (df.mapFields (·.setIfInBounds 0 (aa.ref h.objs.size))),g,d,t,os⟩:=by
    refine hq _ (.ref h.objs.size) (λb o hb ho=>?_) ?_
    · rw[cI _ _ (Ne.symm hb)]
      exact ar _ ho
    · rw[e2];simp[df.mapFields]
  cases a0<;>first|exact wpAny_letGo (bi fin)|exact bi (bi fin)
end
section
variable {nm q:aK}{C N:ah}{bs bm:List aa}{sn:List aK}{sub:List aa}{ab:Bool}{col:Option Bool}{dd:Option ah}{k0 k1 k2 k3 k5:Option aa}
variable {prog:bn}{w:bP}{A:bx}{E:aa->aj->Prop}{s:aj}{K:ae}{x:ah}{dt:kj}{sl:Array (Option aa)}{name:aK}{v:aa}
theorem zs7 {Q:Unit->aj->Prop}(X:K.In s.heap)(hK:K.lookup C=some (excClassObj nm q C N bs bm true sn sub ab col dd k0 k1 k2 k3 k5 "ValueError.__new__"))(hm:gA bm)(hx:s.heap.get? x=some ⟨.ref C,none,dt,sl⟩)(hd:∀cd,dt≠.cls cd)(Fc:(⟨.ref C,none,dt,sl⟩:df).isFreed=false)
    (hs:am K (.ref C) "__setattr__"=some (some (.builtin "object.__setattr__"))) (ht:dY K C name=some none)
    (h:∀h' dx,s.heap.get? dx=none->dx≠x->s.heap.objs.size<=dx->h'.get? x=some ⟨.ref C,some dx,dt,sl⟩->h'.Ns1 dx (λy=>if y=name then some v else none)->(∀b o,b≠x->s.heap.get? b=some o->h'.get? b=some o)->Q () { s with heap:=h',toks:=s.toks+2 }) :
    aT (aI prog w) A (setAttr (.ref x) name v) Q E s:=by
  have hn:tS ⟨.ref C,none,dt,sl⟩=true:=by
    unfold tS
    cases dt<;>first|rfl|exact absurd rfl (hd _)
  have J:tQ s.heap x ⟨.ref C,none,dt,sl⟩ C none:=⟨hx,rfl,hn,trivial⟩
  refine qX X J hs ?_
  have SF:=PySem.F.store_object
  obtain⟨cd,hc,Fk,Fa⟩:∃cd,kb K C=some cd/\cd.mro=.ref C::bm/\cd.hasDict=true:=⟨_,by unfold kb;rw[hK],rfl,rfl⟩
  have sub:cM (aI prog w) s.heap (isInstance (.ref x) (.type "object")) true:=J.type.andThen (PySem.W.looks_mroIn X (by unfold bz;rw[hc,ck,Fk,if_neg (by simp),(gA.own hm).obj]))
  refine codeAny_call_builtin SF.slot.plain SF.entry (@qF (aI prog w) _ _ { s with toks:=s.toks+1 } "object.__setattr__" "object" "__setattr__" (.ref x) [.str name s.toks,v] [] _ SF.kind SF.split sub (SF.args (.ref x) (.str name s.toks) v) ?_)
  obtain⟨attr,ha,hr⟩:=Option.bind_eq_some_iff.mp ht
  have hM:cM (aI prog w) s.heap (mroOf (.ref C)) (.ref C::bm):=Fk▸(jU X hc).andThen .now
  have L3:cM (aI prog w) s.heap (di.ObjectAttr.storeTaker? attr) none:=by
    cases attr with
    |none=>exact .now
    |some a=>
      obtain⟨b,hb,sQ⟩:=bY.mp hr
      refine(PySem.W.looks_takesIn X hb).andThen ?_
      cases b
      · exact .now
      · cases sQ
  rw[PySem.W.osa_eq,refuse_eq]
  refine aw (aw (J.type.here (s:={ s with toks:=s.toks+1 }) (aw (hM.here (s:={ s with toks:=s.toks+1 }) ?_))))
  rw[(gA.own hm).refuse]
  refine bi (aw (J.type.here (s:={ s with toks:=s.toks+1 }) (aw ((jJ X ha).here (s:={ s with toks:=s.toks+1 }) (aw (L3.here (s:={ s with toks:=s.toks+1 }) ?_))))))
  refine aw (bi (aw (aw (wpAny_loadPart (s:={ s with toks:=s.toks+1 }) hx (aw ((jU X hc).here (s:={ s with toks:=s.toks+1 }) ?_))))))
  rw[Fa]
  have Pl:(s.heap.push { cls:=.type "dict",data:=.dict #[] }).get? x=some ⟨.ref C,none,dt,sl⟩:=ar _ hx
  have Mg:x≠s.heap.objs.size:=bo (aO hx)
  show aT _ _ (if(!true || !typeHasDict (.ref C))=true then _ else _) _ _ _
  rw[if_neg (by simp[typeHasDict])]
  have go:aT (aI prog w) A.in1 (do
      let d ← alloc { cls:=.type "dict",data:=.dict #[] }
      update x λo=>{ o with dict:=some d }
      dictMade (.ref C) x d) (λa s'=>aT (aI prog w) A.in1 (match a with
        |some d=>di.ObjectAttr.storeInDict d (.str name s.toks) name v
        |none=>di.ObjectAttr.noDictFor (.ref x) (.ref C) name attr.isSome) (λfin s'=>match fin with|.done f=>(match Except.ok f with|.ok (.ret _)=>Q () s'|.ok _=>False|.error e=>E e s')|.again c'=>c'.quiet=true/\eJ (aI prog w) A c' (λr s'=>match r with|.ok (.ret _)=>Q () s'|.ok _=>False|.error e=>E e s') s') E s') E { s with toks:=s.toks+1 }:=by
    refine aw (wpAny_alloc' ?_)
    refine aw (wpAny_update' Pl ?_)
    refine bi ?_
    have VA:((s.heap.push { cls:=.type "dict",data:=.dict #[] }).update x λo=>{ cls:=o.cls,dict:=some s.heap.objs.size,data:=o.data,slots:=o.slots }).get? s.heap.objs.size=some { cls:=.type "dict",data:=.dict #[] } :=
      (rQ _ _ _ _ Mg.symm).trans (tF rfl rfl)
    have VH:((s.heap.push { cls:=.type "dict",data:=.dict #[] }).update x λo=>{ cls:=o.cls,dict:=some s.heap.objs.size,data:=o.data,slots:=o.slots }).Ns s.heap.objs.size (λ_=>none):=⟨_,#[],_,VA,rfl,λe he=>absurd he (by simp),λ_=>rfl⟩
    show aT _ _ (di.ObjectAttr.storeInDict s.heap.objs.size (.str name s.toks) name v) _ _ _
    unfold di.ObjectAttr.storeInDict di.ObjectAttr.newKeyGuard
    refine aw (bi (aw (wpAny_nsSet1 (aM.Ns1.of_empty VH) λh' yT IL=>?_)))
    obtain⟨oD,U3,U2,L5,LM,LH⟩:=yT.count (Within.cons name v Within.nil)
    refine aw (wpAny_lookBehind L5 (by rw[LM];exact pastItsLine_dict (bZ LH (by rw[aC,mS,bX];omega))) ?_)
    refine bi (h h' s.heap.objs.size (qQ (aF _)) Mg.symm (aF _) ?_ yT λb o hb ho=>?_)
    · refine(IL.2 x Mg).trans (dW _ Pl ?_)
      cases dt<;>first|rfl|exact Fc
    · exact(IL.2 b (bo (aO ho))).trans ((rQ _ _ _ _ hb).trans (ar _ ho))
  cases dt<;>first|exact absurd rfl (hd _)|exact go
end
end L2
set_option maxHeartbeats 4000000
namespace L2
open PySem PySem.Spec PyProof.Rows
section
variable {X:Cx}{ai:List (ah×df)}{σ:St}{H:Hp}{s:aj}{C:ah}
theorem Inv.xmade (I:Inv X ai σ H s)(us:List aa):H (s.heap.objs.size+1)=none/\Inv X ai σ (cY H (s.heap.objs.size+1) (nB (s.heap.objs.size+1) C none none)) { s with heap:=(s.heap.push { cls:=.type "tuple",data:=.seq us.toArray }).push { cls:=.ref C,data:=.fields #[.ref s.heap.objs.size,.none,.none,.none,.bool false,.none] } }:=by
  have I1:Inv X ai σ H { s with heap:=s.heap.push { cls:=.type "tuple",data:=.seq us.toArray } }:=I.kept (t':=s.toks) λb o e=>ar _ e
  have z:(s.heap.push { cls:=.type "tuple",data:=.seq us.toArray }).objs.size=s.heap.objs.size+1:=et ..
  have e:((s.heap.push { cls:=.type "tuple",data:=.seq us.toArray }).push { cls:=.ref C,data:=.fields #[.ref s.heap.objs.size,.none,.none,.none,.bool false,.none] }).get? (s.heap.objs.size+1)=some { cls:=.ref C,data:=.fields #[.ref s.heap.objs.size,.none,.none,.none,.bool false,.none] }:=tF z.symm rfl
  refine⟨I.hok.fresh (iN _),I1.laid (t':=s.toks) (λb o e=>ar _ e) (p6 z) ⟨⟨_,e⟩,⟨_,e⟩,λ_ _ q k=>q.stay k⟩⟩
theorem Inv.xwrite {a:ah}{dx KC tb tb':Option ah}{h':aM}{t':Nat}(I:Inv X ai σ H s)(he:H a=some (nB a C dx tb))(k:∀b u,b≠a->s.heap.get? b=some u->h'.get? b=some u)(new:B3 a C KC tb' h') :
  Inv X ai σ (cY H a (nB a C KC tb')) { s with heap:=h',toks:=t' }:=by
 obtain⟨a1,e⟩:=id new
 exact I.write (x:=a) (e:=a) (by rw[he];trivial) (.inl rfl) k ⟨_,e⟩ ⟨new,⟨_,e⟩,λ_ _ q k=>q.stay k⟩
variable {k:Nat}{f:ah}{fd:aH}{ps:List aK}{sp:Sp}{x:aK}{p pos:cX}{e:Expr}{es:List Expr}{t:TA}{te:TE}{G:GK}
def BK (C:ah)(sp:Sp)(t:TA):TE:=λσ H Q=>t σ H λvs H1=>vs.length<=1000/\∀a,H1 a=none->sp (.ref a::vs) (cY H1 a (nB a C none none)) (λv H2=>v=.non/\Q (.ref a) H2) E0
theorem jy {K:ae}(c:uI K C):∃(nm q:aK) (N:ah) (bs bm:List aa) (kh:Bool) (sn:List aK) (sub:List aa) (ab:Bool) (col:Option Bool) (dd:Option ah) (k0 k1 k2 k3 k5:Option aa),
  K.lookup C=some (excClassObj nm q C N bs bm kh sn sub ab col dd k0 k1 k2 k3 k5 "ValueError.__new__")/\gA bm/\(aa.ref C::bm).contains (.type "ValueError")=true/\(aa.ref C::bm).contains (.type "BaseException")=true/\(aa.ref C::bm).contains (.type "AttributeError")=false/\(aa.ref C::bm).contains (.type "NameError")=false:=by
 obtain⟨nm,q,N,bs,bm,kh,sn,sub,ab,col,dd,k0,k1,k2,k3,k5,ho,hm⟩:=c.ob
 exact⟨nm,q,N,bs,bm,kh,sn,sub,ab,col,dd,k0,k1,k2,k3,k5,ho,hm,Jy ho c.mV,Jy ho c.mB,Jy ho c.mA,Jy ho c.mN⟩
theorem zkd {Q:VK}{us:List aa}{vs:List V}(c:uI X.K C)(hi:am X.K (.ref C) "__init__"=some (some (.ref f)))(tX:cH X.K (.ref f)=true)(F:cv X.prog X.w X.K X.mg X.base eO k f fd ps sp)(hr:dU (k+1) X.A)(hb:bB X.K fd ps [])
  (I:Inv X ai σ H s) (r:bR vs us) (hz:vs.length<=1000) (h:∀a,H a=none->sp (.ref a::vs) (cY H a (nB a C none none)) (λv H2=>v=.non/\Q (.ref a) H2) E0) :
  aT (aI X.prog X.w) X.A (call (.ref C) us) (EP X ai σ Q) X.xe s:=by
 obtain⟨hn,I2⟩:=I.xmade (C:=C) us
 have hq:=h _ hn
 obtain⟨nm,q,N,bs,bm,kh,sn,sub,ab,col,dd,k0,k1,k2,k3,k5,ho,hm,c1,c2,c3,c4⟩:=jy c
 have r2:bR (V.ref (s.heap.objs.size+1)::vs) (aa.ref (s.heap.objs.size+1)::us):=.cons rfl r
 have hl:(aa.ref (s.heap.objs.size+1)::us++[]).length=ps.length:=by rw[bO,←r2.length];exact F.len _ _ _ _ hq
 have AW:=hb _ (aa.ref (s.heap.objs.size+1)::us) I2.kIn hl
 rw[bO]at AW
 have VV:us.length<=sizeLine:=by rw[←r.length];exact bZ hz (by rw[bX];omega)
 obtain⟨h0,g,d,t,os⟩:=s
 refine wpAny_call (zp7 c1 c3 c4 (I.kIn _ _ ho) (PySem.W.looks_specialIn I.kIn c.sp) (PySem.W.looks_instIn I.kIn c.ty) (jJ I.kIn hi) (λself=>sI I.kIn self (beq_iff_eq.mp tX)) VV (gJ (F.run _ X.stack _ _ ⟨aa.ref (h0.objs.size+1)::us,[]⟩ _ _ _ E0 (hr.make C us []) (I2.env0.make C us []) AW r2 hq) λz s' qL=>?_))
 cases z with
 |error u=>exact False.elim qL
 |ok fl=>
  cases fl with
  |ret u=>
   obtain⟨v,H',I3,rv,ev,q3⟩:=I2.after qL
   subst ev
   exact⟨rv,V.ref (h0.objs.size+1),H',I3,rfl,q3⟩
  |_=>exact False.elim qL
theorem zm4 (c:uI X.K C)(LZ:ao X.K (.ref C)=true)(hi:am X.K (.ref C) "__init__"=some (some (.ref f)))(tX:cH X.K (.ref f)=true)(F:cv X.prog X.w X.K X.mg X.base eO k f fd ps sp)(hr:dU (k+1) X.A)(hg:Gl X x)(hm:X.mg x=some (.ref C))(hb:bB X.K fd ps [])
  (ha:PA X (e::es) t) (i7:(x==("__debug__":aK))=false:=by decide) (he:ap (e::es) X.env=(false,bG e X.env)::ap es X.env:=by rfl) (gI:(cu pos (ap es X.env)).any (·.1)=false:=by rfl) :
  PE X (.Call (.Name x p) (e::es) [] pos) (BK C sp t):=by
 intro ai s σ H Q I h
 refine cJ (qm I hg hm (ez (h₀:=X.base) I.ok.mod.kin LZ (dw (ha pos ai s σ H _ I h) λus s1 ⟨vs,H1,I1,r,q⟩=>⟨I1.kIn,?_⟩) he gI) i7)
 exact zkd c hi tX F hr hb I1 r q.1 q.2
def BI (K:ae)(G:GK)(te:TE):TS:=λD σ H=>te σ H λv H1=>∃a C dx,v=.ref a/\uI K C/\qI H1 a C dx none/\∀T,H1 T=none->G σ a (eA H1 a C dx T)
theorem zm5 (hc:X.calm=true)(hx:km X G)(he:PE X e te):PS X (.Raise (some e) none pos) (BI X.K G te):=by
 intro ai s σ H D I h
 have main:aT (aI X.prog X.w) X.A (raiseStmt X.env (some (do let v ← bG e X.env;fO pos;pure v)) none) (SP X ai D) X.xe s:=by
  unfold raiseStmt
  refine aw (aw (dw (he ai s σ H _ I h) λv s1 ⟨v',H1,I1,r1,a,C,dx,e1,c,xr,w⟩=>aw (jH (bi ?_))))
  subst e1
  cases r1
  obtain⟨nm,q,N,bs,bm,kh,sn,sub,ab,col,dd,k0,k1,k2,k3,k5,ho,hm,c1,c2,c3,c4⟩:=jy c
  obtain⟨a0,ha⟩:=I1.xc xr
  have hC:=I1.kIn _ _ ho
  have fin:X.xe (.ref a) s1:=hx ai σ H1 s1 a C dx none I1 xr w
  have hh:=I.ok.hd hc
  obtain⟨h0,g,d,t,os⟩:=s1
  repeat (first|with_reducible refine wpAny_loadPart_at ha ?_|with_reducible refine wpAny_loadPart_at hC ?_|(with_reducible refine wpAny_isSubtype_exc hC ?_;rw[c2])|wp_step)
  exact wpAny_raiseNew_none hh fin
 rw[arm_exec_Raise]
 exact aw (jH main)
def vD (K:ae)(to:TE)(te:TE):TE:=λσ H Q=>to σ H λv H1=>te σ H1 λu H2=>∃a C dx tb,v=.ref a/\uI K C/\H2 a=some (nB a C dx tb)/\Q .non H2
theorem zm6 {B:ah}{o:Expr}{to:TE}{dQ:cX}{pl:pq Bool}{m:aK}(hg:Gl X x)(hm:X.mg x=some (.ref B))
  (h1:bQ X.K (.ref B) "__getattribute__"=some (some (.builtin "type.__getattribute__"))) (h2:eI X.K B (.type "type")=true) (h3:eF X.K (.ref B) (.type "type") m=some (.val (.builtin "ValueError.__init__"))) (ho:PE X o to) (he:PE X e te)
  (i7:(x==("__debug__":aK))=false:=by decide) (iX:ap [o,e] X.env=[(false,bG o X.env),(false,bG e X.env)]:=by rfl) (rH:ap [e] X.env=[(false,bG e X.env)]:=by rfl)
  (ht:bG (.Call (.Attribute (.Name x p) m dQ) [o,e] [] pos) X.env=(do
   let ov ← bG (.Name x p) X.env
   fO dQ.atName
   let(f,first) ← dS [ov] (gx ov m pl)
   iT pos f first (cu pos (ap [o,e] X.env)) (e9 pos (dz [] X.env))):=by rfl) :
  PE X (.Call (.Attribute (.Name x p) m dQ) [o,e] [] pos) (vD X.K to te):=by
 intro ai s σ H Q I h
 refine eM (pl:=pl) (qm I hg hm ?_ i7) ht
 refine qG I.kIn h1 (qV I.kIn h2 h3 rfl ?_)
 have I1:Inv X ai σ H { s with toks:=s.toks+1 }:=I.tok _
 refine ka (dw ((wv ho (wv he jp rH) (by rw[iX,rH])) pos ai _ σ H (λvs H2=>match vs with|[v,u]=>∃a C dx tb,v=.ref a/\uI X.K C/\H2 a=some (nB a C dx tb)/\Q .non H2|_=>False) I1 h) λus s2 ⟨vs,H2,I2,r,q2⟩=>?_) (by rw[iX,rH]) (by rw[rH];rfl)
 cases r with
 |nil=>exact False.elim q2
 |cons rv r=>
  cases r with
  |nil=>exact False.elim q2
  |cons ru r=>
   cases r with
   |cons _ _=>exact False.elim q2
   |nil=>
    obtain⟨a,C,dx,tb,e1,c,ha,q3⟩:=q2
    subst e1
    cases rv
    obtain⟨nm,q,N,bs,bm,kh,sn,sub,ab,col,dd,k0,k1,k2,k3,k5,IK,hmr,c1,c2,c3,c4⟩:=jy c
    obtain⟨a0,ea⟩:=(I2.hok a _ ha).1
    refine wpAny_call (zm3 c1 (I2.kIn _ _ IK) ea (by show 1<=sizeLine;rw[bX];omega) λh' a1 kp e2=>?_)
    have I3:=I2.xwrite (tb':=tb) (KC:=dx) ha (h':=h') (t':=s2.toks) kp ⟨a1,e2⟩
    have hH:cY H2 a (nB a C dx tb)=H2:=by
     funext b
     by_cases hb:b=a
     ·rw[hb,zt,ha]
     ·rw[zk hb]
    rw[hH]at I3
    exact⟨.non,H2,I3,rfl,q3⟩
def zM (K:ae)(f:aK)(te to:TE):TS:=λD σ H=>te σ H λu H1=>to σ H1 λv H2=>∃a C tb,v=.ref a/\uI K C/\bM K C=true/\am K (.ref C) "__setattr__"=some (some (.builtin "object.__setattr__"))/\dY K C f=some none/\H2 a=some (nB a C none tb) /\
 ∀dx,H2 dx=none->dx≠a->D.nx σ (cY (cY H2 dx (.xd [(f,u)])) a (nB a C (some dx) tb))
theorem zp8 {f:aK}{o value:Expr}{to tv:TE}{pos':cX}(ho:PE X o to)(hv:PE X value tv)(hs:dH value (some (.Attribute o f pos')) pos.line X.env=pure false:=by rfl):PS X (.Assign [.Attribute o f pos'] value pos) (zM X.K f tv to):=by
 intro ai s σ H D I h
 refine plainObj_wpAny_Assign_Attribute (dw (hv ai s σ H _ I h) λu s1 ⟨u',H1,I1,r1,q1⟩=>dw (ho ai s1 σ H1 _ I1 q1) λov s2 ⟨v',H2,I2,r2,q2⟩=>?_) hs
 obtain⟨a,C,tb,e1,c,hd,VP,IM,ha,w⟩:=q2
 subst e1
 cases r2
 obtain⟨nm,q,N,bs,bm,kh,sn,sub,ab,col,dd,k0,k1,k2,k3,k5,IK,hm,c1,c2,c3,c4⟩:=jy c
 obtain rfl:kh=true:=by unfold bM kb at hd;rw[IK]at hd;simpa using hd
 obtain⟨a0,ea⟩:=(I2.hok a _ ha).1
 refine zs7 I2.kIn IK hm ea (λ_ z=>by cases z) rfl VP IM λh' dx ID kD se yY jP kp=>?_
 have nn:∀b,H2 b=none->b≠a:=λb hb q=>by rw[q,ha]at hb;cases hb
 have Cb:H2 dx=none:=I2.hok.fresh se
 have nT:∀b o,s2.heap.get? b=some o->b≠dx:=λb o q z=>by rw[z,ID]at q;cases q
 refine⟨σ,cY (cY H2 dx (.xd [(f,u')])) a (nB a C (some dx) tb),I2.step (g':=s2.gens) (t':=s2.toks+2) (d':=s2.drawn) (ch:=[]) (λb z=>nomatch z) (λb o _ _ _ q n=>kp b o (nn b n) q) (λb o _ _ _ q n=>⟨o.slots,kp b o (nn b n) q⟩) (λb o _ q n=>?_) (λb o _ q=>?_) (λb xs q=>?_) (λb o u q=>?_) (λb ps q=>?_) (λm q=>?_) (λb u q=>?_) I2.bare,w dx Cb kD⟩
 ·rw[zk (nn b n),zk (nT b o q)];exact n
 ·by_cases hb:b=a
  ·rw[hb];exact⟨_,yY⟩
  ·exact⟨o,kp b o hb q⟩
 ·rw[zk (λz=>by rw[z,ha]at q;cases q),zk (zl q Cb)];exact q
 ·rw[zk (λz=>by rw[z,ha]at q;cases q),zk (zl q Cb)];exact q
 ·exact⟨#[],by rw[zk (λz=>by rw[z,ha]at q;cases q),zk (zl q Cb),q];simp⟩
 ·obtain⟨o,es,ep,ho,r⟩:=q
  exact⟨o,es,ep,kp _ _ (nn _ I2.free) ho,r⟩
 ·by_cases hb:b=a
  ·subst hb
   rw[zt]at q
   cases q
   exact⟨⟨a0,yY⟩,⟨_,yY⟩,λ_ _ z k=>z.stay k⟩
  ·rw[zk hb]at q
   by_cases wX:b=dx
   ·rw[wX,zt]at q
    cases q
    rw[wX]
    refine⟨_,jP,λy=>?_⟩
    by_cases hy:y=f
    ·subst hy
     rw[if_pos rfl]
     have:(y==y)=true:=beq_self_eq_true y
     simp only[fw,this]
     exact r1
    ·rw[if_neg hy]
     have:(y==f)=false:=beq_eq_false_iff_ne.mpr hy
     simp only[fw,this]
     trivial
   ·rw[zk wX]at q
    refine(I2.hok b u q).stay (λc v hc z=>kp c v ?_ z) (λc z=>?_) (λc xs z=>?_)
    ·rcases hc with rfl|hc
     ·exact hb
     ·intro e;rw[e,ha]at hc;cases hc
    ·rw[zk (λe=>by rw[e,ha]at z;cases z),zk (zl z Cb)];exact z
    ·rw[zk (λe=>by rw[e,ha]at z;cases z),zk (zl z Cb)];exact z
end
end L2
set_option maxHeartbeats 4000000
namespace L2
open PySem PySem.Spec PyProof.Rows
section
variable {X:Cx}{e:Expr}{es:List Expr}{te:TE}{pos:cX}
abbrev TF:=St->Hp->(Hp->Prop)->Prop
def PF (X:Cx)(e:Expr)(n:Nat)(t:TF):Prop:=∀(ai:List (ah×df)) (s:aj) (σ:St) (H:Hp) (Q:Hp->Prop),Inv X ai σ H s->t σ H Q ->
 aT (aI X.prog X.w) X.A (bG e X.env) (λv s1=>∃y tk H1,v=.str y tk/\y.length<=n/\Inv X ai σ H1 s1/\Q H1) X.xe s
theorem Rx {c:aK}{j}(hz:c.length<=2000:=by decide):PF X (.Constant (.str c) j pos) 2000 (λ_ H Q=>Q H):=λ_ _ _ H _ I h=>Calls.Constant_str ⟨c,_,H,rfl,hz,I.tok _,h⟩
def nW (v:V):Prop:=v=.non\/∃i:Int,v=.int i/\i.natAbs.log2<1920
theorem zu0 (he:PE X e te):PF X (.FormattedValue e (-1) none pos) 2000 (λσ H Q=>te σ H λv H1=>nW v/\Q H1):=by
 intro ai s σ H Q I h
 refine wpAny_FormattedValue_plain (dw (he ai s σ H _ I h) λu s1 dO=>?_)
 obtain⟨v,H1,I1,r1,f,q⟩:=dO
 rcases f with rfl|⟨i,rfl,hi⟩
 ·cases r1
  exact wpAny_formatField_none ⟨_,_,H1,rfl,by decide,I1.tok _,q⟩
 ·obtain⟨t,rfl⟩:=r1
  refine wpAny_formatField_int hi ⟨_,_,H1,rfl,?_,I1.tok _,q⟩
  have z:=int_text_length_le (k:=1920) (by decide) hi
  rw[PySem.ofString_length];omega
def HX (X:Cx)(es:List Expr)(t:TF):Prop:=∀(ai:List (ah×df)) (s:aj) (σ:St) (H:Hp) (fv:aK) (Q:VK),Inv X ai σ H s->fv.length+2000*es.length<=100000->t σ H (λH1=>∀x,Q (.str x) H1) ->
 Joins (aI X.prog X.w) X.A X.xe (evalEach es X.env) fv (λout s1=>out.length<=sizeLine/\EP X ai σ Q (.str out s1.toks) { s1 with toks:=s1.toks+1 }) s
theorem zp9:HX X [] (λ_ H Q=>Q H):=by
 intro ai s σ H fv Q I hz h
 exact⟨by rw[bX];omega,.str fv,H,I.tok _,⟨_,rfl⟩,h fv⟩
theorem Nf {t1 t2:TF}(h1:PF X e 2000 t1)(h2:HX X es t2)(hs:evalEach (e::es) X.env=bG e X.env::evalEach es X.env:=by rfl):HX X (e::es) (λσ H Q=>t1 σ H λH1=>t2 σ H1 Q):=by
 intro ai s σ H fv Q I hz h
 rw[hs]
 refine dc (h1 ai s σ H _ I h) (λv s1 ⟨y,tk,H1,e1,hy,I1,q⟩=>?_) λ_ _ x=>x
 have hl:(fv++y).length=fv.length+y.length:=strLen_append _ _
 rw[aC]at hz
 exact⟨y,tk,e1,by rw[hl,bX];omega,h2 ai s1 σ H1 (fv++y) Q I1 (by rw[hl];omega) q⟩
theorem zqa {a b:Expr}{t:TF}(h:HX X (a::b::es) t)(hl:(a::b::es).length<=40:=by decide):PE X (.JoinedStr (a::b::es) pos) (λσ H Q=>t σ H λH1=>∀x,Q (.str x) H1):=by
 intro ai s σ H Q I hq
 refine wpAny_JoinedStr (h ai s σ H aK.empty Q I ?_ hq)
 have:(aK.empty:aK).length=0:=rfl
 omega
end
structure zX (K:ae)(C:ah):Prop where
 ga:am K (.ref C) "__getattribute__"=some (some (.builtin "BaseException.__getattribute__"))
 gn:am K (.ref C) "__getattr__"=some none
 mB:bz K C (.type "BaseException")=some true
 hd:bM K C=true
 ca:am K (.ref C) "__class__"=some (some (.builtin "object.__class__"))
 cg:bQ K (.builtin "object.__class__") "__get__"=some (some (.builtin "getset_descriptor.__get__"))
 ct:gK K (.builtin "object.__class__")=some true
 mO:bz K C (.type "object")=some true
section
variable {prog:bn}{w:bP}{A:bx}{E:aa->aj->Prop}{s:aj}{K:ae}{x C:ah}{ox:df}{od:Option df}
end
end L2
set_option maxHeartbeats 4000000
namespace L2
open PySem PySem.Spec PyProof.Rows
abbrev Cx.tr (X:Cx)(E:aa->aj->Prop)(ai:List (ah×df)):Cx:={ X with xe:=E,pn:=X.pn++ai }
abbrev Cx.hd (X:Cx)(a:ah):Cx:={ X with A:=X.A.mark (some (.ref a)),calm:=false,xe:=λ_ _=>False }
section
variable {X:Cx}{ai:List (ah×df)}{σ:St}{H:Hp}{s:aj}{E:aa->aj->Prop}{a:ah}
theorem Inv.tr (I:Inv X ai σ H s)(E:aa->aj->Prop):Inv (X.tr E ai) [] σ H s :=
 ⟨⟨I.ok.mod,I.ok.kind,I.ok.glob,I.ok.blt,I.ok.above,I.ok.inj,I.ok.has,I.ok.cab,I.ok.hd,I.ok.frames,I.ok.stk,I.ok.exf,I.ok.bs,I.ok.bsz,I.ok.noex,I.ok.exfs,I.ok.funs,I.ok.frf⟩,I.os,I.bare,I.base,I.loc,I.cell,I.free,I.freeC,λp hp=>I.pin p (by simpa using hp),I.hok,I.len⟩
theorem Inv.untr {q:List (ah×df)}(I:Inv (X.tr E ai) q σ H s):Inv X ai σ H s :=
 ⟨⟨I.ok.mod,I.ok.kind,I.ok.glob,I.ok.blt,I.ok.above,I.ok.inj,I.ok.has,I.ok.cab,I.ok.hd,I.ok.frames,I.ok.stk,I.ok.exf,I.ok.bs,I.ok.bsz,I.ok.noex,I.ok.exfs,I.ok.funs,I.ok.frf⟩,I.os,I.bare,I.base,I.loc,I.cell,I.free,I.freeC,λp hp=>I.pin p (bq _ hp),I.hok,I.len⟩
theorem Inv.hdl (I:Inv X ai σ H s)(a:ah):Inv (X.hd a) ai σ H s :=
 ⟨⟨I.ok.mod,I.ok.kind,I.ok.glob,I.ok.blt,I.ok.above,I.ok.inj,I.ok.has,I.ok.cab,(λz=>by cases z),I.ok.frames,I.ok.stk,I.ok.exf,I.ok.bs,I.ok.bsz,I.ok.noex,I.ok.exfs,I.ok.funs,I.ok.frf⟩,I.os,I.bare,I.base,I.loc,I.cell,I.free,I.freeC,I.pin,I.hok,I.len⟩
theorem Inv.unhd (ok:X.Ok)(I:Inv (X.hd a) ai σ H s):Inv X ai σ H s :=
 ⟨ok,I.os,I.bare,I.base,I.loc,I.cell,I.free,I.freeC,I.pin,I.hok,I.len⟩
theorem SP.untr {D:iw}{f:Flow}{s':aj}(h:SP (X.tr E ai) [] D f s'):SP X ai D f s':=by
 cases f with
 |next=>obtain⟨σ',H',I,q⟩:=h;exact⟨σ',H',I.untr,q⟩
 |brk=>obtain⟨σ',H',I,q⟩:=h;exact⟨σ',H',I.untr,q⟩
 |cont=>obtain⟨σ',H',I,q⟩:=h;exact⟨σ',H',I.untr,q⟩
 |ret u=>obtain⟨v,σ',H',I,r,q⟩:=h;exact⟨v,σ',H',I.untr,r,q⟩
theorem SP.unhd (ok:X.Ok){D:iw}{f:Flow}{s':aj}(h:SP (X.hd a) ai D f s'):SP X ai D f s':=by
 cases f with
 |next=>obtain⟨σ',H',I,q⟩:=h;exact⟨σ',H',I.unhd ok,q⟩
 |brk=>obtain⟨σ',H',I,q⟩:=h;exact⟨σ',H',I.unhd ok,q⟩
 |cont=>obtain⟨σ',H',I,q⟩:=h;exact⟨σ',H',I.unhd ok,q⟩
 |ret u=>obtain⟨v,σ',H',I,r,q⟩:=h;exact⟨v,σ',H',I.unhd ok,r,q⟩
abbrev TH:=ah->ah->TS
def PH (X:Cx)(hs:List ExceptHandler)(th:TH):Prop:=∀(ai:List (ah×df)) (s:aj) (σ:St) (H:Hp) (D:iw) (a C:ah) (dx:Option ah) (T:ah),Inv X ai σ H s->qI H a C dx (some T)->th a C D σ H ->
 aT (aI X.prog X.w) X.A (handleBy (.ref a) X.env hs) (SP X ai D) X.xe s
theorem zs8:PH X [] (λ_ _ _ _ _=>False):=λ_ _ _ _ _ _ _ _ _ _ _ h=>h.elim
theorem Zm {M:Model}{A:bx}{E:aa->aj->Prop}{C T:ah}{dx:Option ah}{Q:Unit->aj->Prop}(I:Inv X ai σ H s)(x:qI H a C dx (some T))(h:Q () s):aT M A (setFlight (.ref a) none) Q E s:=by
 obtain⟨a0,he⟩:=I.xc x
 obtain⟨ts,ht,h3⟩:=I.tbo x
 unfold setFlight
 refine aw (wpAny_field he rfl (x:=.ref T) (by simp) ?_)
 rw[if_pos (show(aa.ref T != aa.none)=true from by simp)]
 refine wpAny_setField ht rfl (ij.mp h3).1 ?_
 show Q () { s with heap:=s.heap.update T (df.mapFields (·.setIfInBounds 3 aa.none)) }
 rw[nP s.heap T _ ts 3 .none ht rfl h3]
 exact h
theorem zqb {x:aK}{np pos:cX}{B:ah}{st:bD}{body:List bD}{rest:List ExceptHandler}{tb:ah->TS}{th:TH}(hg:Gl X x)(hm:X.mg x=some (.ref B))(hb:∀a,oH (X.hd a) (st::body) (tb a))(hr:PH X rest th)(i7:(x==("__debug__":aK))=false:=by decide) :
  PH X (.ExceptHandler (some (.Name x np)) none (st::body) pos::rest) (λa C D σ H=>∃b,eW X.K (.ref C) (.ref B)=some b/\if b=true then tb a D σ H else th a C D σ H):=by
 intro ai s σ H D a C dx T I xr h
 obtain⟨b,hx,h⟩:=h
 have I1:=I.hdl a
 obtain⟨a0,he⟩:=I.xc xr
 refine wpAny_handleBy_cons (codeAny_handlers_test (qm I1 hg hm ?_ i7)) (by intro z;cases z)
 have LT:cM (aI X.prog X.w) s.heap (typeOf (.ref a)) (.ref C):=(cM.ld he).andThen .now
 refine(PySem.W.exm_one I.kIn LT hx).here ?_
 cases b with
 |true=>
  rw[if_pos rfl]at h ⊢
  refine codeAny_handlers_suite (Zm I xr ?_)
  exact dc (hb a ai s σ H D I1 h) (λf s' q=>q.unhd I.ok) λ_ _ z=>False.elim z
 |false=>
  rw[if_neg aJ]at h ⊢
  exact hr ai s σ H D a C dx T I xr h
def BL (th:TH)(D:iw):GK:=λσ' a H'=>∃C dx T,qI H' a C dx (some T)/\th a C D σ' H'
theorem zs9 {body:List bD}{h0:ExceptHandler}{hs:List ExceptHandler}{pos:cX}{th:TH}{tb:∀(E:aa->aj->Prop) (ai:List (ah×df)) (G:GK),bV (aI X.prog X.w) X.A X.env E->km (X.tr E ai) G->TS}(iX:X.stack=X.env::X.outer)(hf:X.env.frame=some X.env.locals)
  (hb:∀E ai G h1 h2,oH (X.tr E ai) body (tb E ai G h1 h2)) (hh:PH X (h0::hs) th):PS X (.Try body (h0::hs) [] [] pos) (λD σ H=>∀E ai h1 h2,tb E ai (BL th D) h1 h2 D σ H):=by
 intro ai s σ H D I h
 refine wpAny_Try_except ?_
 have key:aT (aI X.prog X.w) X.A (execs body X.env) (SP (X.tr (λe s1=>aT (aI X.prog X.w) X.A (noteFrame e X.env) (λ_ s2=>aT (aI X.prog X.w) X.A (setFlight e none) (λ_ s3=>aT (aI X.prog X.w) X.A (handleBy e X.env (h0::hs)) (SP X ai D) X.xe s3) X.xe s2) X.xe s1) ai) [] D)
   (λe s1=>aT (aI X.prog X.w) X.A (noteFrame e X.env) (λ_ s2=>aT (aI X.prog X.w) X.A (setFlight e none) (λ_ s3=>aT (aI X.prog X.w) X.A (handleBy e X.env (h0::hs)) (SP X ai D) X.xe s3) X.xe s2) X.xe s1) s:=by
  have p1:bV (aI X.prog X.w) X.A X.env (λe s1=>aT (aI X.prog X.w) X.A (noteFrame e X.env) (λ_ s2=>aT (aI X.prog X.w) X.A (setFlight e none) (λ_ s3=>aT (aI X.prog X.w) X.A (handleBy e X.env (h0::hs)) (SP X ai D) X.xe s3) X.xe s2) X.xe s1) :=
   bV.looking (K:=λe s2=>aT (aI X.prog X.w) X.A (setFlight e none) (λ_ s3=>aT (aI X.prog X.w) X.A (handleBy e X.env (h0::hs)) (SP X ai D) X.xe s3) X.xe s2)
  have p2:km (X.tr (λe s1=>aT (aI X.prog X.w) X.A (noteFrame e X.env) (λ_ s2=>aT (aI X.prog X.w) X.A (setFlight e none) (λ_ s3=>aT (aI X.prog X.w) X.A (handleBy e X.env (h0::hs)) (SP X ai D) X.xe s3) X.xe s2) X.xe s1) ai) (BL th D):=by
   intro q σ' H' s' a C dx tb I' xr g
   have J:=I'.untr
   refine J.note iX hf J.ok.frames xr λs2 T hT J2=>?_
   obtain⟨C2,KD,T2,MY,h2⟩:=g T hT
   exact hh ai s2 σ' _ D a C2 KD T2 J2 MY h2
  exact hb _ ai _ p1 p2 [] s σ H D (I.tr _) (h _ ai p1 p2)
 refine dc key (λf s1 q=>?_) λ_ _ z=>z
 have q:=q.untr
 cases f with
 |next=>exactλΓ p hΓ=>q
 |_=>exact q
end
end L2
namespace L2
open PySem PySem.Spec PyProof.Rows
section
variable {κ:Type}[DecidableEq κ]
def iR (cC:List (κ×V))(k:κ):Option V:=(cC.find? λkv=>decide (kv.1=k)).map (·.2)
def putK (cC:List (κ×V))(k:κ)(v:V):List (κ×V) :=
 if(cC.any λkv=>decide (kv.1=k))=true then cC.map (λkv=>if kv.1=k then(kv.1,v)else kv)else cC++[(k,v)]
theorem Ng {p:κ×V}{r:List (κ×V)}{k:κ}(e:p.1=k):iR (p::r) k=some p.2:=by simp[iR,dg,e]
theorem Nh {p:κ×V}{r:List (κ×V)}{k:κ}(e:¬p.1=k):iR (p::r) k=iR r k:=by simp[iR,dg,e]
theorem Ry (k:κ):∀cC:List (κ×V),(cC.any λkv=>decide (kv.1=k))=(iR cC k).isSome
 |[]=>rfl
 |p::r=>by
  rw[iM]
  by_cases e:p.1=k
  ·simp only[Ng e,decide_eq_true e,Bool.true_or,Option.isSome_some]
  ·rw[Nh e,decide_eq_false e,Bool.false_or];exact Ry k r
theorem QA (cC:List (κ×V))(k:κ)(v:V):(putK cC k v).length<=cC.length+1:=by
 unfold putK
 split
 ·rw[aq];omega
 ·rw[aX,aC,mS];omega
theorem kd.isSome_eq {o:Option V}{u:Option aa}(r:kd o u):o.isSome=u.isSome:=by
 cases o with
 |none=>cases u with
  |none=>rfl
  |some _=>exact(show False from r).elim
 |some _=>cases u with
  |none=>exact(show False from r).elim
  |some _=>rfl
theorem KV.val {cC:List (κ×V)}{vs:List (κ×aa)}(r:KV cC vs)(k:κ):kd (iR cC k) (nu vs k):=by
 unfold KV at r
 induction r with
 |nil=>exact True.intro
 |@cons p q ps qs h t ih=>
  obtain⟨h1,h2⟩:=h
  by_cases e:p.1=k
  ·have e':q.1=k:=h1.symm.trans e
   have b:nu (q::qs) k=some q.2:=by simp[nu,dg,e']
   rw[Ng e,b];exact h2
  ·have e':¬q.1=k:=λz=>e (h1.trans z)
   have b:nu (q::qs) k=nu qs k:=by simp[nu,dg,e']
   rw[Nh e,b];exact ih
theorem KV.any {cC:List (κ×V)}{vs:List (κ×aa)}(r:KV cC vs)(k:κ):(cC.any λkv=>decide (kv.1=k))=vs.any λkv=>decide (kv.1=k):=by
 unfold KV at r
 induction r with
 |nil=>rfl
 |cons h t ih=>rw[iM,iM,ih,h.1]
theorem KV.repl {cC:List (κ×V)}{vs:List (κ×aa)}(r:KV cC vs)(k:κ){y:V}{u:aa}(ry:RelV y u) :
  KV (cC.map λkv=>if kv.1=k then(kv.1,y)else kv) (vs.map λkv=>if kv.1=k then(kv.1,u)else kv):=by
 unfold KV at r ⊢
 induction r with
 |nil=>exact .nil
 |@cons p q ps qs h t ih=>
  rw[aV,aV]
  refine .cons ?_ ih
  obtain⟨h1,h2⟩:=h
  by_cases e:p.1=k
  ·rw[if_pos e,if_pos (h1.symm.trans e)];exact⟨h1,ry⟩
  ·rw[if_neg e,if_neg (λz=>e (h1.trans z))];exact⟨h1,h2⟩
theorem KV.put {cC:List (κ×V)}{vs:List (κ×aa)}(r:KV cC vs)(k:κ){y:V}{u:aa}(ry:RelV y u):KV (putK cC k y) (stored vs k u):=by
 unfold putK stored
 rw[r.any k]
 by_cases e:(vs.any λkv=>decide (kv.1=k))=true
 ·rw[if_pos e,if_pos e];exact r.repl k ry
 ·rw[if_neg e,if_neg e];exact Paired.snoc r ⟨rfl,ry⟩
theorem KV.length {cC:List (κ×V)}{vs:List (κ×aa)}(r:KV cC vs):cC.length=vs.length:=Paired.length r
end
theorem HS {P:bn}{w:bP}{k:fu}{u:aa}(r:RelV (kV k) u):(fE P w).is k u=true:=by
 cases k with
 |inl i=>obtain⟨t,e⟩:=(show∃t,u=aa.int i t from r);subst e;exact Zx P w i t
 |inr x=>obtain⟨t,e⟩:=(show∃t,u=aa.str x t from r);subst e;exact Zy P w x t
theorem Q4 {P:bn}{w:bP}:∀{ks:List fu} {us:List aa},bR (ks.map kV) us->ItemsAre (fE P w) ks us
 |[],_,r=>by rw[pB]at r;cases r;exact .nil
 |k::ks,_,r=>by
  rw[aV]at r
  cases r with
  |cons h t=>exact .cons (HS h) (Q4 t)
abbrev KT (H:Hp):List (List fu×V)->List (List fu×ah×aa)->Prop:=Paired λp q=>p.1=q.1/\H q.2.1=some (.tup (p.1.map kV))/\RelV p.2 q.2.2
theorem KT.val {H:Hp}{cC:List (List fu×V)}{xs:List (List fu×ah×aa)}(r:KT H cC xs)(k:List fu):kd (iR cC k) ((qA xs k).map (·.2)):=by
 induction r with
 |nil=>exact True.intro
 |@cons p q ps qs h t ih=>
  obtain⟨h1,_,h2⟩:=h
  by_cases e:p.1=k
  ·have e':q.1=k:=h1.symm.trans e
   have b:qA (q::qs) k=some q.2:=by simp[qA,dg,e']
   rw[Ng e,b];exact h2
  ·have e':¬q.1=k:=λz=>e (h1.trans z)
   have b:qA (q::qs) k=qA qs k:=by simp[qA,dg,e']
   rw[Nh e,b];exact ih
theorem KT.repl {H:Hp}{cC:List (List fu×V)}{xs:List (List fu×ah×aa)}(r:KT H cC xs)(k:List fu){y:V}{u:aa}(ry:RelV y u) :
  KT H (cC.map λkv=>if kv.1=k then(kv.1,y)else kv) (xs.map (putAt k u)):=by
 induction r with
 |nil=>exact .nil
 |@cons p q ps qs h t ih=>
  rw[aV,aV]
  refine .cons ?_ ih
  obtain⟨h1,h2,h3⟩:=h
  unfold putAt
  by_cases e:p.1=k
  ·rw[if_pos e,if_pos (h1.symm.trans e)];exact⟨h1,h2,ry⟩
  ·rw[if_neg e,if_neg (λz=>e (h1.trans z))];exact⟨h1,h2,h3⟩
theorem KT.put {H:Hp}{cC:List (List fu×V)}{xs:List (List fu×ah×aa)}(r:KT H cC xs)(k:List fu){b:ah}{y:V}{u:aa}(hb:H b=some (.tup (k.map kV)))(ry:RelV y u) :
  KT H (putK cC k y) (storedH xs k b u):=by
 have e:(cC.any λkv=>decide (kv.1=k))=(qA xs k).isSome:=by
  rw[Ry,(r.val k).isSome_eq,kO]
 unfold putK storedH
 rw[e]
 by_cases q:(qA xs k).isSome=true
 ·rw[if_pos q,if_pos q];exact r.repl k ry
 ·rw[if_neg q,if_neg q];exact Paired.snoc r ⟨rfl,hb,ry⟩
theorem KT.keeps {H H':Hp}{cC:List (List fu×V)}{xs:List (List fu×ah×aa)}(r:KT H cC xs)(ht:∀b ys,H b=some (.tup ys)->H' b=some (.tup ys)):KT H' cC xs :=
 Paired.mapP r λ_ _ z=>⟨z.1,ht _ _ z.2.1,z.2.2⟩
section
variable {P:bn}{w:bP}{H:Hp}{h:aM}{a:ah}
theorem Tn {u:HO}(ok:kB P w H h)(e:Rd H a u):d4 P w H h a u:=e.ok ok
theorem CD {cC:List (fu×V)}(ok:kB P w H h)(e:Rd H a (.dK cC)):cC.length<=sizeLine/\(a==gq)=false/\∃vs,KV cC vs/\h.DictOf (fE P w) a vs :=
 show d4 P w H h a (.dK cC)from Tn ok e
theorem zu1 {cC:List (fu×V)}(ok:kB P w H h)(e:H a=some (.dK cC)):cC.length<=sizeLine/\(a==gq)=false/\∃vs,KV cC vs/\h.DictOf (fE P w) a vs:=CD ok (.inl e)
theorem HQ {ks:List fu}(ok:kB P w H h)(e:H a=some (.tup (ks.map kV))):(nU (fE P w)).is h ks a:=by
 obtain⟨_,cx,r,o,h1,h2,n,h3⟩:=(show d4 P w H h a (.tup (ks.map kV))from ok a _ e)
 exact⟨o,cx.toArray,n,h1,h2,h3,by simpa using Q4 r⟩
theorem HU {cC:List (List fu×V)}(ok:kB P w H h)(e:Rd H a (.dT cC)):cC.length<=sizeLine/\(a==gq)=false /\
  ∃xs,KT H cC xs/\h.DictOfH (nU (fE P w)) a xs:=by
 obtain⟨z,y,xs,r,o,es,ep,h1,h2,h3,h4,h5⟩:=(show d4 P w H h a (.dT cC)from Tn ok e)
 refine⟨z,y,xs,r,o,es,ep,h1,h2,h3,h4,λx hx=>?_,h5⟩
 have all:∀{l:List (List fu×V)} {m:List (List fu×ah×aa)},KT H l m->∀x∈m,(nU (fE P w)).is h x.1 x.2.1:=by
  intro l m q
  induction q with
  |nil=>intro x hx;exact nomatch hx
  |@cons p q ps qs hq t ih=>
   intro x hx
   rcases aE.mp hx with e|hx
   ·subst e
    exact HQ ok (by rw[←hq.1];exact hq.2.1)
   ·exact ih x hx
 exact all r x hx
theorem zu2 {cC:List (List fu×V)}(ok:kB P w H h)(e:H a=some (.dT cC)):cC.length<=sizeLine/\(a==gq)=false /\
  ∃xs,KT H cC xs/\h.DictOfH (nU (fE P w)) a xs:=HU ok (.inl e)
end
def kQ (H:Hp)(a:ah)(y:V)(r:Option V):Prop :=
 (∃cC k,Rd H a (.dK cC)/\y=kV k/\r=iR cC k)\/∃cC k b,Rd H a (.dT cC)/\y=.ref b/\H b=some (.tup (k.map kV))/\r=iR cC k
def nG (H:Hp)(a:ah)(y v:V)(H':Hp):Prop :=
 (∃cC k,H a=some (.dK cC)/\y=kV k/\cC.length<sizeLine/\H'=cY H a (.dK (putK cC k v))) \/
 ∃cC k b,H a=some (.dT cC)/\y=.ref b/\H b=some (.tup (k.map kV))/\cC.length<sizeLine/\H'=cY H a (.dT (putK cC k v))
theorem kQ.k {H:Hp}{a:ah}{cC:List (fu×V)}{k:fu}(e:H a=some (.dK cC)):kQ H a (kV k) (iR cC k):=.inl ⟨cC,k,.inl e,rfl,rfl⟩
theorem kQ.t {H:Hp}{a b:ah}{cC:List (List fu×V)}{k:List fu}(e:H a=some (.dT cC))(eb:H b=some (.tup (k.map kV))):kQ H a (.ref b) (iR cC k):=.inr ⟨cC,k,b,.inl e,rfl,eb,rfl⟩
theorem nG.k {H:Hp}{a:ah}{cC:List (fu×V)}{k:fu}{v:V}(e:H a=some (.dK cC))(hl:cC.length<sizeLine):nG H a (kV k) v (cY H a (.dK (putK cC k v))):=.inl ⟨cC,k,e,rfl,hl,rfl⟩
theorem nG.t {H:Hp}{a b:ah}{cC:List (List fu×V)}{k:List fu}{v:V}(e:H a=some (.dT cC))(eb:H b=some (.tup (k.map kV)))(hl:cC.length<sizeLine) :
  nG H a (.ref b) v (cY H a (.dT (putK cC k v))):=.inr ⟨cC,k,b,e,rfl,eb,hl,rfl⟩
section
variable {X:Cx}{ai:List (ah×df)}{σ:St}{H:Hp}{s:aj}{a:ah}{y v:V}{u r:aa}{o:Option V}{A:bx}{E:aa->aj->Prop}
theorem Inv.big (I:Inv X ai σ H s):gq<s.heap.objs.size:=by
 have h:av<s.heap.objs.size:=(I.mod.glob.keeps I.bk).lt
 exact Nat.lt_trans (by decide) h
theorem zkg {Q:aa->aj->Prop}(hu:A.units+1<ip)(I:Inv X ai σ H s)(g:kQ H a y (some v))(ry:RelV y u)(h:∀w' s',Inv X ai σ H s'->RelV v w'->Q w' s') :
  aT (aI X.prog X.w) A (nk (.ref a) u) Q E s:=by
 rcases g with⟨cC,k,e,ey,l⟩|⟨cC,k,b,e,ey,eb,l⟩
 ·subst ey
  obtain⟨z,hd,vs,rel,dd⟩:=CD I.hok e
  obtain⟨w',hw,oW⟩:=kd.some_of (v:=v) (o:=nu vs k) (by rw[l];exact rel.val k)
  exact wpAny_getItem_of (HS ry) dd.mapOf hw (h w' _ (I.tok _) oW)
 ·subst ey
  cases(show u=aa.ref b from ry)
  obtain⟨z,hd,xs,rel,dd⟩:=HU I.hok e
  obtain⟨w',hw,oW⟩:=kd.some_of (v:=v) (o:=(qA xs k).map (·.2)) (by rw[l];exact rel.val k)
  obtain⟨p,hp,VN⟩:=bY.mp hw
  refine wpAny_getItem_heap (iU hu) (HQ I.hok eb) dd hp ?_
  rw[VN]
  exact h w' _ (I.tok _) oW
theorem Ky {Q:aa->aj->Prop}(hu:A.units+1<ip)(I:Inv X ai σ H s)(g:kQ H a y o)(ry:RelV y u)(h:∀s',Inv X ai σ H s'->Q (.bool o.isSome) s') :
  aT (aI X.prog X.w) A (cL .In u (.ref a)) Q E s:=by
 rcases g with⟨cC,k,e,ey,l⟩|⟨cC,k,b,e,ey,eb,l⟩
 ·subst ey
  obtain⟨z,hd,vs,rel,dd⟩:=CD I.hok e
  refine wpAny_in_of (HS ry) hd dd.mapOf ?_
  rw[←(rel.val k).isSome_eq,←l]
  exact h _ (I.tok _)
 ·subst ey
  cases(show u=aa.ref b from ry)
  obtain⟨z,hd,xs,rel,dd⟩:=HU I.hok e
  refine wpAny_in_heap (iU hu) (HQ I.hok eb) hd dd ?_
  have q:=(rel.val k).isSome_eq
  rw[kO]at q
  rw[←q,←l]
  exact h _ (I.tok _)
theorem zqc {Q:aa->aj->Prop}(hu:A.units+1<ip)(I:Inv X ai σ H s)(g:kQ H a y o)(ry:RelV y u)(h:∀s',Inv X ai σ H s'->Q (.bool (!o.isSome)) s') :
  aT (aI X.prog X.w) A (cL .NotIn u (.ref a)) Q E s:=by
 rcases g with⟨cC,k,e,ey,l⟩|⟨cC,k,b,e,ey,eb,l⟩
 ·subst ey
  obtain⟨z,hd,vs,rel,dd⟩:=CD I.hok e
  refine wpAny_notIn_of (HS ry) hd dd.mapOf ?_
  rw[←(rel.val k).isSome_eq,←l]
  exact h _ (I.tok _)
 ·subst ey
  cases(show u=aa.ref b from ry)
  obtain⟨z,hd,xs,rel,dd⟩:=HU I.hok e
  refine wpAny_notIn_heap (iU hu) (HQ I.hok eb) hd dd ?_
  have q:=(rel.val k).isSome_eq
  rw[kO]at q
  rw[←q,←l]
  exact h _ (I.tok _)
theorem R7 {h':aM}{t':Nat}{ob:HO}(I:Inv X ai σ H s)(mu:CL (H a))(hs:gY a s.heap h')(he:∃q,h'.get? a=some q)(new:d4 X.prog X.w (cY H a ob) h' a ob) :
  Inv X ai σ (cY H a ob) { s with heap:=h',toks:=t' } :=
 I.write (x:=a) (e:=a) mu (.inl rfl) (λb q hb z=>(hs.2 b hb).trans z) he new
theorem ztb {P:bn}{w:bP}{H':Hp}{h':aM}{cC:List (fu×V)}{vs:List (fu×aa)}(z:cC.length<=sizeLine)(hd:(a==gq)=false)(rel:KV cC vs)(dd:h'.DictOf (fE P w) a vs) :
  d4 P w H' h' a (.dK cC):=⟨z,hd,vs,rel,dd⟩
theorem zki {H':Hp}{Q:Unit->aj->Prop}(hu:A.units+1<ip)(I:Inv X ai σ H s)(g:nG H a y v H')(ry:RelV y u)(rv:RelV v r)(h:∀s',Inv X ai σ H' s'->Q () s') :
  aT (aI X.prog X.w) A (nr (.ref a) u r) Q E s:=by
 rcases g with⟨cC,k,e,ey,l,eH⟩|⟨cC,k,b,e,ey,eb,l,eH⟩
 ·subst ey eH
  obtain⟨z,hd,vs,rel,dd⟩:=zu1 I.hok e
  have hz:vs.length<=sizeLine:=by rw[←rel.length];exact z
  have hl:(putK cC k v).length<=sizeLine:=by have:=QA cC k v;omega
  refine wpAny_setItem_pairs (hsz:=hz) (HS ry) dd λh' Ik hs=>h _ ?_
  have he:∃q,h'.get? a=some q:=let⟨q,_,_,hq,_⟩:=Ik;⟨q,hq⟩
  exact R7 I (by rw[e];exact True.intro) hs he (ztb hl hd (rel.put k rv) Ik)
 ·subst ey eH
  cases(show u=aa.ref b from ry)
  obtain⟨z,hd,xs,rel,dd⟩:=zu2 I.hok e
  have hz:xs.length<=sizeLine:=by rw[←Paired.length rel];exact z
  have hl:(putK cC k v).length<=sizeLine:=by have:=QA cC k v;omega
  refine wpAny_setItem_heap (hsz:=hz) (iU hu) (HQ I.hok eb) dd λh' Ik hs=>h _ ?_
  obtain⟨q,es,ep,hq,h2,h3,h4,_,h5⟩:=Ik
  refine R7 I (by rw[e];exact True.intro) hs ⟨q,hq⟩ ⟨hl,hd,_,(rel.put k eb rv).keeps λc ys ec=>?_,q,es,ep,hq,h2,h3,h4,h5⟩
  rw[zk (zut ec e (λz=>nomatch z))]
  exact ec
end
section
variable {X:Cx}{ai:List (ah×df)}{σ:St}{H:Hp}{s:aj}{a:ah}{cC:List (fu×V)}{k:fu}{u:aa}{A:bx}{E:aa->aj->Prop}
theorem zu3 {Q:aa->aj->Prop}(I:Inv X ai σ H s)(e:Rd H a (.dK cC))(h:∀t s',Inv X ai σ H s'->Q (.int cC.length t) s'):aT (aI X.prog X.w) A (call (.builtin "len") [.ref a]) Q E s:=by
 obtain⟨z,hd,vs,rel,dd⟩:=CD I.hok e
 refine call_len_dict hd dd (by rw[←rel.length];rw[bX]at z;omega) ?_
 rw[←rel.length]
 exact h _ _ (I.tok _)
end
def zT (i:Expr):Prop:=∀ov iv,oB i false ov iv=operate [ov,iv] (nk ov iv)
theorem zqd {prog:bn}{w:bP}{A:bx}{E:aa->aj->Prop}{s:aj}{env:Env}{value slice:Expr}{pos:cX}{T id:String}{Q:aa->aj->Prop}
  (hl:mE (.type T) "__getitem__"=pure (some (.builtin id))) (hs:zT slice)
  (h:aT (aI prog w) A (bG value env) (λo s₁=>aT (aI prog w) A (bG slice env) (λi s₂=>s₂.TypeIs o T/\aT (aI prog w) A (nk o i) Q E s₂) E s₁) E s) :
  aT (aI prog w) A (bG (.Subscript value slice pos) env) Q E s:=by
 refine Subscript_ (dc h (λo s₁ h₁=>dc h₁ (λi s₂ h₂=>?_) λ_ _ x=>x) λ_ _ x=>x)
 obtain⟨hT,h₂⟩:=h₂
 unfold subscriptTail
 refine aw ?_
 rw[getitemInPython_of_ne hT.not_modules]
 refine aw (pw hT hl ?_)
 have fin:aT (aI prog w) A (oB slice false o i) (λr s₃=>aT (aI prog w) A (letTemporaryGo value o r >>= λ_=>pure r) Q E s₃) E s₂:=by
  rw[hs o i]
  exact wpAny_operating (dc h₂ (λr s₃ h₃=>aw (wpAny_letTemporaryGo (bi h₃))) λ_ _ x=>x)
 first
  |exact bi (aw fin)
  |exact aw (bi (aw fin))
  |exact aw fin
theorem ZA {X:Cx}{ai:List (ah×df)}{σ:St}{H:Hp}{s:aj}{a:ah}{y:V}{o:Option V}(I:Inv X ai σ H s)(g:kQ H a y o):s.TypeIs (.ref a) "dict":=by
 rcases g with⟨cC,k,e,_,_⟩|⟨cC,k,b,e,_,_,_⟩
 ·obtain⟨_,_,vs,_,dd⟩:=CD I.hok e
  exact dd.typeIs
 ·obtain⟨_,_,xs,_,dd⟩:=HU I.hok e
  exact dd.typeIs
def Hx (td ty:TE):TE:=λσ H Q=>td σ H λx H1=>ty σ H1 λy H2=>∃a v,x=.ref a/\kQ H2 a y (some v)/\Q v H2
def MK (ty td:TE):TE:=λσ H Q=>ty σ H λy H1=>td σ H1 λx H2=>∃a o,x=.ref a/\kQ H2 a y o/\Q (.bl o.isSome) H2
def xO (ty td:TE):TE:=λσ H Q=>ty σ H λy H1=>td σ H1 λx H2=>∃a o,x=.ref a/\kQ H2 a y o/\Q (.bl (!o.isSome)) H2
def Hs (td ty tv:TE):TS:=λD σ H=>tv σ H λv H1=>td σ H1 λx H2=>ty σ H2 λy H3=>∃a H4,x=.ref a/\nG H3 a y v H4/\D.nx σ H4
section
variable {X:Cx}{o i e value:Expr}{pos pos' gE:cX}{td ty tv:TE}
theorem zqe (hu:X.A.units+1<ip)(ho:PE X o td)(hi:PE X i ty)(hs:zT i):PE X (.Subscript o i pos) (Hx td ty):=by
 intro ai s σ H Q I h
 refine zqd PySem.F.slot_dict_getitem.lookup hs (dw (ho ai s σ H _ I h) λu s1 ⟨x,H1,I1,rx,q1⟩=>dw (hi ai s1 σ H1 _ I1 q1) λiv s2 dO=>?_)
 obtain⟨y,H2,I2,ry,a,v,ex,g,q2⟩:=dO
 subst ex
 obtain rfl:u=aa.ref a:=rx
 exact⟨ZA I2 g,zkg hu I2 g ry λw' s3 I3 oW=>⟨v,H2,I3,oW,q2⟩⟩
theorem ztc (hu:X.A.units+1<ip)(hi:PE X i ty)(ho:PE X o td):PC X .In i o (MK ty td):=by
 intro ai s σ H Q I h
 refine dw (hi ai s σ H _ I h) λiv s1 ⟨y,H1,I1,ry,q1⟩=>dw (ho ai s1 σ H1 _ I1 q1) λu s2 dO=>?_
 obtain⟨x,H2,I2,rx,a,ov,ex,g,q2⟩:=dO
 subst ex
 obtain rfl:u=aa.ref a:=rx
 exact Ky hu I2 g ry λs3 I3=>⟨.bl ov.isSome,H2,I3,rfl,q2⟩
theorem zkj (hu:X.A.units+1<ip)(hi:PE X i ty)(ho:PE X o td):PC X .NotIn i o (xO ty td):=by
 intro ai s σ H Q I h
 refine dw (hi ai s σ H _ I h) λiv s1 ⟨y,H1,I1,ry,q1⟩=>dw (ho ai s1 σ H1 _ I1 q1) λu s2 dO=>?_
 obtain⟨x,H2,I2,rx,a,ov,ex,g,q2⟩:=dO
 subst ex
 obtain rfl:u=aa.ref a:=rx
 exact zqc hu I2 g ry λs3 I3=>⟨.bl (!ov.isSome),H2,I3,rfl,q2⟩
theorem R8 (hu:X.A.units+1<ip)(ho:PE X o td)(hi:PE X i ty)(hv:PE X value tv)(hs:dH value (some (.Subscript o i pos')) pos.line X.env=pure false) :
  PS X (.Assign [.Subscript o i pos'] value pos) (Hs td ty tv):=by
 intro ai s σ H D I h
 refine wpAny_Assign_Subscript (dw (hv ai s σ H _ I h) λr s1 ⟨v,H1,I1,rv,q1⟩=>dw (ho ai s1 σ H1 _ I1 q1) λu s2 ⟨x,H2,I2,rx,q2⟩=>dw (hi ai s2 σ H2 _ I2 q2) λiv s3 ⟨y,H3,I3,ry,a,H4,ex,g,q3⟩=>?_) hs
 subst ex
 obtain rfl:u=aa.ref a:=rx
 exact zki hu I3 g ry rv λs4 I4=>⟨σ,H4,I4,q3⟩
end
theorem zm7 {P:bn}{w:bP}{H:Hp}(h:aM)(hb:gq<h.objs.size):d4 P w H (h.push { cls:=.type "dict",data:=.dict #[] }) h.objs.size (.dK []) :=
  ⟨dh _,beq_eq_false_iff_ne.mpr (Ne.symm (bo hb)),[],.nil,aM.DictOf.new h⟩
def BE:TE:=λ_ H Q=>∀p,H p=none->Q (.ref p) (cY H p (.dK []))
section
variable {X:Cx}{pos:cX}
theorem zm8:PE X (.Dict [] [] pos) BE:=λai s σ H Q I h=>
 wpAny_Dict_empty ⟨.ref s.heap.objs.size,_,I.laid (a:=s.heap.objs.size) (o:=.dK []) (t':=s.toks) (λ_ _ q=>ar _ q) (aF _) (zm7 s.heap I.big),rfl,h _ (I.hok.fresh (aF _))⟩
end
def Uj (H:Hp)(a:ah):Prop:=(∃cC,Rd H a (.dK cC))\/∃cC,Rd H a (.dT cC)
section
variable {X:Cx}{ai:List (ah×df)}{σ:St}{H:Hp}{s:aj}{a:ah}{y d:V}{u r:aa}{o:Option V}{A:bx}{E:aa->aj->Prop}
end
section
variable {X:Cx}{o e f:Expr}{dQ eT:cX}{td ty tx:TE}
end
section
variable {X:Cx}{ai:List (ah×df)}{σ:St}{H:Hp}{s:aj}{a:ah}{cC:List (fu×V)}{A:bx}{E:aa->aj->Prop}
end
section
variable {X:Cx}{ai:List (ah×df)}{σ:St}{H:Hp}{s:aj}{a:ah}{y:V}{u:aa}{A:bx}{E:aa->aj->Prop}
end
end L2
namespace L2
open PySem PySem.Spec PyProof.Rows
section
variable {X:Cx}
theorem zkl:eY X (.builtin "len") (λxs H Q=>∃a cC,xs=[V.ref a]/\H a=some (.dK cC)/\Q (.int cC.length) H):=by
 intro ai s σ H xs us Q I r h
 obtain⟨a,cC,rfl,ha,q⟩:=h
 obtain⟨u,rfl,ru⟩:=nh r
 cases ru
 exact zu3 I (.inl ha) λt s' I'=>⟨.int cC.length,H,I',⟨t,rfl⟩,q⟩
end
end L2
namespace L2
open PySem
section
variable {κ:Type}[DecidableEq κ]
end
end L2
namespace L2
open PySem PySem.Spec PyProof.Rows
def Sz (n:Nat)(i:Int):Prop:=i.natAbs<2 ^ n
theorem Sz.bits {n:Nat}{i:Int}(h:Sz n i):di.Int.intBits i<=n:=by
 unfold di.Int.intBits
 by_cases h0:(i==0)=true
 ·rw[if_pos h0];exact dh _
 ·rw[if_neg h0]
  have hi:i.natAbs≠0:=by
   have:i≠0:=by simpa using h0
   omega
  exact Nat.succ_le_of_lt ((mT hi).mpr h)
theorem Sz.log {n:Nat}{i:Int}(h:Sz n i)(hn:0<n):i.natAbs.log2<n:=by
 by_cases hi:i.natAbs=0
 ·rw[hi];exact hn
 ·exact(mT hi).mpr h
theorem Sz.mono {n m:Nat}{i:Int}(h:Sz n i)(hm:n<=m):Sz m i:=bc h (dG (by decide) hm)
theorem Sz.le {n:Nat}{i j:Int}(h:Sz n i)(hj:j.natAbs<=i.natAbs):Sz n j:=fU hj h
theorem Sz.mul {n m:Nat}{i j:Int}(h:Sz n i)(h':Sz m j):Sz (n+m) (i*j):=by
 unfold Sz at *
 rw[nR,Nat.pow_add]
 exact Nat.mul_lt_mul'' h h'
theorem Sz.add {n:Nat}{i j:Int}(h:Sz n i)(h':Sz n j):Sz (n+1) (i+j):=by
 unfold Sz at *
 rw[lO]
 omega
def nV (i j:Int):Prop:=zQ i j\/(Sz 100000 i/\Sz 100000 j)
theorem nV.ok {i j:Int}(h:nV i j):IntMulOk i j:=by
 rcases h with h|h
 ·exact h.ok
 ·exact IntMulOk.of_bits (bZ h.1.bits (by decide)) (bZ h.2.bits (by decide))
section
variable {X:Cx}
theorem w8:gM X (d9 .Mult) (rI nV λi j=>.int (i*j)):=Cj λ_ _ _ _ _ _ _ hc q=>mul_int q hc.ok
theorem vq:gM X (d9 .FloorDiv) (rI (λ_ j=>j≠0/\Sz 9000 j) λi j=>.int (i.fdiv j)) :=
 Cj λ_ _ _ _ _ _ _ hc q=>floordiv_int hc.1 q (.inl (PyProof.noPylong_of_log2 (hc.2.log (by decide))))
theorem RelV.bool_iff {x:V}{v:aa}{b:Bool}(r:RelV x v):(v==aa.bool b)=decide (x=.bl b):=by
 cases x with
 |bl c=>
  cases(show v=aa.bool c from r)
  by_cases h:c=b
  ·subst h;simp
  ·have h1:¬V.bl c=V.bl b:=λz=>h (V.bl.inj z)
   rw[decide_eq_false h1]
   exact beq_eq_false_iff_ne.mpr λz=>h (by injection z)
 |non=>cases(show v=aa.none from r);rw[decide_eq_false (λz=>nomatch z)];exact beq_eq_false_iff_ne.mpr λz=>nomatch z
 |int i=>obtain⟨t,rfl⟩:=(show∃t,v=aa.int i t from r);rw[decide_eq_false (λz=>nomatch z)];exact beq_eq_false_iff_ne.mpr λz=>nomatch z
 |str i=>obtain⟨t,rfl⟩:=(show∃t,v=aa.str i t from r);rw[decide_eq_false (λz=>nomatch z)];exact beq_eq_false_iff_ne.mpr λz=>nomatch z
 |byt i=>obtain⟨t,rfl⟩:=(show∃t,v=aa.bytes i t from r);rw[decide_eq_false (λz=>nomatch z)];exact beq_eq_false_iff_ne.mpr λz=>nomatch z
 |flt i=>obtain⟨t,rfl⟩:=(show∃t,v=aa.float i t from r);rw[decide_eq_false (λz=>nomatch z)];exact beq_eq_false_iff_ne.mpr λz=>nomatch z
 |ref i=>cases(show v=aa.ref i from r);rw[decide_eq_false (λz=>nomatch z)];exact beq_eq_false_iff_ne.mpr λz=>nomatch z
 |ty i=>cases(show v=aa.type i from r);rw[decide_eq_false (λz=>nomatch z)];exact beq_eq_false_iff_ne.mpr λz=>nomatch z
theorem Qr {x:V}{v:aa}{b:Bool}(r:RelV x v):plainIs v (.bool b)=true:=by
 cases x with
 |bl c=>cases(show v=aa.bool c from r);rfl
 |non=>cases(show v=aa.none from r);rfl
 |int i=>obtain⟨t,rfl⟩:=(show∃t,v=aa.int i t from r);rfl
 |str i=>obtain⟨t,rfl⟩:=(show∃t,v=aa.str i t from r);rfl
 |byt i=>obtain⟨t,rfl⟩:=(show∃t,v=aa.bytes i t from r);rfl
 |flt i=>obtain⟨t,rfl⟩:=(show∃t,v=aa.float i t from r);rfl
 |ref i=>cases(show v=aa.ref i from r);rfl
 |ty i=>cases(show v=aa.type i from r);rfl
theorem ztd:gM X (cL .Is) (λx y H Q=>∃b,y=.bl b/\Q (.bl (decide (x=.bl b))) H):=by
 intro ai s σ H x y v u Q I rx ry h
 obtain⟨b,rfl,q⟩:=h
 cases ry
 exact wpAny_is_plain (Qr rx) (JS I q (RelV.bool_iff rx).symm)
theorem zkm:gM X (cL .IsNot) (λx y H Q=>∃b,y=.bl b/\Q (.bl (!decide (x=.bl b))) H):=by
 intro ai s σ H x y v u Q I rx ry h
 obtain⟨b,rfl,q⟩:=h
 cases ry
 exact wpAny_isNot_plain (Qr rx) (JS I q (by rw[RelV.bool_iff rx]))
theorem zm9:eY X (.builtin "isinstance") (λxs H Q=>∃x c t b,xs=[x,.ty c]/\kC X.K H x t/\bA X.K t (.type c)=some b/\Q (.bl b) H):=by
 intro ai s σ H xs us Q I r h
 obtain⟨x,c,t,b,rfl,ty,e,q⟩:=h
 obtain⟨u,w',rfl,ru,oW⟩:=vals2 r
 cases(show w'=aa.type c from oW)
 exact QQ I ru ty e λtk=>⟨.bl b,H,I.tok tk,rfl,q⟩
theorem zkn:eY X (.builtin "isinstance") (λxs H Q=>∃x C t b,xs=[x,.ref C]/\kC X.K H x t/\bA X.K t (.ref C)=some b/\Q (.bl b) H):=by
 intro ai s σ H xs us Q I r h
 obtain⟨x,c,t,b,rfl,ty,e,q⟩:=h
 obtain⟨u,w',rfl,ru,oW⟩:=vals2 r
 cases(show w'=aa.ref c from oW)
 exact QQ I ru ty e λtk=>⟨.bl b,H,I.tok tk,rfl,q⟩
end
mutual
inductive Dt (K:ae)(H:Hp):V->dk->Prop
 |non:Dt K H .non .none
 |bl (b:Bool):Dt K H (.bl b) (.bool b)
 |int (i:Int):Dt K H (.int i) (.int i)
 |str (x:aK):Dt K H (.str x) (.str x)
 |lst {a:ah} {xs:List V} {ds:List dk}:gz K H a xs->Dts K H xs ds->Dt K H (.ref a) (.list ds)
 |tup {a:ah} {xs:List V} {ds:List dk}:lE K H a xs->Dts K H xs ds->Dt K H (.ref a) (.tuple ds)
inductive Dts (K:ae)(H:Hp):List V->List dk->Prop
 |nil:Dts K H [] []
 |cons {v:V} {d:dk} {vs:List V} {ds:List dk}:Dt K H v d->Dts K H vs ds->Dts K H (v::vs) (d::ds)
end
section
variable {X:Cx}{ai:List (ah×df)}{σ:St}{H:Hp}{s:aj}
mutual
theorem Dt.reads (I:Inv X ai σ H s):∀{v:V} {d:dk} {u:aa},Dt X.K H v d->RelV v u->∃as,Reads s.heap u d as
 |_,_,_,.non,r=>by cases r;exact⟨_,.none⟩
 |_,_,_,.bl b,r=>by cases r;exact⟨_,.bool b⟩
 |_,_,_,.int i,r=>by obtain⟨t,rfl⟩:=r;exact⟨_,.int i t⟩
 |_,_,_,.str x,r=>by obtain⟨t,rfl⟩:=r;exact⟨_,.str x t⟩
 |_,_,_,.lst hq ds,r=>by
  obtain⟨cx,rv,⟨o,n,e,c,_,dd⟩,_⟩:=I.list hq
  obtain⟨as,ra⟩:=Dts.reads I ds rv
  cases r
  exact⟨_,.list e c dd (by simpa using ra)⟩
 |_,_,_,.tup hq ds,r=>by
  obtain⟨cx,rv,⟨o,e,c,n,dd⟩,_⟩:=I.tuple hq
  obtain⟨as,ra⟩:=Dts.reads I ds rv
  cases r
  exact⟨_,.tuple e c dd (by simpa using ra)⟩
theorem Dts.reads (I:Inv X ai σ H s):∀{vs:List V} {ds:List dk} {us:List aa},Dts X.K H vs ds->bR vs us->∃as,ReadsAll s.heap us ds as
 |_,_,_,.nil,r=>by cases r;exact⟨_,.nil⟩
 |_,_,_,.cons h t,r=>by
  cases r with
  |cons p q=>
   obtain⟨as,ra⟩:=Dt.reads I h p
   obtain⟨bs,rb⟩:=Dts.reads I t q
   exact⟨_,.cons ra rb⟩
end
end
section
variable {X:Cx}
def Bw (K:ae)(neg:Bool):R2:=λx y H Q=>∃d e,Dt K H x d/\Dt K H y e/\d.canLay0=true/\e.canLay0=true/\min d.depth e.depth<=60/\Q (.bl (if neg then !dk.eqv d e else dk.eqv d e)) H
theorem qf (hu:X.A.units+64<ip):gM X (cL .Eq) (Bw X.K false):=by
 intro ai s σ H x y v u Q I rx ry h
 obtain⟨d,e,hd,he,c1,c2,dp,q⟩:=h
 obtain⟨as,ra⟩:=hd.reads I rx
 obtain⟨bs,rb⟩:=he.reads I ry
 exact SeqAt.compareEq_reads ra rb c1 c2 (by omega) ⟨.bl _,H,I,rfl,q⟩
theorem JU (hu:X.A.units+64<ip):gM X (cL .NotEq) (Bw X.K true):=by
 intro ai s σ H x y v u Q I rx ry h
 obtain⟨d,e,hd,he,c1,c2,dp,q⟩:=h
 obtain⟨as,ra⟩:=hd.reads I rx
 obtain⟨bs,rb⟩:=he.reads I ry
 exact SeqAt.compareNe_reads ra rb c1 c2 (by omega) ⟨.bl _,H,I,rfl,q⟩
theorem Dts.ints (K:ae)(H:Hp):∀ns:List Int,Dts K H (ns.map V.int) (ns.map dk.int)
 |[]=>.nil
 |n::r=>.cons (.int n) (Dts.ints K H r)
end
theorem jf {H:Hp}{p:ah}(h:H p=none)(o:HO):bC H (cY H p o):=λb u q=>by rw[zk (zl q h)];exact q
theorem dU.u64 {k:Nat}{A:bx}(r:dU k A):A.units+64<ip:=r.units
theorem small {n:Nat}(h:n<=1000):n<=sizeLine:=lL (tm h)
end L2
namespace L2
open PySem PySem.Spec PyProof.Rows
end L2
namespace L2
open PySem PySem.Spec PyProof.Rows
end L2
namespace L2
open PySem
theorem zte:bW "int"=some (.type "int"):=by decide +kernel
theorem S6:bW "str"=some (.type "str"):=by decide +kernel
theorem zqf:bW "bool"=some (.type "bool"):=by decide +kernel
theorem Cs:bW "list"=some (.type "list"):=by decide +kernel
theorem ztf:bW "len"=some (.builtin "len"):=by decide +kernel
theorem ztg:bW "abs"=some (.builtin "abs"):=by decide +kernel
theorem NY:bW "max"=some (.builtin "max"):=by decide +kernel
theorem NZ:bW "sum"=some (.builtin "sum"):=by decide +kernel
theorem Qp:bW "isinstance"=some (.builtin "isinstance"):=by decide +kernel
theorem zth:bW "all"=some (.builtin "all"):=by decide +kernel
end L2
namespace L2
open PySem PySem.Spec PyProof.Rows
section
variable {prog:bn}{w:bP}{A:bx}{R:Result->aj->Prop}{s:aj}
theorem Qs {jX target iter:Expr}{ifs:List Expr}{scope:gc}{pos:cX}{it fv:aa}{env:Env}(I:Nat->aj->Prop)
  (cy:∀n s,I n s->aT (aI prog w) A (pyNext it) (λr s₁=>match r with
   |none=>R (.ok .next) s₁
   |some v=>aT (aI prog w) A (iA target it v) (λ_ Qc=>aT (aI prog w) A (gW target env v) (λ_ s₂=>
     aT (aI prog w) A (forIn ifs true λc r=>if r=true then do let ok ← qE c env (bG c env);pure (ForInStep.yield ok)else pure (ForInStep.yield r)) (λok s₃=>
      if ok=true then aT (aI prog w) A (bG jX env) (λx s₄=>
       aT (aI prog w) A (call (.builtin "list.append") [fv,x]) (λ_ s₅=>∃m,m<n/\I m s₅) (λ_ _=>False) s₄) (λ_ _=>False) s₃
      else∃m,m<n/\I m s₃) (λ_ _=>False) s₂) (λ_ _=>False) Qc) (λ_ _=>False) s₁) (λ_ _=>False) s)
  (n:Nat) (h:I n s) :
  eJ (aI prog w) A (.compLoop (.ListComp jX [⟨target,iter,ifs,0⟩] scope pos) 0 it fv env) R s:=by
 have up:∀{α:Type} {m:pq α} {Q:α->aj->Prop} {E:aa->aj->Prop} {s:aj},aT (aI prog w) A m Q (λ_ _=>False) s->aT (aI prog w) A m Q E s:=λh=>dc h (λ_ _ q=>q) λ_ _ f=>f.elim
 refine codeAny_loop rfl I (λn s hI=>?_) n h
 show aT _ A ((compTurn (.ListComp jX [⟨target,iter,ifs,0⟩] scope pos) 0 it fv env).onRaise (λx=>do noteFrame x env;theTreesLotGoes x)) _ _ s
 refine wpAny_noted ?_
 rw[compTurn_list]
 refine aw (jH (aw (dc (up (cy n s hI)) (λr s₁ h₁=>?_) λ_ _ h'=>h')))
 cases r with
 |none=>exact bi h₁
 |some v=>
  refine aw (dc (up h₁) (λ_ Qc V3=>?_) λ_ _ h'=>h')
  refine aw (dc (up V3) (λ_ s₂ h₂=>aw (dc (up h₂) (λok s₃ h₃=>?_) λ_ _ h'=>h')) λ_ _ h'=>h')
  cases ok with
  |false=>exact bi ⟨rfl,h₃⟩
  |true=>
   exact aw (aw (dc (up h₃) (λx s₄ h₄=>aw (dc (up h₄) (λ_ s₅ h₅=>bi (bi ⟨rfl,h₅⟩)) λ_ _ h'=>h')) λ_ _ h'=>h'))
end
theorem Jj {env:Env}:∀(names:List (aK×bp)) (fv:List (aK×ah)),(∀x∈names,x.2=.free->∃c,env.cells.lookup x.1=some c)->(∀y c,fv.lookup y=some c->env.cells.lookup y=some c) ->
  ∃cl,(forIn names fv λ(x:aK×bp) (cs:List (aK×ah))=>if(x.2==bp.free)=true then do let a ← cellOf env x.1;pure (ForInStep.yield ((x.1,a)::cs))else pure (ForInStep.yield cs):pq (List (aK×ah)))=pure cl /\
   (∀y c,cl.lookup y=some c->env.cells.lookup y=some c)/\(∀x∈names,x.2=.free->∃c,cl.lookup x.1=some c)/\∀y c,fv.lookup y=some c->∃c',cl.lookup y=some c'
 |[],fv,_,ha=>⟨fv,rfl,ha,λ_ h=>(nomatch h),λy c h=>⟨c,h⟩⟩
 |(n,k)::r,fv,hn,ha=>by
  by_cases hk:k=.free
  ·subst hk
   obtain⟨c,hc⟩:=hn (n,.free) af rfl
   have e1:cellOf env n=pure c:=by unfold cellOf;rw[hc]
   have Vs:∀y d,((n,c)::fv).lookup y=some d->env.cells.lookup y=some d:=λy d h=>by
    rw[bj]at h
    cases hy:y==n with
    |true=>
     rw[hy]at h
     have:y=n:=eq_of_beq hy
     subst this
     cases h
     exact hc
    |false=>rw[hy]at h;exact ha y d h
   obtain⟨cl,h1,h2,h3,h4⟩:=Jj r ((n,c)::fv) (λx hx=>hn x (ak _ hx)) Vs
   refine⟨cl,?_,h2,?_,?_⟩
   ·rw[mR]
    simp only[beq_self_eq_true,if_true,e1,pure_bind]
    exact h1
   ·intro x hx hf
    rcases aE.mp hx with rfl|hx
    ·exact h4 n c (by rw[bj,beq_self_eq_true])
    ·exact h3 x hx hf
   ·intro y d hy
    cases hb:y==n with
    |true=>exact h4 y c (by rw[bj,hb])
    |false=>exact h4 y d (by rw[bj,hb];exact hy)
  ·have hb:(k==bp.free)=false:=by simpa using hk
   obtain⟨cl,h1,h2,h3,h4⟩:=Jj r fv (λx hx=>hn x (ak _ hx)) ha
   refine⟨cl,?_,h2,?_,h4⟩
   ·rw[mR]
    simp only[hb,cE,if_false,pure_bind]
    exact h1
   ·intro x hx hf
    rcases aE.mp hx with rfl|hx
    ·exact absurd hf hk
    ·exact h3 x hx hf
theorem Jz (n:Nat)(a:aK)(r:List (aK×bp))(fv:List (aK×ah)):cellsFrom n ((a,.cell)::r) fv=cellsFrom (n+1) r ((a,n)::fv):=rfl
theorem JV {k:bp}(hk:k≠.cell)(n:Nat)(a:aK)(r:List (aK×bp))(fv:List (aK×ah)):cellsFrom n ((a,k)::r) fv=cellsFrom n r fv:=by
 cases k<;>first|rfl|exact absurd rfl hk
def jQ (names:List (aK×bp)):Nat:=(names.filter λy=>y.2==bp.cell).length
theorem ND (a:aK)(r:List (aK×bp)):jQ ((a,.cell)::r)=jQ r+1:=by unfold jQ;rw[o9 (by rfl),aC]
theorem S7 {k:bp}(hk:k≠.cell)(a:aK)(r:List (aK×bp)):jQ ((a,k)::r)=jQ r:=by unfold jQ;rw[o8 (by simpa using hk)]
theorem CF:∀(names:List (aK×bp)) (n:Nat) (fv:List (aK×ah)) {x:aK} {c:Nat},(cellsFrom n names fv).lookup x=some c->(n<=c/\c<n+jQ names/\(x,bp.cell)∈names)\/(fv.lookup x=some c/\(x,bp.cell)∉names)
 |[],_,_,_,_,h=>.inr ⟨h,by simp⟩
 |(a,k)::r,n,fv,x,c,h=>by
  by_cases hk:k=.cell
  ·subst hk
   rw[Jz]at h
   rcases CF r (n+1) _ h with⟨h1,h2,h3⟩|⟨h1,h2⟩
   ·refine .inl ⟨by omega,?_,ak _ h3⟩
    rw[ND];omega
   ·rw[bj]at h1
    cases hx:x==a with
    |true=>
     rw[hx]at h1
     cases h1
     refine .inl ⟨aF _,?_,by rw[eq_of_beq hx];exact af⟩
     rw[ND];omega
    |false=>
     rw[hx]at h1
     refine .inr ⟨h1,λz=>?_⟩
     rcases aE.mp z with z|z
     ·cases z;simp at hx
     ·exact h2 z
  ·rw[JV hk]at h
   have hf:=S7 hk a r
   rw[hf]
   rcases CF r n _ h with⟨h1,h2,h3⟩|⟨h1,h2⟩
   ·exact .inl ⟨h1,h2,ak _ h3⟩
   ·refine .inr ⟨h1,λz=>?_⟩
    rcases aE.mp z with z|z
    ·cases z;exact hk rfl
    ·exact h2 z
theorem N2:∀(names:List (aK×bp)) (n:Nat) (fv:List (aK×ah)) {x:aK},(x,bp.cell)∉names->(cellsFrom n names fv).lookup x=fv.lookup x
 |[],_,_,_,_=>rfl
 |(a,k)::r,n,fv,x,h=>by
  have hr:(x,bp.cell)∉r:=λz=>h (ak _ z)
  by_cases hk:k=.cell
  ·subst hk
   rw[Jz,N2 r _ _ hr,bj]
   cases hx:x==a with
   |true=>exact absurd (by rw[eq_of_beq hx];exact af) h
   |false=>rfl
  ·rw[JV hk,N2 r _ _ hr]
theorem N3:∀(names:List (aK×bp)) (n:Nat) (fv:List (aK×ah)),(∀x y c,fv.lookup x=some c->fv.lookup y=some c->x=y)->(∀x c,fv.lookup x=some c->c<n)->∀x y c,(cellsFrom n names fv).lookup x=some c->(cellsFrom n names fv).lookup y=some c->x=y
 |[],_,_,h,_=>h
 |(a,k)::r,n,fv,h,hb=>by
  by_cases hk:k=.cell
  ·subst hk
   rw[Jz]
   refine N3 r (n+1) _ (λx y c e e'=>?_) λx c e=>?_
   ·rw[bj]at e e'
    cases hx:x==a with
    |true=>
     rw[hx]at e
     cases e
     cases hy:y==a with
     |true=>rw[eq_of_beq hx,eq_of_beq hy]
     |false=>rw[hy]at e';exact absurd (hb _ _ e') (er _)
    |false=>
     rw[hx]at e
     cases hy:y==a with
     |true=>rw[hy]at e';cases e';exact absurd (hb _ _ e) (er _)
     |false=>rw[hy]at e';exact h x y c e e'
   ·rw[bj]at e
    cases hx:x==a with
    |true=>rw[hx]at e;cases e;exact fM _
    |false=>rw[hx]at e;exact eX (hb _ _ e)
  ·rw[JV hk]
   exact N3 r n fv h hb
theorem M4 {M:Model}{A:bx}{E:aa->aj->Prop}:∀(names:List (aK×bp)) (cells:List (aK×ah)) (s:aj) (Q:List (aK×ah)->aj->Prop),
    (∀h':aM,(∀b o,s.heap.get? b=some o->h'.get? b=some o)->(∀c,s.heap.objs.size<=c->c<s.heap.objs.size+jQ names->h'.IsCell c none)->Q (cellsFrom s.heap.objs.size names cells) { s with heap:=h' }) ->
    aT M A (forIn names cells λ(x:aK×bp) (cells:List (aK×ah))=>if(x.2==bp.cell)=true then do let a ← alloc { cls:=aa.type "cell",data:=kj.cell none };pure (ForInStep.yield ((x.1,a)::cells))else pure (ForInStep.yield cells)) Q E s
  |[],cells,s,Q,h=>by
    have:=h s.heap (λ_ _ e=>e) (λc h1 h2=>by rw[show jQ []=0 from rfl]at h2;omega)
    rw[wG]
    exact bi this
  |(a,k)::r,cells,s,Q,h=>by
    rw[mR]
    by_cases hk:k=.cell
    · subst hk
      simp only[beq_self_eq_true,if_true,bind_assoc,pure_bind]
      refine aw (wpAny_alloc ?_)
      have ih:=M4 (M:=M) (A:=A) (E:=E) r ((a,s.heap.objs.size)::cells) { s with heap:=s.heap.push { cls:=aa.type "cell",data:=kj.cell none } } Q (λh' k1 k2=>by
        have hz:(s.heap.push { cls:=aa.type "cell",data:=kj.cell none }).objs.size=s.heap.objs.size+1:=et _ _
        have:=h h' (λb o e=>k1 b o (ar _ e)) (λc h1 h2=>by
          rw[ND]at h2
          by_cases hc:c=s.heap.objs.size
          · subst hc
            exact⟨_,k1 _ _ (bH _ rfl),rfl⟩
          · exact k2 c (by show(s.heap.push _).objs.size<=c;rw[hz];omega) (by show c<(s.heap.push _).objs.size+_;rw[hz];omega))
        rw[Jz]at this
        have e:(({ s with heap:=s.heap.push { cls:=aa.type "cell",data:=kj.cell none } }:aj)).heap.objs.size=s.heap.objs.size+1:=hz
        rw[e]
        exact this)
      exact ih
    · have hb:(k==bp.cell)=false:=by simpa using hk
      simp only[hb,cE,if_false,pure_bind]
      refine M4 r cells s Q λh' k1 k2=>?_
      have hf:=S7 hk a r
      have:=h h' k1 (by rw[hf];exact k2)
      rw[JV hk]at this
      exact this
theorem Qt {M:Model}{A:bx}{E:aa->aj->Prop}{s:aj}{scope:gc}{globals:ah}{closure:List (aK×ah)}{qual:aK}{code:aa}{out:Env}{builtins:ah}{Q:Env->aj->Prop}
    (h:∀h':aM,(∀b o,s.heap.get? b=some o->h'.get? b=some o)->h'.Ns s.heap.objs.size (λ_=>none)->(∀c,s.heap.objs.size+1<=c->c<s.heap.objs.size+1+jQ scope.names->h'.IsCell c none) ->
      Q (newEnv scope s.heap.objs.size globals (cellsFrom (s.heap.objs.size+1) scope.names closure) qual none code (some out) builtins) { s with heap:=h' }) :
    aT M A (li scope globals closure [] qual none code (some out) builtins) Q E s:=by
  unfold li
  refine aw (wpAny_alloc ?_)
  have hz:(s.heap.push { cls:=aa.type "dict",data:=kj.dict #[] }).objs.size=s.heap.objs.size+1:=et _ _
  refine aw (M4 scope.names closure { s with heap:=s.heap.push { cls:=aa.type "dict",data:=kj.dict #[] } } _ λh' k1 k2=>?_)
  have V1:(({ s with heap:=s.heap.push { cls:=aa.type "dict",data:=kj.dict #[] } }:aj)).heap.objs.size=s.heap.objs.size+1:=hz
  rw[V1]at k2 ⊢
  dsimp only
  rw[wG]
  refine aw (bi (bi ?_))
  exact h h' (λb o e=>k1 b o (ar _ e)) ((aM.Ns.new s.heap _).keeps k1) k2
def iW (X:Cx)(scope:gc)(cl:List (aK×ah))(N:List aK)(C:ah)(fp:List ah)(s₀:aj)(H₀:Hp):Cx :=
 { X with N:=N,s₀:=s₀,H₀:=H₀,env:=qC scope cl C X.env,outer:=X.stack,stack:=X.stack,ex:=fp,fn:=λx=>scope.names.lookup x==some .cell,pn:=[],xe:=λ_ _=>False }
structure kP (X:Cx)(scope:gc)(N:List aK)(own:Nat)(cap:List Nat):Prop where
 kind:scope.kind=.function
 cells:∀x∈scope.names,x.2=.cell->scope.names.lookup x.1=some .cell
 locs:∀x∈scope.names,x.2=.local->scope.names.lookup x.1=some .local
 free:∀x∈scope.names,x.2=.free->X.env.kindOf x.1=some .cell\/X.env.kindOf x.1=some .free
 len:N.length=own+cap.length
 caps:∀(j:Nat) (x:aK),N[own+j]?=some x->∃i,cap[j]?=some i/\X.N[i]?=some x/\(scope.names.lookup x=some .free)
theorem Jk {α β:Type}[BEq α][LawfulBEq α]{x:α}{y:β}:∀{l:List (α×β)},l.lookup x=some y->(x,y)∈l
 |[],h=>by simp at h
 |(a,b)::r,h=>by
  rw[bj]at h
  cases hb:x==a with
  |true=>rw[hb]at h;cases h;rw[eq_of_beq hb];exact af
  |false=>rw[hb]at h;exact ak _ (Jk h)
theorem Qu {env:Env}{x:aK}:∀{names:List (aK×bp)},names.lookup x=some .free ->
  (names.map λ(n,k)=>if(k==bp.free&&env.scope.kind==.function&&env.kindOf n==some .cell)then(n,bp.cell)else(n,k)).lookup x=some .cell \/
  (names.map λ(n,k)=>if(k==bp.free&&env.scope.kind==.function&&env.kindOf n==some .cell)then(n,bp.cell)else(n,k)).lookup x=some .free
 |[],h=>by simp at h
 |(n,k)::r,h=>by
  rw[bj]at h
  rw[aV]
  cases hx:x==n with
  |true=>
   rw[hx]at h
   cases h
   by_cases hc:(bp.free==bp.free&&env.scope.kind==.function&&env.kindOf n==some .cell)=true
   ·left
    simp only[hc,if_true,bj,hx]
   ·right
    simp only[hc,if_false,bj,hx,cE]
  |false=>
   rw[hx]at h
   rcases Qu (env:=env) h with q|q
   ·left
    by_cases hc:(k==bp.free&&env.scope.kind==.function&&env.kindOf n==some .cell)=true
    ·simp only[hc,if_true,bj,hx];exact q
    ·simp only[hc,if_false,bj,hx,cE];exact q
   ·right
    by_cases hc:(k==bp.free&&env.scope.kind==.function&&env.kindOf n==some .cell)=true
    ·simp only[hc,if_true,bj,hx];exact q
    ·simp only[hc,if_false,bj,hx,cE];exact q
theorem Qq {env:Env}{x:aK}:∀{names:List (aK×bp)},((names.map λ(n,k)=>if(k==bp.free&&env.scope.kind==.function&&env.kindOf n==some .cell)then(n,bp.cell)else(n,k)).lookup x=some .cell \/
  (names.map λ(n,k)=>if(k==bp.free&&env.scope.kind==.function&&env.kindOf n==some .cell)then(n,bp.cell)else(n,k)).lookup x=some .free)->(x,bp.free)∈names\/(x,bp.cell)∈names
 |[],h=>by simp at h
 |(n,k)::r,h=>by
  rw[aV]at h
  cases hx:x==n with
  |true=>
   have e:x=n:=eq_of_beq hx
   by_cases hc:(k==bp.free&&env.scope.kind==.function&&env.kindOf n==some .cell)=true
   ·have:k=.free:=by
     rw[bS,bS]at hc
     exact eq_of_beq hc.1.1
    left
    rw[e,this];exact af
   ·simp only[hc,if_false,bj,hx,cE]at h
    rcases h with h|h
    ·cases h;right;rw[e];exact af
    ·cases h;left;rw[e];exact af
  |false=>
   refine(Qq (env:=env) (names:=r) ?_).imp (ak _) (ak _)
   by_cases hc:(k==bp.free&&env.scope.kind==.function&&env.kindOf n==some .cell)=true
   ·simpa only[hc,if_true,bj,hx]using h
   ·simpa only[hc,if_false,bj,hx,cE]using h
def gB (σ:St)(cap:List Nat):St:=cap.map λi=>(σ[i]?).join
theorem ZS {σ:St}{cap:List Nat}{j i:Nat}{v:V}(hj:cap[j]?=some i)(h:(gB σ cap)[j]?=some (some v)):σ[i]?=some (some v):=by
 unfold gB at h
 rw[bw,hj]at h
 cases e:σ[i]? with
 |none=>rw[tM,e]at h;cases h
 |some o=>
  rw[tM,e]at h
  cases o with
  |none=>cases h
  |some u=>exact h
section
variable {X:Cx}{ai:List (ah×df)}{σ:St}{H:Hp}{s:aj}
theorem Q5 {scope:gc}{cl:List (aK×ah)}{N:List aK}{own:Nat}{cap:List Nat}{fp:List ah}{h₁:aM}{t':Nat}{m₀:aK->Option aa}(B:kP X scope N own cap)(I:Inv X ai σ H s)
    (c1:∀y c,cl.lookup y=some c->X.env.cells.lookup y=some c) (c2:∀x∈scope.names,x.2=.free->∃c,cl.lookup x.1=some c)
    (hf:∀b∈fp,kR X ai H b) (Pd:∀b∈fp,b<s.heap.objs.size) (jP:h₁.Ns s.heap.objs.size m₀) (k:∀b o,s.heap.get? b=some o->h₁.get? b=some o)
    (wY:∀c,s.heap.objs.size+1<=c->c<s.heap.objs.size+1+jQ scope.names->h₁.IsCell c none) :
    Inv (iW X scope (cellsFrom (s.heap.objs.size+1) scope.names cl) N s.heap.objs.size fp s H) [] (ax own none++gB σ cap) H { s with heap:=h₁,toks:=t' } :=
  have low:∀x c,cl.lookup x=some c->c<s.heap.objs.size:=λx c e=>by
    obtain⟨v,o,q,_⟩:=I.cell x c (c1 x c e)
    exact aO q
  { ok:={
      mod:=I.mod
      kind:=B.kind
      glob:=I.ok.glob
      blt:=I.ok.blt
      above:=aF _
      inj:=N3 _ _ _ (λx y c e e'=>I.ok.inj x y c (c1 x c e) (c1 y c e')) λx c e=>eX (low x c e)
      has:=λx hx=>by
        refine nF.mp (iV scope.names _ _ ?_)
        rcases Qq hx with q|q
        · right
          obtain⟨c,e⟩:=c2 _ q rfl
          rw[e];rfl
        · exact .inl (B.cells _ q rfl)
      cab:=λx c e e'=>by
        have hx:scope.names.lookup x=some .cell:=eq_of_beq e
        rcases CF _ _ _ e' with⟨h1,_⟩|⟨_,h2⟩
        · exact lM h1
        · exact absurd (Jk hx) h2
      hd:=I.ok.hd
      frames:=I.ok.frames
      stk:=.inl rfl
      exf:=λb hb=>⟨bo (Pd b hb),λx c e=>by
        rcases CF _ _ _ e with⟨h1,_⟩|⟨h1,_⟩
        · exactλz=>absurd (Pd b hb) (by rw[←z];exact Nat.not_lt.mpr (lM h1))
        · exact(hf b hb).2.2.2.2.1 x c (c1 x c h1)⟩
      bs:=I.bs
      bsz:=bZ I.ok.bsz I.sz
      noex:=λb o e hb=>by
        rcases(hf b hb).2.2.2.1 with q|q
        · exact I.ok.noex b o e q
        · exact absurd (bc (aO e) I.ok.bsz) (Nat.not_lt.mpr q)
      exfs:=λb hb hz=>by
        rcases aE.mp (I.stkSub b hz)with q|q
        · exact(hf b hb).2.1 q
        · exact(hf b hb).2.2.1 q
      funs:=I.stack
      frf:=I.stkFree }
    os:=rfl
    bare:=I.bare
    base:=Un.kept k
    loc:=by
      refine⟨m₀,jP,λi x v hN hσ hv=>?_⟩
      by_cases hi:i<own
      · rw[dZ (by rw[dq];exact hi),fS,if_pos hi]at hσ
        cases hσ
      · obtain⟨j,rfl⟩:∃j,i=own+j:=⟨i-own,by omega⟩
        obtain⟨i',e1,e2,e3⟩:=B.caps j x hN
        rw[iu (by rw[dq];omega),dq,Nat.add_sub_cancel_left]at hσ
        have Bm:=ZS e1 hσ
        have hk:=B.free (x,.free) (Jk e3) rfl
        obtain⟨m,hm,hl⟩:=I.loc
        obtain⟨u,ru,hu⟩:=hl i' x v e2 Bm (.inr hk)
        refine⟨u,ru,?_⟩
        rcases hu with⟨q,_⟩|⟨_,c,hc,ic⟩
        · rcases hk with hk|hk
          · rw[hk]at q;cases q
          · rw[hk]at q;cases q
        · obtain⟨c',qK⟩:=c2 (x,.free) (Jk e3) rfl
          have ec:=c1 x c' qK
          rw[hc]at ec
          cases ec
          have hn:(x,bp.cell)∉scope.names:=λz=>by
            have:=B.cells _ z rfl
            rw[e3]at this
            cases this
          exact .inr ⟨Qu e3,c,by show(cellsFrom _ _ _).lookup x=_;rw[N2 _ _ _ hn];exact qK,ic.keeps k⟩
    cell:=λx c e=>by
      rcases CF _ _ _ e with⟨h1,h2,_⟩|⟨h1,_⟩
      · exact⟨none,wY c h1 h2⟩
      · obtain⟨v,q⟩:=I.cell x c (c1 x c h1)
        exact⟨v,q.keeps k⟩
    free:=I.hok.fresh (aF _)
    freeC:=λx c e=>by
      rcases CF _ _ _ e with⟨h1,_⟩|⟨h1,_⟩
      · exact I.hok.fresh (lM h1)
      · exact I.freeC x c (c1 x c h1)
    pin:=λp hp=>(nomatch hp)
    hok:=I.hok.kept k
    len:=by
      show(ax own none++gB σ cap).length=N.length
      rw[aX,dq,B.len]
      unfold gB
      rw[aq] }
end
def xQ:TT:=λ_ H Q=>Q true H
def yK (X:Cx)(ifs:List Expr)(t:TT):Prop :=
 ∀(ai:List (ah×df)) (s:aj) (σ:St) (H:Hp) (Q:Bool->Hp->Prop),Inv X ai σ H s->t σ H Q ->
  aT (aI X.prog X.w) X.A (forIn ifs true λc r=>if r=true then do let ok ← qE c X.env (bG c X.env);pure (ForInStep.yield ok)else pure (ForInStep.yield r)) (TP X ai σ Q) X.xe s
theorem zqg {X:Cx}:yK X [] xQ:=λ_ _ _ H _ I h=>wpAny_tests_nil ⟨H,I,h⟩
theorem zqh {X:Cx}{c:Expr}{t:TT}(h:PT X c t):yK X [c] t:=λai s σ H Q I q=>wpAny_tests_one (h ai s σ H Q I q)
def sj (wi:TI)(own:Nat)(cap:List Nat)(g:TG)(tt:TT)(te:TE):TE:=λσ H Q=>wi σ H λJ H1=>∀D,H1 D=none->∃W:Nat->Nat->List V->Hp->Prop,(∃m,W 0 m [] (cY H1 D (.lst []))) /\
 ∀i m ys H2,W i m ys H2->H2 D=some (.lst ys)/\((J.stop i H2/\Q (.ref D) H2)\/(J.go i H2/\ys.length<sizeLine/\∀x H3,J.yld i H2 x H3->g x (ax own none++gB σ cap) H3 λσ2 H4=>tt σ2 H4 λb H5=>
  if b=true then te σ2 H5 λy H6=>H6 D=some (.lst ys)/\∃m',m'<m/\W (i+1) m' (ys++[y]) (cY H6 D (.lst (ys++[y])))else∃m',m'<m/\W (i+1) m' ys H5))
def gD (own:Nat)(g:TG):Prop:=∀v σ H Q,g v σ H Q->g v σ H λσ' H'=>Q σ' H'/\σ'.length = σ.length/\∀i,own<=i->σ'[i]? = σ[i]?
theorem ZT (i own:Nat)(h:i<own):gD own (rZ i):=λv σ H Q q=>⟨q,by rw[vJ],λj hj=>by rw[cV (by omega)]⟩
theorem zqi {X:Cx}{jX iter tg:Expr}{ifs:List Expr}{scope:gc}{pos:cX}{N:List aK}{own:Nat}{cap:List Nat}{wi:TI}{g:TG}{tt:TT}{te:TE}(B:kP X scope N own cap)(hc:X.calm=true)(hi:PI X tg iter wi)
    (kg:gD own g)
    (hg:∀cl C fp s₀ H₀,PG (iW X scope cl N C fp s₀ H₀) tg g) (ht:∀cl C fp s₀ H₀,yK (iW X scope cl N C fp s₀ H₀) ifs tt) (he:∀cl C fp s₀ H₀,PE (iW X scope cl N C fp s₀ H₀) jX te)
    (hs:∀x,dm iter X.env x=pure x:=by intro _;rfl):PE X (.ListComp jX [⟨tg,iter,ifs,0⟩] scope pos) (sj wi own cap g tt te):=by
  intro ai s σ H Q I h
  obtain⟨cl,AZ,c1,c2,_⟩:=Jj (env:=X.env) scope.names [] (λx hx hf=>I.ok.has x.1 (B.free x hx hf)) (λy c e=>by simp at e)
  have uM:qB scope X.env=pure cl:=by
    have e:qB scope X.env=(forIn scope.names ([]:List (aK×ah)) (λ(x:aK×bp) (cs:List (aK×ah))=>if(x.2==bp.free)=true then do let a ← cellOf X.env x.1;pure (ForInStep.yield ((x.1,a)::cs))else pure (ForInStep.yield cs)) >>= pure:pq (List (aK×ah))):=rfl
    rw[e,AZ]
    rfl
  rw[eval_ListComp]
  refine wpAny_comprehension_free (use:=none) rfl hs uM B.kind B.locs (dw (hi ai s σ H _ I h) λv s1 h1=>dw h1 λIR s2 h2=>?_)
  obtain⟨it,fp,tn,J,H2,e,I2,T,tq,f2,W0⟩:=h2
  subst e
  obtain⟨W,⟨m0,w0⟩,cy⟩:=W0 s2.heap.objs.size (I2.hok.fresh (aF _))
  refine jD ?_
  have I3:Inv X ai σ (cY H2 s2.heap.objs.size (.lst [])) { s2 with heap:=s2.heap.push { cls:=.type "list",data:=.seq ([]:List aa).toArray } }:=I2.lnew .nil (dh _)
  generalize Fv:({ s2 with heap:=s2.heap.push { cls:=.type "list",data:=.seq ([]:List aa).toArray } }:aj)=s3 at I3
  have k3:∀b o,s2.heap.get? b=some o->s3.heap.get? b=some o:=λb o e=>by rw[←Fv];exact ar _ e
  have z3:s3.heap.objs.size=s2.heap.objs.size+1:=by rw[←Fv];exact et _ _
  have rF:∀b∈fp,b<s2.heap.objs.size:=λb hb=>by
    obtain⟨o,e,_⟩:=T.obj _ _ tq b hb
    exact aO e
  have kD:∀b∈fp,b≠s2.heap.objs.size:=λb hb=>bo (rF b hb)
  have f3:∀b∈fp,kR X ai (cY H2 s2.heap.objs.size (.lst [])) b:=λb hb=>⟨by rw[zk (kD b hb)];exact(f2 b hb).1,(f2 b hb).2⟩
  have Jd:tn 0 s3.heap:=T.keep _ _ _ tq λb _ o e=>k3 b o e
  show aT _ _ (li scope X.env.globals cl [] X.env.qual none .none (some X.env)) _ _ _
  refine Qt λh₁ kk Bd A0=>?_
  have IB:=Q5 (t':=s3.toks) B I3 c1 c2 f3 (λb hb=>by rw[z3];exact eX (rF b hb)) Bd kk A0
  generalize cellsFrom (s3.heap.objs.size+1) scope.names cl=cl at IB ⊢
  generalize L9:({ s3 with heap:=h₁,toks:=s3.toks }:aj)=s4 at IB
  have HH:tn 0 s4.heap:=T.keep _ _ _ Jd λb _ o e=>by rw[←L9];exact kk b o e
  show eJ (aI X.prog X.w) X.A (.compStart (.ListComp jX [⟨tg,iter,ifs,0⟩] scope pos) 0 (.ref it) (.ref s2.heap.objs.size) (qC scope cl s3.heap.objs.size X.env))
      (qD (aI X.prog X.w) X.A X.xe none (EP X ai σ Q) (.ref s2.heap.objs.size) s3.heap.objs.size) s4
  have ng:∀{H':Hp},(∀b∈fp,H' b=none)->∀b∈fp,kR (iW X scope cl N s3.heap.objs.size fp s3 (cY H2 s2.heap.objs.size (.lst []))) [] H' b:=λhn b hb=>
    ⟨hn b hb,bo (by show b<s3.heap.objs.size;rw[z3];exact eX (rF b hb)),IB.ok.exfs b hb,.inl hb,λx c e=>(IB.ok.exf b hb).2 x c e,λp hp=>(nomatch hp)⟩
  have loop:eJ (aI X.prog X.w) X.A (.compLoop (.ListComp jX [⟨tg,iter,ifs,0⟩] scope pos) 0 (.ref it) (.ref s2.heap.objs.size) (qC scope cl s3.heap.objs.size X.env))
      (qD (aI X.prog X.w) X.A X.xe none (EP X ai σ Q) (.ref s2.heap.objs.size) s3.heap.objs.size) s4:=by
    refine Qs (λn s'=>∃i ys H',Inv (iW X scope cl N s3.heap.objs.size fp s3 (cY H2 s2.heap.objs.size (.lst []))) [] (ax own none++gB σ cap) H' s'/\tn i s'.heap/\(∀b∈fp,H' b=none)/\W i n ys H') ?_ m0
      ⟨0,[],_,IB,HH,λb hb=>(f3 b hb).1,w0⟩
    rintro n s5 ⟨i,ys,H5,I5,xN,AS,w5⟩
    obtain⟨hD,LV⟩:=cy i n ys H5 w5
    rcases LV with⟨stop,qn⟩|⟨go,lz,step⟩
    · refine dw (T.done (iW X scope cl N s3.heap.objs.size fp s3 (cY H2 s2.heap.objs.size (.lst []))) rfl rfl rfl hc i [] s5 _ H5 (λ_ _=>False) I5 (ng AS) xN stop) λr s6 dO=>?_
      obtain⟨hr,I6⟩:=dO
      subst hr
      obtain⟨m,hm,_⟩:=id I6.loc
      refine⟨m,hm,λh' sb=>⟨.ref s2.heap.objs.size,H5,?_,rfl,qn⟩⟩
      have U:=I6.base
      have nC:∀b o,s3.heap.get? b=some o->b≠s3.heap.objs.size:=λb o e=>bo (aO e)
      have nT:∀b o,H5 b=some o->b≠s3.heap.objs.size:=λb o e z=>by
        have q:H5 s3.heap.objs.size=none:=I6.free
        rw[z,q]at e
        cases e
      refine I3.call' (ch:=fp) I6.os ?_ (λa o e=>(I6.hok a o e).stay (λb u hb q=>sb.extBut b u ?_ q) (λ_ q=>q) λ_ _ q=>q) I6.bare (λb hb=>⟨(f3 b hb).2.2.2.1,(f3 b hb).2.1,(f3 b hb).2.2.2.2.1,(f3 b hb).2.2.2.2.2⟩)
      · exact{
          keep:=λb o e z hb he=>sb.extBut b o (nC b o e) (U.keep b o e z hb he)
          slot:=λb o e z hb he=>by
            obtain⟨sl,q⟩:=U.slot b o e z hb he
            exact⟨sl,sb.extBut b _ (nC b o e) q⟩
          free:=U.free
          there:=λb o e he=>by
            obtain⟨o',q⟩:=U.there b o e he
            exact⟨o',sb.extBut b o' (nC b o e) q⟩
          tups:=U.tups
          frzs:=U.frzs
          tbls:=U.tbls }
      · rcases hb with rfl|hb
        · exact nT _ _ e
        · exact nT _ _ hb
    · refine dw (T.item (iW X scope cl N s3.heap.objs.size fp s3 (cY H2 s2.heap.objs.size (.lst []))) rfl rfl rfl hc i [] s5 _ H5 (λ_ _=>False) I5 (ng AS) xN go) λr s6 dO=>?_
      obtain⟨u,hr,h6⟩:=dO
      subst hr
      refine dw h6 λ_ s7 dO=>?_
      obtain⟨x,H7,I7,r7,y7,BC,Ll⟩:=dO
      have Ka:=I7.pinned (ng Ll) (T.obj _ _ BC)
      refine dw (hg cl s3.heap.objs.size fp s3 _ _ s7 _ H7 x u _ Ka r7 (kg _ _ _ _ (step x H7 y7))) λ_ s8 dO=>?_
      obtain⟨σ8,H8,I8,q8,l8,p8⟩:=dO
      have back:∀{H9:Hp} {s9:aj},Inv (iW X scope cl N s3.heap.objs.size fp s3 (cY H2 s2.heap.objs.size (.lst []))) ([]++lH fp s7.heap) σ8 H9 s9 ->
          Inv (iW X scope cl N s3.heap.objs.size fp s3 (cY H2 s2.heap.objs.size (.lst []))) [] (ax own none++gB σ cap) H9 s9/\tn (i+1) s9.heap/\∀b∈fp,H9 b=none:=λ{H9 s9} I9=>by
        refine⟨(I9.unpinned).weak l8.symm (λj v e=>?_),T.keep _ _ _ BC λb hb o e=>(I9.pin (b,o) (aD _ (aD _ (u8 hb e)))).1,λb hb=>?_⟩
        · by_cases hj:j<own
          · rw[dZ (by rw[dq];exact hj),fS,if_pos hj]at e
            cases e
          · rw[p8 j (by omega)];exact e
        · obtain⟨o,e,d⟩:=T.obj _ _ BC b hb
          exact(I9.pin (b,o) (aD _ (aD _ (u8 hb e)))).2.1
      refine dw (ht cl s3.heap.objs.size fp s3 _ _ s8 σ8 H8 _ I8 q8) λok s9 dO=>?_
      obtain⟨H9,I9,q9⟩:=dO
      cases ok with
      |false=>
        rw[if_neg aJ]
        rw[if_neg aJ]at q9
        obtain⟨m',xA,w'⟩:=q9
        obtain⟨b1,b2,b3⟩:=back I9
        exact⟨m',xA,i+1,ys,H9,b1,b2,b3,w'⟩
      |true=>
        rw[if_pos rfl]
        rw[if_pos rfl]at q9
        refine dw (he cl s3.heap.objs.size fp s3 _ _ s9 σ8 H9 _ I9 q9) λuy MD dO=>?_
        obtain⟨y,CI,J8,r10,AT,m',xA,w'⟩:=dO
        refine dw (Jp _ MD σ8 CI (.ref s2.heap.objs.size) [y] (.ref s2.heap.objs.size) [uy] (λ_ CJ=>CJ=cY CI s2.heap.objs.size (.lst (ys++[y]))) J8 rfl (.cons r10 .nil) ⟨_,ys,y,rfl,rfl,AT,lz,rfl⟩) λ_ Xz dO=>?_
        obtain⟨_,CJ,J9,_,KF⟩:=dO
        subst KF
        obtain⟨b1,b2,b3⟩:=back J9
        exact⟨m',xA,i+1,ys++[y],_,b1,b2,b3,w'⟩
  exact codeAny_compStart_list loop (T.self X.A 0 s4 _ _ HH loop)
end L2
namespace L2
open PySem PySem.Spec PyProof.Rows
section
variable {X:Cx}{ai:List (ah×df)}{σ:St}{H:Hp}{s:aj}{h':aM}
theorem Inv.turnLay {ch:List ah}{a:ah}{o:HO}{t':Nat}(I:Inv X ai σ H s)(kX:∀b∈ch,kR X ai H b)(k:∀b o,b∉ch->s.heap.get? b=some o->h'.get? b=some o)(hp:s.heap.objs.size<=a)
  (new:d4 X.prog X.w (cY H a o) h' a o):Inv X ai σ (cY H a o) { s with heap:=h',toks:=t' }:=by
 have hn:H a=none:=I.hok.fresh hp
 have Gz:∀b u,H b=some u->b∉ch:=λb u e z=>by rw[(kX b z).1]at e;cases e
 refine I.step (g':=s.gens) (d':=s.drawn) (ch:=ch) (λb hb=>⟨(kX b hb).2.2.2.1,(kX b hb).2.1,(kX b hb).2.2.2.2.1,(kX b hb).2.2.2.2.2⟩) (λb o _ _ hc e _=>k b o hc e) (λb o _ _ hc e _=>⟨o.slots,k b o hc e⟩)
  (λb o _ e n=>by rw[zk (bo (bc (aO e) hp))];exact n) (λb o hc e=>⟨o,k b o hc e⟩) (λb xs q=>by rw[zk (zl q hn)];exact q) (λb u xs q=>by rw[zk (zl q hn)];exact q)
  (λb ps q=>⟨#[],by rw[zk (zl q hn),q];simp⟩) (λm hm=>?_) (λb u e=>?_) I.bare
 ·obtain⟨o',es,ep,ho,r⟩:=hm
  exact⟨o',es,ep,k _ o' (λz=>(kX _ z).2.1 rfl) ho,r⟩
 ·by_cases hb:b=a
  ·subst hb
   rw[zt]at e
   cases e
   exact new
  ·rw[zk hb]at e
   refine(I.hok b u e).stay (λc v hc q=>k c v ?_ q) (λc q=>by rw[zk (zl q hn)];exact q) λc xs q=>by rw[zk (zl q hn)];exact q
   rcases hc with z|z
   ·rw[z];exact Gz b u e
   ·exact Gz c _ z
theorem Inv.turnedL {ch:List ah}{t':Nat}(I:Inv X ai σ H s)(kX:∀b∈ch,kR X ai H b)(k:∀b o,b∉ch->s.heap.get? b=some o->h'.get? b=some o):Inv X ai σ H { s with heap:=h',toks:=t' }:=by
 have Gz:∀b u,H b=some u->b∉ch:=λb u e z=>by rw[(kX b z).1]at e;cases e
 refine I.step (g':=s.gens) (d':=s.drawn) (ch:=ch) (λb hb=>⟨(kX b hb).2.2.2.1,(kX b hb).2.1,(kX b hb).2.2.2.2.1,(kX b hb).2.2.2.2.2⟩) (λb o _ _ hc e _=>k b o hc e) (λb o _ _ hc e _=>⟨o.slots,k b o hc e⟩)
  (λ_ _ _ _ n=>n) (λb o hc e=>⟨o,k b o hc e⟩) (λ_ _ e=>e) (λ_ _ _ e=>e) (λb ps e=>⟨#[],by rw[e];simp⟩) (λm hm=>?_) (λb u e=>?_) I.bare
 ·obtain⟨o',es,ep,ho,r⟩:=hm
  exact⟨o',es,ep,k _ o' (λz=>(kX _ z).2.1 rfl) ho,r⟩
 ·refine(I.hok b u e).stay (λc v hc q=>k c v ?_ q) (λ_ q=>q) λ_ _ q=>q
  rcases hc with z|z
  ·rw[z];exact Gz b u e
  ·exact Gz c _ z
end
def Kb (K:ae)(a:ah):It :=
 ⟨λi H=>∃xs x,gz K H a xs/\xs[i]?=some x,λi H x H'=>∃p y,H p=none/\x=.ref p/\H'=cY H p (.tup [.int i,y])/\∀xs,gz K H a xs->xs[i]?=some y,λi H=>∃xs,gz K H a xs/\xs.length<=i⟩
theorem zks {P:bn}{w:bP}{K:ae}{sP:List Expr}{kt:Nat}{pt:cX}(a e it:ah)(Pb:e≠it) :
    Turn P w K (.Tuple sP kt pt) (Kb K a) [e,it] e (λi h=>(∃old,IsEnum h e it i old)/\h.IsListIter it a i) where
  mem:=by simp
  obj:=λi h st b hb=>by
    obtain⟨⟨old,he⟩,o,e1,c,d⟩:=st
    rcases aE.mp hb with rfl|hb
    · exact⟨_,he,λv z=>by cases z⟩
    · have e2:b=it:=by simpa using hb
      subst e2
      exact⟨o,e1,λv z=>by rw[d]at z;cases z⟩
  keep:=λi h h' st k=>by
    obtain⟨⟨old,he⟩,hit⟩:=st
    exact⟨⟨old,k e (by simp) _ he⟩,hit.at λo x=>k it (by simp) o x⟩
  item:=by
    intro X hP hw hK hc i ai s σ H E I hf st hg
    subst hP hw hK
    obtain⟨xs,x,hq,hx⟩:=hg
    obtain⟨cx,rv,p,hz⟩:=I.list hq
    obtain⟨u,hu,ru⟩:=rv.get hx
    obtain⟨⟨old,he⟩,hit⟩:=st
    refine wpAny_pyNext_enum_item he hit p.isList (x:=u) (by simpa using hu) Pb λh1 ho LY hT hsz hk=>?_
    refine⟨_,rfl,wpAny_letOwnedTupleGo_enum (s:={ s with heap:=h1,toks:=s.toks+1 }) ho λh2 Vx MG=>?_⟩
    have jX:e<s.heap.objs.size:=aO he
    have V7:it<s.heap.objs.size:=by obtain⟨_,q,_⟩:=hit;exact aO q
    have Vq:h2.get? s.heap.objs.size=some { cls:=.type "tuple",data:=.seq #[.int i s.toks,u] }:=(MG.2 _ (lN jX)).trans hT
    have Fc:H s.heap.objs.size=none:=I.hok.fresh (aF _)
    have I1:Inv X ai σ (cY H s.heap.objs.size (.tup [.int i,x])) { s with heap:=h2,toks:=s.toks+1 }:=by
      refine I.turnLay (ch:=[e,it]) hf (λb o hb q=>?_) (aF _) ⟨by show 2<=sizeLine;decide,[.int i s.toks,u],.cons ⟨_,rfl⟩ (.cons ru .nil),_,Vq,rfl,_,rfl⟩
      have IA:b≠e:=λz=>hb (by simp[z])
      have Lu:b≠it:=λz=>hb (by simp[z])
      exact(MG.2 b IA).trans (hk b o IA Lu q)
    refine⟨.ref s.heap.objs.size,_,I1,rfl,⟨_,x,Fc,rfl,rfl,λys hy=>by rw[I.list_inj hy hq];exact hx⟩,⟨⟨u,by simpa using Vx⟩,LY.at λo q=>(MG.2 it Pb.symm).trans q⟩,λb hb=>?_⟩
    rw[zk ?_]
    · exact(hf b hb).1
    · rcases aE.mp hb with rfl|hb
      · exact bo jX
      · have e2:b=it:=by simpa using hb
        rw[e2];exact bo V7
  done:=by
    intro X hP hw hK hc i ai s σ H E I hf st hg
    subst hP hw hK
    obtain⟨xs,hq,hx⟩:=hg
    obtain⟨cx,rv,p,hz⟩:=I.list hq
    obtain⟨⟨old,he⟩,hit⟩:=st
    have hl:=rv.length
    exact wpAny_pyNext_enum_end (I.ok.hd hc) he hit p.isList (by simp;omega) λh' eb=>⟨rfl,I.turnedL (ch:=[e,it]) (t':=s.toks) hf λb o hb q=>eb b o (λz=>hb (by simp[z])) q⟩
  self:=λ_ _ _ _ _ st h=>wpAny_pyIter_enum st.1.choose_spec h
section
variable {X:Cx}{sP:List Expr}{kt:Nat}{pt:cX}
def FD (K:ae)(ta:TA):TI:=λσ H R=>ta σ H λvs H1=>∃a,vs=[.ref a]/\(∃xs,gz K H1 a xs)/\R (Kb K a) H1
theorem zqj {l:Expr}{ta:TA}{p pos:cX}(hg:Gl X "enumerate")(hm:X.mg "enumerate"=none)(ha:PA X [l] ta)(hs:ap [l] X.env=[(false,bG l X.env)]:=by rfl) :
  PI X (.Tuple sP kt pt) (.Call (.Name "enumerate" p) [l] [] pos) (FD X.K ta):=by
 intro ai s σ H R I h
 refine Call_ (xX I hg hm PyProof.Rows.boot_enumerate (cz (dw (ha pos ai s σ H _ I h) λus s1 ⟨vs,H1,I1,r1,q1⟩=>?_) hs rfl))
 obtain⟨a,e,⟨xs,hq⟩,q⟩:=q1
 subst e
 cases r1 with
 |cons r rr=>
  cases rr
  cases r
  obtain⟨cx,rv,pl,hz⟩:=I1.list hq
  refine call_enumerate_list pl.isList λh' he hit hsz hk=>?_
  refine wpAny_pyIter_enum (s:={ s1 with heap:=h' }) he ?_
  refine⟨s1.heap.objs.size+1,[s1.heap.objs.size+1,s1.heap.objs.size],_,_,H1,rfl,I1.kept (t':=s1.toks) hk,zks a _ _ (Nat.succ_ne_self _),⟨⟨_,he⟩,hit⟩,λb hb=>?_,q⟩
  rcases aE.mp hb with rfl|hb
  ·exact I1.fpOk (iN _) (I1.hok.fresh (iN _))
  ·have e:b=s1.heap.objs.size:=by simpa using hb
   subst e
   exact I1.fpOk (aF _) (I1.hok.fresh (aF _))
end
end L2
namespace L3
open PySem PySem.Spec L2
open PyProof.Rows hiding St
inductive D where
 |non|bl (b:Bool)|int (i:Int)|str (x:aK)
 |lst (xs:List D)|tup (xs:List D)|dK (ks:List fu) (ds:List D)|dT (ks:List (List fu)) (ds:List D)
 |obj (c:Nat) (ns:List aK) (ds:List D)
 |exc (c:Nat) (ns:List aK) (ds:List D)
 deriving Inhabited
inductive Pr (R:D->V->Prop):List D->List V->Prop
 |nil:Pr R [] []
 |cons {d:D} {v:V} {ds:List D} {vs:List V}:R d v->Pr R ds vs->Pr R (d::ds) (v::vs)
theorem Pr.mono {R R':D->V->Prop}(f:∀d v,R d v->R' d v){ds:List D}{vs:List V}(h:Pr R ds vs):Pr R' ds vs:=by
 induction h with
 |nil=>exact .nil
 |cons h t ih=>exact .cons (f _ _ h) ih
theorem Pr.length {R:D->V->Prop}{ds:List D}{vs:List V}(h:Pr R ds vs):ds.length=vs.length:=by
 induction h with
 |nil=>rfl
 |cons h t ih=>rw[aC,aC,ih]
theorem Pr.get' {R:D->V->Prop}{ds:List D}{vs:List V}{i:Nat}{d:D}(h:Pr R ds vs)(e:ds[i]?=some d):∃v,vs[i]?=some v/\R d v:=by
 induction h generalizing i with
 |nil=>cases e
 |cons h t ih=>
  cases i with
  |zero=>cases e;exact⟨_,rfl,h⟩
  |succ i=>exact ih e
theorem Pr.append {R:D->V->Prop}{ds es:List D}{vs us:List V}(h:Pr R ds vs)(s:Pr R es us):Pr R (ds++es) (vs++us):=by
 induction h with
 |nil=>exact s
 |cons h t ih=>exact .cons h ih
theorem Pr.take {R:D->V->Prop}{ds:List D}{vs:List V}(n:Nat)(h:Pr R ds vs):Pr R (ds.take n) (vs.take n):=by
 induction h generalizing n with
 |nil=>cases n<;>exact .nil
 |cons h t ih=>cases n with
  |zero=>exact .nil
  |succ n=>exact .cons h (ih n)
theorem Pr.drop {R:D->V->Prop}{ds:List D}{vs:List V}(n:Nat)(h:Pr R ds vs):Pr R (ds.drop n) (vs.drop n):=by
 induction h generalizing n with
 |nil=>cases n<;>exact .nil
 |cons h t ih=>cases n with
  |zero=>exact .cons h t
  |succ n=>exact ih n
theorem Pr.reverse {R:D->V->Prop}{ds:List D}{vs:List V}(h:Pr R ds vs):Pr R ds.reverse vs.reverse:=by
 induction h with
 |nil=>exact .nil
 |cons h t ih=>rw[iK,iK];exact ih.append (.cons h .nil)
theorem Pr.rep {R:D->V->Prop}{ds:List D}{vs:List V}(h:Pr R ds vs)(k:Nat):Pr R (ax k ds).flatten (ax k vs).flatten:=by
 induction k with
 |zero=>exact .nil
 |succ k ih=>rw[cj,dL,cj,dL];exact h.append ih
mutual
inductive Dt (K:ae)(ct:Nat->ah)(F:Hp):D->V->Prop
 |non:Dt K ct F .non .non
 |bl (b:Bool):Dt K ct F (.bl b) (.bl b)
 |int (i:Int):Dt K ct F (.int i) (.int i)
 |str (x:aK):Dt K ct F (.str x) (.str x)
 |lst {a:ah} {vs:List V} {ds:List D}:gz K F a vs->Dts K ct F ds vs->Dt K ct F (.lst ds) (.ref a)
 |tup {a:ah} {vs:List V} {ds:List D}:F a=some (.tup vs)->Dts K ct F ds vs->Dt K ct F (.tup ds) (.ref a)
 |dK {a:ah} {ks:List fu} {vs:List V} {ds:List D}:F a=some (.dK (ks.zip vs))->ks.length=vs.length->Dts K ct F ds vs->Dt K ct F (.dK ks ds) (.ref a)
 |dT {a:ah} {ks:List (List fu)} {vs:List V} {ds:List D}:F a=some (.dT (ks.zip vs))->ks.length=vs.length->Dts K ct F ds vs->Dt K ct F (.dT ks ds) (.ref a)
 |obj {a dx:ah} {c:Nat} {ns:List aK} {vs:List V} {ds:List D}:F a=some (.ins (ct c) dx (ns.zip vs))->ns.length=vs.length->Dts K ct F ds vs->Dt K ct F (.obj c ns ds) (.ref a)
 |exc0 {a:ah} {c:Nat} {tb:Option ah}:F a=some (nB a (ct c) none tb)->Dt K ct F (.exc c [] []) (.ref a)
 |exc {a dx:ah} {c:Nat} {tb:Option ah} {ns:List aK} {vs:List V} {ds:List D}:F a=some (nB a (ct c) (some dx) tb)->F dx=some (.xd (ns.zip vs))->ns.length=vs.length->Dts K ct F ds vs->Dt K ct F (.exc c ns ds) (.ref a)
inductive Dts (K:ae)(ct:Nat->ah)(F:Hp):List D->List V->Prop
 |nil:Dts K ct F [] []
 |cons {d:D} {v:V} {ds:List D} {vs:List V}:Dt K ct F d v->Dts K ct F ds vs->Dts K ct F (d::ds) (v::vs)
end
section
variable {K:ae}{ct:Nat->ah}{F F' G G' H H' B B':Hp}
theorem Dts.pr {ds:List D}{vs:List V}(h:Dts K ct F ds vs):Pr (Dt K ct F) ds vs:=by
 induction ds generalizing vs with
 |nil=>cases h;exact .nil
 |cons d ds ih=>cases h with|cons h t=>exact .cons h (ih t)
theorem Dts.of {ds:List D}{vs:List V}(h:Pr (Dt K ct F) ds vs):Dts K ct F ds vs:=by
 induction h with
 |nil=>exact .nil
 |cons h t ih=>exact .cons h ih
theorem Dt.mono (s:bC F F'){d:D}{v:V}(h:Dt K ct F d v):Dt K ct F' d v :=
 Dt.rec (motive_1:=λd v _=>Dt K ct F' d v) (motive_2:=λd v _=>Dts K ct F' d v) .non .bl .int .str (λh _ t=>.lst (s.seq h) t) (λh _ t=>.tup (s _ _ h) t) (λh l _ t=>.dK (s _ _ h) l t) (λh l _ t=>.dT (s _ _ h) l t) (λh l _ t=>.obj (s _ _ h) l t) (λh=>.exc0 (s _ _ h)) (λh h' l _ t=>.exc (s _ _ h) (s _ _ h') l t) .nil (λ_ _ h t=>.cons h t) h
theorem Dts.mono (s:bC F F'){ds:List D}{vs:List V}(h:Dts K ct F ds vs):Dts K ct F' ds vs:=Dts.of (h.pr.mono λ_ _ q=>q.mono s)
end
def D.sc:D->Bool
 |.non=>true|.bl _=>true|.int _=>true|.str _=>true|_=>false
inductive BX (K:ae)(ct:Nat->ah)(F G:Hp)(R:D->V->Prop):D->V->Prop
 |lst {a:ah} {vs:List V} {ds:List D}:G a=some (.lst vs)->Pr R ds vs->BX K ct F G R (.lst ds) (.ref a)
 |tup {a:ah} {vs:List V} {ds:List D}:F a=some (.tup vs)->Pr R ds vs->BX K ct F G R (.tup ds) (.ref a)
 |dK {a:ah} {ks:List fu} {vs:List V} {ds:List D}:G a=some (.dK (ks.zip vs))->ks.length=vs.length->Pr R ds vs->BX K ct F G R (.dK ks ds) (.ref a)
 |dT {a:ah} {ks:List (List fu)} {vs:List V} {ds:List D}:G a=some (.dT (ks.zip vs))->ks.length=vs.length->Pr R ds vs->BX K ct F G R (.dT ks ds) (.ref a)
 |obj {a dx:ah} {c:Nat} {ns:List aK} {vs:List V} {ds:List D}:G a=some (.ins (ct c) dx (ns.zip vs))->ns.length=vs.length->Pr R ds vs->BX K ct F G R (.obj c ns ds) (.ref a)
def Al (K:ae)(ct:Nat->ah)(F G:Hp):Nat->D->V->Prop
 |0,d,v=>Dt K ct F d v
 |n+1,d,v=>Dt K ct F d v\/BX K ct F G (Al K ct F G n) d v
inductive fH (R:D->V->List ah->Prop):List D->List V->List ah->Prop
 |nil:fH R [] [] []
 |cons {d:D} {v:V} {ds:List D} {vs:List V} {f g:List ah}:R d v f->fH R ds vs g->fH R (d::ds) (v::vs) (f++g)
inductive vO (K:ae)(ct:Nat->ah)(F H:Hp)(R:D->V->List ah->Prop):D->V->List ah->Prop
 |lst {a:ah} {vs:List V} {ds:List D} {fp:List ah}:F a=none->H a=some (.lst vs)->fH R ds vs fp->vO K ct F H R (.lst ds) (.ref a) (a::fp)
 |tup {a:ah} {vs:List V} {ds:List D} {fp:List ah}:F a=some (.tup vs)->fH R ds vs fp->vO K ct F H R (.tup ds) (.ref a) fp
 |dK {a:ah} {ks:List fu} {vs:List V} {ds:List D} {fp:List ah}:F a=none->H a=some (.dK (ks.zip vs))->ks.length=vs.length->fH R ds vs fp->vO K ct F H R (.dK ks ds) (.ref a) (a::fp)
 |dT {a:ah} {ks:List (List fu)} {vs:List V} {ds:List D} {fp:List ah}:F a=none->H a=some (.dT (ks.zip vs))->ks.length=vs.length->fH R ds vs fp->vO K ct F H R (.dT ks ds) (.ref a) (a::fp)
 |obj {a dx:ah} {c:Nat} {ns:List aK} {vs:List V} {ds:List D} {fp:List ah}:F a=none->H a=some (.ins (ct c) dx (ns.zip vs))->ns.length=vs.length->fH R ds vs fp->vO K ct F H R (.obj c ns ds) (.ref a) (a::fp)
def Ow (K:ae)(ct:Nat->ah)(F H:Hp):Nat->D->V->List ah->Prop
 |0,d,v,fp=>Dt K ct F d v/\fp=[]
 |n+1,d,v,fp=>(d.sc=true/\Dt K ct F d v/\fp=[])\/vO K ct F H (Ow K ct F H n) d v fp
structure fL (F H F' H':Hp):Prop where
 ff:bC F F'
 hh:bC H H'
 fh:bC F' H'
 nf:∀a o,H a=some o->F a=none->F' a=none
theorem fL.refl {F H:Hp}(h:bC F H):fL F H F H:=⟨.refl _,.refl _,h,λ_ _ _ h=>h⟩
theorem fL.trans {F H F1 H1 F2 H2:Hp}(a:fL F H F1 H1)(b:fL F1 H1 F2 H2):fL F H F2 H2 :=
 ⟨a.ff.trans b.ff,a.hh.trans b.hh,b.fh,λc o h n=>b.nf c o (a.hh _ _ h) (a.nf c o h n)⟩
theorem fL.newO {F H:Hp}{p:ah}(s:bC F H)(h:H p=none)(o:HO):fL F H F (cY H p o) :=
 ⟨.refl _,jf h o,s.trans (jf h o),λ_ _ _ h=>h⟩
theorem fL.newS {F H:Hp}{p:ah}(s:bC F H)(h:H p=none)(o:HO):fL F H (cY F p o) (cY H p o) :=
  ⟨jf (s.free h) o,jf h o,λb u q=>by
    by_cases e:b=p
    · subst e;rw[zt]at q ⊢;exact q
    · rw[zk e]at q ⊢;exact s _ _ q,
   λb u q n=>by rw[zk (zl q h)];exact n⟩
section
variable {K:ae}{ct:Nat->ah}{F F' G G' H H' B B':Hp}
theorem Al.mono (sF:bC F F')(sG:bC G G'){n:Nat}:∀{d:D} {v:V},Al K ct F G n d v->Al K ct F' G' n d v:=by
 induction n with
 |zero=>exactλh=>Dt.mono sF h
 |succ n ih=>
  intro d v h
  rcases h with h|h
  ·exact .inl (Dt.mono sF h)
  ·cases h with
   |lst h p=>exact .inr (.lst (sG _ _ h) (p.mono λ_ _ q=>ih q))
   |tup h p=>exact .inr (.tup (sF _ _ h) (p.mono λ_ _ q=>ih q))
   |dK h l p=>exact .inr (.dK (sG _ _ h) l (p.mono λ_ _ q=>ih q))
   |dT h l p=>exact .inr (.dT (sG _ _ h) l (p.mono λ_ _ q=>ih q))
   |obj h l p=>exact .inr (.obj (sG _ _ h) l (p.mono λ_ _ q=>ih q))
theorem Al.of:∀{n:Nat} {d:D} {v:V},Dt K ct F d v->Al K ct F G n d v
 |0,_,_,h=>h
 |_+1,_,_,h=>.inl h
theorem Al.up {n:Nat}:∀{m:Nat} {d:D} {v:V},Al K ct F G n d v->n<=m->Al K ct F G m d v:=by
 induction n with
 |zero=>exactλh _=>Al.of h
 |succ n ih=>
  intro m d v h l
  cases m with
  |zero=>exact absurd l (by omega)
  |succ m=>
   rcases h with h|h
   ·exact .inl h
   ·cases h with
    |lst h p=>exact .inr (.lst h (p.mono λ_ _ q=>ih q (by omega)))
    |tup h p=>exact .inr (.tup h (p.mono λ_ _ q=>ih q (by omega)))
    |dK h e p=>exact .inr (.dK h e (p.mono λ_ _ q=>ih q (by omega)))
    |dT h e p=>exact .inr (.dT h e (p.mono λ_ _ q=>ih q (by omega)))
    |obj h e p=>exact .inr (.obj h e (p.mono λ_ _ q=>ih q (by omega)))
theorem Dt.scal {d:D}{v:V}(h:Dt K ct F d v)(hs:d.sc=true):Dt K ct F' d v:=by
 cases h with
 |non=>exact .non
 |bl b=>exact .bl b
 |int i=>exact .int i
 |str x=>exact .str x
 |lst _ _=>cases hs
 |tup _ _=>cases hs
 |dK _ _ _=>cases hs
 |dT _ _ _=>cases hs
 |obj _ _ _=>cases hs
 |exc0 _=>cases hs
 |exc _ _ _ _=>cases hs
theorem Al.scal {n:Nat}{d:D}{v:V}(h:Al K ct F G n d v)(hs:d.sc=true):Dt K ct F' d v:=by
 cases n with
 |zero=>exact Dt.scal h hs
 |succ n=>
  rcases h with h|h
  ·exact h.scal hs
  ·cases h<;>cases hs
theorem Al.int {n:Nat}{i:Int}{v:V}(h:Al K ct F G n (.int i) v):v=.int i:=by
 have q:=Al.scal (F':=F) h rfl
 cases q;rfl
theorem Al.bl {n:Nat}{b:Bool}{v:V}(h:Al K ct F G n (.bl b) v):v=.bl b:=by
 have q:=Al.scal (F':=F) h rfl
 cases q;rfl
theorem Al.str {n:Nat}{x:aK}{v:V}(h:Al K ct F G n (.str x) v):v=.str x:=by
 have q:=Al.scal (F':=F) h rfl
 cases q;rfl
theorem Al.non {n:Nat}{v:V}(h:Al K ct F G n .non v):v=.non:=by
 have q:=Al.scal (F':=F) h rfl
 cases q;rfl
theorem Al.lst {n:Nat}{ds:List D}{v:V}(h:Al K ct F G n (.lst ds) v)(s:bC F G):∃a vs,v=.ref a/\gz K G a vs/\Pr (Al K ct F G (n-1)) ds vs:=by
 cases n with
 |zero=>
  have h:Dt K ct F (.lst ds) v:=h
  cases h with
  |lst q t=>exact⟨_,_,rfl,s.seq q,t.pr⟩
 |succ n=>
  rcases h with h|h
  ·cases h with
   |lst q t=>exact⟨_,_,rfl,s.seq q,t.pr.mono λ_ _=>Al.of⟩
  ·cases h with
   |lst q t=>exact⟨_,_,rfl,gz.of q,t⟩
theorem Al.tup {n:Nat}{ds:List D}{v:V}(h:Al K ct F G n (.tup ds) v)(s:bC F G):∃a vs,v=.ref a/\G a=some (.tup vs)/\Pr (Al K ct F G (n-1)) ds vs:=by
 cases n with
 |zero=>
  have h:Dt K ct F (.tup ds) v:=h
  cases h with
  |tup q t=>exact⟨_,_,rfl,s _ _ q,t.pr⟩
 |succ n=>
  rcases h with h|h
  ·cases h with
   |tup q t=>exact⟨_,_,rfl,s _ _ q,t.pr.mono λ_ _=>Al.of⟩
  ·cases h with
   |tup q t=>exact⟨_,_,rfl,s _ _ q,t⟩
theorem Al.dK {n:Nat}{ks:List fu}{ds:List D}{v:V}(h:Al K ct F G n (.dK ks ds) v)(s:bC F G):∃a vs,v=.ref a/\G a=some (.dK (ks.zip vs))/\ks.length=vs.length/\Pr (Al K ct F G (n-1)) ds vs:=by
 cases n with
 |zero=>
  have h:Dt K ct F (.dK ks ds) v:=h
  cases h with
  |dK q l t=>exact⟨_,_,rfl,s _ _ q,l,t.pr⟩
 |succ n=>
  rcases h with h|h
  ·cases h with
   |dK q l t=>exact⟨_,_,rfl,s _ _ q,l,t.pr.mono λ_ _=>Al.of⟩
  ·cases h with
   |dK q l t=>exact⟨_,_,rfl,q,l,t⟩
theorem Al.dT {n:Nat}{ks:List (List fu)}{ds:List D}{v:V}(h:Al K ct F G n (.dT ks ds) v)(s:bC F G):∃a vs,v=.ref a/\G a=some (.dT (ks.zip vs))/\ks.length=vs.length/\Pr (Al K ct F G (n-1)) ds vs:=by
 cases n with
 |zero=>
  have h:Dt K ct F (.dT ks ds) v:=h
  cases h with
  |dT q l t=>exact⟨_,_,rfl,s _ _ q,l,t.pr⟩
 |succ n=>
  rcases h with h|h
  ·cases h with
   |dT q l t=>exact⟨_,_,rfl,s _ _ q,l,t.pr.mono λ_ _=>Al.of⟩
  ·cases h with
   |dT q l t=>exact⟨_,_,rfl,q,l,t⟩
theorem Al.obj {n:Nat}{c:Nat}{ns:List aK}{ds:List D}{v:V}(h:Al K ct F G n (.obj c ns ds) v)(s:bC F G):∃a dx vs,v=.ref a/\G a=some (.ins (ct c) dx (ns.zip vs))/\ns.length=vs.length/\Pr (Al K ct F G (n-1)) ds vs:=by
 cases n with
 |zero=>
  have h:Dt K ct F (.obj c ns ds) v:=h
  cases h with
  |obj q l t=>exact⟨_,_,_,rfl,s _ _ q,l,t.pr⟩
 |succ n=>
  rcases h with h|h
  ·cases h with
   |obj q l t=>exact⟨_,_,_,rfl,s _ _ q,l,t.pr.mono λ_ _=>Al.of⟩
  ·cases h with
   |obj q l t=>exact⟨_,_,_,rfl,q,l,t⟩
theorem fH.mono {R R':D->V->List ah->Prop}{ds:List D}{vs:List V}{fp:List ah}(h:fH R ds vs fp):(∀d v f,(∀a∈f,a∈fp)->R d v f->R' d v f)->fH R' ds vs fp:=by
 induction h with
 |nil=>exactλ_=>.nil
 |cons h t ih=>exactλq=>.cons (q _ _ _ (λa z=>bq _ z) h) (ih λd v f i r=>q d v f (λa z=>aD _ (i a z)) r)
theorem fH.pr {R:D->V->List ah->Prop}{R':D->V->Prop}{ds:List D}{vs:List V}{fp:List ah}(h:fH R ds vs fp):(∀d v f,(∀a∈f,a∈fp)->R d v f->R' d v)->Pr R' ds vs:=by
 induction h with
 |nil=>exactλ_=>.nil
 |cons h t ih=>exactλq=>.cons (q _ _ _ (λa z=>bq _ z) h) (ih λd v f i r=>q d v f (λa z=>aD _ (i a z)) r)
theorem fH.ofPr {R:D->V->List ah->Prop}{ds:List D}{vs:List V}(h:Pr (λd v=>R d v []) ds vs):fH R ds vs []:=by
 induction h with
 |nil=>exact .nil
 |cons h t ih=>exact fH.cons (f:=[]) (g:=[]) h ih
theorem fH.append {R:D->V->List ah->Prop}{ds es:List D}{vs us:List V}{f g:List ah}(h:fH R ds vs f)(s:fH R es us g):fH R (ds++es) (vs++us) (f++g):=by
 induction h with
 |nil=>exact s
 |cons h t ih=>rw[ed];exact .cons h ih
theorem fH.length {R:D->V->List ah->Prop}{ds:List D}{vs:List V}{fp:List ah}(h:fH R ds vs fp):ds.length=vs.length:=by
 induction h with
 |nil=>rfl
 |cons _ t ih=>simp[ih]
theorem Ow.frame (sF:bC F F'){n:Nat}:∀{d:D} {v:V} {fp:List ah},Ow K ct F H n d v fp->(∀a∈fp,H' a=H a/\F' a=none)->Ow K ct F' H' n d v fp:=by
 induction n with
 |zero=>exactλh _=>⟨h.1.mono sF,h.2⟩
 |succ n ih=>
  intro d v fp h k
  rcases h with h|h
  ·exact .inl ⟨h.1,h.2.1.mono sF,h.2.2⟩
  ·cases h with
   |lst hn h p=>exact .inr (.lst (k _ af).2 ((k _ af).1.trans h) (p.mono λ_ _ _ i q=>ih q λa z=>k a (ak _ (i a z))))
   |tup h p=>exact .inr (.tup (sF _ _ h) (p.mono λ_ _ _ i q=>ih q λa z=>k a (i a z)))
   |dK hn h l p=>exact .inr (.dK (k _ af).2 ((k _ af).1.trans h) l (p.mono λ_ _ _ i q=>ih q λa z=>k a (ak _ (i a z))))
   |dT hn h l p=>exact .inr (.dT (k _ af).2 ((k _ af).1.trans h) l (p.mono λ_ _ _ i q=>ih q λa z=>k a (ak _ (i a z))))
   |obj hn h l p=>exact .inr (.obj (k _ af).2 ((k _ af).1.trans h) l (p.mono λ_ _ _ i q=>ih q λa z=>k a (ak _ (i a z))))
theorem fH.cells0 {R:D->V->List ah->Prop}(k:∀d v f,R d v f->∀a∈f,F a=none/\∃o,H a=some o){ds:List D}{vs:List V}{fp:List ah}(h:fH R ds vs fp):∀a∈fp,F a=none/\∃o,H a=some o:=by
 induction h with
 |nil=>exactλa z=>by cases z
 |cons h t ih=>exactλa z=>(aZ.mp z).elim (λz=>k _ _ _ h a z) (ih a)
theorem Ow.cells {n:Nat}:∀{d:D} {v:V} {fp:List ah},Ow K ct F H n d v fp->∀a∈fp,F a=none/\∃o,H a=some o:=by
 induction n with
 |zero=>exactλh a z=>by rw[h.2]at z;cases z
 |succ n ih=>
  intro d v fp h a z
  rcases h with h|h
  ·rw[h.2.2]at z;cases z
  ·cases h with
   |lst hn h p=>exact(aE.mp z).elim (λe=>by rw[e];exact⟨hn,_,h⟩) (fH.cells0 (λd v f q=>ih q) p a)
   |tup h p=>exact fH.cells0 (λd v f q=>ih q) p a z
   |dK hn h l p=>exact(aE.mp z).elim (λe=>by rw[e];exact⟨hn,_,h⟩) (fH.cells0 (λd v f q=>ih q) p a)
   |dT hn h l p=>exact(aE.mp z).elim (λe=>by rw[e];exact⟨hn,_,h⟩) (fH.cells0 (λd v f q=>ih q) p a)
   |obj hn h l p=>exact(aE.mp z).elim (λe=>by rw[e];exact⟨hn,_,h⟩) (fH.cells0 (λd v f q=>ih q) p a)
theorem Ow.ext {n:Nat}{d:D}{v:V}{fp:List ah}(h:Ow K ct F H n d v fp)(e:fL F H F' H'):Ow K ct F' H' n d v fp :=
 h.frame e.ff λa z=>by
  obtain⟨hn,o,ho⟩:=h.cells a z
  exact⟨(e.hh _ _ ho).trans ho.symm,e.nf a o ho hn⟩
theorem Ow.al (s:bC F H){n:Nat}:∀{d:D} {v:V} {fp:List ah},Ow K ct F H n d v fp->Al K ct F H n d v:=by
 induction n with
 |zero=>exactλh=>h.1
 |succ n ih=>
  intro d v fp h
  rcases h with h|h
  ·exact .inl h.2.1
  ·cases h with
   |lst hn h p=>exact .inr (.lst h (p.pr λ_ _ _ _ q=>ih q))
   |tup h p=>exact .inr (.tup h (p.pr λ_ _ _ _ q=>ih q))
   |dK hn h l p=>exact .inr (.dK h l (p.pr λ_ _ _ _ q=>ih q))
   |dT hn h l p=>exact .inr (.dT h l (p.pr λ_ _ _ _ q=>ih q))
   |obj hn h l p=>exact .inr (.obj h l (p.pr λ_ _ _ _ q=>ih q))
theorem Ow.dt (sF:bC F F'){n:Nat}:∀{d:D} {v:V} {fp:List ah},Ow K ct F H n d v fp->(∀a∈fp,F' a=H a)->Dt K ct F' d v:=by
 induction n with
 |zero=>exactλh _=>h.1.mono sF
 |succ n ih=>
  intro d v fp h k
  rcases h with h|h
  ·exact h.2.1.mono sF
  ·cases h with
   |lst hn h p=>exact .lst (gz.of ((k _ af).trans h)) (.of (p.pr λ_ _ _ i q=>ih q λa z=>k a (ak _ (i a z))))
   |tup h p=>exact .tup (sF _ _ h) (.of (p.pr λ_ _ _ i q=>ih q λa z=>k a (i a z)))
   |dK hn h l p=>exact .dK ((k _ af).trans h) l (.of (p.pr λ_ _ _ i q=>ih q λa z=>k a (ak _ (i a z))))
   |dT hn h l p=>exact .dT ((k _ af).trans h) l (.of (p.pr λ_ _ _ i q=>ih q λa z=>k a (ak _ (i a z))))
   |obj hn h l p=>exact .obj ((k _ af).trans h) l (.of (p.pr λ_ _ _ i q=>ih q λa z=>k a (ak _ (i a z))))
def iE (F H:Hp)(fp:List ah):Hp:=λa=>if a∈fp then H a else F a
theorem uq {fp:List ah}(s:bC F H)(hf:∀a∈fp,F a=none):bC F (iE F H fp)/\bC (iE F H fp) H/\∀a∈fp,iE F H fp a=H a:=by
 refine⟨λa o h=>?_,λa o h=>?_,λa z=>if_pos z⟩
 ·have:¬a∈fp:=λz=>by rw[hf a z]at h;cases h
  unfold iE;rw[if_neg this];exact h
 ·unfold iE at h
  by_cases z:a∈fp
  ·rw[if_pos z]at h;exact h
  ·rw[if_neg z]at h;exact s _ _ h
theorem Ow.freeze {n:Nat}{d:D}{v:V}{fp:List ah}{F0 H0:Hp}(h:Ow K ct F H n d v fp)(e:fL F0 H0 F H)(hf:∀a∈fp,H0 a=none):∃F',fL F0 H0 F' H/\Dt K ct F' d v:=by
 obtain⟨w1,w2,w3⟩:=uq (fp:=fp) e.fh (λa z=>(h.cells a z).1)
 refine⟨iE F H fp,⟨e.ff.trans w1,e.hh,w2,λa o ho hn=>?_⟩,h.dt w1 w3⟩
 have:¬a∈fp:=λz=>by rw[hf a z]at ho;cases ho
 unfold iE;rw[if_neg this];exact e.nf a o ho hn
theorem Ow.zero {d:D}{v:V}(h:Dt K ct F d v):Ow K ct F H 0 d v []:=⟨h,rfl⟩
theorem Ow.scal {n:Nat}{d:D}{v:V}(h:Dt K ct F d v)(hs:d.sc=true):Ow K ct F H n d v []:=by
 cases n with
 |zero=>exact⟨h,rfl⟩
 |succ n=>exact .inl ⟨hs,h,rfl⟩
end
end L3
namespace L3
open PySem PySem.Spec L2
open PyProof.Rows hiding St
abbrev Env:=List (Option D)
inductive Mo where
 |al (n:Nat)|ow (n:Nat)|px (v:V)|so (x:ah)
def Mo.lv:Mo->Nat
 |.al n=>n
 |.ow n=>n
 |.px _=>1
 |.so _=>1
section
variable (K:ae)(ct:Nat->ah)
inductive SL (F B H:Hp):List Mo->Env->St->List ah->Prop
 |nil:SL F B H [] [] [] []
 |no {m:Mo} {o:Option V} {ms:List Mo} {ρ:Env} {σ:St} {fp:List ah}:SL F B H ms ρ σ fp->SL F B H (m::ms) (none::ρ) (o::σ) fp
 |al {n:Nat} {d:D} {v:V} {ms:List Mo} {ρ:Env} {σ:St} {fp:List ah}:Al K ct F B n d v->SL F B H ms ρ σ fp->SL F B H (.al n::ms) (some d::ρ) (some v::σ) fp
 |px {d:D} {v:V} {ms:List Mo} {ρ:Env} {σ:St} {fp:List ah}:Al K ct F B 1 d v->SL F B H ms ρ σ fp->SL F B H (.px v::ms) (some d::ρ) (some v::σ) fp
 |so {d:D} {x:ah} {ms:List Mo} {ρ:Env} {σ:St} {fp:List ah}:Ow K ct F H 1 d (.ref x) [x]->SL F B H ms ρ σ fp->SL F B H (.so x::ms) (some d::ρ) (some (.ref x)::σ) (x::fp)
 |ow {n:Nat} {d:D} {v:V} {ms:List Mo} {ρ:Env} {σ:St} {f fp:List ah}:Ow K ct F H n d v f->SL F B H ms ρ σ fp->SL F B H (.ow n::ms) (some d::ρ) (some v::σ) (f++fp)
structure RS (F0 B:Hp)(ms:List Mo)(F H:Hp)(ρ:Env)(σ:St):Prop where
 f0:bC F0 F
 bh:bC B H
 fh:bC F H
 nf:∀a o,B a=some o->F0 a=none->F a=none
 sl:∃fp,SL K ct F B H ms ρ σ fp/\fp.Nodup/\∀a∈fp,B a=none
end
section
variable {K:ae}{ct:Nat->ah}{F F' G G' H H' B B' F0:Hp}{ms:List Mo}{ρ:Env}{σ:St}
theorem SL.cells {ms:List Mo}{ρ:Env}{σ:St}{fp:List ah}(h:SL K ct F B H ms ρ σ fp):∀a∈fp,F a=none/\∃o,H a=some o:=by
 induction h with
 |nil=>intro a z;cases z
 |no t ih=>exact ih
 |al _ t ih=>exact ih
 |px _ t ih=>exact ih
 |so h t ih=>exactλa z=>(aE.mp z).elim (λz=>h.cells a (by rw[z];exact af)) (ih a)
 |ow h t ih=>exactλa z=>(aZ.mp z).elim (h.cells a) (ih a)
theorem SL.frame (sF:bC F F'){ms:List Mo}{ρ:Env}{σ:St}{fp:List ah}(h:SL K ct F B H ms ρ σ fp):(∀a∈fp,H' a=H a/\F' a=none)->SL K ct F' B H' ms ρ σ fp:=by
 induction h with
 |nil=>exactλ_=>.nil
 |no t ih=>exactλk=>.no (ih k)
 |al h t ih=>exactλk=>.al (h.mono sF (.refl _)) (ih k)
 |px h t ih=>exactλk=>.px (h.mono sF (.refl _)) (ih k)
 |so h t ih=>exactλk=>.so (h.frame sF λa z=>k a (by rw[aB]at z;rw[z];exact af)) (ih λa z=>k a (ak _ z))
 |ow h t ih=>exactλk=>.ow (h.frame sF λa z=>k a (bq _ z)) (ih λa z=>k a (aD _ z))
theorem RS.ext (r:RS K ct F0 B ms F H ρ σ)(e:fL F H F' H'):RS K ct F0 B ms F' H' ρ σ:=by
 obtain⟨fp,s,nd,hb⟩:=r.sl
 refine⟨r.f0.trans e.ff,r.bh.trans e.hh,e.fh,λa o h n=>e.nf a o (r.bh _ _ h) (r.nf a o h n),fp,s.frame e.ff λa z=>?_,nd,hb⟩
 obtain⟨hn,o,ho⟩:=s.cells a z
 exact⟨(e.hh _ _ ho).trans ho.symm,e.nf a o ho hn⟩
theorem SL.get {ms:List Mo}{ρ:Env}{σ:St}{fp:List ah}{i:Nat}{m:Mo}{d:D}(h:SL K ct F B H ms ρ σ fp)(s:bC F H)(s':bC B H):ms[i]?=some m->ρ[i]?=some (some d)->∃v,σ[i]?=some (some v)/\Al K ct F H m.lv d v:=by
 induction h generalizing i with
 |nil=>intro e;simp at e
 |no t ih=>
  intro e e'
  cases i with
  |zero=>simp at e'
  |succ i=>simpa using ih (by simpa using e) (by simpa using e')
 |al h t ih=>
  intro e e'
  cases i with
  |zero=>
   simp at e e';subst e;subst e'
   exact⟨_,rfl,h.mono (.refl _) s'⟩
  |succ i=>simpa using ih (by simpa using e) (by simpa using e')
 |px h t ih=>
  intro e e'
  cases i with
  |zero=>
   simp at e e';subst e;subst e'
   exact⟨_,rfl,h.mono (.refl _) s'⟩
  |succ i=>simpa using ih (by simpa using e) (by simpa using e')
 |so h t ih=>
  intro e e'
  cases i with
  |zero=>
   simp at e e';subst e;subst e'
   exact⟨_,rfl,h.al s⟩
  |succ i=>simpa using ih (by simpa using e) (by simpa using e')
 |ow h t ih=>
  intro e e'
  cases i with
  |zero=>
   simp at e e';subst e;subst e'
   exact⟨_,rfl,h.al s⟩
  |succ i=>simpa using ih (by simpa using e) (by simpa using e')
theorem RS.get (r:RS K ct F0 B ms F H ρ σ){i:Nat}{m:Mo}{d:D}(hm:ms[i]?=some m)(e:ρ[i]?=some (some d)):∃v,σ[i]?=some (some v)/\Al K ct F H m.lv d v:=by
 obtain⟨fp,s,_,_⟩:=r.sl
 exact s.get r.fh r.bh hm e
theorem SL.put {ms:List Mo}{ρ:Env}{σ:St}{fp:List ah}{i k:Nat}(h0:SL K ct F B H ms ρ σ fp):ms[i]?=some (.ow k) ->
  ∃f1 fr:List ah,(∀a∈f1,a∈fp)/\(∀a∈fr,a∈fp)/\(fp.Nodup->f1.Nodup/\fr.Nodup/\∀a∈f1,a∉fr)/\(∀d,ρ[i]?=some (some d)->∃v,σ[i]?=some (some v)/\Ow K ct F H k d v f1) /\
   ∀(F' H':Hp) (d':D) (v':V) (f':List ah),bC F F'->(∀a∈fr,H' a=H a/\F' a=none)->Ow K ct F' H' k d' v' f' ->
    ∃iC,SL K ct F' B H' ms (ρ.set i (some d')) (σ.set i (some v')) iC/\(∀a∈iC,a∈f'\/a∈fr)/\(f'.Nodup->fr.Nodup->(∀a∈f',a∉fr)->iC.Nodup):=by
 induction h0 generalizing i with
 |nil=>
  intro e
  simp at e
 |@no m0 o0 ms ρ σ fp t ih=>
  intro e
  cases i with
  |zero=>
   simp at e;subst e
   refine⟨[],fp,λa z=>(by cases z),λa z=>z,λn=>⟨bL,n,λa z=>(by cases z)⟩,λd q=>(by simp at q),λF' H' d' v' f' s kf h=>⟨f'++fp,.ow h (t.frame s kf),λa z=>aZ.mp z,λn1 n2 dj=>?_⟩⟩
   exact br.mpr ⟨n1,n2,λa z b zb e=>dj a z (e▸zb)⟩
  |succ i=>
   obtain⟨f1,fr,h1,h2,h3,h4,h5⟩:=ih (i:=i) (by simpa using e)
   refine⟨f1,fr,h1,h2,h3,λd q=>by simpa using h4 d (by simpa using q),λF' H' d' v' f' s kf h=>?_⟩
   obtain⟨iC,q1,q2,q3⟩:=h5 F' H' d' v' f' s kf h
   exact⟨iC,.no q1,q2,q3⟩
 |@al n0 d0 v0 ms ρ σ fp h t ih=>
  intro e
  cases i with
  |zero=>
   simp at e
  |succ i=>
   obtain⟨f1,fr,h1,h2,h3,h4,h5⟩:=ih (i:=i) (by simpa using e)
   refine⟨f1,fr,h1,h2,h3,λd q=>by simpa using h4 d (by simpa using q),λF' H' d' v' f' s kf h'=>?_⟩
   obtain⟨iC,q1,q2,q3⟩:=h5 F' H' d' v' f' s kf h'
   exact⟨iC,.al (h.mono s (.refl _)) q1,q2,q3⟩
 |@px d0 v0 ms ρ σ fp h t ih=>
  intro e
  cases i with
  |zero=>
   simp at e
  |succ i=>
   obtain⟨f1,fr,h1,h2,h3,h4,h5⟩:=ih (i:=i) (by simpa using e)
   refine⟨f1,fr,h1,h2,h3,λd q=>by simpa using h4 d (by simpa using q),λF' H' d' v' f' s kf h'=>?_⟩
   obtain⟨iC,q1,q2,q3⟩:=h5 F' H' d' v' f' s kf h'
   exact⟨iC,.px (h.mono s (.refl _)) q1,q2,q3⟩
 |@so d0 x ms ρ σ fp h t ih=>
  intro e
  cases i with
  |zero=>
   simp at e
  |succ i=>
   obtain⟨f1,fr,h1,h2,h3,h4,h5⟩:=ih (i:=i) (by simpa using e)
   refine⟨f1,x::fr,λa z=>ak _ (h1 a z),λa z=>(aE.mp z).elim (λz=>by rw[z];exact af) λz=>ak _ (h2 a z),λn=>?_,λd q=>by simpa using h4 d (by simpa using q),λF' H' d' v' f' s kf h'=>?_⟩
   ·obtain⟨n1,n2⟩:=bJ.mp n
    obtain⟨m1,m2,m3⟩:=h3 n2
    refine⟨m1,bJ.mpr ⟨λz=>n1 (h2 x z),m2⟩,λa z zb=>?_⟩
    rcases aE.mp zb with zb|zb
    ·rw[zb]at z;exact n1 (h1 x z)
    ·exact m3 a z zb
   ·obtain⟨iC,q1,q2,q3⟩:=h5 F' H' d' v' f' s (λa z=>kf a (ak _ z)) h'
    refine⟨x::iC,.so (h.frame s λa z=>kf a (by rw[aB]at z;rw[z];exact af)) q1,λa z=>?_,λn1 n2 dj=>?_⟩
    ·rcases aE.mp z with z|z
     ·exact .inr (by rw[z];exact af)
     ·exact(q2 a z).imp id λz=>ak _ z
    ·obtain⟨m1,m2⟩:=bJ.mp n2
     refine bJ.mpr ⟨λz=>?_,q3 n1 m2 λa z zb=>dj a z (ak _ zb)⟩
     rcases q2 x z with z|z
     ·exact dj x z af
     ·exact m1 z
 |@ow n0 d0 v0 ms ρ σ f fp h t ih=>
  intro e
  cases i with
  |zero=>
   simp at e;subst e
   refine⟨f,fp,λa z=>bq _ z,λa z=>aD _ z,λn=>?_,λd q=>?_,λF' H' d' v' f' s kf h=>⟨f'++fp,.ow h (t.frame s kf),λa z=>aZ.mp z,λn1 n2 dj=>?_⟩⟩
   ·obtain⟨n1,n2,n3⟩:=br.mp n
    exact⟨n1,n2,λa z zb=>n3 a z a zb rfl⟩
   ·simp at q;subst q;exact⟨_,rfl,h⟩
   ·exact br.mpr ⟨n1,n2,λa z b zb e=>dj a z (e▸zb)⟩
  |succ i=>
   obtain⟨f1,fr,h1,h2,h3,h4,h5⟩:=ih (i:=i) (by simpa using e)
   refine⟨f1,f++fr,λa z=>aD _ (h1 a z),λa z=>(aZ.mp z).elim (λz=>bq _ z) λz=>aD _ (h2 a z),λn=>?_,λd q=>by simpa using h4 d (by simpa using q),λF' H' d' v' f' s kf h'=>?_⟩
   ·obtain⟨n1,n2,n3⟩:=br.mp n
    obtain⟨m1,m2,m3⟩:=h3 n2
    refine⟨m1,br.mpr ⟨n1,m2,λa z b zb=>n3 a z b (h2 b zb)⟩,λa z zb=>?_⟩
    rcases aZ.mp zb with zb|zb
    ·exact n3 a zb a (h1 a z) rfl
    ·exact m3 a z zb
   ·obtain⟨iC,q1,q2,q3⟩:=h5 F' H' d' v' f' s (λa z=>kf a (aD _ z)) h'
    refine⟨f++iC,.ow (h.frame s λa z=>kf a (bq _ z)) q1,λa z=>?_,λn1 n2 dj=>?_⟩
    ·rcases aZ.mp z with z|z
     ·exact .inr (bq _ z)
     ·exact(q2 a z).imp id λz=>aD _ z
    ·obtain⟨m1,m2,m3⟩:=br.mp n2
     refine br.mpr ⟨m1,q3 n1 m2 λa z zb=>dj a z (aD _ zb),λa z b zb e=>?_⟩
     subst e
     rcases q2 a zb with zb|zb
     ·exact dj a zb (bq _ z)
     ·exact m3 a z a zb rfl
end
abbrev EF:=Env->Option D
inductive jK (K:ae)(ct:Nat->ah)(F G:Hp):List Nat->List D->List V->Prop
 |nil:jK K ct F G [] [] []
 |cons {n:Nat} {d:D} {v:V} {ns:List Nat} {ds:List D} {vs:List V}:Al K ct F G n d v->jK K ct F G ns ds vs->jK K ct F G (n::ns) (d::ds) (v::vs)
theorem jK.mono {K:ae}{ct:Nat->ah}{F F' G G':Hp}(sF:bC F F')(sG:bC G G'){ns:List Nat}{ds:List D}{vs:List V}(h:jK K ct F G ns ds vs):jK K ct F' G' ns ds vs:=by
 induction h with
 |nil=>exact .nil
 |cons h t ih=>exact .cons (h.mono sF sG) ih
theorem jK.length {K:ae}{ct:Nat->ah}{F G:Hp}{ns:List Nat}{ds:List D}{vs:List V}(h:jK K ct F G ns ds vs):vs.length=ns.length:=by
 induction h with
 |nil=>rfl
 |cons h t ih=>rw[aC,aC,ih]
theorem jK.length' {K:ae}{ct:Nat->ah}{F G:Hp}{ns:List Nat}{ds:List D}{vs:List V}(h:jK K ct F G ns ds vs):ds.length=vs.length:=by
 induction h with
 |nil=>rfl
 |cons h t ih=>rw[aC,aC,ih]
theorem jK.append {K:ae}{ct:Nat->ah}{F G:Hp}{IW:List Nat}{rz:List D}{Jg:List V}(q:jK K ct F G IW rz Jg){ns:List Nat}{ds:List D}{vs:List V}(h:jK K ct F G ns ds vs):jK K ct F G (ns++IW) (ds++rz) (vs++Jg):=by
 induction h with
 |nil=>exact q
 |cons h t ih=>exact .cons h ih
section
variable (X:Cx)(ct:Nat->ah)(ms:List Mo)
def XE (n:Nat)(e:Expr)(f:EF):Prop:=∃t,PE X e t/\∀(F0 B F H:Hp) (ρ:Env) (σ:St) (d:D) (Q:VK),RS X.K ct F0 B ms F H ρ σ->f ρ=some d ->
 (∀v F' H',fL F H F' H'->Al X.K ct F' H' n d v->Q v H')->t σ H Q
def XO (k:Nat)(e:Expr)(f:EF):Prop:=∃t,PE X e t/\∀(F0 B F H:Hp) (ρ:Env) (σ:St) (d:D) (Q:VK),RS X.K ct F0 B ms F H ρ σ->f ρ=some d ->
 (∀v F' H' fp,fL F H F' H'->Ow X.K ct F' H' k d v fp->fp.Nodup->(∀a∈fp,H a=none)->Q v H')->t σ H Q
def XT (e:Expr)(f:Env->Option Bool):Prop:=∃t,PT X e t/\∀(F0 B F H:Hp) (ρ:Env) (σ:St) (b:Bool) (Q:Bool->Hp->Prop),RS X.K ct F0 B ms F H ρ σ->f ρ=some b ->
 (∀F' H',fL F H F' H'->Q b H')->t σ H Q
def XW (e:Expr)(f:Env->Option Bool):Prop:=∃t,PW X e t/\∀(F0 B F H:Hp) (ρ:Env) (σ:St) (b:Bool) (Q:Bool->Hp->Prop),RS X.K ct F0 B ms F H ρ σ->f ρ=some b ->
 (∀F' H',fL F H F' H'->Q b H')->t σ H Q
def XA (es:List Expr)(ns:List Nat)(f:Env->Option (List D)):Prop:=∃t,PA X es t/\(∀ρ ds,f ρ=some ds->ds.length=es.length)/\∀(F0 B F H:Hp) (ρ:Env) (σ:St) (ds:List D) (Q:List V->Hp->Prop),RS X.K ct F0 B ms F H ρ σ->f ρ=some ds ->
 (∀vs F' H',fL F H F' H'->jK X.K ct F' H' ns ds vs->Q vs H')->t σ H Q
end
def e2 (op:D->D->Option D)(f g:EF):EF:=λρ=>(f ρ).bind λx=>(g ρ).bind λy=>op x y
def e1 (op:D->Option D)(f:EF):EF:=λρ=>(f ρ).bind op
def eN (op:List D->Option D)(f:Env->Option (List D)):EF:=λρ=>(f ρ).bind op
def eC (d:D):EF:=λ_=>some d
def eV (i:Nat):EF:=λρ=>(ρ[i]?).join
def aNil:Env->Option (List D):=λ_=>some []
def aCons (f:EF)(g:Env->Option (List D)):Env->Option (List D):=λρ=>(f ρ).bind λx=>(g ρ).bind λxs=>some (x::xs)
theorem dB {α β γ:Type}{o:Option α}{p:Option β}{op:α->β->Option γ}{r:γ}(h:(o.bind λx=>p.bind λy=>op x y)=some r):∃x y,o=some x/\p=some y/\op x y=some r:=by
 cases o with
 |none=>cases h
 |some x=>
  cases p with
  |none=>cases h
  |some y=>exact⟨x,y,rfl,rfl,h⟩
theorem aU {α β:Type}{o:Option α}{op:α->Option β}{r:β}(h:o.bind op=some r):∃x,o=some x/\op x=some r:=by
 cases o with
 |none=>cases h
 |some x=>exact⟨x,rfl,h⟩
theorem zx {α:Type}{o:Option (Option α)}{x:α}(h:o.join=some x):o=some (some x):=by
 cases o with
 |none=>cases h
 |some y=>exact congrArg some h
def nv (K:ae)(ct:Nat->ah)(n m k:Nat)(r:R2)(op:D->D->Option D):Prop :=
 ∀(F H:Hp) (x y:V) (d1 d2 d:D) (Q:VK),bC F H->Al K ct F H n d1 x->Al K ct F H m d2 y->op d1 d2=some d->(∀v F' H',fL F H F' H'->Al K ct F' H' k d v->Q v H')->r x y H Q
def CM (K:ae)(ct:Nat->ah)(n m k:Nat)(r:R2)(op:D->D->Option D):Prop :=
 ∀(F H:Hp) (x y:V) (d1 d2 d:D) (Q:VK),bC F H->Al K ct F H n d1 x->Al K ct F H m d2 y->op d1 d2=some d ->
  (∀v F' H' fp,fL F H F' H'->Ow K ct F' H' k d v fp->fp.Nodup->(∀a∈fp,H a=none)->Q v H')->r x y H Q
def vN (K:ae)(ct:Nat->ah)(ns:List Nat)(k:Nat)(r:List V->Hp->VK->Prop)(op:List D->Option D):Prop :=
 ∀(F H:Hp) (vs:List V) (ds:List D) (d:D) (Q:VK),bC F H->jK K ct F H ns ds vs->op ds=some d->(∀v F' H',fL F H F' H'->Al K ct F' H' k d v->Q v H')->r vs H Q
def zV (K:ae)(ct:Nat->ah)(ns:List Nat)(k:Nat)(r:List V->Hp->VK->Prop)(op:List D->Option D):Prop :=
 ∀(F H:Hp) (vs:List V) (ds:List D) (d:D) (Q:VK),bC F H->jK K ct F H ns ds vs->op ds=some d ->
  (∀v F' H' fp,fL F H F' H'->Ow K ct F' H' k d v fp->fp.Nodup->(∀a∈fp,H a=none)->Q v H')->r vs H Q
section
variable {X:Cx}{ct:Nat->ah}{ms:List Mo}{n m k:Nat}{a b c e:Expr}{f g h:EF}{pos:cX}
theorem XE.up (he:XE X ct ms n e f)(hk:n<=k):XE X ct ms k e f:=by
 obtain⟨t,p,q⟩:=he
 exact⟨t,p,λF0 B F H ρ σ d Q r e w=>q F0 B F H ρ σ d Q r e λv F' H' x l=>w v F' H' x (l.up hk)⟩
theorem XO.sh (he:XO X ct ms k e f):XE X ct ms n e f:=by
 obtain⟨t,p,q⟩:=he
 refine⟨t,p,λF0 B F H ρ σ d Q r e w=>q F0 B F H ρ σ d Q r e λv F' H' fp x o nd hf=>?_⟩
 obtain⟨F2,x2,h2⟩:=o.freeze x hf
 exact w v F2 H' x2 (Al.of h2)
theorem XE.ow (he:XE X ct ms 0 e f):XO X ct ms 0 e f:=by
 obtain⟨t,p,q⟩:=he
 exact⟨t,p,λF0 B F H ρ σ d Q r e w=>q F0 B F H ρ σ d Q r e λv F' H' x l=>w v F' H' [] x ⟨l,rfl⟩ bL λa z=>(by cases z)⟩
theorem za (i n:Nat){x:aK}{m:Mo}(hm:ms[i]?=some m:=by rfl)(hl:m.lv=n:=by rfl)(hN:X.N[i]?=some x:=by rfl)(hv:oK X.env.scope x:=by first|exact Or.inl rfl|exact Or.inr (Or.inl rfl)|exact Or.inr (Or.inr rfl))(hd:(x==("__debug__":aK))=false:=by decide)
  (iI:(x==("__classdict__":aK))=false:=by decide):XE X ct ms n (.Name x pos) (eV i):=by
 subst hl
 refine⟨_,v8 hN hv hd iI,λF0 B F H ρ σ d Q r e w=>?_⟩
 obtain⟨v,hv,l⟩:=r.get hm (zx e)
 exact⟨v,hv,w v F H (.refl r.fh) l⟩
theorem zti {i:Int}{j}:XE X ct ms n (.Constant (.int i) j pos) (eC (.int i)):=⟨_,zsi,λF0 B F H ρ σ d Q r e w=>by cases e;exact w _ F H (.refl r.fh) (Al.of (.int i))⟩
theorem tD {i:Bool}{j}:XE X ct ms n (.Constant (.bool i) j pos) (eC (.bl i)):=⟨_,zuu,λF0 B F H ρ σ d Q r e w=>by cases e;exact w _ F H (.refl r.fh) (Al.of (.bl i))⟩
theorem zN {i:aK}{j}:XE X ct ms n (.Constant (.str i) j pos) (eC (.str i)):=⟨_,zsk,λF0 B F H ρ σ d Q r e w=>by cases e;exact w _ F H (.refl r.fh) (Al.of (.str i))⟩
theorem ztj {j}:XE X ct ms n (.Constant .none j pos) (eC .non):=⟨_,zsj,λF0 B F H ρ σ d Q r e w=>by cases e;exact w _ F H (.refl r.fh) (Al.of .non)⟩
theorem XE.bin (ha:XE X ct ms n a f)(hb:XE X ct ms m b g):∃ta tb,PE X a ta/\PE X b tb/\∀(F0 B F H:Hp) (ρ:Env) (σ:St) (d1 d2:D) (R:V->V->Hp->Prop),RS X.K ct F0 B ms F H ρ σ->f ρ=some d1->g ρ=some d2 ->
  (∀x y F' H',fL F H F' H'->Al X.K ct F' H' n d1 x->Al X.K ct F' H' m d2 y->R x y H')->ta σ H λx H1=>tb σ H1 λy H2=>R x y H2:=by
 obtain⟨ta,pa,qa⟩:=ha
 obtain⟨tb,pb,qb⟩:=hb
 refine⟨ta,tb,pa,pb,λF0 B F H ρ σ d1 d2 R r e1 e2 w=>qa F0 B F H ρ σ d1 _ r e1 λx F1 H1 x1 l1=>?_⟩
 exact qb F0 B F1 H1 ρ σ d2 _ (r.ext x1) e2 λy F2 H2 x2 l2=>w x y F2 H2 (x1.trans x2) (l1.mono x2.ff x2.hh) l2
theorem yo {op:jT}{r:R2}{o:D->D->Option D}(ho:gM X (d9 op) r)(hs:nv X.K ct n m k r o)(ha:XE X ct ms n a f)(hb:XE X ct ms m b g):XE X ct ms k (.BinOp a op b pos) (e2 o f g):=by
 obtain⟨ta,tb,pa,pb,q⟩:=ha.bin hb
 refine⟨_,Oi ho pa pb,λF0 B F H ρ σ d Q rs e w=>?_⟩
 obtain⟨d1,d2,h1,h2,h3⟩:=dB e
 exact q F0 B F H ρ σ d1 d2 _ rs h1 h2 λx y F' H' x1 l1 l2=>hs F' H' x y d1 d2 d Q x1.fh l1 l2 h3 λv F2 H2 x2 l=>w v F2 H2 (x1.trans x2) l
theorem zu4 {op:jT}{r:R2}{o:D->D->Option D}(ho:gM X (d9 op) r)(hs:CM X.K ct n m k r o)(ha:XE X ct ms n a f)(hb:XE X ct ms m b g):XO X ct ms k (.BinOp a op b pos) (e2 o f g):=by
 obtain⟨ta,tb,pa,pb,q⟩:=ha.bin hb
 refine⟨_,Oi ho pa pb,λF0 B F H ρ σ d Q rs e w=>?_⟩
 obtain⟨d1,d2,h1,h2,h3⟩:=dB e
 exact q F0 B F H ρ σ d1 d2 _ rs h1 h2 λx y F' H' x1 l1 l2=>hs F' H' x y d1 d2 d Q x1.fh l1 l2 h3 λv F2 H2 fp x2 l nd hf=>w v F2 H2 fp (x1.trans x2) l nd λz hz=>x1.hh.free (hf z hz)
theorem qq {op:mh}{r:R2}{o:D->D->Option D}(ho:gM X (cL op) r)(hs:nv X.K ct n m k r o)(ha:XE X ct ms n a f)(hb:XE X ct ms m b g)(hm:dM op b=false):XE X ct ms k (.Compare a [op] [b] pos) (e2 o f g):=by
 obtain⟨ta,tb,pa,pb,q⟩:=ha.bin hb
 refine⟨_,zpt ho pa pb hm,λF0 B F H ρ σ d Q rs e w=>?_⟩
 obtain⟨d1,d2,h1,h2,h3⟩:=dB e
 exact q F0 B F H ρ σ d1 d2 _ rs h1 h2 λx y F' H' x1 l1 l2=>hs F' H' x y d1 d2 d Q x1.fh l1 l2 h3 λv F2 H2 x2 l=>w v F2 H2 (x1.trans x2) l
theorem sk {r:R2}{o:D->D->Option D}(hr:vM X r)(hs:nv X.K ct n m k r o)(ha:XE X ct ms n a f)(hb:XE X ct ms m b g)(hp:oI b):XE X ct ms k (.Subscript a b pos) (e2 o f g):=by
 obtain⟨ta,tb,pa,pb,q⟩:=ha.bin hb
 refine⟨_,zuz hr pa pb hp,λF0 B F H ρ σ d Q rs e w=>?_⟩
 obtain⟨d1,d2,h1,h2,h3⟩:=dB e
 exact q F0 B F H ρ σ d1 d2 _ rs h1 h2 λx y F' H' x1 l1 l2=>hs F' H' x y d1 d2 d Q x1.fh l1 l2 h3 λv F2 H2 x2 l=>w v F2 H2 (x1.trans x2) l
theorem zu5 {op:UnaryOp}{r:V->Hp->VK->Prop}{o:D->Option D}(ho:HY X (unaryOp op) r)
  (hs:∀(F H:Hp) (x:V) (d1 d:D) (Q:VK),bC F H->Al X.K ct F H n d1 x->o d1=some d->(∀v F' H',fL F H F' H'->Al X.K ct F' H' k d v->Q v H')->r x H Q) (ha:XE X ct ms n a f):XE X ct ms k (.UnaryOp op a pos) (e1 o f):=by
 obtain⟨ta,pa,qa⟩:=ha
 refine⟨_,zux ho pa,λF0 B F H ρ σ d Q rs e w=>?_⟩
 obtain⟨d1,h1,h2⟩:=aU e
 exact qa F0 B F H ρ σ d1 _ rs h1 λx F' H' x1 l1=>hs F' H' x d1 d Q x1.fh l1 h2 λv F2 H2 x2 l=>w v F2 H2 (x1.trans x2) l
theorem zj:XA X ct ms [] [] aNil:=⟨_,jp,λρ ds e=>(by cases e;rfl),λF0 B F H ρ σ ds Q r e w=>by cases e;exact w [] F H (.refl r.fh) .nil⟩
theorem ze {es:List Expr}{ns:List Nat}{fs:Env->Option (List D)}(ha:XE X ct ms n a f)(hr:XA X ct ms es ns fs)(hs:ap (a::es) X.env=(false,bG a X.env)::ap es X.env:=by rfl):XA X ct ms (a::es) (n::ns) (aCons f fs):=by
 obtain⟨ta,pa,qa⟩:=ha
 obtain⟨tb,pb,lb,qb⟩:=hr
 refine⟨_,wv pa pb hs,λρ ds e=>(by obtain⟨x,xs,h1,h2,h3⟩:=dB e;cases h3;rw[aC,aC,lb _ _ h2]),λF0 B F H ρ σ ds Q r e w=>?_⟩
 obtain⟨x,xs,h1,h2,h3⟩:=dB e
 cases h3
 refine qa F0 B F H ρ σ x _ r h1 λv F1 H1 x1 l1=>?_
 exact qb F0 B F1 H1 ρ σ xs _ (r.ext x1) h2 λvs F2 H2 x2 l2=>w (v::vs) F2 H2 (x1.trans x2) (.cons (l1.mono x2.ff x2.hh) l2)
def CP (X:Cx)(ct:Nat->ah)(ms:List Mo)(k:Nat)(es:List Expr)(f:Env->Option (List D)):Prop:=∃t,PA X es t/\(∀ρ ds,f ρ=some ds->ds.length=es.length)/\∀(F0 B F H:Hp) (ρ:Env) (σ:St) (ds:List D) (Q:List V->Hp->Prop),RS X.K ct F0 B ms F H ρ σ->f ρ=some ds ->
 (∀vs F' H' fp,fL F H F' H'->fH (Ow X.K ct F' H' k) ds vs fp->fp.Nodup->(∀a∈fp,H a=none)->Q vs H')->t σ H Q
theorem v7:CP X ct ms k [] aNil:=⟨_,jp,λρ ds e=>(by cases e;rfl),λF0 B F H ρ σ ds Q r e w=>by cases e;exact w [] F H [] (.refl r.fh) .nil bL λa z=>(by cases z)⟩
theorem yt {es:List Expr}{fs:Env->Option (List D)}(ha:XO X ct ms k a f)(hr:CP X ct ms k es fs)(hs:ap (a::es) X.env=(false,bG a X.env)::ap es X.env:=by rfl):CP X ct ms k (a::es) (aCons f fs):=by
 obtain⟨ta,pa,qa⟩:=ha
 obtain⟨tb,pb,lb,qb⟩:=hr
 refine⟨_,wv pa pb hs,λρ ds e=>(by obtain⟨x,xs,h1,h2,h3⟩:=dB e;cases h3;rw[aC,aC,lb _ _ h2]),λF0 B F H ρ σ ds Q r e w=>?_⟩
 obtain⟨x,xs,h1,h2,h3⟩:=dB e
 cases h3
 refine qa F0 B F H ρ σ x _ r h1 λv F1 H1 f1 x1 l1 n1 a1=>?_
 refine qb F0 B F1 H1 ρ σ xs _ (r.ext x1) h2 λvs F2 H2 f2 x2 l2 n2 a2=>w (v::vs) F2 H2 (f1++f2) (x1.trans x2) (.cons (l1.ext x2) l2) (br.mpr ⟨n1,n2,λz hz y hy e=>?_⟩) λz hz=>?_
 ·subst e
  obtain⟨_,o,ho⟩:=l1.cells z hz
  rw[a2 z hy]at ho
  cases ho
 ·rcases aZ.mp hz with hz|hz
  ·exact a1 z hz
  ·exact x1.hh.free (a2 z hz)
end
end L3
namespace L3
open PySem PySem.Spec L2
open PyProof.Rows hiding St
def B4:D->Option Bool
 |.bl b=>some b
 |_=>none
theorem HJ {d:D}{b:Bool}(h:B4 d=some b):d=.bl b:=by cases d<;>simp[B4]at h;subst h;rfl
abbrev BF:=Env->Option Bool
def tb (f:EF):BF:=λρ=>(f ρ).bind B4
def bNot (f:BF):BF:=λρ=>(f ρ).bind λb=>some (!b)
def bAnd (f g:BF):BF:=λρ=>(f ρ).bind λb=>if b=true then g ρ else some false
def bOr (f g:BF):BF:=λρ=>(f ρ).bind λb=>if b=true then some true else g ρ
def eB (f:BF):EF:=λρ=>(f ρ).bind λb=>some (.bl b)
def eIf (c:BF)(f g:EF):EF:=λρ=>(c ρ).bind λb=>if b=true then f ρ else g ρ
section
variable {X:Cx}{ct:Nat->ah}{ms:List Mo}{n m k:Nat}{a b c e:Expr}{f g h:EF}{p q:BF}{pos:cX}
theorem u9 (he:XE X ct ms n e f)(hi:∀whole,qE e X.env whole=(do let v ← whole;fO e.pos;dS [v] (truthy v)):=by intro _;rfl):XT X ct ms e (tb f):=by
 obtain⟨t,pt,qt⟩:=he
 refine⟨_,SX pt hi,λF0 B F H ρ σ b Q r e w=>?_⟩
 obtain⟨d,h1,h2⟩:=aU e
 rw[HJ h2]at h1
 exact qt F0 B F H ρ σ _ _ r h1 λv F' H' x l=>⟨b,l.bl,w F' H' x⟩
theorem yq {op:mh}{r:R2}{o:D->D->Option D}(ho:gM X (cL op) r)(hs:nv X.K ct n m k r o)(ha:XE X ct ms n a f)(hb:XE X ct ms m b g)(hm:dM op b=false):XT X ct ms (.Compare a [op] [b] pos) (tb (e2 o f g)):=by
 obtain⟨ta,tb,pa,pb,q⟩:=ha.bin hb
 refine⟨_,zpu ho pa pb hm,λF0 B F H ρ σ b Q rs e w=>?_⟩
 obtain⟨d,h0,h4⟩:=aU e
 rw[HJ h4]at h0
 obtain⟨d1,d2,h1,h2,h3⟩:=dB h0
 exact q F0 B F H ρ σ d1 d2 _ rs h1 h2 λx y F' H' x1 l1 l2=>hs F' H' x y d1 d2 _ _ x1.fh l1 l2 h3 λv F2 H2 x2 l=>⟨b,l.bl,w F2 H2 (x1.trans x2)⟩
theorem XW.t (h:XW X ct ms e p):XT X ct ms e p:=by
 obtain⟨t,pt,qt⟩:=h
 exact⟨t,pt.pt,qt⟩
theorem JA (ha:XT X ct ms a p):XW X ct ms (.BoolOp .And [a] pos) p:=by
 obtain⟨t,pt,qt⟩:=ha
 exact⟨t,zpm pt,qt⟩
theorem wC (ha:XT X ct ms a p):XW X ct ms (.BoolOp .Or [a] pos) p:=by
 obtain⟨t,pt,qt⟩:=ha
 exact⟨t,zsl pt,qt⟩
theorem JW {rest:List Expr}(ha:XT X ct ms a p)(hb:XW X ct ms (.BoolOp .And (b::rest) pos) q):XW X ct ms (.BoolOp .And (a::b::rest) pos) (bAnd p q):=by
 obtain⟨t,pt,qt⟩:=ha
 obtain⟨u,pu,qu⟩:=hb
 refine⟨_,zsm pt pu,λF0 B F H ρ σ r Q rs e w=>?_⟩
 obtain⟨x,h1,h2⟩:=aU e
 refine qt F0 B F H ρ σ x _ rs h1 λF1 H1 x1=>?_
 cases x with
 |true=>rw[if_pos rfl];exact qu F0 B F1 H1 ρ σ r _ (rs.ext x1) h2 λF2 H2 x2=>w F2 H2 (x1.trans x2)
 |false=>cases h2;rw[if_neg aJ];exact w F1 H1 x1
theorem t8 {rest:List Expr}(ha:XT X ct ms a p)(hb:XW X ct ms (.BoolOp .Or (b::rest) pos) q):XW X ct ms (.BoolOp .Or (a::b::rest) pos) (bOr p q):=by
 obtain⟨t,pt,qt⟩:=ha
 obtain⟨u,pu,qu⟩:=hb
 refine⟨_,zuv pt pu,λF0 B F H ρ σ r Q rs e w=>?_⟩
 obtain⟨x,h1,h2⟩:=aU e
 refine qt F0 B F H ρ σ x _ rs h1 λF1 H1 x1=>?_
 cases x with
 |true=>cases h2;rw[if_pos rfl];exact w F1 H1 x1
 |false=>rw[if_neg aJ];exact qu F0 B F1 H1 ρ σ r _ (rs.ext x1) h2 λF2 H2 x2=>w F2 H2 (x1.trans x2)
theorem wD (ha:XT X ct ms a p):XT X ct ms (.UnaryOp .Not a pos) (bNot p):=by
 obtain⟨t,pt,qt⟩:=ha
 refine⟨_,zsn pt,λF0 B F H ρ σ r Q rs e w=>?_⟩
 obtain⟨x,h1,h2⟩:=aU e
 cases h2
 exact qt F0 B F H ρ σ x _ rs h1 λF1 H1 x1=>w F1 H1 x1
theorem zO {op}(ha:XE X ct ms n a f):XE X ct ms k (.BoolOp op [a] pos) (eB (tb f)):=by
 obtain⟨t,pt,qt⟩:=ha
 refine⟨_,zso pt,λF0 B F H ρ σ r Q rs e w=>?_⟩
 obtain⟨y,h3,h4⟩:=aU e
 obtain⟨z,h5,h6⟩:=aU h3
 cases h4
 rw[HJ h6]at h5
 exact qt F0 B F H ρ σ _ _ rs h5 λv F1 H1 x1 l=>w _ F1 H1 x1 (by rw[l.bl];exact Al.of (.bl _))
theorem BU {rest:List Expr}(ha:XE X ct ms n a f)(hb:XE X ct ms k (.BoolOp .And (b::rest) pos) (eB q)):XE X ct ms k (.BoolOp .And (a::b::rest) pos) (eB (bAnd (tb f) q)):=by
 obtain⟨t,pt,qt⟩:=ha
 obtain⟨u,pu,qu⟩:=hb
 refine⟨_,zsp pt pu,λF0 B F H ρ σ r Q rs e w=>?_⟩
 obtain⟨y,h3,h4⟩:=aU e
 obtain⟨x,h1,h2⟩:=aU h3
 obtain⟨z,h5,h6⟩:=aU h1
 cases h4
 rw[HJ h6]at h5
 refine qt F0 B F H ρ σ _ _ rs h5 λv F1 H1 x1 l=>⟨x,l.bl,?_⟩
 cases x with
 |true=>rw[if_pos rfl];exact qu F0 B F1 H1 ρ σ _ _ (rs.ext x1) (show(q ρ).bind _=_ by rw[if_pos rfl]at h2;rw[h2];rfl) λv F2 H2 x2 l=>w v F2 H2 (x1.trans x2) l
 |false=>rw[if_neg aJ]at h2 ⊢;cases h2;exact w _ F1 H1 x1 (Al.of (.bl _))
theorem zu6 {rest:List Expr}(ha:XE X ct ms n a f)(hb:XE X ct ms k (.BoolOp .Or (b::rest) pos) (eB q)):XE X ct ms k (.BoolOp .Or (a::b::rest) pos) (eB (bOr (tb f) q)):=by
 obtain⟨t,pt,qt⟩:=ha
 obtain⟨u,pu,qu⟩:=hb
 refine⟨_,zuw pt pu,λF0 B F H ρ σ r Q rs e w=>?_⟩
 obtain⟨y,h3,h4⟩:=aU e
 obtain⟨x,h1,h2⟩:=aU h3
 obtain⟨z,h5,h6⟩:=aU h1
 cases h4
 rw[HJ h6]at h5
 refine qt F0 B F H ρ σ _ _ rs h5 λv F1 H1 x1 l=>⟨x,l.bl,?_⟩
 cases x with
 |true=>rw[if_pos rfl]at h2 ⊢;cases h2;exact w _ F1 H1 x1 (Al.of (.bl _))
 |false=>rw[if_neg aJ];exact qu F0 B F1 H1 ρ σ _ _ (rs.ext x1) (show(q ρ).bind _=_ by rw[if_neg aJ]at h2;rw[h2];rfl) λv F2 H2 x2 l=>w v F2 H2 (x1.trans x2) l
theorem Oj (hc:XT X ct ms c p)(ha:XE X ct ms k a f)(hb:XE X ct ms k b g):XE X ct ms k (.IfExp c a b pos) (eIf p f g):=by
 obtain⟨s,ps,qs⟩:=hc
 obtain⟨t,pt,qt⟩:=ha
 obtain⟨u,pu,qu⟩:=hb
 refine⟨_,zmr ps pt pu,λF0 B F H ρ σ r Q rs e w=>?_⟩
 obtain⟨x,h1,h2⟩:=aU e
 refine qs F0 B F H ρ σ x _ rs h1 λF1 H1 x1=>?_
 cases x with
 |true=>rw[if_pos rfl]at h2 ⊢;exact qt F0 B F1 H1 ρ σ _ _ (rs.ext x1) h2 λv F2 H2 x2 l=>w v F2 H2 (x1.trans x2) l
 |false=>rw[if_neg aJ]at h2 ⊢;exact qu F0 B F1 H1 ρ σ _ _ (rs.ext x1) h2 λv F2 H2 x2 l=>w v F2 H2 (x1.trans x2) l
theorem zP {es:List Expr}{fs:Env->Option (List D)}{x1}(h:CP X ct ms k es fs)(hl:es.length<=1000:=by decide):XO X ct ms (k+1) (.Tuple es x1 pos) (λρ=>(fs ρ).bind λds=>some (.tup ds)):=by
 obtain⟨t,pt,lt,qt⟩:=h
 refine⟨_,S4 pt,λF0 B F H ρ σ r Q rs e w=>?_⟩
 obtain⟨ds,h1,h2⟩:=aU e
 cases h2
 refine qt F0 B F H ρ σ ds _ rs h1 λvs F1 H1 fp x1 l nd hf=>⟨?_,λp hp=>?_⟩
 ·rw[←l.length,lt _ _ h1];exact small hl
 ·have x2:=fL.newS x1.fh hp (.tup vs)
  exact w _ _ _ fp (x1.trans x2) (.inr (.tup zt (l.mono λ_ _ _ _ o=>o.ext x2))) nd hf
theorem fH.cellsOf {K:ae}{F H:Hp}{ds:List D}{vs:List V}{fp:List ah}(l:fH (Ow K ct F H k) ds vs fp):∀a∈fp,F a=none/\∃o,H a=some o:=fH.cells0 (λd v f q=>Ow.cells q) l
theorem R9 {K:ae}{F H:Hp}{ds:List D}{vs:List V}{fp:List ah}{p:ah}(s:bC F H)(l:fH (Ow K ct F H k) ds vs fp)(hp:H p=none):Ow K ct F (cY H p (.lst vs)) (k+1) (.lst ds) (.ref p) (p::fp)/\(fp.Nodup->(p::fp).Nodup) :=
 ⟨.inr (.lst (s.free hp) zt (l.mono λ_ _ _ _ o=>o.ext (fL.newO s hp _))),λnd=>bJ.mpr ⟨λz=>(by
  obtain⟨_,o,ho⟩:=fH.cellsOf l p z
  rw[hp]at ho
  cases ho),nd⟩⟩
theorem BV {es:List Expr}{fs:Env->Option (List D)}(h:CP X ct ms k es fs)(hl:es.length<=1000:=by decide):XO X ct ms (k+1) (.List es pos) (λρ=>(fs ρ).bind λds=>some (.lst ds)):=by
 obtain⟨t,pt,lt,qt⟩:=h
 refine⟨_,zs0 pt,λF0 B F H ρ σ r Q rs e w=>?_⟩
 obtain⟨ds,h1,h2⟩:=aU e
 cases h2
 refine qt F0 B F H ρ σ ds _ rs h1 λvs F1 H1 fp x1 l nd hf=>⟨?_,λp hp=>?_⟩
 ·rw[←l.length,lt _ _ h1];exact small hl
 ·obtain⟨o,n2⟩:=R9 x1.fh l hp
  refine w _ _ _ (p::fp) (x1.trans (fL.newO x1.fh hp _)) o (n2 nd) λz hz=>?_
  rcases aE.mp hz with rfl|hz
  ·exact x1.hh.free hp
  ·exact hf z hz
theorem Jr:XO X ct ms (k+1) (.Dict [] [] pos) (eC (.dK [] [])):=by
 refine⟨_,zm8,λF0 B F H ρ σ r Q rs e w p hp=>?_⟩
 cases e
 refine w _ F _ [p] (fL.newO rs.fh hp _) (.inr (vO.dK (vs:=[]) (rs.fh.free hp) zt rfl .nil)) (by simp) λz hz=>?_
 rw[aB]at hz;subst hz;exact hp
def gX (K:ae)(ct:Nat->ah)(pm:List Nat)(rk:Nat)(m:List D->Option D):Sp:=λvs H Q _=>∃(F:Hp) (ds:List D) (d:D),bC F H/\jK K ct F H pm ds vs/\m ds=some d /\
 ∀v F' H' fp,fL F H F' H'->Ow K ct F' H' rk d v fp->fp.Nodup->(∀a∈fp,H a=none)->Q v H'
theorem gX.len {K:ae}{ct:Nat->ah}{pm:List Nat}{rk:Nat}{m:List D->Option D}{ps:List aK}(h:pm.length=ps.length):∀vs H Q E,gX K ct pm rk m vs H Q E->vs.length=ps.length:=by
 rintro vs H Q E ⟨F,ds,d,_,l,_⟩
 rw[l.length,h]
variable {kk:Nat}{fa:ah}{fd:aH}{ps:List aK}{pm:List Nat}{rk:Nat}{mf:List D->Option D}{x:aK}{pp:cX}
theorem zql {es:List Expr}{ns nd:List Nat}{fs:Env->Option (List D)}{gS:List V}{lT:List D}{m6:List aa}(Fn:cv X.prog X.w X.K X.mg X.base eO kk fa fd ps (gX X.K ct (ns++nd) rk mf))(hr:dU kk X.A)(hg:Gl X x)(hm:X.mg x=some (.ref fa))(hk:ao X.K (.ref fa)=true)
  (hb:bB X.K fd ps m6) (hd:bR gS m6) (wZ:∀F G,jK X.K ct F G nd lT gS) (ha:XA X ct ms (e::es) ns fs)
  (i7:(x==("__debug__":aK))=false:=by decide) (he:ap (e::es) X.env=(false,bG e X.env)::ap es X.env:=by rfl) (gI:(cu pos (ap es X.env)).any (·.1)=false:=by rfl) :
  XO X ct ms rk (.Call (.Name x pp) (e::es) [] pos) (λρ=>(fs ρ).bind λds=>mf (ds++lT)):=by
 obtain⟨t,pt,_,qt⟩:=ha
 refine⟨_,R1 Fn hr hg hm hk hb hd oe pt i7 he gI,λF0 B F H ρ σ r Q rs e w=>?_⟩
 obtain⟨ds,h1,h2⟩:=aU e
 refine qt F0 B F H ρ σ ds _ rs h1 λvs F1 H1 x1 l=>⟨F1,ds++lT,r,x1.fh,jK.append (wZ F1 H1) l,h2,λv F2 H2 fp x2 o nd hf=>?_⟩
 exact w v F2 H2 fp (x1.trans x2) o nd λz hz=>x1.hh.free (hf z hz)
theorem u3 {es:List Expr}{ns:List Nat}{fs:Env->Option (List D)}{id:String}{r:List V->Hp->VK->Prop}{op:List D->Option D}(hc:eY X (.builtin id) r)(hs:vN X.K ct ns k r op)(hg:Gl X x)(hm:X.mg x=none)(hv:bW x=some (.builtin id))(ha:XA X ct ms (e::es) ns fs)
  (hn:x≠"__name__":=by decide) (i7:(x==("__debug__":aK))=false:=by decide) (he:ap (e::es) X.env=(false,bG e X.env)::ap es X.env:=by rfl) (gI:(cu pos (ap es X.env)).any (·.1)=false:=by rfl) :
  XE X ct ms k (.Call (.Name x pp) (e::es) [] pos) (eN op fs):=by
 obtain⟨t,pt,_,qt⟩:=ha
 refine⟨_,Nl hc hg hm hv pt hn i7 he gI,λF0 B F H ρ σ r Q rs e w=>?_⟩
 obtain⟨ds,h1,h2⟩:=aU e
 exact qt F0 B F H ρ σ ds _ rs h1 λvs F1 H1 x1 l=>hs F1 H1 vs ds r Q x1.fh l h2 λv F2 H2 x2 l2=>w v F2 H2 (x1.trans x2) l2
theorem zku {es:List Expr}{ns:List Nat}{fs:Env->Option (List D)}{id:String}{r:List V->Hp->VK->Prop}{op:List D->Option D}(hc:eY X (.type id) r)(hs:vN X.K ct ns k r op)(hg:Gl X x)(hm:X.mg x=none)(hv:bW x=some (.type id))(ha:XA X ct ms (e::es) ns fs)
  (hn:x≠"__name__":=by decide) (i7:(x==("__debug__":aK))=false:=by decide) (he:ap (e::es) X.env=(false,bG e X.env)::ap es X.env:=by rfl) (gI:(cu pos (ap es X.env)).any (·.1)=false:=by rfl) :
  XE X ct ms k (.Call (.Name x pp) (e::es) [] pos) (eN op fs):=by
 obtain⟨t,pt,_,qt⟩:=ha
 refine⟨_,QZ hc hg hm hv pt hn i7 he gI,λF0 B F H ρ σ r Q rs e w=>?_⟩
 obtain⟨ds,h1,h2⟩:=aU e
 exact qt F0 B F H ρ σ ds _ rs h1 λvs F1 H1 x1 l=>hs F1 H1 vs ds r Q x1.fh l h2 λv F2 H2 x2 l2=>w v F2 H2 (x1.trans x2) l2
theorem M6 {es:List Expr}{ns:List Nat}{fs:Env->Option (List D)}{id:String}{r:List V->Hp->VK->Prop}{op:List D->Option D}(hc:eY X (.type id) r)(hs:zV X.K ct ns k r op)(hg:Gl X x)(hm:X.mg x=none)(hv:bW x=some (.type id))(ha:XA X ct ms (e::es) ns fs)
  (hn:x≠"__name__":=by decide) (i7:(x==("__debug__":aK))=false:=by decide) (he:ap (e::es) X.env=(false,bG e X.env)::ap es X.env:=by rfl) (gI:(cu pos (ap es X.env)).any (·.1)=false:=by rfl) :
  XO X ct ms k (.Call (.Name x pp) (e::es) [] pos) (eN op fs):=by
 obtain⟨t,pt,_,qt⟩:=ha
 refine⟨_,QZ hc hg hm hv pt hn i7 he gI,λF0 B F H ρ σ r Q rs e w=>?_⟩
 obtain⟨ds,h1,h2⟩:=aU e
 exact qt F0 B F H ρ σ ds _ rs h1 λvs F1 H1 x1 l=>hs F1 H1 vs ds r Q x1.fh l h2 λv F2 H2 fp x2 l2 nd hf=>w v F2 H2 fp (x1.trans x2) l2 nd λz hz=>x1.hh.free (hf z hz)
def cn (cs:List Nat)(x:aK):D->Option D
 |.obj c ns ds=>if cs.contains c=true then(ns.zip ds).lookup x else none
 |_=>none
theorem QG {R:D->V->Prop}{x:aK}{d:D}:∀{ns:List aK} {ds:List D} {vs:List V},Pr R ds vs->(ns.zip ds).lookup x=some d->∃v,(ns.zip vs).lookup x=some v/\R d v
 |[],_,_,_,e=>by simp at e
 |_::_,_,_,.nil,e=>by simp at e
 |y::ns,_,_,.cons h t,e=>by
  rw[fQ,bj]at e
  rw[fQ,bj]
  cases q:x==y with
  |true=>rw[q]at e;cases e;exact⟨_,rfl,h⟩
  |false=>rw[q]at e;exact QG t e
theorem Ni {vs:List V}{x:aK}:∀{ns:List aK} {vs:List V},ns.contains x=false->(ns.zip vs).lookup x=none
 |[],_,_=>by simp
 |_::_,[],_=>by simp
 |y::ns,_::vs,h=>by
  rw[kL,qP]at h
  rw[fQ,bj,h.1]
  exact Ni (vs:=vs) h.2
theorem yb {x:aK}{cs:List Nat}(he:XE X ct ms n e f)(hc:∀c∈cs,Cls X.K (ct c)/\e5 X.K (ct c) x)(hb:fD e x X.env (bG e X.env)=bG e X.env):XE X ct ms (n-1) (.Attribute e x pos) (e1 (cn cs x) f):=by
 obtain⟨t,pt,qt⟩:=he
 refine⟨_,zsy pt hb,λF0 B F H ρ σ r Q rs e w=>?_⟩
 obtain⟨o,h1,h2⟩:=aU e
 refine qt F0 B F H ρ σ o _ rs h1 λv F1 H1 x1 l=>?_
 cases o with
 |obj c ns ds=>
  obtain⟨a,dx,vs,rfl,ha,hl,LO⟩:=l.obj x1.fh
  unfold cn at h2
  dsimp only at h2
  by_cases wY:cs.contains c=true
  ·rw[if_pos wY]at h2
   obtain⟨u,hu,du⟩:=QG LO h2
   have hh:=hc c (by simpa using wY)
   exact⟨a,_,dx,_,u,rfl,ha,hh.1,hh.2,hu,w u F1 H1 x1 du⟩
  ·rw[if_neg wY]at h2;cases h2
 |_=>cases h2
def kY (c0:Nat)(m:aK)(mf:List D->Option D)(o:D)(ds:List D):Option D:=match o with
 |.obj c ns _=>if c=c0/\ns.contains m=false then mf (o::ds)else none
 |_=>none
theorem Sa {o:Expr}{x:aK}{dQ:cX}{pl:pq Bool}{es:List Expr}{ns nd:List Nat}{fs:Env->Option (List D)}{gS:List V}{lT:List D}{m6:List aa}{c0:Nat}(ho:XE X ct ms n o f)(c:Cls X.K (ct c0))(hm:rj X.K (ct c0) x fa)(Fn:cv X.prog X.w X.K X.mg X.base eO kk fa fd ps (gX X.K ct (n::(ns++nd)) rk mf))(hr:dU kk X.A)
  (hb:bB X.K fd ps m6) (hd:bR gS m6) (wZ:∀F G,jK X.K ct F G nd lT gS) (ha:XA X ct ms (e::es) ns fs)
  (iX:ap (e::es) X.env=(false,bG e X.env)::ap es X.env:=by rfl) (gI:(cu pos (ap es X.env)).any (·.1)=false:=by rfl)
  (ht:bG (.Call (.Attribute o x dQ) (e::es) [] pos) X.env=(do
   let ov ← bG o X.env
   fO dQ.atName
   let(f,first) ← dS [ov] (gx ov x pl)
   iT pos f first (cu pos (ap (e::es) X.env)) (e9 pos (dz [] X.env))):=by rfl) :
  XO X ct ms rk (.Call (.Attribute o x dQ) (e::es) [] pos) (λρ=>(f ρ).bind λo=>(fs ρ).bind λds=>kY c0 x mf o (ds++lT)):=by
 obtain⟨u,pu,qu⟩:=ho
 obtain⟨t,pt,_,qt⟩:=ha
 refine⟨_,zpz pu c hm Fn hr hb hd oe pt iX gI ht,λF0 B F H ρ σ r Q rs e w=>?_⟩
 obtain⟨o,ds,h1,h2,h3⟩:=dB e
 refine qu F0 B F H ρ σ o _ rs h1 λv F1 H1 x1 l=>?_
 cases o with
 |obj c1 IW rz=>
  unfold kY at h3
  dsimp only at h3
  split at h3
  ·rename_i hc
   obtain⟨rfl,jP⟩:=hc
   obtain⟨a,dx,vs,rfl,ha,hl,LO⟩:=l.obj x1.fh
   refine⟨a,dx,_,rfl,ha,Ni (vs:=vs) jP,?_⟩
   refine qt F0 B F1 H1 ρ σ ds _ (rs.ext x1) h2 λus F2 H2 x2 l2=>⟨F2,_,r,x2.fh,.cons (l.mono x2.ff x2.hh) (jK.append (wZ F2 H2) l2),h3,λv F3 H3 fp x3 o nd hf=>?_⟩
   exact w v F3 H3 fp ((x1.trans x2).trans x3) o nd λz hz=>(x1.trans x2).hh.free (hf z hz)
  ·cases h3
 |_=>cases h3
theorem zna {o:Expr}{x:aK}{dQ:cX}{pl:pq Bool}{nd:List Nat}{gS:List V}{lT:List D}{m6:List aa}{c0:Nat}(ho:XE X ct ms n o f)(c:Cls X.K (ct c0))(hm:rj X.K (ct c0) x fa)(Fn:cv X.prog X.w X.K X.mg X.base eO kk fa fd ps (gX X.K ct (n::nd) rk mf))(hr:dU kk X.A)
  (hb:bB X.K fd ps m6) (hd:bR gS m6) (wZ:∀F G,jK X.K ct F G nd lT gS)
  (ht:bG (.Call (.Attribute o x dQ) [] [] pos) X.env=(do
   let ov ← bG o X.env
   fO dQ.atName
   let(f,first) ← dS [ov] (gx ov x pl)
   iT pos f first (cu pos (ap [] X.env)) (e9 pos (dz [] X.env))):=by rfl) :
  XO X ct ms rk (.Call (.Attribute o x dQ) [] [] pos) (λρ=>(f ρ).bind λo=>kY c0 x mf o lT):=by
 obtain⟨u,pu,qu⟩:=ho
 refine⟨_,zmw pu c hm Fn hr hb hd oe ht,λF0 B F H ρ σ r Q rs e w=>?_⟩
 obtain⟨o,h1,h3⟩:=aU e
 refine qu F0 B F H ρ σ o _ rs h1 λv F1 H1 x1 l=>?_
 cases o with
 |obj c1 IW rz=>
  unfold kY at h3
  dsimp only at h3
  split at h3
  ·rename_i hc
   obtain⟨rfl,jP⟩:=hc
   obtain⟨a,dx,vs,rfl,ha,hl,LO⟩:=l.obj x1.fh
   refine⟨a,dx,_,rfl,ha,Ni (vs:=vs) jP,F1,_,r,x1.fh,.cons l (wZ F1 H1),h3,λv F3 H3 fp x3 o nd hf=>?_⟩
   exact w v F3 H3 fp (x1.trans x3) o nd λz hz=>x1.hh.free (hf z hz)
  ·cases h3
 |_=>cases h3
end
end L3
namespace L3
open PySem PySem.Spec L2
open PyProof.Rows hiding St
inductive Out where
 |nx (ρ:Env)|rt (d:D)|bk (ρ:Env)|ct (ρ:Env)
abbrev SF:=Env->Option Out
def jA (K:ae)(cl:Nat->ah)(F0 B:Hp)(ms:List Mo)(rk:Nat)(E:iw):Out->Prop
 |.nx ρ=>∀σ F H,RS K cl F0 B ms F H ρ σ->E.nx σ H
 |.bk ρ=>∀σ F H,RS K cl F0 B ms F H ρ σ->E.bk σ H
 |.ct ρ=>∀σ F H,RS K cl F0 B ms F H ρ σ->E.ct σ H
 |.rt d=>∀v F H fp,bC F0 F->bC B H->bC F H->(∀a o,B a=some o->F0 a=none->F a=none)->Ow K cl F H rk d v fp->fp.Nodup->(∀a∈fp,B a=none)->E.rt v H
section
variable (X:Cx)(ct:Nat->ah)(ms:List Mo)(rk:Nat)
def XS (st:bD)(f:SF):Prop:=∃t,PS X st t/\∀(F0 B F H:Hp) (ρ:Env) (σ:St) (o:Out) (E:iw),RS X.K ct F0 B ms F H ρ σ->f ρ=some o->jA X.K ct F0 B ms rk E o->t E σ H
def qH (st:List bD)(f:SF):Prop:=∃t,oH X st t/\∀(F0 B F H:Hp) (ρ:Env) (σ:St) (o:Out) (E:iw),RS X.K ct F0 B ms F H ρ σ->f ρ=some o->jA X.K ct F0 B ms rk E o->t E σ H
end
def sSkip:SF:=λρ=>some (.nx ρ)
def sSeq (f g:SF):SF:=λρ=>(f ρ).bind λo=>match o with
 |.nx ρ'=>g ρ'
 |o=>some o
def sIf (c:BF)(f g:SF):SF:=λρ=>(c ρ).bind λb=>if b=true then f ρ else g ρ
def sSet (i:Nat)(f:EF):SF:=λρ=>(f ρ).bind λd=>some (.nx (ρ.set i (some d)))
def sRet (f:EF):SF:=λρ=>(f ρ).bind λd=>some (.rt d)
def sRetN:SF:=λ_=>some (.rt .non)
def sDrop (f:EF):SF:=λρ=>(f ρ).bind λ_=>some (.nx ρ)
def oZ:SF:=λ_=>none
def kA:Nat:=2 ^ 9000
def gO (c:BF)(b:SF):Nat->SF
 |0,_=>none
 |n+1,ρ=>(c ρ).bind λt=>if t=true then(b ρ).bind λo=>match o with
   |.nx ρ'=>gO c b n ρ'
   |.ct ρ'=>gO c b n ρ'
   |.bk ρ'=>some (.nx ρ')
   |.rt d=>some (.rt d)
  else some (.nx ρ)
def ig (c:BF)(b:SF):SF:=gO c b kA
def iy (g:D->Env->Option Env)(b:SF):List D->SF
 |[],ρ=>some (.nx ρ)
 |d::ds,ρ=>(g d ρ).bind λρ1=>(b ρ1).bind λo=>match o with
   |.nx ρ'=>iy g b ds ρ'
   |.ct ρ'=>iy g b ds ρ'
   |.bk ρ'=>some (.nx ρ')
   |.rt d=>some (.rt d)
def sFor (f:Env->Option (List D))(g:D->Env->Option Env)(b:SF):SF:=λρ=>(f ρ).bind λds=>iy g b ds ρ
section
variable {X:Cx}{ct:Nat->ah}{ms:List Mo}{rk n m k:Nat}{st:bD}{rest:List bD}{a b c e:Expr}{f g h:EF}{p q:BF}{u w:SF}{pos:cX}
theorem yp:qH X ct ms rk [] sSkip:=⟨_,zpn,λF0 B F H ρ σ o E rs e w=>by cases e;exact w σ F H rs⟩
theorem zf (h1:XS X ct ms rk st u)(h2:qH X ct ms rk rest w):qH X ct ms rk (st::rest) (sSeq u w):=by
 obtain⟨t,pt,qt⟩:=h1
 obtain⟨t2,oT,oV⟩:=h2
 refine⟨_,Jq pt oT,λF0 B F H ρ σ o E rs e z=>?_⟩
 obtain⟨o1,e1,e2⟩:=aU e
 refine qt F0 B F H ρ σ o1 _ rs e1 ?_
 cases o1 with
 |nx ρ'=>exactλσ' F' H' BA=>oV F0 B F' H' ρ' σ' o E BA e2 z
 |rt d=>cases e2;exact z
 |bk ρ'=>cases e2;exact z
 |ct ρ'=>cases e2;exact z
theorem zh (h1:XS X ct ms rk st u):qH X ct ms rk [st] u:=by
 obtain⟨t,pt,qt⟩:=h1
 exact⟨_,JB pt,qt⟩
theorem zqm:XS X ct ms rk (.Pass pos) sSkip:=⟨_,zpo,λF0 B F H ρ σ o E rs e w=>by cases e;exact w σ F H rs⟩
theorem Nj:XS X ct ms rk st oZ:=⟨_,zms,λF0 B F H ρ σ o E rs e w=>by cases e⟩
theorem yc (he:XO X ct ms rk e f):XS X ct ms rk (.Return (some e) pos) (sRet f):=by
 obtain⟨t,pt,qt⟩:=he
 refine⟨_,JR pt,λF0 B F H ρ σ o E rs e w=>?_⟩
 obtain⟨d,h1,h2⟩:=aU e
 cases h2
 refine qt F0 B F H ρ σ d _ rs h1 λv F' H' fp x l nd hf=>?_
 have r:=rs.ext x
 exact w v F' H' fp r.f0 r.bh r.fh r.nf l nd λz hz=>rs.bh.free (hf z hz)
theorem vk {Ht tq:List bD}(hc:XT X ct ms c p)(h1:qH X ct ms rk Ht u)(h2:qH X ct ms rk tq w):XS X ct ms rk (.If c Ht tq pos) (sIf p u w):=by
 obtain⟨t,pt,qt⟩:=hc
 obtain⟨t1,sW,sX⟩:=h1
 obtain⟨t2,oT,oV⟩:=h2
 refine⟨_,Tj pt sW oT,λF0 B F H ρ σ o E rs e z=>?_⟩
 obtain⟨x,h1,h2⟩:=aU e
 refine qt F0 B F H ρ σ x _ rs h1 λF1 H1 x1=>?_
 cases x with
 |true=>rw[if_pos rfl]at h2 ⊢;exact sX F0 B F1 H1 ρ σ o E (rs.ext x1) h2 z
 |false=>rw[if_neg aJ]at h2 ⊢;exact oV F0 B F1 H1 ρ σ o E (rs.ext x1) h2 z
theorem RS.put {K:ae}{F0 B F H F' H':Hp}{ρ:Env}{σ:St}{i:Nat}(rs:RS K ct F0 B ms F H ρ σ)(hm:ms[i]?=some (.ow k)) :
  ∃f1 fr:List ah,f1.Nodup/\(∀a∈f1,B a=none)/\(∀a∈f1,a∉fr)/\(∀d,ρ[i]?=some (some d)->∃v,σ[i]?=some (some v)/\Ow K ct F H k d v f1)/\(∀a∈fr,F a=none/\∃o,H a=some o) /\
   ∀(F' H':Hp) (d':D) (v':V) (f':List ah),bC F F'->bC B H'->bC F' H'->(∀a o,B a=some o->F0 a=none->F' a=none)->(∀a∈fr,H' a=H a/\F' a=none)->Ow K ct F' H' k d' v' f'->f'.Nodup->(∀a∈f',a∉fr)->(∀a∈f',B a=none) ->
    RS K ct F0 B ms F' H' (ρ.set i (some d')) (σ.set i (some v')):=by
 obtain⟨fp,sl,nd,hb⟩:=rs.sl
 obtain⟨f1,fr,i1,i2,i3,i4,i5⟩:=sl.put hm
 obtain⟨n1,n2,n3⟩:=i3 nd
 refine⟨f1,fr,n1,λa z=>hb a (i1 a z),n3,i4,λa z=>sl.cells a (i2 a z),λF' H' d' v' f' s1 s2 s3 s4 kf o Wd dj Vu=>?_⟩
 obtain⟨iC,q1,q2,q3⟩:=i5 F' H' d' v' f' s1 kf o
 exact⟨rs.f0.trans s1,s2,s3,s4,iC,q1,q3 Wd n2 dj,λa z=>(q2 a z).elim (Vu a) λz=>hb a (i2 a z)⟩
theorem RS.set {K:ae}{F0 B F H F' H':Hp}{ρ:Env}{σ:St}{i:Nat}{d:D}{v:V}{fp:List ah}(rs:RS K ct F0 B ms F H ρ σ)(hm:ms[i]?=some (.ow k))(x:fL F H F' H')(o:Ow K ct F' H' k d v fp)(nd:fp.Nodup)(hf:∀a∈fp,H a=none) :
  RS K ct F0 B ms F' H' (ρ.set i (some d)) (σ.set i (some v)):=by
 have r:=rs.ext x
 obtain⟨f1,fr,n1,b1,n3,i4,cf,put⟩:=rs.put (F':=F') (H':=H') hm
 refine put F' H' d v fp x.ff r.bh x.fh r.nf (λa z=>?_) o nd (λa z zb=>?_) λa z=>rs.bh.free (hf a z)
 ·obtain⟨hn,o,ho⟩:=cf a z
  exact⟨(x.hh _ _ ho).trans ho.symm,x.nf a o ho hn⟩
 ·obtain⟨hn,o,ho⟩:=cf a zb
  rw[hf a z]at ho
  cases ho
theorem ztk {i:Nat}{x:aK}{pos':cX}(hm:ms[i]?=some (.ow k))(hN:X.N.Nodup)(hi:X.N[i]?=some x)(hx:Loc X.env.scope x)(he:XO X ct ms k e f)(hs:dH e (some (.Name x pos')) pos.line X.env=pure false:=by rfl)
  (hf:X.fn x=true\/X.env.scope.names.lookup x=some .local:=by first|exact .inl rfl|exact .inr rfl|assumption):XS X ct ms rk (.Assign [.Name x pos'] e pos) (sSet i f):=by
 obtain⟨t,pt,qt⟩:=he
 refine⟨_,NV hN hi hx pt hs hf,λF0 B F H ρ σ o E rs e w=>?_⟩
 obtain⟨d,h1,h2⟩:=aU e
 cases h2
 exact qt F0 B F H ρ σ d _ rs h1 λv F' H' fp x l nd hf=>w _ F' H' (rs.set hm x l nd hf)
theorem HK (hc:XT X ct ms c p)(hb:qH X ct ms rk rest u)(hp:bV (aI X.prog X.w) X.A X.env X.xe):XS X ct ms rk (.While c rest [] pos) (ig p u):=by
 obtain⟨t,pt,qt⟩:=hc
 obtain⟨t1,sW,sX⟩:=hb
 refine⟨_,Rt hp pt sW,λF0 B F H ρ σ o E rs e z=>?_⟩
 refine⟨λm σ H=>∃F ρ,RS X.K ct F0 B ms F H ρ σ/\gO p u m ρ=some o,⟨kA,F,ρ,rs,e⟩,?_⟩
 rintro m σ H ⟨F,ρ,rs,e⟩
 cases m with
 |zero=>cases e
 |succ m=>
  obtain⟨x,h1,h2⟩:=aU e
  refine qt F0 B F H ρ σ x _ rs h1 λF1 H1 x1=>?_
  cases x with
  |true=>
   rw[if_pos rfl]at h2 ⊢
   obtain⟨o1,h3,h4⟩:=aU h2
   refine⟨λσ H=>∃F ρ,RS X.K ct F0 B ms F H ρ σ/\gO p u m ρ=some o,λσ' H' h=>⟨m,fM m,h⟩,?_⟩
   refine sX F0 B F1 H1 ρ σ o1 _ (rs.ext x1) h3 ?_
   cases o1 with
   |nx ρ'=>exactλσ' F' H' r=>⟨F',ρ',r,h4⟩
   |ct ρ'=>exactλσ' F' H' r=>⟨F',ρ',r,h4⟩
   |bk ρ'=>cases h4;exact z
   |rt d=>cases h4;exact z
  |false=>
   rw[if_neg aJ]at h2 ⊢
   cases h2
   exact z σ F1 H1 (rs.ext x1)
theorem RS.re {K:ae}{F0 B F H:Hp}{ρ:Env}{σ:St}(r:RS K ct F0 B ms F H ρ σ):RS K ct F B ms F H ρ σ:=⟨.refl _,r.bh,r.fh,λ_ _ _ h=>h,r.sl⟩
theorem RS.back {K:ae}{F0 B F H F' H':Hp}{ρ ρ':Env}{σ σ':St}(r:RS K ct F0 B ms F H ρ σ)(q:RS K ct F B ms F' H' ρ' σ'):RS K ct F0 B ms F' H' ρ' σ' :=
 ⟨r.f0.trans q.f0,q.bh,q.fh,λa o h n=>q.nf a o h (r.nf a o h n),q.sl⟩
theorem jA.re {K:ae}{F0 B F H:Hp}{ρ:Env}{σ:St}{E:iw}{o:Out}(r:RS K ct F0 B ms F H ρ σ)(z:jA K ct F0 B ms rk E o):jA K ct F B ms rk E o:=by
 cases o with
 |nx ρ=>exactλσ' F' H' q=>z σ' F' H' (r.back q)
 |bk ρ=>exactλσ' F' H' q=>z σ' F' H' (r.back q)
 |ct ρ=>exactλσ' F' H' q=>z σ' F' H' (r.back q)
 |rt d=>exactλv F' H' fp s1 s2 s3 s4=>z v F' H' fp (r.f0.trans s1) s2 s3 λa o h n=>s4 a o h (r.nf a o h n)
def uF (K:ae)(ct:Nat->ah)(F B:Hp)(n:Nat)(J:It)(ds:List D):Prop :=
 ∀(i:Nat) (F' H':Hp),bC F F'->bC B H'->bC F' H'->(∀d,ds[i]?=some d->J.go i H'/\∀x H2,J.yld i H' x H2->∃F2,fL F' H' F2 H2/\Al K ct F2 B n d x)/\(ds.length<=i->J.stop i H')
def XI (X:Cx)(ct:Nat->ah)(ms:List Mo)(n:Nat)(tg iter:Expr)(f:Env->Option (List D)):Prop:=∃wi,PI X tg iter wi/\∀(F0 B F H:Hp) (ρ:Env) (σ:St) (ds:List D) (R:It->Hp->Prop),RS X.K ct F0 B ms F H ρ σ->f ρ=some ds ->
 (∀J F' H',fL F H F' H'->uF X.K ct F' B n J ds->R J H')->wi σ H R
def zX (X:Cx)(ct:Nat->ah)(ms:List Mo)(n:Nat)(tg iter:Expr)(f:Env->Option (List D)):Prop:=∃wi,PI X tg iter wi/\∀(F0 B F H:Hp) (ρ:Env) (σ:St) (ds:List D) (R:It->Hp->Prop),RS X.K ct F0 B ms F H ρ σ->f ρ=some ds ->
 (∀J F' H',fL F H F' H'->uF X.K ct F' H' n J ds->R J H')->wi σ H R
def XG (X:Cx)(ct:Nat->ah)(ms:List Mo)(n:Nat)(tg:Expr)(g:D->Env->Option Env):Prop:=∃t,PG X tg t/\∀(F0 B F H:Hp) (ρ ρ':Env) (σ:St) (d:D) (v:V) (Q:St->Hp->Prop),RS X.K ct F0 B ms F H ρ σ->Al X.K ct F B n d v->g d ρ=some ρ' ->
 (∀σ',RS X.K ct F0 B ms F H ρ' σ'->Q σ' H)->t v σ H Q
theorem qj {tg iter:Expr}{fi:Env->Option (List D)}{gg:D->Env->Option Env}(hi:XI X ct ms n tg iter fi)(hg:XG X ct ms n tg gg)(hb:qH X ct ms rk rest u)(hp:bV (aI X.prog X.w) X.A X.env X.xe)(hc:X.calm=true)
  (hs:∀x,dm iter X.env x=pure x:=by intro _;rfl):XS X ct ms rk (.For tg iter rest [] pos) (sFor fi gg u):=by
 obtain⟨wi,pi,qi⟩:=hi
 obtain⟨MV,pg,qg⟩:=hg
 obtain⟨t1,sW,sX⟩:=hb
 refine⟨_,S2 hp hc pi pg sW hs,λF0 B F H ρ σ o E rs e z=>?_⟩
 obtain⟨ds,h1,h2⟩:=aU e
 refine qi F0 B F H ρ σ ds _ rs h1 λJ F1 H1 x1 ok=>?_
 refine⟨λi m σ H=>m=ds.length-i/\i<=ds.length/\∃F ρ,bC F1 F/\RS X.K ct F0 B ms F H ρ σ/\iy gg u (ds.drop i) ρ=some o,⟨ds.length,rfl,dh _,F1,ρ,.refl _,rs.ext x1,h2⟩,?_⟩
 rintro i m σ H ⟨rfl,A6,F,ρ,s1,rs,e⟩
 obtain⟨k1,k2⟩:=ok i F H s1 rs.bh rs.fh
 by_cases lz:i<ds.length
 ·right
  have hd:ds[i]?=some ds[i]:=by simp[lz]
  obtain⟨go,yl⟩:=k1 _ hd
  rw[iF lz]at e
  obtain⟨ρ1,h3,h4⟩:=aU e
  obtain⟨o1,h5,h6⟩:=aU h4
  refine⟨go,λσ H=>i+1<=ds.length/\∃F ρ,bC F1 F/\RS X.K ct F0 B ms F H ρ σ/\iy gg u (ds.drop (i+1)) ρ=some o,λσ' H' h=>⟨ds.length-(i+1),by omega,rfl,h⟩,λx H2 y=>?_⟩
  obtain⟨F2,x2,l⟩:=yl x H2 y
  refine qg F0 B F2 H2 ρ ρ1 σ _ x _ (rs.ext x2) l h3 λσ' r=>?_
  have s2:=s1.trans x2.ff
  refine sX F2 B F2 H2 ρ1 σ' o1 _ r.re h5 ?_
  cases o1 with
  |nx ρ'=>exactλσ' F' H' q=>⟨lz,F',ρ',s2.trans q.f0,r.back q,h6⟩
  |ct ρ'=>exactλσ' F' H' q=>⟨lz,F',ρ',s2.trans q.f0,r.back q,h6⟩
  |bk ρ'=>cases h6;exactλσ' F' H' q=>z σ' F' H' (r.back q)
  |rt d=>cases h6;exact jA.re (o:=.rt d) r z
 ·left
  refine⟨k2 (by omega),?_⟩
  have:ds.drop i=[]:=jB (by omega)
  rw[this]at e
  cases e
  exact z σ F H rs
def gV (i:Nat):D->Env->Option Env:=λd ρ=>some (ρ.set i (some d))
theorem zqn {i:Nat}{x:aK}(hm:ms[i]?=some (.ow 0))(hN:X.N.Nodup)(hi:X.N[i]?=some x)(hx:Loc X.env.scope x)
  (hf:X.fn x=true\/X.env.scope.names.lookup x=some .local:=by first|exact .inl rfl|exact .inr rfl|assumption):XG X ct ms 0 (.Name x pos) (gV i):=by
 refine⟨_,R4 hN hi hx hf,λF0 B F H ρ ρ' σ d v Q rs l e w=>?_⟩
 cases e
 exact w _ (rs.set hm (.refl rs.fh) (Ow.zero l) bL λa z=>(by cases z))
def Ib (X:Cx)(ct:Nat->ah)(ms:List Mo)(n:Nat)(lf:List Expr)(g:List D->Env->Option Env):Prop:=∃t,BZ X lf t/\(∀ds ρ ρ',g ds ρ=some ρ'->ds.length=lf.length)/\∀(F0 B F H:Hp) (ρ ρ':Env) (σ:St) (ds:List D) (vs:List V) (Q:St->Hp->Prop),RS X.K ct F0 B ms F H ρ σ->Pr (Al X.K ct F B n) ds vs->g ds ρ=some ρ' ->
 (∀σ',RS X.K ct F0 B ms F H ρ' σ'->Q σ' H)->t vs σ H Q
def gsNil:List D->Env->Option Env:=λds ρ=>match ds with
 |[]=>some ρ
 |_=>none
def gsCons (g:D->Env->Option Env)(gs:List D->Env->Option Env):List D->Env->Option Env:=λds ρ=>match ds with
 |d::ds=>(g d ρ).bind λρ'=>gs ds ρ'
 |[]=>none
theorem JK:Ib X ct ms n [] gsNil:=by
 refine⟨_,R5,λds ρ ρ' e=>?_,λF0 B F H ρ ρ' σ ds vs Q rs l e w=>?_⟩
 ·cases ds with
  |nil=>rfl
  |cons d ds=>cases e
 ·cases l with
  |nil=>cases e;exact⟨rfl,w σ rs⟩
  |cons _ _=>cases e
theorem vt {tg:Expr}{lf:List Expr}{gg:D->Env->Option Env}{gs:List D->Env->Option Env}(h1:XG X ct ms n tg gg)(h2:Ib X ct ms n lf gs)
  (hs:(cZ (tg::lf) X.env).map (·.2)=gW tg X.env::(cZ lf X.env).map (·.2):=by rfl):Ib X ct ms n (tg::lf) (gsCons gg gs):=by
 obtain⟨t,pt,qt⟩:=h1
 obtain⟨t2,oT,Mr,oV⟩:=h2
 refine⟨_,Rr pt oT hs,λds ρ ρ' e=>?_,λF0 B F H ρ ρ' σ ds vs Q rs l e w=>?_⟩
 ·cases ds with
  |nil=>cases e
  |cons d ds=>
   obtain⟨ρ1,h3,h4⟩:=aU e
   rw[aC,aC,Mr _ _ _ h4]
 ·cases l with
  |nil=>cases e
  |cons h t=>
   obtain⟨ρ1,h3,h4⟩:=aU e
   exact⟨_,_,rfl,qt F0 B F H ρ ρ1 σ _ _ _ rs h h3 λσ1 r1=>oV F0 B F H ρ1 ρ' σ1 _ _ _ r1 t h4 w⟩
def gT (gs:List D->Env->Option Env):D->Env->Option Env:=λd ρ=>match d with
 |.tup ds=>gs ds ρ
 |_=>none
theorem JX {lf:List Expr}{j:Nat}{gs:List D->Env->Option Env}(hc:X.calm=true)(h:Ib X ct ms (n-1) lf gs)(hl:(cZ lf X.env).length=lf.length:=by rfl)(iX:(cZ lf X.env).findIdx? (·.1)=none:=by rfl):XG X ct ms n (.Tuple lf j pos) (gT gs):=by
 obtain⟨t,pt,lt,qt⟩:=h
 refine⟨_,SY (n:=lf.length) hc pt hl iX,λF0 B F H ρ ρ' σ d v Q rs l e w=>?_⟩
 cases d with
 |tup ds=>
  have l':Al X.K ct F H n (.tup ds) v:=l.mono (.refl _) rs.bh
  have:∃a vs,v=.ref a/\lE X.K H a vs/\Pr (Al X.K ct F B (n-1)) ds vs:=by
   cases n with
   |zero=>
    have l:Dt X.K ct F (.tup ds) v:=l
    cases l with
    |tup q t=>exact⟨_,_,rfl,lE.of (rs.fh _ _ q),t.pr⟩
   |succ n=>
    rcases l with l|l
    ·cases l with
     |tup q t=>exact⟨_,_,rfl,lE.of (rs.fh _ _ q),t.pr.mono λ_ _=>Al.of⟩
    ·cases l with
     |tup q t=>exact⟨_,_,rfl,lE.of (rs.fh _ _ q),t⟩
  obtain⟨a,vs,rfl,ha,hp⟩:=this
  exact⟨a,vs,rfl,ha,hp.length.symm.trans (lt _ _ _ e),qt F0 B F H ρ ρ' σ ds vs Q rs hp e w⟩
 |_=>cases e
def startD (N:List aK)(ds:List D):Env:=ds.map some++ax (N.length-ds.length) none
def mOf (N:List aK)(b:SF)(ds:List D):Option D:=(b (startD N ds)).bind λo=>match o with
 |.rt d=>some d
 |.nx _=>some .non
 |_=>none
theorem SL.start {K:ae}{F B H:Hp}:∀{pm:List Nat} {ds:List D} {vs:List V} {ms:List Mo} (j:Nat),jK K ct F B pm ds vs->(∀(i n:Nat),pm[i]?=some n->ms[i]?=some (Mo.al n)\/(n=0/\ms[i]?=some (Mo.ow 0)))->ms.length=pm.length+j ->
  SL K ct F B H ms (ds.map some++ax j none) (vs.map some++ax j none) []
 |_,_,_,ms,j,.nil,_,hl=>by
  have:∀(j:Nat) (ms:List Mo),ms.length=j->SL K ct F B H ms (ax j none) (ax j none) []:=by
   intro j
   induction j with
   |zero=>intro ms h;cases ms with
    |nil=>exact .nil
    |cons _ _=>simp at h
   |succ j ih=>intro ms h;cases ms with
    |nil=>simp at h
    |cons m ms=>exact .no (ih ms (by simpa using h))
  simpa using this j ms (by simpa using hl)
 |_,_,_,[],j,.cons h t,_,hl=>by simp at hl;omega
 |_,_,_,m::ms,j,.cons (n:=n) h t,hm,hl=>by
  have ih:=SL.start (ms:=ms) (H:=H) j t (λi n e=>by simpa using hm (i+1) n (by simpa using e)) (by simp at hl;omega)
  rcases hm 0 n rfl with e|⟨rfl,e⟩
  ·simp at e;subst e;exact .al h ih
  ·simp at e;subst e;exact SL.ow (f:=[]) (Ow.zero h) ih
structure Fun2 (K:ae)(x qual:aK)(st:bD)(f:ah)(fd:aH):Prop where
 ex:∃(oc:aa) (od:Option ah) (dV kV doc pm:aa) (an:Option ah) (gu ct:aa) (zC:Array (Option aa)),
  fd=gP x qual (mG st) (fY st) (aQ st) dV kV doc pm an gu ct/\K.lookup f=some ⟨oc,od,.func fd,zC⟩/\az K gu qual=true
 kp:ao K (.ref f)=true
theorem Fun2.ok {P:bn}{w:bP}{K:ae}{mg:aK->Option aa}{base:aM}{x qual:aK}{st:bD}{f:ah}{fd:aH}{N ps:List aK}{k:Nat}{sp:Sp}(F:Fun2 K x qual st f fd)(S:bu N ps (aQ st))(len:∀vs H Q E,sp vs H Q E->vs.length=ps.length)
    (uL:∀(gu:aa) (A:bx) (outer:List PySem.Env) (s:aj) (H:Hp) (vs:List V) (Q:VK) (E:XK),dU k (A.deeper (envOfC qual (aQ st) s.heap.objs.size f gu))->sp vs H Q E ->
      ∃t,oH (lF eO P w K mg base N qual (aQ st) f gu A outer s H E).nox (fY st) t/\t { nx:=λ_ H'=>Q .non H',rt:=Q } (L2.start N vs) H):cv P w K mg base eO (k+1) f fd ps sp:=by
  obtain⟨oc,od,dV,kV,doc,pm,an,gu,ct,zC,rfl,lk,iI⟩:=F.ex
  refine Ti lk iI S len λA outer s H vs Q E hr yW=>?_
  obtain⟨t,h,q⟩:=uL gu A outer s H vs Q E hr yW
  exact⟨t,h.nox,q⟩
theorem lift {P:bn}{w:bP}{K:ae}{mg:aK->Option aa}{base:aM}{x qual:aK}{st:bD}{fa:ah}{fd:aH}{N ps:List aK}{kk:Nat}{pm:List Nat}{bf:SF}(Fn:Fun2 K x qual st fa fd)(S:bu N ps (aQ st))(xC:pm.length=ps.length)(Fl:ms.length=N.length)(se:ps.length<=N.length)
  (Bc:∀(i n:Nat),pm[i]?=some n->ms[i]?=some (Mo.al n)\/(n=0/\ms[i]?=some (Mo.ow 0)))
  (body:∀(gu:aa) (A:bx) (outer:List PySem.Env) (s:aj) (H:Hp) (E:XK),dU kk (A.deeper (envOfC qual (aQ st) s.heap.objs.size fa gu))->qH (lF eO P w K mg base N qual (aQ st) fa gu A outer s H E).nox ct ms rk (fY st) bf) :
  cv P w K mg base eO (kk+1) fa fd ps (gX K ct pm rk (mOf N bf)):=by
 refine Fn.ok S (gX.len xC) λgu A outer s H vs Q E hr h=>?_
 obtain⟨F,ds,d,sF,l,hm,q⟩:=h
 obtain⟨t,pt,qt⟩:=body gu A outer s H E hr
 refine⟨t,pt,?_⟩
 obtain⟨o,h1,h2⟩:=aU hm
 have hvl:vs.length=pm.length:=l.length
 have hdl:ds.length=vs.length:=l.length'
 refine qt F H F H (startD N ds) (L2.start N vs) o _ ⟨.refl _,.refl _,sF,λ_ _ _ h=>h,[],?_,bL,λa z=>(by cases z)⟩ h1 ?_
 ·unfold startD L2.start
  rw[hdl]
  exact SL.start _ l Bc (by omega)
 ·cases o with
  |nx ρ=>
   cases h2
   exactλσ F' H' r=>q .non F' H' [] ⟨r.f0,r.bh,r.fh,r.nf⟩ (Ow.scal .non rfl) bL λa z=>(by cases z)
  |rt d'=>
   cases h2
   exactλv F' H' fp s1 s2 s3 s4 o nd hf=>q v F' H' fp ⟨s1,s2,s3,s4⟩ o nd hf
  |bk ρ=>cases h2
  |ct ρ=>cases h2
end
end L3
namespace L3
open PySem PySem.Spec L2
open PyProof.Rows hiding St
theorem gM.or {X:Cx}{f:aa->aa->pq aa}{r r':R2}(h:gM X f r)(h':gM X f r'):gM X f (λx y H Q=>r x y H Q\/r' x y H Q) :=
 λai s σ H x y v u Q I rx ry q=>q.elim (h ai s σ H x y v u Q I rx ry) (h' ai s σ H x y v u Q I rx ry)
section
variable {K:ae}{ct:Nat->ah}{n m k:Nat}
def i2 (g:Int->Int->D):D->D->Option D
 |.int i,.int j=>some (g i j)
 |_,_=>none
def tZ (C:Int->Int->Prop)[∀i j,Decidable (C i j)](g:Int->Int->D):D->D->Option D
 |.int i,.int j=>if C i j then some (g i j)else none
 |_,_=>none
theorem J4 {g:Int->Int->D}{gv:Int->Int->V}(hg:∀i j F,Dt K ct F (g i j) (gv i j)):nv K ct n m k (qN gv) (i2 g):=by
 intro F H x y d1 d2 d Q s l1 l2 e w
 cases d1 with
 |int i=>
  cases d2 with
  |int j=>cases e;exact⟨i,j,l1.int,l2.int,w _ F H (.refl s) (Al.of (hg i j F))⟩
  |_=>cases e
 |_=>cases e
theorem JY {C C':Int->Int->Prop}[∀i j,Decidable (C i j)]{g:Int->Int->D}{gv:Int->Int->V}(hC:∀i j,C i j->C' i j)(hg:∀i j F,Dt K ct F (g i j) (gv i j)):nv K ct n m k (rI C' gv) (tZ C g):=by
 intro F H x y d1 d2 d Q s l1 l2 e w
 cases d1 with
 |int i=>
  cases d2 with
  |int j=>
   unfold tZ at e
   dsimp only at e
   by_cases h:C i j
   ·rw[if_pos h]at e;cases e;exact⟨i,j,l1.int,l2.int,hC i j h,w _ F H (.refl s) (Al.of (hg i j F))⟩
   ·rw[if_neg h]at e;cases e
  |_=>cases e
 |_=>cases e
def J7:Nat:=2 ^ 9000
def CK:Nat:=2 ^ 100000
def o4:D->D->Option D:=i2 λi j=>.int (i-j)
theorem BO:nv K ct n m k (qN λi j=>.int (i-j)) o4:=J4 λ_ _ _=>.int _
def kZ (i j:Int):Prop:=(-18446744073709551616<i/\i<18446744073709551616)\/(-18446744073709551616<j/\j<18446744073709551616)\/(i.natAbs<CK/\j.natAbs<CK)
instance (i j:Int):Decidable (kZ i j):=by unfold kZ;infer_instance
def eD:D->D->Option D:=tZ kZ λi j=>.int (i*j)
theorem kZ.ok {i j:Int}(h:kZ i j):nV i j:=by
 rcases h with h|h|h
 ·exact .inl (.inl ⟨by have:=h.1;omega,by have:=h.2;omega⟩)
 ·exact .inl (.inr ⟨by have:=h.1;omega,by have:=h.2;omega⟩)
 ·exact .inr h
theorem zqo:nv K ct n m k (rI nV λi j=>.int (i*j)) eD:=JY (λ_ _=>kZ.ok) λ_ _ _=>.int _
def D.v:D->V
 |.bl b=>.bl b
 |.int i=>.int i
 |.str x=>.str x
 |_=>.non
theorem Dt.v {F:Hp}{d:D}{v:V}(h:Dt K ct F d v)(hs:d.sc=true):v=d.v:=by
 cases h<;>first|rfl|cases hs
theorem Al.v {F G:Hp}{d:D}{v:V}(h:Al K ct F G n d v)(hs:d.sc=true):v=d.v:=Dt.v (Al.scal (F':=F) h hs) hs
theorem D.flat {d:D}(hs:d.sc=true):ko d.v=true:=by cases d<;>first|rfl|cases hs
theorem Pr.vs {F G:Hp}:∀{ds:List D} {vs:List V},Pr (Al K ct F G n) ds vs->ds.all D.sc=true->vs=ds.map D.v
 |_,_,.nil,_=>rfl
 |d::ds,v::vs,.cons h t,e=>by
  rw[ej,bS]at e
  rw[aV,Al.v h e.1,Pr.vs t e.2]
def gw:D->D->Option D
 |.int i,.int j=>if 0<j/\j<4611686018427387904 then some (.int (i/j))else if j≠0/\j.natAbs<J7 then some (.int (i.fdiv j))else none
 |_,_=>none
theorem vv:nv K ct n m k (rI (λ_ j=>j≠0/\Sz 9000 j) λi j=>.int (i.fdiv j)) gw:=by
 intro F H x y d1 d2 d Q s l1 l2 e w
 cases d1 with
 |int i=>
  cases d2 with
  |int j=>
   unfold gw at e
   dsimp only at e
   by_cases h:0<j/\j<4611686018427387904
   ·rw[if_pos h]at e
    cases e
    refine⟨i,j,l1.int,l2.int,⟨by omega,?_⟩,?_⟩
    ·have:Sz 62 j:=by unfold Sz;omega
     exact this.mono (by decide)
    ·show Q (.int (i.fdiv j)) H
     rw[iz i (by omega)]
     exact w _ F H (.refl s) (Al.of (.int _))
   ·rw[if_neg h]at e
    by_cases h:j≠0/\j.natAbs<J7
    ·rw[if_pos h]at e
     cases e
     exact⟨i,j,l1.int,l2.int,h,w _ F H (.refl s) (Al.of (.int _))⟩
    ·rw[if_neg h]at e;cases e
  |_=>cases e
 |_=>cases e
def e6:D->D->Option D
 |.int i,.int j=>if 0<j then some (.int (i%j))else if j≠0 then some (.int (i.fmod j))else none
 |_,_=>none
theorem wg:nv K ct n m k (rI (λ_ j=>j≠0) λi j=>.int (i.fmod j)) e6:=by
 intro F H x y d1 d2 d Q s l1 l2 e w
 cases d1 with
 |int i=>
  cases d2 with
  |int j=>
   unfold e6 at e
   dsimp only at e
   by_cases h:0<j
   ·rw[if_pos h]at e
    cases e
    refine⟨i,j,l1.int,l2.int,by omega,?_⟩
    show Q (.int (i.fmod j)) H
    rw[nQ i (by omega)]
    exact w _ F H (.refl s) (Al.of (.int _))
   ·rw[if_neg h]at e
    by_cases h:j≠0
    ·rw[if_pos h]at e
     cases e
     exact⟨i,j,l1.int,l2.int,h,w _ F H (.refl s) (Al.of (.int _))⟩
    ·rw[if_neg h]at e;cases e
  |_=>cases e
 |_=>cases e
def og (i j:Int):Prop:=0<=j/\j<=1000000/\i.natAbs<18446744073709551616
instance (i j:Int):Decidable (og i j):=by unfold og;infer_instance
def sV:D->D->Option D:=tZ og λi j=>.int (i ^ j.toNat)
theorem NE:nv K ct n m k (rI wH λi j=>.int (i ^ j.toNat)) sV:=JY (λ_ _ h=>⟨h.1,h.2.1,by have:=h.2.2;omega⟩) λ_ _ _=>.int _
def xM:D->D->Option D:=tZ og λi j=>.int (i*2 ^ j.toNat)
theorem zqp:nv K ct n m k (rI wH λi j=>.int (i*2 ^ j.toNat)) xM:=JY (λ_ _ h=>⟨h.1,h.2.1,by have:=h.2.2;omega⟩) λ_ _ _=>.int _
def sY:D->D->Option D:=tZ (λ_ j=>0<=j) λi j=>.int (i/2 ^ j.toNat)
theorem Sb:nv K ct n m k (rI (λ_ j=>0<=j) λi j=>.int (i/2 ^ j.toNat)) sY:=JY (λ_ _ h=>h) λ_ _ _=>.int _
def rK:D->D->Option D:=i2 λi j=>.bl (decide (i<j))
def vS:D->D->Option D:=i2 λi j=>.bl (decide (j<i))
def Iz:D->D->Option D:=i2 λi j=>.bl (decide (j<=i))
theorem xV:nv K ct n m k (qN λi j=>.bl (decide (i<j))) rK:=J4 λ_ _ _=>.bl _
theorem Cz:nv K ct n m k (qN λi j=>.bl (decide (j<i))) vS:=J4 λ_ _ _=>.bl _
theorem SN:nv K ct n m k (qN λi j=>.bl (decide (j<=i))) Iz:=J4 λ_ _ _=>.bl _
def By:R2:=λx y H Q=>∃i j,x=.str i/\y=.str j/\Q (.bl (!(decide (j.cps.toList<i.cps.toList)))) H
theorem ztl {X:Cx}:gM X (cL .LtE) By:=by
 intro ai s σ H x y v u Q I rx ry h
 obtain⟨i,j,rfl,rfl,q⟩:=h
 obtain⟨t,rfl⟩:=rx
 obtain⟨t',rfl⟩:=ry
 exact PySem.P.le_str ⟨.bl _,H,I,rfl,q⟩
def zA:D->D->Option D
 |.int i,.int j=>some (.bl (decide (i<=j)))
 |.str i,.str j=>some (.bl (!(decide (j.cps.toList<i.cps.toList))))
 |_,_=>none
theorem Ct:nv K ct n m k (λx y H Q=>qN (λi j=>.bl (decide (i<=j))) x y H Q\/By x y H Q) zA:=by
 intro F H x y d1 d2 d Q s l1 l2 e w
 cases d1 with
 |int i=>
  cases d2 with
  |int j=>cases e;exact .inl ⟨i,j,l1.int,l2.int,w _ F H (.refl s) (Al.of (.bl _))⟩
  |_=>cases e
 |str i=>
  cases d2 with
  |str j=>cases e;exact .inr ⟨i,j,l1.str,l2.str,w _ F H (.refl s) (Al.of (.bl _))⟩
  |_=>cases e
 |_=>cases e
theorem CA {X:Cx}:gM X (cL .LtE) (λx y H Q=>qN (λi j=>.bl (decide (i<=j))) x y H Q\/By x y H Q):=gM.or zuy ztl
def D.isN:D->Bool
 |.non=>true
 |_=>false
def D.isB (b:Bool):D->Bool
 |.bl c=>c==b
 |_=>false
def mH (neg:Bool):D->D->Option D
 |d,.non=>some (.bl (if neg then !d.isN else d.isN))
 |d,.bl b=>some (.bl (if neg then !d.isB b else d.isB b))
 |_,_=>none
theorem Al.ref {F G:Hp}{d:D}{v:V}(h:Al K ct F G n d v)(hs:d.sc=false):∃a,v=.ref a:=by
 cases n with
 |zero=>cases(show Dt K ct F d v from h)<;>first|cases hs;done|exact⟨_,rfl⟩
 |succ n=>rcases h with h|h<;>cases h<;>first|cases hs;done|exact⟨_,rfl⟩
theorem Al.isn {F G:Hp}{d:D}{v:V}(h:Al K ct F G n d v):decide (v=.non)=d.isN:=by
 cases hs:d.sc with
 |true=>
  have:=Al.v h hs
  subst this
  cases d<;>first|rfl|cases hs
 |false=>
  obtain⟨a,rfl⟩:=h.ref hs
  cases d<;>first|rfl|cases hs
theorem Al.isb {F G:Hp}{d:D}{v:V}{b:Bool}(h:Al K ct F G n d v):decide (v=.bl b)=d.isB b:=by
 cases hs:d.sc with
 |true=>
  have:=Al.v h hs
  subst this
  cases d<;>first|rfl|(cases hs;done)|(rename_i c;cases b<;>cases c<;>rfl)
 |false=>
  obtain⟨a,rfl⟩:=h.ref hs
  cases d<;>first|rfl|cases hs
def P8:R2:=λx y H Q=>(y=.non/\Q (.bl (decide (x=.non))) H)\/∃b,y=.bl b/\Q (.bl (decide (x=.bl b))) H
def vA:R2:=λx y H Q=>(y=.non/\Q (.bl (!decide (x=.non))) H)\/∃b,y=.bl b/\Q (.bl (!decide (x=.bl b))) H
theorem tE {X:Cx}:gM X (cL .Is) P8:=gM.or zsx ztd
theorem Nn {X:Cx}:gM X (cL .IsNot) vA:=gM.or zps zkm
theorem jq:nv K ct n m k P8 (mH false):=by
 intro F H x y d1 d2 d Q s l1 l2 e w
 cases d2 with
 |non=>
  cases e
  refine .inl ⟨l2.non,?_⟩
  rw[l1.isn]
  exact w _ F H (.refl s) (Al.of (.bl _))
 |bl b=>
  cases e
  refine .inr ⟨b,l2.bl,?_⟩
  rw[l1.isb]
  exact w _ F H (.refl s) (Al.of (.bl _))
 |_=>cases e
theorem M7:nv K ct n m k vA (mH true):=by
 intro F H x y d1 d2 d Q s l1 l2 e w
 cases d2 with
 |non=>
  cases e
  refine .inl ⟨l2.non,?_⟩
  rw[l1.isn]
  exact w _ F H (.refl s) (Al.of (.bl _))
 |bl b=>
  cases e
  refine .inr ⟨b,l2.bl,?_⟩
  rw[l1.isb]
  exact w _ F H (.refl s) (Al.of (.bl _))
 |_=>cases e
mutual
def D.py:D->Option dk
 |.non=>some .none
 |.bl b=>some (.bool b)
 |.int i=>some (.int i)
 |.str x=>some (.str x)
 |.lst xs=>(D.pys xs).bind λys=>some (.list ys)
 |.tup xs=>(D.pys xs).bind λys=>some (.tuple ys)
 |_=>none
def D.pys:List D->Option (List dk)
 |[]=>some []
 |d::ds=>(D.py d).bind λx=>(D.pys ds).bind λxs=>some (x::xs)
end
theorem Dt.toPy {F H:Hp}(s:bC F H){d:D}{v:V}{e:dk}(h:Dt K ct F d v)(q:d.py=some e):L2.Dt K H v e:=by
 refine Dt.rec (motive_1:=λd v _=>∀e,d.py=some e->L2.Dt K H v e) (motive_2:=λds vs _=>∀es,D.pys ds=some es->L2.Dts K H vs es) ?_ ?_ ?_ ?_ ?_ ?_ ?_ ?_ ?_ ?_ ?_ ?_ ?_ h e q
 ·intro e h;rw[D.py]at h;cases h;exact .non
 ·intro b e h;rw[D.py]at h;cases h;exact .bl b
 ·intro b e h;rw[D.py]at h;cases h;exact .int b
 ·intro b e h;rw[D.py]at h;cases h;exact .str b
 ·intro _ _ _ q _ t e h
  rw[D.py]at h
  obtain⟨ys,h1,h2⟩:=aU h
  cases h2
  exact .lst (s.seq q) (t _ h1)
 ·intro _ _ _ q _ t e h
  rw[D.py]at h
  obtain⟨ys,h1,h2⟩:=aU h
  cases h2
  exact .tup (lE.of (s _ _ q)) (t _ h1)
 ·intro _ _ _ _ _ _ _ _ e h;simp only[D.py]at h;cases h
 ·intro _ _ _ _ _ _ _ _ e h;simp only[D.py]at h;cases h
 ·intro _ _ _ _ _ _ _ _ _ _ e h;simp only[D.py]at h;cases h
 ·intro _ _ _ _ e h;simp only[D.py]at h;cases h
 ·intro _ _ _ _ _ _ _ _ _ _ _ _ e h;simp only[D.py]at h;cases h
 ·intro e h;rw[D.pys]at h;cases h;exact .nil
 ·intro _ _ _ _ _ _ p t e h
  rw[D.pys]at h
  obtain⟨y,ys,h1,h2,h3⟩:=dB h
  cases h3
  exact .cons (p _ h1) (t _ h2)
theorem Pr.toPy {H:Hp}{R:D->V->Prop}(f:∀d v e,R d v->d.py=some e->L2.Dt K H v e){ds:List D}{vs:List V}{es:List dk}(h:Pr R ds vs)(e:D.pys ds=some es):L2.Dts K H vs es:=by
 induction h generalizing es with
 |nil=>rw[D.pys]at e;cases e;exact .nil
 |cons h t ih=>
  rw[D.pys]at e
  obtain⟨y,ys,h1,h2,h3⟩:=dB e
  cases h3
  exact .cons (f _ _ _ h h1) (ih h2)
theorem Al.toPy {F H:Hp}(s:bC F H){n:Nat}{d:D}{v:V}{e:dk}(h:Al K ct F H n d v)(q:d.py=some e):L2.Dt K H v e:=by
 induction n generalizing d v e with
 |zero=>exact Dt.toPy s h q
 |succ n ih=>
  cases h with
  |inl h=>exact Dt.toPy s h q
  |inr h=>
   cases h with
   |lst h t=>
    rw[D.py]at q
    obtain⟨ys,h1,h2⟩:=aU q
    cases h2
    exact .lst (gz.of h) (Pr.toPy (λ_ _ _=>ih) t h1)
   |tup h t=>
    rw[D.py]at q
    obtain⟨ys,h1,h2⟩:=aU q
    cases h2
    exact .tup (lE.of (s _ _ h)) (Pr.toPy (λ_ _ _=>ih) t h1)
   |_=>simp only[D.py]at q;cases q
def oU (a:dk):Bool:=a.canLay0&&decide (a.depth<=60)
def jL (neg:Bool)(x y:D):Option D:=x.py.bind λa=>y.py.bind λb=>if oU a=true/\oU b=true then some (.bl (if neg then !dk.eqv a b else dk.eqv a b))else none
theorem u0 {neg:Bool}:nv K ct n m k (Bw K neg) (jL neg):=by
 intro F H x y d1 d2 d Q s l1 l2 e w
 obtain⟨a,b,h1,h2,h3⟩:=dB e
 by_cases h:oU a=true/\oU b=true
 ·rw[if_pos h]at h3
  cases h3
  have o1:=h.1
  have o2:=h.2
  unfold oU at o1 o2
  rw[bS,decide_eq_true_iff]at o1 o2
  exact⟨a,b,Al.toPy s l1 h1,Al.toPy s l2 h2,o1.1,o2.1,bZ (Nat.min_le_left _ _) o1.2,w _ F H (.refl s) (Al.of (.bl _))⟩
 ·rw[if_neg h]at h3;cases h3
end
end L3
namespace L3
open PySem PySem.Spec L2
open PyProof.Rows hiding St
section
variable {K:ae}{ct:Nat->ah}{n m k:Nat}{X:Cx}
theorem Pr.atI {R:D->V->Prop}{ds:List D}{vs:List V}{i:Int}{d:D}(h:Pr R ds vs)(e:atI ds i=some d):∃v,atI vs i=some v/\R d v:=by
 unfold L2.atI at e ⊢
 rw[←h.length]
 obtain⟨j,h1,h2⟩:=aU e
 obtain⟨v,h3,h4⟩:=h.get' h2
 exact⟨v,by rw[h1];exact h3,h4⟩
def xH:D->Option fu
 |.int i=>some (.inl i)
 |.str x=>some (.inr x)
 |_=>none
def pS:List D->Option (List fu)
 |[]=>some []
 |d::ds=>(xH d).bind λk=>(pS ds).bind λks=>some (k::ks)
def jE {κ:Type}[DecidableEq κ](ks:List κ)(ds:List D)(k:κ):Option D:=((ks.zip ds).find? λp=>decide (p.1=k)).map (·.2)
def RO (R:D->V->Prop):Option D->Option V->Prop
 |some d,some u=>R d u
 |none,none=>True
 |_,_=>False
theorem RO.some_of {R:D->V->Prop}{d:D}{q:Option V}(h:RO R (some d) q):∃u,q=some u/\R d u:=by
 cases q with
 |none=>exact h.elim
 |some u=>exact⟨u,rfl,h⟩
theorem RO.none_of {R:D->V->Prop}{q:Option V}(h:RO R none q):q=none:=by
 cases q with
 |none=>rfl
 |some u=>exact h.elim
theorem Np {κ:Type}[DecidableEq κ]{R:D->V->Prop}{k:κ}:∀{ks:List κ} {ds:List D} {vs:List V},Pr R ds vs->RO R (jE ks ds k) (iR (ks.zip vs) k)
 |[],_,_,_=>by simp[jE,iR,RO]
 |_::_,_,_,.nil=>by simp[jE,iR,RO]
 |y::ks,d::ds,v::vs,.cons h t=>by
  by_cases e:y=k
  ·have h1:jE (y::ks) (d::ds) k=some d:=by simp[jE,dg,e]
   have h2:iR ((y::ks).zip (v::vs)) k=some v:=by simp[iR,dg,e]
   rw[h1,h2]
   exact h
  ·have h1:jE (y::ks) (d::ds) k=jE ks ds k:=by simp[jE,dg,e]
   have h2:iR ((y::ks).zip (v::vs)) k=iR (ks.zip vs) k:=by simp[iR,dg,e]
   rw[h1,h2]
   exact Np t
theorem JZ {F G:Hp}{d:D}{v:V}{k:fu}(e:xH d=some k)(h:Al K ct F G n d v):v=kV k:=by
 cases d with
 |int i=>cases e;exact h.int
 |str i=>cases e;exact h.str
 |_=>cases e
theorem NF {F G:Hp}{ds:List D}{vs:List V}{ks:List fu}(e:pS ds=some ks)(h:Pr (Al K ct F G n) ds vs):vs=ks.map kV:=by
 induction h generalizing ks with
 |nil=>cases e;rfl
 |cons h t ih=>
  unfold pS at e
  obtain⟨k,ks,h1,h2,h3⟩:=dB e
  cases h3
  rw[JZ h1 h,ih h2];rfl
def hU (o y:D):Option (Option D):=match o with
 |.dK ks ds=>(xH y).bind λk=>some (jE ks ds k)
 |.dT ks ds=>(match y with|.tup ys=>(pS ys).bind λk=>some (jE ks ds k)|_=>none)
 |_=>none
theorem NG {F G:Hp}{o y:D}{x v:V}(s:bC F G)(l1:Al K ct F G n o x)(l2:Al K ct F G m y v){r:Option D}(e:hU o y=some r) :
  ∃a q,x=.ref a/\kQ G a v q/\Uj G a/\RO (Al K ct F G (n-1)) r q:=by
 cases o with
 |dK ks ds=>
  obtain⟨a,vs,rfl,ha,hl,hp⟩:=l1.dK s
  obtain⟨k,h1,h2⟩:=aU e
  cases h2
  have hv:=JZ h1 l2
  subst hv
  exact⟨a,_,rfl,kQ.k ha,.inl ⟨_,.inl ha⟩,Np hp⟩
 |dT ks ds=>
  obtain⟨a,vs,rfl,ha,hl,hp⟩:=l1.dT s
  cases y with
  |tup ys=>
   obtain⟨k,h1,h2⟩:=aU e
   cases h2
   obtain⟨b,us,rfl,hb,Ft⟩:=l2.tup s
   have hv:=NF h1 Ft
   subst hv
   exact⟨a,_,rfl,kQ.t ha hb,.inr ⟨_,.inl ha⟩,Np hp⟩
  |_=>cases e
 |_=>cases e
def eh:D->D->Option D
 |.lst ds,.int i=>atI ds i
 |.tup ds,.int i=>atI ds i
 |.str x,.int i=>if x.length<=16777216 then(atI x.cps.toList i).bind λc=>some (.str ⟨#[c]⟩)else none
 |_,_=>none
theorem jg:nv K ct n m (n-1) (P9 K) eh:=by
 intro F H x y d1 d2 d Q s l1 l2 e w
 cases d1 with
 |lst ds=>
  cases d2 with
  |int i=>
   obtain⟨a,vs,rfl,ha,hp⟩:=l1.lst s
   obtain⟨v,h1,h2⟩:=hp.atI e
   exact .inl ⟨a,vs,i,v,rfl,l2.int,ha,h1,w v F H (.refl s) h2⟩
  |_=>cases e
 |tup ds=>
  cases d2 with
  |int i=>
   obtain⟨a,vs,rfl,ha,hp⟩:=l1.tup s
   obtain⟨v,h1,h2⟩:=hp.atI e
   exact .inr (.inl ⟨a,vs,i,v,rfl,l2.int,lE.of ha,h1,w v F H (.refl s) h2⟩)
  |_=>cases e
 |str z=>
  cases d2 with
  |int i=>
   unfold eh at e
   dsimp only at e
   by_cases h:z.length<=16777216
   ·rw[if_pos h]at e
    obtain⟨c,h1,h2⟩:=aU e
    cases h2
    exact .inr (.inr ⟨z,i,c,l1.str,l2.int,by rw[bX];exact h,h1,w _ F H (.refl s) (Al.of (.str _))⟩)
   ·rw[if_neg h]at e;cases e
  |_=>cases e
 |_=>cases e
theorem HR {ms:List Mo}{a b:Expr}{f g:EF}{pos:cX}(hu:X.A.units+1<ip)(ha:XE X ct ms n a f)(hb:XE X ct ms m b g)(hs:zT b):XE X ct ms (n-1) (.Subscript a b pos) (λρ=>(f ρ).bind λx=>(g ρ).bind λy=>(hU x y).join):=by
 obtain⟨ta,tb,pa,pb,q⟩:=ha.bin hb
 refine⟨_,zqe hu pa pb hs,λF0 B F H ρ σ d Q rs e w=>?_⟩
 obtain⟨d1,d2,h1,h2,h3⟩:=dB e
 refine q F0 B F H ρ σ d1 d2 _ rs h1 h2 λx y F' H' x1 l1 l2=>?_
 obtain⟨a,o,rfl,g,_,h⟩:=NG (r:=some d) x1.fh l1 l2 (zx h3)
 obtain⟨u,rfl,Fy⟩:=h.some_of
 exact⟨a,u,rfl,g,w u F' H' x1 Fy⟩
def vR:D->D->Bool
 |.non,.non=>true
 |.bl a,.bl b=>a==b
 |.bl a,.int b=>(if a then 1 else 0)==b
 |.int a,.bl b=>a==(if b then 1 else 0)
 |.int a,.int b=>a==b
 |.str a,.str b=>a==b
 |_,_=>false
theorem To {x y:D}(hx:x.sc=true)(hy:y.sc=true):tV x.v y.v=vR x y:=by
 cases x<;>first|cases hx;done|(cases y<;>first|cases hy;done|rfl)
def Pm (x:D)(ds:List D):Bool:=ds.any λy=>vR y x
theorem zu7 {x:D}(hx:x.sc=true):∀{ds:List D},ds.all D.sc=true->Pn x.v (ds.map D.v)=Pm x ds
 |[],_=>rfl
 |d::ds,h=>by
  rw[ej,bS]at h
  have ih:=zu7 hx h.2
  unfold Pn Pm at ih ⊢
  rw[aV,iM,iM,ih,To h.1 hx]
theorem Rl:∀{ds:List D},ds.all D.sc=true->(ds.map D.v).all ko=true
 |[],_=>rfl
 |d::ds,h=>by
  rw[ej,bS]at h
  rw[aV,ej,D.flat h.1,Rl h.2];rfl
def eU:List D->Option D
 |[.lst ds]=>some (.int ds.length)
 |[.tup ds]=>some (.int ds.length)
 |[.dK ks _]=>some (.int ks.length)
 |[.str x]=>if x.length<=16777216 then some (.int x.length)else none
 |_=>none
def Ho (K:ae):List V->Hp->VK->Prop:=λxs H Q=>(∃p ys,xs=[.ref p]/\(gz K H p ys\/lE K H p ys)/\Q (.int ys.length) H)\/(∃z,xs=[.str z]/\z.length<=sizeLine/\Q (.int z.length) H)\/∃a cC,xs=[V.ref a]/\H a=some (.dK cC)/\Q (.int cC.length) H
theorem zkx:eY X (.builtin "len") (Ho X.K):=Zk.or (Zl.or zkl)
theorem zqq:vN K ct [n] k (Ho K) eU:=by
 intro F H vs ds d Q s l e w
 cases l with
 |cons h t=>
  cases t
  rename_i d1 v
  cases d1 with
  |lst xs=>
   cases e
   obtain⟨a,us,rfl,ha,hp⟩:=h.lst s
   refine .inl ⟨a,us,rfl,.inl ha,?_⟩
   rw[←hp.length]
   exact w _ F H (.refl s) (Al.of (.int _))
  |tup xs=>
   cases e
   obtain⟨a,us,rfl,ha,hp⟩:=h.tup s
   refine .inl ⟨a,us,rfl,.inr (lE.of ha),?_⟩
   rw[←hp.length]
   exact w _ F H (.refl s) (Al.of (.int _))
  |str x=>
   unfold eU at e
   dsimp only at e
   by_cases hz:x.length<=16777216
   ·rw[if_pos hz]at e
    cases e
    exact .inr (.inl ⟨x,by rw[h.str],by rw[bX];exact hz,w _ F H (.refl s) (Al.of (.int _))⟩)
   ·rw[if_neg hz]at e;cases e
  |dK ks xs=>
   cases e
   obtain⟨a,us,rfl,ha,hl,hp⟩:=h.dK s
   refine .inr (.inr ⟨a,_,rfl,ha,?_⟩)
   rw[eQ,←hl,ik]
   exact w _ F H (.refl s) (Al.of (.int _))
  |_=>cases e
end
end L3
namespace L3
open PySem PySem.Spec L2
open PyProof.Rows hiding St
section
variable {ct:Nat->ah}{K:ae}
theorem zu8 {ι:Type}{Xs:ι->Cx}{ms:List Mo}{n:Nat}{e:Expr}{f:EF}(hK:∀i,(Xs i).K=K)(h:∀i,XO (Xs i) ct ms n e f):∃t,(∀i,PE (Xs i) e t)/\∀(F0 B F H:Hp) (ρ:Env) (σ:St) (d:D) (Q:VK),RS K ct F0 B ms F H ρ σ->f ρ=some d ->
  (∀v F' H' fp,fL F H F' H'->Ow K ct F' H' n d v fp->fp.Nodup->(∀a∈fp,H a=none)->Q v H')->t σ H Q:=by
 refine⟨λσ H Q=>∀i,(h i).choose σ H Q,λi ai s σ H Q I q=>(h i).choose_spec.1 ai s σ H Q I (q i),λF0 B F H ρ σ d Q rs e w i=>?_⟩
 exact(h i).choose_spec.2 F0 B F H ρ σ d Q (by rw[hK i];exact rs) e λv F' H' fp x l=>w v F' H' fp x (by rw[←hK i];exact l)
def zZ (X:Cx)(ct:Nat->ah)(ms:List Mo)(ifs:List Expr)(f:BF):Prop:=∃t,yK X ifs t/\∀(F0 B F H:Hp) (ρ:Env) (σ:St) (b:Bool) (Q:Bool->Hp->Prop),RS X.K ct F0 B ms F H ρ σ->f ρ=some b->(∀F' H',fL F H F' H'->Q b H')->t σ H Q
def gQ:BF:=λ_=>some true
theorem uu {X:Cx}{ms:List Mo}:zZ X ct ms [] gQ:=⟨_,zqg,λF0 B F H ρ σ b Q rs e w=>by cases e;exact w F H (.refl rs.fh)⟩
theorem Sd {X:Cx}{ms:List Mo}{c:Expr}{p:BF}(h:XT X ct ms c p):zZ X ct ms [c] p:=by
 obtain⟨t,pt,qt⟩:=h
 exact⟨t,zqh pt,qt⟩
theorem zu9 {ι:Type}{Xs:ι->Cx}{ms:List Mo}{ifs:List Expr}{f:BF}(hK:∀i,(Xs i).K=K)(h:∀i,zZ (Xs i) ct ms ifs f):∃t,(∀i,yK (Xs i) ifs t)/\∀(F0 B F H:Hp) (ρ:Env) (σ:St) (b:Bool) (Q:Bool->Hp->Prop),RS K ct F0 B ms F H ρ σ->f ρ=some b ->
  (∀F' H',fL F H F' H'->Q b H')->t σ H Q:=by
 refine⟨λσ H Q=>∀i,(h i).choose σ H Q,λi ai s σ H Q I q=>(h i).choose_spec.1 ai s σ H Q I (q i),λF0 B F H ρ σ d Q rs e w i=>?_⟩
 exact(h i).choose_spec.2 F0 B F H ρ σ d Q (by rw[hK i];exact rs) e w
def zB {α:Type}(g:α->St->Hp->(St->Hp->Prop)->Prop):Prop:=∀v σ H Q Q',(∀σ' H',Q σ' H'->Q' σ' H')->g v σ H Q->g v σ H Q'
def wM (X:Cx)(ct:Nat->ah)(ms:List Mo)(own n:Nat)(tg:Expr)(g:D->Env->Option Env):Prop:=∃t,PG X tg t/\gD own t/\zB t/\∀(F0 B F H:Hp) (ρ ρ':Env) (σ:St) (d:D) (v:V) (Q:St->Hp->Prop),RS X.K ct F0 B ms F H ρ σ->Al X.K ct F B n d v->g d ρ=some ρ' ->
 (∀σ',RS X.K ct F0 B ms F H ρ' σ'->Q σ' H)->t v σ H Q
theorem zva {ι:Type}{Xs:ι->Cx}{ms:List Mo}{own n:Nat}{tg:Expr}{g:D->Env->Option Env}(hK:∀i,(Xs i).K=K)(h:∀i,wM (Xs i) ct ms own n tg g):∃t,(∀i,PG (Xs i) tg t)/\gD own t/\∀(F0 B F H:Hp) (ρ ρ':Env) (σ:St) (d:D) (v:V) (Q:St->Hp->Prop),RS K ct F0 B ms F H ρ σ->Al K ct F B n d v->g d ρ=some ρ' ->
  (∀σ',RS K ct F0 B ms F H ρ' σ'->Q σ' H)->t v σ H Q:=by
 refine⟨λv σ H Q=>∀i,(h i).choose v σ H Q,λi ai s σ H v u Q I r q=>(h i).choose_spec.1 ai s σ H v u Q I r (q i),λv σ H Q q i=>(h i).choose_spec.2.1 v σ H Q (q i),λF0 B F H ρ ρ' σ d v Q rs l e w i=>?_⟩
 exact(h i).choose_spec.2.2.2 F0 B F H ρ ρ' σ d v Q (by rw[hK i];exact rs) (by rw[hK i];exact l) e λσ' r=>w σ' (by rw[←hK i];exact r)
theorem znc {X:Cx}{ms:List Mo}{own i:Nat}{x:aK}{pos:cX}(ho:i<own)(hm:ms[i]?=some (.ow 0))(hN:X.N.Nodup)(hi:X.N[i]?=some x)(hx:Loc X.env.scope x)
  (hf:X.fn x=true\/X.env.scope.names.lookup x=some .local:=by first|exact .inl rfl|exact .inr rfl|assumption):wM X ct ms own 0 (.Name x pos) (gV i):=by
 refine⟨_,R4 hN hi hx hf,ZT i own ho,λv σ H Q Q' m q=>m _ _ q,λF0 B F H ρ ρ' σ d v Q rs l e w=>?_⟩
 cases e
 exact w _ (rs.set hm (.refl rs.fh) (Ow.zero l) bL λa z=>(by cases z))
def Bp (own:Nat)(g:yL):Prop:=∀v σ H Q,g v σ H Q->g v σ H λσ' H'=>Q σ' H'/\σ'.length = σ.length/\∀i,own<=i->σ'[i]? = σ[i]?
def wN (X:Cx)(ct:Nat->ah)(ms:List Mo)(own n:Nat)(lf:List Expr)(g:List D->Env->Option Env):Prop:=∃t,BZ X lf t/\Bp own t/\zB t/\(∀ds ρ ρ',g ds ρ=some ρ'->ds.length=lf.length)/\∀(F0 B F H:Hp) (ρ ρ':Env) (σ:St) (ds:List D) (vs:List V) (Q:St->Hp->Prop),RS X.K ct F0 B ms F H ρ σ->Pr (Al X.K ct F B n) ds vs->g ds ρ=some ρ' ->
 (∀σ',RS X.K ct F0 B ms F H ρ' σ'->Q σ' H)->t vs σ H Q
theorem znd {X:Cx}{ms:List Mo}{own n:Nat}:wN X ct ms own n [] gsNil:=by
 refine⟨_,R5,λv σ H Q q=>⟨q.1,q.2,rfl,λ_ _=>rfl⟩,λv σ H Q Q' m q=>⟨q.1,m _ _ q.2⟩,λds ρ ρ' e=>?_,λF0 B F H ρ ρ' σ ds vs Q rs l e w=>?_⟩
 ·cases ds with
  |nil=>rfl
  |cons d ds=>cases e
 ·cases l with
  |nil=>cases e;exact⟨rfl,w σ rs⟩
  |cons _ _=>cases e
theorem Ji {X:Cx}{ms:List Mo}{own n:Nat}{tg:Expr}{lf:List Expr}{gg:D->Env->Option Env}{gs:List D->Env->Option Env}(h1:wM X ct ms own n tg gg)(h2:wN X ct ms own n lf gs)
  (hs:(cZ (tg::lf) X.env).map (·.2)=gW tg X.env::(cZ lf X.env).map (·.2):=by rfl):wN X ct ms own n (tg::lf) (gsCons gg gs):=by
 obtain⟨t,pt,kt,mt,qt⟩:=h1
 obtain⟨t2,oT,V9,PK,Mr,oV⟩:=h2
 refine⟨_,Rr pt oT hs,λvs σ H Q q=>?_,λvs σ H Q Q' m q=>?_,λds ρ ρ' e=>?_,λF0 B F H ρ ρ' σ ds vs Q rs l e w=>?_⟩
 ·obtain⟨v,r,e,q⟩:=q
  refine⟨v,r,e,mt _ _ _ _ _ (λσ' H' z=>?_) (kt v σ H _ q)⟩
  obtain⟨z1,z2,z3⟩:=z
  refine PK _ _ _ _ _ (λσ2 H2 y=>?_) (V9 r σ' H' Q z1)
  exact⟨y.1,y.2.1.trans z2,λi hi=>(y.2.2 i hi).trans (z3 i hi)⟩
 ·obtain⟨v,r,e,q⟩:=q
  exact⟨v,r,e,mt _ _ _ _ _ (λσ' H' z=>PK _ _ _ _ _ m z) q⟩
 ·cases ds with
  |nil=>cases e
  |cons d ds=>
   obtain⟨ρ1,h3,h4⟩:=aU e
   rw[aC,aC,Mr _ _ _ h4]
 ·cases l with
  |nil=>cases e
  |cons h t'=>
   obtain⟨ρ1,h3,h4⟩:=aU e
   exact⟨_,_,rfl,qt F0 B F H ρ ρ1 σ _ _ _ rs h h3 λσ1 r1=>oV F0 B F H ρ1 ρ' σ1 _ _ _ r1 t' h4 w⟩
theorem zqr {X:Cx}{ms:List Mo}{own n:Nat}{lf:List Expr}{j:Nat}{pos:cX}{gs:List D->Env->Option Env}(hc:X.calm=true)(h:wN X ct ms own (n-1) lf gs)(hl:(cZ lf X.env).length=lf.length:=by rfl)(iX:(cZ lf X.env).findIdx? (·.1)=none:=by rfl):wM X ct ms own n (.Tuple lf j pos) (gT gs):=by
 obtain⟨t,pt,kt,mt,lt,qt⟩:=h
 refine⟨_,SY (n:=lf.length) hc pt hl iX,λv σ H Q q=>?_,λv σ H Q Q' m q=>?_,λF0 B F H ρ ρ' σ d v Q rs l e w=>?_⟩
 ·obtain⟨a,xs,e,h1,h2,q⟩:=q
  exact⟨a,xs,e,h1,h2,kt _ _ _ _ q⟩
 ·obtain⟨a,xs,e,h1,h2,q⟩:=q
  exact⟨a,xs,e,h1,h2,mt _ _ _ _ _ m q⟩
 cases d with
 |tup ds=>
  have:∃a vs,v=.ref a/\lE X.K H a vs/\Pr (Al X.K ct F B (n-1)) ds vs:=by
   cases n with
   |zero=>
    have l:Dt X.K ct F (.tup ds) v:=l
    cases l with
    |tup q t=>exact⟨_,_,rfl,lE.of (rs.fh _ _ q),t.pr⟩
   |succ n=>
    rcases l with l|l
    ·cases l with
     |tup q t=>exact⟨_,_,rfl,lE.of (rs.fh _ _ q),t.pr.mono λ_ _=>Al.of⟩
    ·cases l with
     |tup q t=>exact⟨_,_,rfl,lE.of (rs.fh _ _ q),t⟩
  obtain⟨a,vs,rfl,ha,hp⟩:=this
  exact⟨a,vs,rfl,ha,hp.length.symm.trans (lt _ _ _ e),qt F0 B F H ρ ρ' σ ds vs Q rs hp e w⟩
 |_=>cases e
def gH (ρ:Env)(cap:List Nat):Env:=cap.map λi=>(ρ[i]?).join
def hJ (ms:List Mo)(cap:List Nat):List Mo:=cap.map λi=>.al (((ms[i]?).map Mo.lv).getD 0)
def n4 (g:D->Env->Option Env)(p:BF)(f:EF)(ρ0:Env):List D->Option (List D)
 |[]=>some []
 |d::ds=>(g d ρ0).bind λρ1=>(p ρ1).bind λb=>if b=true then(f ρ1).bind λy=>(n4 g p f ρ0 ds).bind λys=>some (y::ys)else n4 g p f ρ0 ds
def fI (fi:Env->Option (List D))(own:Nat)(cap:List Nat)(g:D->Env->Option Env)(p:BF)(f:EF):EF:=λρ=>(fi ρ).bind λds=>if ds.length<=16777216 then(n4 g p f (ax own none++gH ρ cap) ds).bind λys=>some (.lst ys)else none
theorem SL.caps {F B H:Hp}{ms:List Mo}{ρ:Env}{σ:St}(rs:RS K ct F0 B ms F H ρ σ):∀{cap:List Nat},(∀i∈cap,i<ms.length)->SL K ct F H H (hJ ms cap) (gH ρ cap) (gB σ cap) []
 |[],_=>.nil
 |i::cap,h=>by
  have ih:=SL.caps rs (cap:=cap) λj hj=>h j (ak _ hj)
  have hi:i<ms.length:=h i af
  have hm:ms[i]?=some ms[i]:=by simp[hi]
  show SL K ct F H H (.al (((ms[i]?).map Mo.lv).getD 0)::hJ ms cap) ((ρ[i]?).join::gH ρ cap) ((σ[i]?).join::gB σ cap) []
  cases e:(ρ[i]?).join with
  |none=>exact .no ih
  |some d=>
   obtain⟨v,hv,l⟩:=rs.get hm (zx e)
   rw[hv,hm]
   exact .al l ih
theorem SL.nones {F B H:Hp}{ms Ms:List Mo}{ρ:Env}{σ:St}{fp:List ah}(t:SL K ct F B H ms ρ σ fp):∀{om:List Mo},SL K ct F B H (om++ms) (ax om.length none ++ ρ) (ax om.length none ++ σ) fp
 |[]=>t
 |m::om=>.no (SL.nones (Ms:=Ms) t)
theorem Rm {X:Cx}{ms om:List Mo}{n k:Nat}{jX iter tg:Expr}{ifs:List Expr}{scope:gc}{pos:cX}{N:List aK}{own:Nat}{cap:List Nat}{fi:Env->Option (List D)}{gg:D->Env->Option Env}{p:BF}{f:EF}
  (B:kP X scope N own cap) (hc:X.calm=true) (ho:om.length=own) (iH:∀i∈cap,i<ms.length) (hi:zX X ct ms n tg iter fi)
  (hg:∀cl C fp s₀ H₀,wM (iW X scope cl N C fp s₀ H₀) ct (om++hJ ms cap) own n tg gg) (ht:∀cl C fp s₀ H₀,zZ (iW X scope cl N C fp s₀ H₀) ct (om++hJ ms cap) ifs p) (he:∀cl C fp s₀ H₀,XO (iW X scope cl N C fp s₀ H₀) ct (om++hJ ms cap) k jX f)
  :
  ∃wi g tt te,PI X tg iter wi/\gD own g/\(∀cl C fp s₀ H₀,PG (iW X scope cl N C fp s₀ H₀) tg g)/\(∀cl C fp s₀ H₀,yK (iW X scope cl N C fp s₀ H₀) ifs tt)/\(∀cl C fp s₀ H₀,PE (iW X scope cl N C fp s₀ H₀) jX te) /\
   ∀(F0 B F H:Hp) (ρ:Env) (σ:St) (d:D) (Q:VK),RS X.K ct F0 B ms F H ρ σ->fI fi own cap gg p f ρ=some d->(∀v F' H' fp,fL F H F' H'->Ow X.K ct F' H' (k+1) d v fp->fp.Nodup->(∀a∈fp,H a=none)->Q v H')->sj wi own cap g tt te σ H Q:=by
 obtain⟨wi,pi,qi⟩:=hi
 obtain⟨MV,pg,kg,qg⟩:=zva (K:=X.K) (Xs:=λz:List (aK×ah)×ah×List ah×aj×Hp=>iW X scope z.1 N z.2.1 z.2.2.1 z.2.2.2.1 z.2.2.2.2) (λ_=>rfl) (λz=>hg z.1 z.2.1 z.2.2.1 z.2.2.2.1 z.2.2.2.2)
 obtain⟨tt,pt,qt⟩:=zu9 (K:=X.K) (Xs:=λz:List (aK×ah)×ah×List ah×aj×Hp=>iW X scope z.1 N z.2.1 z.2.2.1 z.2.2.2.1 z.2.2.2.2) (λ_=>rfl) (λz=>ht z.1 z.2.1 z.2.2.1 z.2.2.2.1 z.2.2.2.2)
 obtain⟨te,pe,qe⟩:=zu8 (K:=X.K) (Xs:=λz:List (aK×ah)×ah×List ah×aj×Hp=>iW X scope z.1 N z.2.1 z.2.2.1 z.2.2.2.1 z.2.2.2.2) (λ_=>rfl) (λz=>he z.1 z.2.1 z.2.2.1 z.2.2.2.1 z.2.2.2.2)
 refine⟨wi,MV,tt,te,pi,kg,(λcl C fp s₀ H₀=>pg (cl,C,fp,s₀,H₀)),(λcl C fp s₀ H₀=>pt (cl,C,fp,s₀,H₀)),(λcl C fp s₀ H₀=>pe (cl,C,fp,s₀,H₀)),λF0 B F H ρ σ r Q rs e w=>?_⟩
 obtain⟨ds,h1,h2⟩:=aU e
 by_cases hz:ds.length<=16777216
 case neg=>rw[if_neg hz]at h2;cases h2
 rw[if_pos hz]at h2
 obtain⟨ys,h3,h4⟩:=aU h2
 cases h4
 refine qi F0 B F H ρ σ ds _ rs h1 λJ F1 H1 x1 ok A hA=>?_
 have ku:=rs.ext x1
 refine⟨λi m us H2=>m=ds.length-i/\i<=ds.length/\us.length<=i/\H2 A=some (.lst us)/\∃F2 yd zd fp,fL F1 H1 F2 H2/\F2 A=none/\fH (Ow X.K ct F2 H2 k) yd us fp/\fp.Nodup/\(∀a∈fp,H1 a=none/\a≠A)/\n4 gg p f (ax own none++gH ρ cap) (ds.drop i)=some zd/\yd++zd=ys,
  ⟨ds.length,rfl,dh _,aF _,zt,F1,[],ys,[],fL.newO x1.fh hA _,x1.fh.free hA,.nil,bL,λa z=>(by cases z),h3,rfl⟩,?_⟩
 rintro i m us H2 ⟨rfl,A6,Md,IC,F2,yd,zd,fp,x2,fA,ol,nd,hf,iI,IN⟩
 refine⟨IC,?_⟩
 have Xw:=ku.ext x2
 obtain⟨k1,k2⟩:=ok i F2 H2 x2.ff x2.hh x2.fh
 by_cases lz:i<ds.length
 ·right
  have hd:ds[i]?=some ds[i]:=by simp[lz]
  obtain⟨go,yl⟩:=k1 _ hd
  rw[iF lz]at iI
  obtain⟨ρ1,h5,h6⟩:=aU iI
  obtain⟨b,h7,h8⟩:=aU h6
  refine⟨go,by rw[bX];omega,λx H3 y=>?_⟩
  obtain⟨F3,x3,l⟩:=yl x H3 y
  have Xx:=Xw.ext x3
  have sl:=SL.nones (Ms:=[]) (SL.caps Xx iH) (om:=om)
  rw[ho]at sl
  have Xy:RS X.K ct F3 H3 (om++hJ ms cap) F3 H3 (ax own none++gH ρ cap) (ax own none++gB σ cap):=⟨.refl _,.refl _,x3.fh,λ_ _ _ h=>h,[],sl,bL,λa z=>(by cases z)⟩
  have A3:H3 A=some (.lst us):=x3.hh _ _ IC
  have OZ:F3 A=none:=x3.nf A _ IC fA
  refine qg F3 H3 F3 H3 _ ρ1 _ _ x _ Xy (l.mono (.refl _) (x2.trans x3).hh) h5 λσ1 r1=>?_
  refine qt F3 H3 F3 H3 ρ1 σ1 b _ r1 h7 λF4 H4 x4=>?_
  cases b with
  |false=>
   rw[if_neg aJ]at h8 ⊢
   have Qi:=x3.trans x4
   refine⟨ds.length-(i+1),by omega,rfl,lz,by omega,x4.hh _ _ A3,F4,yd,zd,fp,x2.trans Qi,x4.nf A _ A3 OZ,ol.mono λ_ _ _ _ o=>o.ext Qi,nd,hf,h8,IN⟩
  |true=>
   rw[if_pos rfl]at h8 ⊢
   obtain⟨yv,h9,Vf⟩:=aU h8
   obtain⟨zs,Vg,Vh⟩:=aU Vf
   cases Vh
   refine qe F3 H3 F4 H4 ρ1 σ1 yv _ (r1.ext x4) h9 λv F5 H5 f5 x5 o5 n5 LS=>?_
   have MX:=(x3.trans x4).trans x5
   have Qj:=x4.trans x5
   have A5:H5 A=some (.lst us):=Qj.hh _ _ A3
   have O0:F5 A=none:=Qj.nf A _ A3 OZ
   have A4:H4 A=some (.lst us):=x4.hh _ _ A3
   have O1:∀a∈f5,a≠A:=λa z e=>by rw[e]at z;rw[LS A z]at A4;cases A4
   refine⟨A5,ds.length-(i+1),by omega,rfl,lz,by rw[aX,cB];omega,zt,F5,yd++[yv],zs,fp++(f5++[]),?_,O0,?_,?_,?_,Vg,by rw[ed];exact IN⟩
   ·have Jh:=x2.trans MX
    refine⟨Jh.ff,λa o h=>?_,λa o h=>?_,Jh.nf⟩
    ·rw[zk (zl h hA)];exact Jh.hh _ _ h
    ·rw[zk (λz=>by rw[z]at h;rw[O0]at h;cases h)];exact Jh.fh _ _ h
   ·refine(ol.mono λ_ _ f Vz o=>?_).append (.cons ?_ .nil)
    ·refine(o.ext MX).frame (.refl _) λa z=>⟨zk (hf a (Vz a z)).2,((o.ext MX).cells a z).1⟩
    ·exact o5.frame (.refl _) λa z=>⟨zk (O1 a z),(o5.cells a z).1⟩
   ·rw[bO]
    refine br.mpr ⟨nd,n5,λa z c hc e=>?_⟩
    subst e
    have:∃o,H2 a=some o:=(fH.cellsOf ol a z).2
    obtain⟨o,ho⟩:=this
    have:=x4.hh _ _ (x3.hh _ _ ho)
    rw[LS a hc]at this
    cases this
   ·intro a z
    rw[bO]at z
    rcases aZ.mp z with z|z
    ·exact hf a z
    ·refine⟨?_,O1 a z⟩
     have YD:=x2.trans (x3.trans x4)
     exact YD.hh.free (LS a z)
 ·left
  refine⟨k2 (by omega),?_⟩
  have:ds.drop i=[]:=jB (by omega)
  rw[this]at iI
  cases iI
  rw[bO]at IN
  subst IN
  refine w _ F2 H2 (A::fp) (x1.trans x2) (.inr (.lst fA IC ol)) (bJ.mpr ⟨λz=>(hf A z).2 rfl,nd⟩) λa z=>?_
  rcases aE.mp z with rfl|z
  ·exact x1.hh.free hA
  ·exact x1.hh.free (hf a z).1
theorem zqs {X:Cx}{ms om:List Mo}{n k:Nat}{jX iter tg:Expr}{ifs:List Expr}{scope:gc}{pos:cX}{N:List aK}{own:Nat}{cap:List Nat}{fi:Env->Option (List D)}{gg:D->Env->Option Env}{p:BF}{f:EF}
  (B:kP X scope N own cap) (hc:X.calm=true) (ho:om.length=own) (iH:∀i∈cap,i<ms.length) (hi:zX X ct ms n tg iter fi)
  (hg:∀cl C fp s₀ H₀,wM (iW X scope cl N C fp s₀ H₀) ct (om++hJ ms cap) own n tg gg) (ht:∀cl C fp s₀ H₀,zZ (iW X scope cl N C fp s₀ H₀) ct (om++hJ ms cap) ifs p) (he:∀cl C fp s₀ H₀,XO (iW X scope cl N C fp s₀ H₀) ct (om++hJ ms cap) k jX f)
  (hs:∀x,dm iter X.env x=pure x:=by intro _;rfl):XO X ct ms (k+1) (.ListComp jX [⟨tg,iter,ifs,0⟩] scope pos) (fI fi own cap gg p f):=by
 obtain⟨wi,g,tt,te,pi,kg,pg,pt,pe,q⟩:=Rm (k:=k) (pos:=pos) B hc ho iH hi hg ht he
 exact⟨_,zqi B hc pi kg pg pt pe hs,q⟩
end
end L3
namespace L3
open PySem PySem.Spec L2
open PyProof.Rows hiding St
section
variable {X:Cx}{ct:Nat->ah}{ms:List Mo}{rk n m k:Nat}{st:bD}{rest:List bD}{a b c e tg:Expr}{f g h:EF}{p q:BF}{u w:SF}{pos:cX}
def Ih:D->Option (List D)
 |.lst ds=>some ds
 |_=>none
theorem Rn {d:D}{ds:List D}(h:Ih d=some ds):d=.lst ds:=by cases d<;>simp[Ih]at h;subst h;rfl
def lsD (f:EF):Env->Option (List D):=λρ=>(f ρ).bind Ih
theorem SO {K:ae}{F B G:Hp}{a:ah}{vs:List V}{ds:List D}(hp:Pr (Al K ct F B n) ds vs)(keep:∀F' H',bC F F'->bC B H'->bC F' H'->gz K H' a vs):uF K ct F B n (Kc K a) ds:=by
 intro i F' H' s1 s2 s3
 have hs:gz K H' a vs:=keep F' H' s1 s2 s3
 refine⟨λd hd=>?_,λhl=>⟨vs,hs,by rw[←hp.length];exact hl⟩⟩
 obtain⟨v,hv,l⟩:=hp.get' hd
 refine⟨⟨vs,v,hs,hv⟩,λx H2 y=>?_⟩
 obtain⟨e,y⟩:=y
 subst e
 have:=y vs hs
 rw[hv]at this
 cases this
 exact⟨F',.refl s3,l.mono s1 (.refl _)⟩
theorem Dt.lst_inv {K:ae}{F:Hp}{ds:List D}{v:V}(h:Dt K ct F (.lst ds) v):∃a vs,v=.ref a/\gz K F a vs/\Dts K ct F ds vs:=by
 cases h with
 |lst q t=>exact⟨_,_,rfl,q,t⟩
theorem HL (he:XE X ct ms 0 e f):XI X ct ms 0 tg e (lsD f):=by
 obtain⟨t,pt,qt⟩:=he
 refine⟨_,RZ pt,λF0 B F H ρ σ ds R rs e w=>?_⟩
 obtain⟨d,h1,h2⟩:=aU e
 rw[Rn h2]at h1
 refine qt F0 B F H ρ σ _ _ rs h1 λv F' H' x l=>?_
 obtain⟨a,vs,rfl,ha,hp⟩:=Dt.lst_inv l
 exact⟨a,rfl,⟨vs,x.fh.seq ha⟩,w _ F' H' x (SO (G:=H') (n:=0) (hp.pr) λF2 H2 s1 s2 s3=>s3.seq (s1.seq ha))⟩
theorem uk (he:XE X ct ms n e f):zX X ct ms (n-1) tg e (lsD f):=by
 obtain⟨t,pt,qt⟩:=he
 refine⟨_,RZ pt,λF0 B F H ρ σ ds R rs e w=>?_⟩
 obtain⟨d,h1,h2⟩:=aU e
 rw[Rn h2]at h1
 refine qt F0 B F H ρ σ _ _ rs h1 λv F' H' x l=>?_
 obtain⟨a,vs,rfl,ha,hp⟩:=l.lst x.fh
 exact⟨a,rfl,⟨vs,ha⟩,w _ F' H' x (SO (G:=H') hp λF2 H2 s1 s2 s3=>s2.seq ha)⟩
theorem XI.cc {fi:Env->Option (List D)}(h:XI X ct ms n tg e fi):zX X ct ms n tg e fi:=by
 obtain⟨t,pt,qt⟩:=h
 refine⟨t,pt,λF0 B F H ρ σ ds R rs e w=>qt F0 B F H ρ σ ds R rs e λJ F' H' x ok=>w J F' H' x λi F2 H2 s1 s2 s3=>?_⟩
 obtain⟨k1,k2⟩:=ok i F2 H2 s1 ((rs.ext x).bh.trans s2) s3
 refine⟨λd hd=>?_,k2⟩
 obtain⟨go,yl⟩:=k1 d hd
 refine⟨go,λv H3 y=>?_⟩
 obtain⟨F3,x3,l⟩:=yl v H3 y
 exact⟨F3,x3,l.mono (.refl _) (rs.ext x).bh⟩
def fR (lo:Int)(j:Nat):List D:=(ba j).map λ(t:Nat)=>.int (lo+(t:Int))
def i8:List D->Option (List D)
 |[.int j]=>if -4611686018427387904<=j/\j<4611686018427387904 then some (fR 0 j.toNat)else none
 |_=>none
theorem ztn {K:ae}{F B:Hp}{lo:Int}{j:Nat}:uF K ct F B n (HW lo j) (fR lo j):=by
 intro i F' H' s1 s2 s3
 unfold fR
 refine⟨λd hd=>?_,λhl=>(show j<=i by simpa using hl)⟩
 rw[bw]at hd
 by_cases h:i<j
 ·rw[List.getElem?_range h]at hd
  cases hd
  refine⟨h,λx H2 y=>?_⟩
  obtain⟨e,y⟩:=y
  subst e
  subst y
  exact⟨F',.refl s3,Al.of (.int _)⟩
 ·rw[p5 (by simpa using h)]at hd
  cases hd
theorem uc {fs:Env->Option (List D)}{pp:cX}(hm:X.mg "range"=none)(ha:XA X ct ms [a] [m] fs)(hg:Gl X "range":=by rfl)(hs:ap [a] X.env=[(false,bG a X.env)]:=by rfl):XI X ct ms n tg (.Call (.Name "range" pp) [a] [] pos) (λρ=>(fs ρ).bind i8):=by
 obtain⟨t,pt,_,qt⟩:=ha
 refine⟨_,ZH hg hm pt hs,λF0 B F H ρ σ ds R rs e w=>?_⟩
 obtain⟨rz,h1,h2⟩:=aU e
 refine qt F0 B F H ρ σ _ _ rs h1 λvs F' H' x l=>?_
 cases l with
 |cons h t=>
  cases t
  rename_i d v
  cases d with
  |int j=>
   unfold i8 at h2
   dsimp only at h2
   by_cases hj:-4611686018427387904<=j/\j<4611686018427387904
   ·rw[if_pos hj]at h2
    cases h2
    exact⟨j,by rw[h.int],by omega,by omega,w _ F' H' x ztn⟩
   ·rw[if_neg hj]at h2;cases h2
  |_=>cases h2
def hV (i:Nat):List D->List D
 |[]=>[]
 |d::ds=>.tup [.int i,d]::hV (i+1) ds
theorem M8:∀{ds:List D} {j i:Nat} {d:D},(hV j ds)[i]?=some d->∃x,ds[i]?=some x/\d=.tup [.int (j+i:Nat),x]
 |[],_,_,_,h=>by simp[hV]at h
 |x::ds,j,0,d,h=>by simp[hV]at h;subst h;exact⟨x,rfl,rfl⟩
 |x::ds,j,i+1,d,h=>by
  obtain⟨y,h1,h2⟩:=M8 (ds:=ds) (j:=j+1) (i:=i) (d:=d) (by simpa[hV]using h)
  exact⟨y,by simpa using h1,by rw[h2,Nat.add_assoc,Nat.add_comm 1 i]⟩
theorem Q6:∀{ds:List D} {j:Nat},(hV j ds).length=ds.length
 |[],_=>rfl
 |_::ds,j=>by simp[hV,Q6 (ds:=ds)]
theorem zto {K:ae}{F B:Hp}{a:ah}{vs:List V}{ds:List D}(hp:Pr (Al K ct F B n) ds vs)(keep:∀F' H',bC F F'->bC B H'->bC F' H'->gz K H' a vs):uF K ct F B (n+1) (Kb K a) (hV 0 ds):=by
 intro i F' H' s1 s2 s3
 have hs:gz K H' a vs:=keep F' H' s1 s2 s3
 refine⟨λd hd=>?_,λhl=>⟨vs,hs,by rw[←hp.length];rw[Q6]at hl;exact hl⟩⟩
 obtain⟨x,hx,rfl⟩:=M8 hd
 obtain⟨v,hv,l⟩:=hp.get' hx
 refine⟨⟨vs,v,hs,hv⟩,λz H2 y=>?_⟩
 obtain⟨r,y',hr,rfl,rfl,y⟩:=y
 have:=y vs hs
 rw[hv]at this
 cases this
 refine⟨_,fL.newS s3 hr _,.inr (.tup zt (.cons (Al.of ?_) (.cons (l.mono (s1.trans (jf (s3.free hr) _)) (.refl _)) .nil)))⟩
 rw[p9]
 exact .int _
theorem Se {fs:Env->Option (List D)}{sP:List Expr}{kt:Nat}{pt pp:cX}(hm:X.mg "enumerate"=none)(ha:XA X ct ms [a] [0] fs)(hg:Gl X "enumerate":=by rfl)(hs:ap [a] X.env=[(false,bG a X.env)]:=by rfl) :
  XI X ct ms 1 (.Tuple sP kt pt) (.Call (.Name "enumerate" pp) [a] [] pos) (λρ=>(fs ρ).bind λds=>match ds with|[.lst xs]=>some (hV 0 xs)|_=>none):=by
 obtain⟨t,pt,_,qt⟩:=ha
 refine⟨_,zqj hg hm pt hs,λF0 B F H ρ σ ds R rs e w=>?_⟩
 obtain⟨rz,h1,h2⟩:=aU e
 refine qt F0 B F H ρ σ _ _ rs h1 λvs F' H' x l=>?_
 cases l with
 |cons h t=>
  cases t
  rename_i d v
  cases d with
  |lst xs=>
   cases h2
   obtain⟨a,vs,rfl,ha,hp⟩:=Dt.lst_inv h
   exact⟨a,rfl,⟨vs,x.fh.seq ha⟩,w _ F' H' x (zto (n:=0) hp.pr λF2 H2 s1 s2 s3=>s3.seq (s1.seq ha))⟩
  |_=>cases h2
end
end L3
namespace L3
open PySem PySem.Spec L2
open PyProof.Rows hiding St
section
variable {X:Cx}{ct:Nat->ah}{ms:List Mo}{rk n m k:Nat}{st:bD}{rest:List bD}{a b c e tg:Expr}{f g h:EF}{p q:BF}{u w:SF}{pos:cX}
theorem Ow.lst_inv {K:ae}{F H:Hp}{ds:List D}{v:V}{fp:List ah}(h:Ow K ct F H (k+1) (.lst ds) v fp):∃a vs fr,v=.ref a/\fp=a::fr/\F a=none/\H a=some (.lst vs)/\fH (Ow K ct F H k) ds vs fr:=by
 rcases h with⟨h,_⟩|h
 ·cases h
 ·cases h with
  |lst h1 h2 h3=>exact⟨_,_,_,rfl,rfl,h1,h2,h3⟩
theorem Ow.dK_inv {K:ae}{F H:Hp}{ks:List fu}{ds:List D}{v:V}{fp:List ah}(h:Ow K ct F H (k+1) (.dK ks ds) v fp):∃a vs fr,v=.ref a/\fp=a::fr/\F a=none/\H a=some (.dK (ks.zip vs))/\ks.length=vs.length/\fH (Ow K ct F H k) ds vs fr:=by
 rcases h with⟨h,_⟩|h
 ·cases h
 ·cases h with
  |dK h1 h2 h3 h4=>exact⟨_,_,_,rfl,rfl,h1,h2,h3,h4⟩
theorem Ow.dT_inv {K:ae}{F H:Hp}{ks:List (List fu)}{ds:List D}{v:V}{fp:List ah}(h:Ow K ct F H (k+1) (.dT ks ds) v fp):∃a vs fr,v=.ref a/\fp=a::fr/\F a=none/\H a=some (.dT (ks.zip vs))/\ks.length=vs.length/\fH (Ow K ct F H k) ds vs fr:=by
 rcases h with⟨h,_⟩|h
 ·cases h
 ·cases h with
  |dT h1 h2 h3 h4=>exact⟨_,_,_,rfl,rfl,h1,h2,h3,h4⟩
theorem RS.change {K:ae}{F0 B F H F' H':Hp}{ρ:Env}{σ:St}{i:Nat}{d':D}{v:V}{f1 fr fn:List ah}{ad:ah}{o:HO}(rs:RS K ct F0 B ms F H ρ σ)(hm:ms[i]?=some (.ow k))(x:fL F H F' H')
  (hσ:σ[i]?=some (some v)) (b1:∀a∈f1,B a=none) (dj:∀a∈f1,a∉fr) (cf:∀a∈fr,F a=none/\∃o,H a=some o)
  (put:∀(F' H':Hp) (d':D) (v':V) (f':List ah),bC F F'->bC B H'->bC F' H'->(∀a o,B a=some o->F0 a=none->F' a=none)->(∀a∈fr,H' a=H a/\F' a=none)->Ow K ct F' H' k d' v' f'->f'.Nodup->(∀a∈f',a∉fr)->(∀a∈f',B a=none) ->
    RS K ct F0 B ms F' H' (ρ.set i (some d')) (σ.set i (some v')))
  (gN:ad∈f1) (Lh:F' ad=none) (o':Ow K ct F' (cY H' ad o) k d' v fn) (nd:fn.Nodup) (tX:∀a∈fn,a∈f1\/H a=none):RS K ct F0 B ms F' (cY H' ad o) (ρ.set i (some d')) σ:=by
 have r:=rs.ext x
 have hB:B ad=none:=b1 ad gN
 have res:=put F' (cY H' ad o) d' v fn x.ff (λz u h=>by rw[zk (λe=>by rw[e,hB]at h;cases h)];exact r.bh _ _ h) (λz u h=>by rw[zk (λe=>by rw[e,Lh]at h;cases h)];exact x.fh _ _ h) r.nf
  (λz hz=>by
   obtain⟨hn,o,ho⟩:=cf z hz
   refine⟨?_,x.nf z o ho hn⟩
   have ne:z≠ad:=λe=>dj ad gN (by rw[←e];exact hz)
   rw[zk ne]
   exact(x.hh _ _ ho).trans ho.symm) o' nd
  (λz hz zr=>by
   rcases tX z hz with h|h
   ·exact dj z h zr
   ·obtain⟨_,o,ho⟩:=cf z zr
    rw[h]at ho
    cases ho)
  (λz hz=>(tX z hz).elim (b1 z) λh=>rs.bh.free h)
 have e:σ.set i (some v) = σ:=by
  apply lA
  intro j
  by_cases hj:i=j
  ·subst hj
   rw[jC (by
    have:=bg.mp hσ
    exact this.1),hσ]
  ·rw[cV hj]
 rw[e]at res
 exact res
def sApp (i:Nat)(f:EF):SF:=λρ=>(eV i ρ).bind λo=>(f ρ).bind λd=>match o with
 |.lst ds=>if ds.length<16777216 then some (.nx (ρ.set i (some (.lst (ds++[d])))))else none
 |_=>none
theorem M9 (i:Nat){x:aK}{p1 dQ eT:cX}(hm:ms[i]?=some (.ow (k+1)))(he:XO X ct ms k e f)(hN:X.N[i]?=some x:=by rfl)(hv:oK X.env.scope x:=by first|exact Or.inl rfl|exact Or.inr (Or.inl rfl)|exact Or.inr (Or.inr rfl))(hd:(x==("__debug__":aK))=false:=by decide)
  (iI:(x==("__classdict__":aK))=false:=by decide) (iX:ap [e] X.env=(false,bG e X.env)::ap [] X.env:=by rfl)
  (m7:fD (.Name x p1) "append" X.env (bG (.Name x p1) X.env)=bG (.Name x p1) X.env:=by rfl)
  (rE:((cu eT (ap [e] X.env)).all (λx=>!x.1)&&(e9 eT (dz [] X.env)).all (λx=>x.1.isSome)
   && decide ([e].length+([]:List gZ).length+(if([]:List gZ).isEmpty then 0 else 1)<30))=true:=by rfl)
  (m8:(dQ.endLine==eT.line)=true:=by rfl) (kE:(cu eT (ap [] X.env)).any (·.1)=false:=by rfl)
  (xE:dH (.Call (.Attribute (.Name x p1) "append" dQ) [e] [] eT) none pos.line X.env=pure false:=by rfl) :
  XS X ct ms rk (.Expr (.Call (.Attribute (.Name x p1) "append" dQ) [e] [] eT) pos) (sApp i f):=by
 obtain⟨t,pt,qt⟩:=he
 refine⟨_,JC (J1 PySem.F.plainAttrs_list PySem.F.slot_list_append PySem.F.type_list_append Jp (v8 hN hv hd iI) (wv pt jp iX) m7 rE m8 iX kE) xE,λF0 B F H ρ σ o E rs e z=>?_⟩
 obtain⟨d1,d2,h1,h2,h3⟩:=dB e
 obtain⟨f1,fr,n1,b1,dj,i4,cf,put⟩:=rs.put (F':=F) (H':=H) hm
 obtain⟨v,hσ,ow⟩:=i4 d1 (zx h1)
 refine⟨v,hσ,?_⟩
 cases d1 with
 |lst ds=>
  dsimp only at h3
  by_cases hz:ds.length<16777216
  ·rw[if_pos hz]at h3
   cases h3
   obtain⟨ad,vs,qJ,rfl,rfl,hF,hH,ol⟩:=ow.lst_inv
   refine⟨.inl ⟨rfl,_,gz.of hH⟩,qt F0 B F H ρ σ d2 _ rs h2 λv2 F' H' fp x1 o2 Bs Cd=>?_⟩
   have hA:H' ad=some (.lst vs):=x1.hh _ _ hH
   have fA:F' ad=none:=x1.nf ad _ hH hF
   have nA:∀a∈fp,a≠ad:=λa hz e=>by rw[e]at hz;rw[Cd ad hz]at hH;cases hH
   have Mt:=bJ.mp n1
   refine⟨ad,vs,v2,rfl,rfl,hA,by rw[←ol.length,bX];exact hz,?_⟩
   refine z σ F' _ (rs.change hm x1 hσ b1 dj cf put af fA (.inr (.lst fA zt ((ol.mono λ_ _ f' hi o'=>?_).append (.cons (f:=fp) ?_ .nil)))) (fn:=ad::(qJ++(fp++[]))) ?_ ?_)
   ·refine(o'.ext x1).frame (.refl _) λa ha=>⟨zk λe=>Mt.1 (e▸hi a ha),((o'.ext x1).cells a ha).1⟩
   ·exact o2.frame (.refl _) λa ha=>⟨zk (nA a ha),(o2.cells a ha).1⟩
   ·rw[bO]
    refine bJ.mpr ⟨λhz=>?_,br.mpr ⟨Mt.2,Bs,λa ha b hb e=>?_⟩⟩
    ·rcases aZ.mp hz with hz|hz
     ·exact Mt.1 hz
     ·exact nA ad hz rfl
    ·subst e
     obtain⟨_,o,ho⟩:=fH.cellsOf ol a ha
     rw[Cd a hb]at ho
     cases ho
   ·intro a ha
    rw[bO]at ha
    rcases aE.mp ha with rfl|ha
    ·exact .inl af
    ·rcases aZ.mp ha with ha|ha
     ·exact .inl (ak _ ha)
     ·exact .inr (Cd a ha)
  ·rw[if_neg hz]at h3;cases h3
 |_=>cases h3
def m9 (ds:List D)(i:Int)(d:D):Option (List D):=(ixN ds.length i).bind λj=>some (ds.set j d)
def d7 {κ:Type}[DecidableEq κ](ks:List κ)(ds:List D)(k:κ)(d:D):List κ×List D:=if ks.contains k=true then(ks,(ks.zip ds).map λp=>if p.1=k then d else p.2)else(ks++[k],ds++[d])
def iQ (i:Nat)(fj f:EF):SF:=λρ=>(f ρ).bind λd=>(eV i ρ).bind λo=>(fj ρ).bind λj=>match o,j with
 |.lst ds,.int z=>(m9 ds z d).bind λrz=>some (.nx (ρ.set i (some (.lst rz))))
 |_,_=>none
theorem fH.set0 {R:D->V->List ah->Prop}{d:D}{v:V}(r:R d v [])(z:∀d v f,R d v f->f=[]):∀{ds:List D} {vs:List V} {fp:List ah} (i:Nat),fH R ds vs fp->fH R (ds.set i d) (vs.set i v) []
 |_,_,_,_,.nil=>.nil
 |_,_,_,0,.cons h t=>by
  have:=fH.cons (f:=[]) (g:=[]) r (fH.ofPr (t.pr λd v f _ q=>by have:=z _ _ _ q;subst this;exact q))
  exact this
 |_,_,_,i+1,.cons h t=>by
  have e:=z _ _ _ h
  subst e
  exact fH.cons (f:=[]) (g:=[]) h (fH.set0 r z i t)
theorem Ow.nil0 {K:ae}{F H:Hp}{d:D}{v:V}{fp:List ah}(h:Ow K ct F H 0 d v fp):fp=[]:=h.2
theorem fH.nil0 {K:ae}{F H:Hp}{ds:List D}{vs:List V}{fp:List ah}(h:fH (Ow K ct F H 0) ds vs fp):fp=[]:=by
 induction h with
 |nil=>rfl
 |cons h t ih=>rw[h.nil0,ih];rfl
theorem R6 (i:Nat){x:aK}{j:Expr}{p1 gE:cX}{fj:EF}(hm:ms[i]?=some (.ow 1))(hj:XE X ct ms n j fj)(he:XE X ct ms 0 e f)(hN:X.N[i]?=some x:=by rfl)(hv:oK X.env.scope x:=by first|exact Or.inl rfl|exact Or.inr (Or.inl rfl)|exact Or.inr (Or.inr rfl))(hd:(x==("__debug__":aK))=false:=by decide)
  (iI:(x==("__classdict__":aK))=false:=by decide)
  (ha:∀v,gW (.Subscript (.Name x p1) j gE) X.env v=(do
   let ov ← dS [v] (bG (.Name x p1) X.env)
   let iv ← dS [v,ov] (bG j X.env)
   fO gE
   dS [v,ov,iv] (nr ov iv v)
   tP [v,ov,iv] []):=by intro _;rfl)
  (hs:ml [.Subscript (.Name x p1) j gE] e pos.line X.env=pure false:=by rfl) (hw:mj [.Subscript (.Name x p1) j gE] e X.env=pure none:=by rfl)
  (h1:(cZ [.Subscript (.Name x p1) j gE] X.env).map (·.2)=[gW (.Subscript (.Name x p1) j gE) X.env]:=by rfl) :
  XS X ct ms rk (.Assign [.Subscript (.Name x p1) j gE] e pos) (iQ i fj f):=by
 obtain⟨t,pt,qt⟩:=he
 obtain⟨tj,xJ,xK⟩:=hj
 refine⟨_,NU pt (SZ (v8 hN hv hd iI) xJ Nd ha) hs hw h1,λF0 B F H ρ σ o E rs e z=>?_⟩
 obtain⟨d,g1,g2⟩:=aU e
 obtain⟨d1,rY,g3,g4,g5⟩:=dB g2
 refine qt F0 B F H ρ σ d _ rs g1 λv0 F1 H1 x1 l0=>?_
 have ku:=rs.ext x1
 obtain⟨f1,fr,n1,b1,dj,i4,cf,put⟩:=ku.put (F':=F) (H':=H) hm
 obtain⟨v,hσ,ow⟩:=i4 d1 (zx g3)
 refine⟨v,hσ,xK F0 B F1 H1 ρ σ rY _ ku g4 λvj F2 H2 x2 lj=>?_⟩
 cases d1 with
 |lst ds=>
  cases rY with
  |int zi=>
   obtain⟨rz,g6,g7⟩:=aU g5
   cases g7
   obtain⟨jn,g8,g9⟩:=aU g6
   cases g9
   obtain⟨ad,vs,qJ,rfl,rfl,hF,hH,ol⟩:=ow.lst_inv
   have hA:H2 ad=some (.lst vs):=x2.hh _ _ hH
   have fA:F2 ad=none:=x2.nf ad _ hH hF
   have e0:=ol.nil0
   subst e0
   refine⟨ad,vs,zi,jn,rfl,lj.int,hA,by rw[←ol.length];exact g8,?_⟩
   refine z σ F2 _ (ku.change hm x2 hσ b1 dj cf put af fA (.inr (.lst fA zt (fH.set0 ⟨Dt.mono x2.ff l0,rfl⟩ (λ_ _ _ q=>q.2) jn (ol.mono λ_ _ _ _ q=>⟨q.1.mono x2.ff,q.2⟩)))) (fn:=[ad]) (by simp) ?_)
   intro a ha
   rw[aB]at ha
   subst ha
   exact .inl af
  |_=>cases g5
 |_=>cases g5
end
end L3
namespace L3
open PySem PySem.Spec L2
open PyProof.Rows hiding St
section
variable {X:Cx}{ct:Nat->ah}{ms:List Mo}{rk n m k:Nat}{st:bD}{rest:List bD}{a b c e tg:Expr}{f g h:EF}{p q:BF}{u w:SF}{pos:cX}{K:ae}
theorem Mq {ai:List (ah×df)}{σ:St}{H:Hp}{s:aj}{l:ah}{xs:List V}(I:Inv X ai σ H s)(hH:Rd H l (.lst xs)):xs.length<=sizeLine/\∃(cx:List aa) (n:Nat),bR xs cx/\xs.length=cx.length/\s.heap.get? l=some { cls:=.type "list",data:=.seq cx.toArray n }:=by
  obtain⟨z,cx,n,r,e⟩:=hH.ok I.hok
  exact⟨z,cx,n,r,r.length,e⟩
def zE (K:ae):R2:=λx y H Q=>∃l b xs zs,x=.ref l/\y=.ref b/\gz K H l xs/\gz K H b zs/\xs.length+zs.length<=sizeLine/\∀p,H p=none->Q (.ref p) (cY H p (.lst (xs++zs)))
theorem zqt:gM X (d9 .Add) (zE X.K):=by
 intro ai s σ H x y v u Q I rx ry h
 obtain⟨l,b,xs,zs,rfl,rfl,hH,hB,hz,q⟩:=h
 cases rx
 cases ry
 obtain⟨cx,r,⟨⟨cls,dd,data,sl⟩,n,e,c1,c2,c3⟩,z⟩:=I.list hH
 obtain⟨xG,r2,⟨⟨Kv,wU,data2,sZ⟩,n2,e2,c4,c5,c6⟩,z2⟩:=I.list hB
 simp only at c1 c3 c4 c6
 subst c1 c3 c4 c6
 have hl:=r.length
 have A7:=r2.length
 refine tO ⟨_,e,rfl⟩ ⟨_,e2,rfl⟩ noFill_list_add seq_list_add PySem.F.slot_list_add PySem.F.entry_list_add (PySem.F.args_list_add_2 _ _) (list_addW l b cx.toArray xG.toArray n n2 dd wU sl sZ (by rw[aL,aL];omega)) ⟨e,e2,?_⟩
 have ea:cx.toArray++xG.toArray=(cx++xG).toArray:=by simp
 rw[ea]
 exact⟨.ref _,_,I.lnew (t':=s.toks) (r.append r2) (by rw[aX];omega),rfl,q _ I.fresh⟩
def Hj:R2:=λx y H Q=>∃i j,x=.str i/\y=.str j/\i.length+j.length<=sizeLine/\Q (.str (i++j)) H
def Bv (K:ae):R2:=λx y H Q=>qN (λi j=>.int (i+j)) x y H Q\/Hj x y H Q\/zE K x y H Q\/zF K x y H Q
theorem zqu:gM X (d9 .Add) (Bv X.K):=gM.or zst (gM.or ZE (gM.or zqt zp3))
def fN:D->D->Option D
 |.int i,.int j=>some (.int (i+j))
 |.str x,.str y=>if x.length+y.length<=16777216 then some (.str (x++y))else none
 |.lst xs,.lst ys=>if xs.length+ys.length<=16777216 then some (.lst (xs++ys))else none
 |.tup xs,.tup ys=>if xs.isEmpty=false/\ys.isEmpty=false/\xs.length+ys.length<=1000000 then some (.tup (xs++ys))else none
 |_,_=>none
theorem Pr.ow0 {F G H:Hp}{ds:List D}{vs:List V}(h:Pr (Al K ct F G 0) ds vs):fH (Ow K ct F H 0) ds vs []:=fH.ofPr (h.mono λ_ _ q=>⟨q,rfl⟩)
theorem Al.lst1 {F G:Hp}{ds:List D}{v:V}(hn:n<=1)(h:Al K ct F G n (.lst ds) v)(s:bC F G):∃a vs,v=.ref a/\gz K G a vs/\Pr (Al K ct F G 0) ds vs:=by
 obtain⟨a,vs,e,h1,h2⟩:=h.lst s
 have:n-1=0:=by omega
 rw[this]at h2
 exact⟨a,vs,e,h1,h2⟩
theorem Al.tup1 {F G:Hp}{ds:List D}{v:V}(hn:n<=1)(h:Al K ct F G n (.tup ds) v)(s:bC F G):∃a vs,v=.ref a/\G a=some (.tup vs)/\Pr (Al K ct F G 0) ds vs:=by
 obtain⟨a,vs,e,h1,h2⟩:=h.tup s
 have:n-1=0:=by omega
 rw[this]at h2
 exact⟨a,vs,e,h1,h2⟩
theorem BP {F H:Hp}{ds:List D}{vs:List V}{Q:VK}(s:bC F H)(hp:Pr (Al K ct F H 0) ds vs)(w:∀v F' H' fp,fL F H F' H'->Ow K ct F' H' 1 (.lst ds) v fp->fp.Nodup->(∀a∈fp,H a=none)->Q v H'):∀p,H p=none->Q (.ref p) (cY H p (.lst vs)):=λp h0=>by
 obtain⟨o,nd⟩:=R9 s (hp.ow0 (H:=H)) h0
 exact w _ F _ [p] (fL.newO s h0 _) o (nd bL) λa z=>by rw[aB]at z;subst z;exact h0
theorem zqv (hn:n<=1)(hm:m<=1):CM K ct n m 1 (Bv K) fN:=by
 intro F H x y d1 d2 d Q s l1 l2 e w
 have ws:∀d v,d.sc=true->Dt K ct F d v->(∀v F' H' fp,fL F H F' H'->Ow K ct F' H' 1 d v fp->fp.Nodup->(∀a∈fp,H a=none)->Q v H')->Q v H:=λd v hs hd w=>w v F H [] (.refl s) (Ow.scal hd hs) bL λa z=>(by cases z)
 cases d1 with
 |int i=>
  cases d2 with
  |int j=>cases e;exact .inl ⟨i,j,l1.int,l2.int,ws _ _ rfl (.int _) w⟩
  |_=>cases e
 |str i=>
  cases d2 with
  |str j=>
   unfold fN at e
   dsimp only at e
   by_cases hz:i.length+j.length<=16777216
   ·rw[if_pos hz]at e
    cases e
    exact .inr (.inl ⟨i,j,l1.str,l2.str,by rw[bX];exact hz,ws _ _ rfl (.str _) w⟩)
   ·rw[if_neg hz]at e;cases e
  |_=>cases e
 |lst xs=>
  cases d2 with
  |lst ys=>
   unfold fN at e
   dsimp only at e
   by_cases hz:xs.length+ys.length<=16777216
   ·rw[if_pos hz]at e
    cases e
    obtain⟨a,vs,rfl,ha,hp⟩:=Al.lst1 hn l1 s
    obtain⟨b,us,rfl,hb,hq⟩:=Al.lst1 hm l2 s
    exact .inr (.inr (.inl ⟨a,b,vs,us,rfl,rfl,ha,hb,by rw[←hp.length,←hq.length,bX];exact hz,BP s (hp.append hq) w⟩))
   ·rw[if_neg hz]at e;cases e
  |_=>cases e
 |tup xs=>
  cases d2 with
  |tup ys=>
   unfold fN at e
   dsimp only at e
   by_cases hz:xs.isEmpty=false/\ys.isEmpty=false/\xs.length+ys.length<=1000000
   ·rw[if_pos hz]at e
    cases e
    obtain⟨a,vs,rfl,ha,hp⟩:=Al.tup1 hn l1 s
    obtain⟨b,us,rfl,hb,hq⟩:=Al.tup1 hm l2 s
    have hl:=hp.length
    have A7:=hq.length
    have e1:vs≠[]:=λz=>by
     rw[z]at hl
     have:=pf.mp hl
     rw[this]at hz
     exact absurd hz.1 (by decide)
    have e2:us≠[]:=λz=>by
     rw[z]at A7
     have:=pf.mp A7
     rw[this]at hz
     exact absurd hz.2.1 (by decide)
    refine .inr (.inr (.inr ⟨a,b,vs,us,rfl,rfl,lE.of ha,lE.of hb,e1,by rw[←hl,←A7,bX];omega,λz=>absurd z e2,λ_ p h0=>?_⟩))
    have x2:=fL.newS s h0 (.tup (vs++us))
    exact w _ _ _ [] x2 (.inr (.tup zt (fH.ofPr ((hp.append hq).mono λ_ _ q=>⟨Dt.mono x2.ff q,rfl⟩)))) bL λa z=>(by cases z)
   ·rw[if_neg hz]at e;cases e
  |_=>cases e
 |_=>cases e
def Hq:R2:=λx y H Q=>∃l k xs,x=.ref l/\y=.int k/\Rd H l (.lst xs)/\-(2 ^ 63)<=k/\k<2 ^ 63/\xs.length*k.toNat<=sizeLine /\
 ∀p,H p=none->Q (.ref p) (cY H p (.lst (ax k.toNat xs).flatten))
theorem zqw:gM X (d9 .Mult) Hq:=by
 intro ai s σ H x y v u Q I rx ry h
 obtain⟨l,k,xs,rfl,rfl,hH,h1,h2,hz,q⟩:=h
 cases rx
 obtain⟨t,rfl⟩:=ry
 obtain⟨z,cx,n,r,hl,e⟩:=Mq I hH
 have gC:cx.toArray.size*k.toNat<=sizeLine:=by rw[aL,←hl];exact hz
 have iH:¬cx.toArray.size*k.toNat > (2 ^ 63-1)/8:=by
  have:(sizeLine:Nat)<=(2 ^ 63-1)/8:=by decide
  omega
 have LU:¬(!di.List.listFitsIndex k)=true:=by
  rw[fitsIndex_both h1 h2]
  exact aJ
 have Fi:¬di.List.listTooLong (cx.toArray.size*k.toNat)=true:=by
  rw[uW gC]
  exact aJ
 have L4:sx (λx1 x2=>x1++x2) #[] (ax (if cx.toArray.isEmpty=true then 0 else k.toNat) cx.toArray)=(ax k.toNat cx).flatten.toArray:=by
  have f0:∀m:Nat,sx (λx1 x2=>x1++x2) #[] (ax m cx.toArray)=(ax m cx).flatten.toArray:=λm=>by
   have:=Q2 cx m []
   rw[vK]at this
   exact this
  rw[f0]
  cases cx with
  |nil=>simp
  |cons a r'=>rw[if_neg (by simp)]
 refine wpAny_binaryOp_repeat_ref (T:="list") (U:="int") (by decide) ⟨_,e,rfl⟩ (λs'=>yH s' k t) noFill_list_mul F.fills_int_mul F.slot_int_rmul repeat_list F.slot_int_index.lookup
  (mD F.slot_int_rmul (yH s k t) F.entry_int_rmul (F.args_int_rmul_2 _ _) (int___rmul___int_list k t l cx.toArray n)
   ⟨e,rfl,⟨_,e,rfl⟩,mD F.slot_list_mul ⟨_,e,rfl⟩ F.entry_list_mul (F.args_list_mul_2 _ _) (AutoListH.list___mul___list_int_3 l cx.toArray n k t LU iH Fi) ⟨e,?_⟩⟩)
 rw[L4]
 exact⟨.ref _,_,I.lnew (t':=s.toks) (r.rep k.toNat) (by rw[zp6,Nat.mul_comm];exact hz),rfl,q _ I.fresh⟩
theorem wa:nv K ct n m k (rI nV λi j=>.int (i*j)) eD:=zqo
def nO:D->D->Option D
 |.lst xs,.int j=>if -1000000<j/\j<1000000/\xs.length<=16 then some (.lst (ax j.toNat xs).flatten)else none
 |_,_=>none
theorem NW (ha:XO X ct ms 1 a f)(hb:XE X ct ms m b g):XO X ct ms 1 (.BinOp a .Mult b pos) (e2 nO f g):=by
 obtain⟨ta,pa,qa⟩:=ha
 obtain⟨tb,pb,qb⟩:=hb
 refine⟨_,Oi zqw pa pb,λF0 B F H ρ σ d Q rs e w=>?_⟩
 obtain⟨d1,d2,h1,h2,h3⟩:=dB e
 refine qa F0 B F H ρ σ d1 _ rs h1 λv F1 H1 fp x1 o nd hf=>?_
 refine qb F0 B F1 H1 ρ σ d2 _ (rs.ext x1) h2 λv2 F2 H2 x2 l2=>?_
 cases d1 with
 |lst xs=>
  cases d2 with
  |int j=>
   unfold nO at h3
   dsimp only at h3
   by_cases hz:-1000000<j/\j<1000000/\xs.length<=16
   ·rw[if_pos hz]at h3
    cases h3
    obtain⟨ad,vs,fr,rfl,rfl,hF,hH,ol⟩:=(o.ext x2).lst_inv
    have hp:Pr (Al X.K ct F2 H2 0) xs vs:=ol.pr λ_ _ _ _ q=>q.1
    have Qh:=x1.trans x2
    refine⟨ad,j,vs,rfl,l2.int,.inl hH,by omega,by omega,?_,BP x2.fh (hp.rep _) λv F' H' fp x o nd hf=>w v F' H' fp (Qh.trans x) o nd λz hz=>Qh.hh.free (hf z hz)⟩
    rw[←hp.length,bX]
    have h1:j.toNat<=1000000:=by omega
    have h2:xs.length*j.toNat<=16*1000000:=yE hz.2.2 h1
    omega
   ·rw[if_neg hz]at h3;cases h3
  |_=>cases h3
 |_=>cases h3
def uU:D->Option D
 |.int i=>some (.int (-i))
 |_=>none
theorem NX (ha:XE X ct ms n a f):XE X ct ms k (.UnaryOp .USub a pos) (e1 uU f):=by
 refine zu5 zsv (λF H x d1 d Q s l e w=>?_) ha
 cases d1 with
 |int i=>cases e;exact⟨i,l.int,w _ F H (.refl s) (Al.of (.int _))⟩
 |_=>cases e
theorem HM {x:aK}{d:D}{u:aa}(hg:Gl X x)(hm:X.mg x=some u)(hs:d.sc=true)(r:RelV d.v u)(hd:(x==("__debug__":aK))=false:=by decide):XE X ct ms n (.Name x pos) (eC d):=by
 refine⟨_,R3 hg hm r hd,λF0 B F H ρ σ d' Q rs e w=>?_⟩
 cases e
 refine w _ F H (.refl rs.fh) (Al.of ?_)
 cases d with
 |non=>exact .non
 |bl b=>exact .bl b
 |int b=>exact .int b
 |str b=>exact .str b
 |_=>cases hs
def lU:List D->Option D
 |[.lst ds]=>some (.lst ds)
 |[.tup ds]=>some (.lst ds)
 |_=>none
theorem Nq (hn:n<=1):zV K ct [n] 1 (λxs H Q=>∃p ys,xs=[.ref p]/\(gz K H p ys\/lE K H p ys)/\∀l,H l=none->Q (.ref l) (cY H l (.lst ys))) lU:=by
 intro F H vs ds d Q s l e w
 cases l with
 |cons h t=>
  cases t
  rename_i d1 v
  cases d1 with
  |lst xs=>
   cases e
   obtain⟨a,us,rfl,ha,hp⟩:=Al.lst1 hn h s
   exact⟨a,us,rfl,.inl ha,BP s hp w⟩
  |tup xs=>
   cases e
   obtain⟨a,us,rfl,ha,hp⟩:=Al.tup1 hn h s
   exact⟨a,us,rfl,.inr (lE.of ha),BP s hp w⟩
  |_=>cases e
abbrev PF:=Env->Option (Option Int)
def pNo:PF:=λ_=>some none
def pInt (f:EF):PF:=λρ=>(f ρ).bind λd=>match d with
 |.int i=>some (some i)
 |_=>none
def XP (X:Cx)(ct:Nat->ah)(ms:List Mo)(e:Option Expr)(f:PF):Prop:=∃t,PO X e t/\∀(F0 B F H:Hp) (ρ:Env) (σ:St) (o:Option Int) (Q:Option Int->Hp->Prop),RS X.K ct F0 B ms F H ρ σ->f ρ=some o->(∀F' H',fL F H F' H'->Q o H')->t σ H Q
theorem zvb:XP X ct ms none pNo:=⟨_,zp1,λF0 B F H ρ σ o Q rs e w=>by cases e;exact w F H (.refl rs.fh)⟩
theorem NH (h:XE X ct ms n e f):XP X ct ms (some e) (pInt f):=by
 obtain⟨t,pt,qt⟩:=h
 refine⟨_,zp2 pt,λF0 B F H ρ σ o Q rs e w=>?_⟩
 obtain⟨d,h1,h2⟩:=aU e
 refine qt F0 B F H ρ σ d _ rs h1 λv F' H' x l=>?_
 cases d with
 |int i=>cases h2;exact⟨i,l.int,w F' H' x⟩
 |_=>cases h2
def cutD (xs:List D)(lo hi:Option Int):List D:=(xs.drop (HT.sIx xs.length 0 lo)).take (HT.sIx xs.length xs.length hi-HT.sIx xs.length 0 lo)
theorem zqx {R:D->V->Prop}{ds:List D}{vs:List V}{lo hi:Option Int}(h:Pr R ds vs):Pr R (cutD ds lo hi) (sO vs lo hi):=by
 unfold cutD sO
 rw[h.length]
 exact(h.drop _).take _
def nc (d:D)(lo hi:Option Int):Option D:=match d with
 |.lst xs=>some (.lst (cutD xs lo hi))
 |_=>none
theorem Ro {lo hi:Option Expr}{pl ph:PF}{p1}(hn:n<=1)(he:XE X ct ms n e f)(hl:XP X ct ms lo pl)(hh:XP X ct ms hi ph):XO X ct ms 1 (.Subscript e (.Slice lo hi none p1) pos) (λρ=>(f ρ).bind λd=>(pl ρ).bind λl=>(ph ρ).bind λh=>nc d l h):=by
 obtain⟨t,pt,qt⟩:=he
 obtain⟨t1,sW,sX⟩:=hl
 obtain⟨t2,oT,oV⟩:=hh
 refine⟨_,zmy zp5 pt sW oT,λF0 B F H ρ σ r Q rs e w=>?_⟩
 obtain⟨d,l,h1,h2,h3⟩:=dB e
 obtain⟨hh,h4,h5⟩:=aU h3
 refine qt F0 B F H ρ σ d _ rs h1 λv F1 H1 x1 l1=>?_
 refine sX F0 B F1 H1 ρ σ l _ (rs.ext x1) h2 λF2 H2 x2=>?_
 refine oV F0 B F2 H2 ρ σ hh _ ((rs.ext x1).ext x2) h4 λF3 H3 x3=>?_
 cases d with
 |lst xs=>
  cases h5
  have wB:=x2.trans x3
  obtain⟨a,vs,rfl,ha,hp⟩:=Al.lst1 hn (l1.mono wB.ff wB.hh) wB.fh
  exact⟨a,vs,rfl,ha,BP wB.fh (zqx hp) λv F' H' fp x o nd hf=>w v F' H' fp ((x1.trans wB).trans x) o nd λz hz=>(x1.trans wB).hh.free (hf z hz)⟩
 |_=>cases h5
def Aa:List D->Option D
 |[.int i]=>some (.int (if i<0 then -i else i))
 |_=>none
theorem zqy:vN K ct [n] k (λxs H Q=>∃i,xs=[.int i]/\Q (.int (if i<0 then -i else i)) H) Aa:=by
 intro F H vs ds d Q s l e w
 cases l with
 |cons h t=>
  cases t
  rename_i d1 v
  cases d1 with
  |int i=>cases e;exact⟨i,by rw[h.int],w _ F H (.refl s) (Al.of (.int _))⟩
  |_=>cases e
def ii (g:Int->Int->D):List D->Option D
 |[.int i,.int j]=>some (g i j)
 |_=>none
theorem ztp {g:Int->Int->D}{gv:Int->Int->V}(hg:∀i j F,Dt K ct F (g i j) (gv i j)):vN K ct [n,m] k (λxs H Q=>∃i j,xs=[.int i,.int j]/\Q (gv i j) H) (ii g):=by
 intro F H vs ds d Q s l e w
 cases l with
 |cons h t=>
  cases t with
  |cons h' t=>
   cases t
   rename_i d1 v d2 v2
   cases d1 with
   |int i=>
    cases d2 with
    |int j=>cases e;exact⟨i,j,by rw[h.int,h'.int],w _ F H (.refl s) (Al.of (hg i j F))⟩
    |_=>cases e
   |_=>cases e
def uT:List D->Option D:=ii λi j=>.int (if j > i then j else i)
def Gx:List D->Option D:=ii λi j=>.int (if j<i then j else i)
theorem zne:vN K ct [n,m] k (λxs H Q=>∃i j,xs=[.int i,.int j]/\Q (.int (if j > i then j else i)) H) uT:=ztp λ_ _ _=>.int _
def BB (i:Nat)(o:D->D->Option D)(f:EF):SF:=λρ=>(eV i ρ).bind λx=>(f ρ).bind λy=>(o x y).bind λd=>some (.nx (ρ.set i (some d)))
theorem ztq {op:jT}{i:Nat}{x:aK}{pos':cX}{gi:Int->Int->Int}(ho:B0 X op (IQ gi))(hm:ms[i]?=some (.ow k))(hN:X.N.Nodup)(hi:X.N[i]?=some x)(hx:Loc X.env.scope x)(he:XE X ct ms n e f)(hf:X.fn x=true\/X.env.scope.names.lookup x=some .local:=by first|exact .inl rfl|exact .inr rfl|assumption) :
  XS X ct ms rk (.AugAssign (.Name x pos') op e pos) (BB i (i2 λi j=>.int (gi i j)) f):=by
 obtain⟨t,pt,qt⟩:=he
 refine⟨_,zsr hN hi hx pt ho hf,λF0 B F H ρ σ o E rs e z=>?_⟩
 obtain⟨d1,d2,h1,h2,h3⟩:=dB e
 obtain⟨d,h4,h5⟩:=aU h3
 cases h5
 obtain⟨v,hv,l⟩:=rs.get hm (zx h1)
 refine⟨v,hv,qt F0 B F H ρ σ d2 _ rs h2 λy F' H' x1 l2=>?_⟩
 cases d1 with
 |int i'=>
  cases d2 with
  |int j'=>
   cases h4
   exact⟨i',j',l.int,l2.int,z _ F' H' (rs.set hm x1 (Ow.scal (.int _) rfl) bL λa z=>(by cases z))⟩
  |_=>cases h4
 |_=>cases h4
def sPar (i j:Nat)(fs:Env->Option (List D)):SF:=λρ=>(fs ρ).bind λds=>match ds with
 |[x,y]=>some (.nx ((ρ.set i (some x)).set j (some y)))
 |_=>none
def sAsg (g:D->Env->Option Env)(f:EF):SF:=λρ=>(f ρ).bind λd=>(g d ρ).bind λρ'=>some (.nx ρ')
theorem ztr {gg:D->Env->Option Env}(he:XE X ct ms 0 e f)(hg:XG X ct ms 0 tg gg)(hs:ml [tg] e pos.line X.env=pure false:=by rfl)(hw:mj [tg] e X.env=pure none:=by rfl)
  (h1:(cZ [tg] X.env).map (·.2)=[gW tg X.env]:=by rfl):XS X ct ms rk (.Assign [tg] e pos) (sAsg gg f):=by
 obtain⟨t,pt,qt⟩:=he
 obtain⟨t2,oT,oV⟩:=hg
 refine⟨_,NU pt oT hs hw h1,λF0 B F H ρ σ o E rs e z=>?_⟩
 obtain⟨d,h1,h2⟩:=aU e
 obtain⟨ρ',h3,h4⟩:=aU h2
 cases h4
 exact qt F0 B F H ρ σ d _ rs h1 λv F' H' x l=>oV F0 B F' H' ρ ρ' σ d v _ (rs.ext x) l h3 λσ' r=>z σ' F' H' r
end
end L3
namespace L3
open PySem PySem.Spec L2
open PyProof.Rows hiding St
def iD:List Nat->List Mo->Bool
 |[],_=>true
 |n::ns,.al m::ms=>decide (n=m)&&iD ns ms
 |n::ns,.ow m::ms=>decide (n=0)&&decide (m=0)&&iD ns ms
 |_,_=>false
theorem u4:∀{pm:List Nat} {ms:List Mo},iD pm ms=true->∀(i n:Nat),pm[i]?=some n->ms[i]?=some (Mo.al n)\/(n=0/\ms[i]?=some (Mo.ow 0))
 |[],_,_,i,n,e=>by simp at e
 |x::ns,.al m::ms,h,i,n,e=>by
  simp only[iD,bS,decide_eq_true_eq]at h
  cases i with
  |zero=>simp at e;subst e;rw[h.1];exact .inl rfl
  |succ i=>simpa using u4 h.2 i n (by simpa using e)
 |x::ns,.ow m::ms,h,i,n,e=>by
  simp only[iD,bS,decide_eq_true_eq]at h
  cases i with
  |zero=>simp at e;subst e;rw[h.1.1,h.1.2];exact .inr ⟨rfl,rfl⟩
  |succ i=>simpa using u4 h.2 i n (by simpa using e)
 |_::_,[],h,_,_,_=>by simp[iD]at h
 |_::_,.px _::_,h,_,_,_=>by simp[iD]at h
 |_::_,.so _::_,h,_,_,_=>by simp[iD]at h
def yN (X:Cx)(scope:gc)(N:List aK)(own:Nat)(cap:List Nat):Bool :=
 decide (scope.kind=.function)&&scope.names.all (λx=>(decide (x.2≠.cell) || decide (scope.names.lookup x.1=some .cell))&&(decide (x.2≠.local) || decide (scope.names.lookup x.1=some .local))&&(decide (x.2≠.free) || (decide (X.env.kindOf x.1=some .cell) || decide (X.env.kindOf x.1=some .free)))) &&
 decide (N.length=own+cap.length)&&(ba cap.length).all λj=>match N[own+j]?,cap[j]? with
  |some x,some i=>decide (X.N[i]?=some x)&&decide (scope.names.lookup x=some .free)
  |_,_=>false
theorem CB {X:Cx}{scope:gc}{N:List aK}{own:Nat}{cap:List Nat}(h:yN X scope N own cap=true):kP X scope N own cap:=by
 unfold yN at h
 simp only[bS,decide_eq_true_eq,lY,Bool.or_eq_true]at h
 obtain⟨⟨⟨h1,h2⟩,h3⟩,h4⟩:=h
 refine⟨h1,λx hx hl=>((h2 x hx).1.1).elim (λz=>absurd hl z) id,λx hx hl=>((h2 x hx).1.2).elim (λz=>absurd hl z) id,λx hx hf=>((h2 x hx).2).elim (λz=>absurd hf z) id,h3,λj x hj=>?_⟩
 have yS:j<cap.length:=by
  have:=(bg.mp hj).1
  omega
 have q:=h4 j (bU.mpr yS)
 rw[hj]at q
 have hc:cap[j]?=some cap[j]:=by simp[yS]
 rw[hc]at q
 simp only[bS,decide_eq_true_eq]at q
 exact⟨_,hc,q.1,q.2⟩
def Jf:D->Option String
 |.non=>some "NoneType"
 |.bl _=>some "bool"
 |.int _=>some "int"
 |.str _=>some "str"
 |.lst _=>some "list"
 |.tup _=>some "tuple"
 |.dK _ _=>some "dict"
 |_=>none
def Qe (K:ae)(H:Hp)(v:V)(t:String):Prop:=kC K H v (.type t)\/(t = "list"/\∃a xs,v=.ref a/\gz K H a xs)
theorem Al.ty {K:ae}{ct:Nat->ah}{F H:Hp}{n:Nat}{d:D}{v:V}{t:String}(s:bC F H)(h:Al K ct F H n d v)(e:Jf d=some t):Qe K H v t:=by
 cases d with
 |non=>cases e;rw[h.non];exact .inl .non
 |bl b=>cases e;rw[h.bl];exact .inl (.bl b)
 |int b=>cases e;rw[h.int];exact .inl (.int b)
 |str b=>cases e;rw[h.str];exact .inl (.str b)
 |lst xs=>
  cases e
  obtain⟨a,vs,rfl,ha,_⟩:=h.lst s
  exact .inr ⟨rfl,a,vs,rfl,ha⟩
 |tup xs=>
  cases e
  obtain⟨a,vs,rfl,ha,_⟩:=h.tup s
  exact .inl (.tup ha)
 |dK ks xs=>
  cases e
  obtain⟨a,vs,rfl,ha,_⟩:=h.dK s
  exact .inl (.dK ha)
 |_=>cases e
theorem Z7 {X:Cx}:eY X (.builtin "isinstance") (λxs H Q=>∃x c t b,xs=[x,.ty c]/\Qe X.K H x t/\bA X.K (.type t) (.type c)=some b/\Q (.bl b) H):=by
 intro ai s σ H xs us Q I r h
 obtain⟨x,c,t,b,rfl,ty,e,q⟩:=h
 rcases ty with ty|⟨rfl,a,ys,rfl,hq⟩
 ·exact zm9 ai s σ H _ us Q I r ⟨x,c,_,b,rfl,ty,e,q⟩
 ·obtain⟨u,w',rfl,ru,oW⟩:=vals2 r
  cases(show w'=aa.type c from oW)
  cases(show u=aa.ref a from ru)
  obtain⟨cx,rv,⟨o,n,h1,h2,_⟩,_⟩:=I.list hq
  exact cD kG I.kIn ⟨o,h1,h2⟩ e (λz=>nomatch z) λtk=>⟨.bl b,H,I.tok tk,rfl,q⟩
def FG (t c:String):Bool:=t==c || (t == "bool" && c == "int")
theorem zqz {K:ae}:∀t∈(["NoneType","bool","int","str","list","tuple","dict"]:List String),∀c∈(["bool","int","str","list","tuple","dict"]:List String),bA K (.type t) (.type c)=some (FG t c):=by
 intro t ht c hc
 simp only[aE,cA,or_false]at ht hc
 rcases ht with rfl|rfl|rfl|rfl|rfl|rfl|rfl<;>rcases hc with rfl|rfl|rfl|rfl|rfl|rfl<;>rfl
theorem zq0 {d:D}{t:String}(e:Jf d=some t):t∈(["NoneType","bool","int","str","list","tuple","dict"]:List String):=by
 cases d<;>simp[Jf]at e<;>subst e<;>decide
section
variable {X:Cx}{ct:Nat->ah}{ms:List Mo}{rk n m k:Nat}{a b c e tg:Expr}{f g h:EF}{pos:cX}
def rJ (c:String)(d:D):Option D:=(Jf d).bind λt=>some (.bl (FG t c))
theorem JQ {c:String}{pp p2:cX}(hc:c∈(["bool","int","str","list","tuple","dict"]:List String))(hm:X.mg "isinstance"=none)(oP:X.mg c=none)(hb:bW c=some (.type c))(he:XE X ct ms n e f)(hg:Gl X "isinstance":=by rfl)(pz:Gl X c:=by rfl)(yU:aK.ofString c≠"__name__":=by decide)(hd2:(aK.ofString c==("__debug__":aK))=false:=by decide)
  (Fu:ap [e,.Name c p2] X.env=(false,bG e X.env)::ap [.Name c p2] X.env:=by rfl) (qM:ap [.Name c p2] X.env=(false,bG (.Name c p2) X.env)::ap [] X.env:=by rfl) (gI:(cu pos (ap [.Name c p2] X.env)).any (·.1)=false:=by rfl) :
  XE X ct ms k (.Call (.Name "isinstance" pp) [e,.Name c p2] [] pos) (e1 (rJ c) f):=by
 obtain⟨t,pt,qt⟩:=he
 refine⟨_,Nl Z7 hg hm Qp (wv pt (wv (zpl (v:=.ty c) pz oP hb rfl yU hd2) jp qM) Fu) (by decide) (by decide) Fu gI,λF0 B F H ρ σ d Q rs e w=>?_⟩
 obtain⟨d1,h1,h2⟩:=aU e
 obtain⟨ty,h3,h4⟩:=aU h2
 cases h4
 exact qt F0 B F H ρ σ d1 _ rs h1 λv F' H' x l=>⟨v,c,ty,_,rfl,l.ty x.fh h3,zqz _ (zq0 h3) _ hc,w _ F' H' x (Al.of (.bl _))⟩
end
end L3
namespace L3
open PySem PySem.Spec L2
open PyProof.Rows hiding St
def oj (K:ae):Sp:=λvs H Q _=>∃(a:ah) (ns:List Int),vs=[.ref a]/\gz K H a (ns.map V.int)/\ns.length<=63/\∀H',Q (.bl true) H'
theorem Dts.ints {K:ae}{ct:Nat->ah}{F:Hp}:∀ns:List Int,Dts K ct F (ns.map D.int) (ns.map V.int)
 |[]=>.nil
 |n::ns=>.cons (.int n) (Dts.ints ns)
theorem zts {P:bn}{w:bP}{K:ae}{mg:aK->Option aa}{base:aM}{k:Nat}{f:ah}{fd:aH}{ps:List aK}{ct:Nat->ah}{m:List D->Option D}(Fn:cv P w K mg base eO k f fd ps (gX K ct [0] 0 m))
  (h:∀ns:List Int,ns.length<=63->m [.lst (ns.map .int)]=some (.bl true)):cv P w K mg base eO k f fd ps (oj K):=by
 have to:∀vs H Q E,oj K vs H Q E->gX K ct [0] 0 m vs H Q E:=by
  rintro vs H Q E ⟨a,ns,rfl,hS,hl,q⟩
  refine⟨H,[.lst (ns.map .int)],.bl true,.refl _,.cons (Dt.lst hS (Dts.ints ns)) .nil,h ns hl,λv F' H' fp x o nd hf=>?_⟩
  have hv:v=.bl true:=by
   have o:Dt K ct F' (.bl true) v/\fp=[]:=o
   cases o.1
   rfl
  subst hv
  exact q H'
 exact⟨λvs H Q E z=>Fn.len vs H Q E (to vs H Q E z),λA outer s H args us vs Q E hr e0 hb hv z=>Fn.run A outer s H args us vs Q E hr e0 hb hv (to vs H Q E z)⟩
theorem Q7 {g:D->Env->Option Env}{b:SF}(I:List D->Env->Prop)(all:List D)(st:∀pre d post ρ,all=pre++d::post->I pre ρ->∃ρ1 ρ2,g d ρ=some ρ1/\(b ρ1=some (.nx ρ2)\/b ρ1=some (.ct ρ2))/\I (pre++[d]) ρ2):∀(ds pre:List D) (ρ:Env),all=pre++ds->I pre ρ ->
  ∃ρ',iy g b ds ρ=some (.nx ρ')/\I all ρ'
 |[],pre,ρ,e,h=>⟨ρ,rfl,by rw[e,bO];exact h⟩
 |d::ds,pre,ρ,e,h=>by
  obtain⟨ρ1,ρ2,h1,h2,h3⟩:=st pre d ds ρ e h
  obtain⟨ρ',h4,h5⟩:=Q7 I all st ds (pre++[d]) ρ2 (by rw[e];simp) h3
  refine⟨ρ',?_,h5⟩
  show(g d ρ).bind _=_
  rw[h1]
  show(b ρ1).bind _=_
  rcases h2 with h2|h2<;>(rw[h2];exact h4)
theorem Nr {g:D->Env->Option Env}{b:SF}(I:List D->Env->Prop){ds:List D}{ρ:Env}(h:I [] ρ)(st:∀pre d post ρ,ds=pre++d::post->I pre ρ->∃ρ1 ρ2,g d ρ=some ρ1/\(b ρ1=some (.nx ρ2)\/b ρ1=some (.ct ρ2))/\I (pre++[d]) ρ2) :
  ∃ρ',iy g b ds ρ=some (.nx ρ')/\I ds ρ':=Q7 I ds st ds [] ρ rfl h
theorem ztt {α:Type}{all pre post:List α}{d:α}(h:all=pre++d::post):all[pre.length]?=some d:=by subst h;simp
theorem Q8 {α S:Type}{g:D->Env->Option Env}{b:SF}(enc:α->D)(st:S->Env)(f:S->α->S)(P:S->Prop):∀(xs:List α) (s:S),P s ->
  (∀s x,x∈xs->P s->∃ρ1,g (enc x) (st s)=some ρ1/\(b ρ1=some (.nx (st (f s x)))\/b ρ1=some (.ct (st (f s x))))/\P (f s x))->iy g b (xs.map enc) (st s)=some (.nx (st (xs.foldl f s)))/\P (xs.foldl f s)
 |[],s,hp,_=>⟨rfl,hp⟩
 |x::xs,s,hp,h=>by
  obtain⟨ρ1,h1,h2,h3⟩:=h s x af hp
  have ih:=Q8 enc st f P xs (f s x) h3 λs y hy=>h s y (ak _ hy)
  refine⟨?_,ih.2⟩
  show(g (enc x) (st s)).bind _=_
  rw[h1]
  show(b ρ1).bind _=_
  rcases h2 with h2|h2<;>(rw[h2];exact ih.1)
theorem Q9 {g:D->Env->Option Env}{b:SF}(I:Nat->Env->Prop)(lo:Int):∀(n k:Nat) (ρ:Env),I k ρ ->
  (∀j ρ,k<=j->j<k+n->I j ρ->∃ρ1 ρ2,g (.int (lo+(j:Int))) ρ=some ρ1/\(b ρ1=some (.nx ρ2)\/b ρ1=some (.ct ρ2))/\I (j+1) ρ2) ->
  ∃ρ',iy g b ((eE k n).map λ(t:Nat)=>D.int (lo+(t:Int))) ρ=some (.nx ρ')/\I (k+n) ρ'
 |0,k,ρ,h,_=>⟨ρ,rfl,h⟩
 |n+1,k,ρ,h,st=>by
  obtain⟨ρ1,ρ2,h1,h2,h3⟩:=st k ρ (aF _) (by omega) h
  obtain⟨ρ',h4,h5⟩:=Q9 I lo n (k+1) ρ2 h3 λj ρ hj hl hI=>st j ρ (by omega) (by omega) hI
  refine⟨ρ',?_,by rw[show k+(n+1)=k+1+n by omega];exact h5⟩
  rw[lX,aV]
  show(g _ ρ).bind _=_
  rw[h1]
  show(b ρ1).bind _=_
  rcases h2 with h2|h2<;>(rw[h2];exact h4)
theorem Jl {g:D->Env->Option Env}{b:SF}(I:Nat->Env->Prop){lo:Int}{n:Nat}{ρ:Env}(h:I 0 ρ)
  (st:∀j ρ,j<n->I j ρ->∃ρ1 ρ2,g (.int (lo+(j:Int))) ρ=some ρ1/\(b ρ1=some (.nx ρ2)\/b ρ1=some (.ct ρ2))/\I (j+1) ρ2):∃ρ',iy g b (fR lo n) ρ=some (.nx ρ')/\I n ρ':=by
 obtain⟨ρ',h1,h2⟩:=Q9 (g:=g) (b:=b) I lo n 0 ρ h λj ρ _ hj hI=>st j ρ (by omega) hI
 rw[p9]at h2
 exact⟨ρ',by unfold fR;rw[qR];exact h1,h2⟩
theorem QB {S:Type}{c:BF}{b:SF}(st:S->Env)(t:S->Bool)(f:S->S)(μ:S->Nat)(P:S->Prop)(hc:∀s,P s->c (st s)=some (t s))(hb:∀s,P s->t s=true->(b (st s)=some (.nx (st (f s)))\/b (st s)=some (.ct (st (f s))))/\P (f s)/\μ (f s) < μ s) :
  ∀(n:Nat) (s:S),P s->μ s<n->∃s',gO c b n (st s)=some (.nx (st s'))/\P s'/\t s'=false/\∃j,s'=Nat.repeat f j s
 |0,s,_,h=>absurd h (by omega)
 |n+1,s,hp,h=>by
  cases ht:t s with
  |false=>
   refine⟨s,?_,hp,ht,0,rfl⟩
   show(c (st s)).bind _=_
   rw[hc s hp,ht]
   rfl
  |true=>
   obtain⟨h1,h2,h3⟩:=hb s hp ht
   obtain⟨s',h4,h5,h6,j,h7⟩:=QB st t f μ P hc hb n (f s) h2 (by omega)
   refine⟨s',?_,h5,h6,j+1,?_⟩
   ·show(c (st s)).bind _=_
    rw[hc s hp,ht]
    show(b (st s)).bind _=_
    rcases h1 with h1|h1<;>(rw[h1];exact h4)
   ·rw[h7]
    clear h4 h5 h6 h7
    induction j with
    |zero=>rfl
    |succ j ih=>show f (Nat.repeat f j (f s))=f (Nat.repeat f (j+1) s);rw[ih]
theorem QH {c:BF}{b:SF}(I:Env->Prop)(μ:Env->Nat)(st:∀ρ,I ρ->∃t,c ρ=some t/\(t=true->∃ρ',(b ρ=some (.nx ρ')\/b ρ=some (.ct ρ'))/\I ρ'/\μ ρ' < μ ρ)) :
  ∀(n:Nat) (ρ:Env),I ρ->μ ρ<n->∃ρ',gO c b n ρ=some (.nx ρ')/\I ρ'/\c ρ'=some false
 |0,_,_,h=>absurd h (by omega)
 |n+1,ρ,hI,h=>by
  obtain⟨t,h1,h2⟩:=st ρ hI
  cases t with
  |false=>exact⟨ρ,by show(c ρ).bind _=_;rw[h1];rfl,hI,h1⟩
  |true=>
   obtain⟨ρ',h3,h4,h5⟩:=h2 rfl
   obtain⟨ρ2,h6,h7,h8⟩:=QH I μ st n ρ' h4 (by omega)
   refine⟨ρ2,?_,h7,h8⟩
   show(c ρ).bind _=_
   rw[h1]
   show(b ρ).bind _=_
   rcases h3 with h3|h3<;>(rw[h3];exact h6)
theorem NI {n k:Nat}(h:n<2 ^ k)(hk:k<=9000):n<kA:=bc h (dG (by decide) hk)
theorem JL {n:Nat}(h:n<1048576):n<kA:=NI (k:=20) h (by decide)
theorem zq1 {i j:Int}(h:j≠0):e6 (.int i) (.int j)=some (.int (i.fmod j)):=by
 unfold e6
 by_cases h0:0<j
 ·simp[h0,nQ i (by omega:0<=j)]
 ·simp[h0,h]
theorem Rp {i j:Int}(h:j≠0)(hz:Sz 9000 j):gw (.int i) (.int j)=some (.int (i.fdiv j)):=by
 unfold gw
 by_cases h0:0<j/\j<4611686018427387904
 ·simp[h0,iz i (by omega:0<=j)]
 ·have hz:j.natAbs<J7:=hz
  simp[h0,h,hz]
theorem zfu {i j:Int}(h1:0<j)(h2:j<4611686018427387904):gw (.int i) (.int j)=some (.int (i/j)):=by unfold gw;simp[h1,h2]
theorem jz {i j:Int}(h:0<j):e6 (.int i) (.int j)=some (.int (i%j)):=by unfold e6;simp[h]
theorem zdl {i j:Int}(h1:-18446744073709551616<j)(h2:j<18446744073709551616):eD (.int i) (.int j)=some (.int (i*j)):=by simp[eD,tZ,kZ,h1,h2]
theorem zan {i j:Int}(h1:-18446744073709551616<i)(h2:i<18446744073709551616):eD (.int i) (.int j)=some (.int (i*j)):=by simp[eD,tZ,kZ,h1,h2]
theorem zh6 {i j:Int}(h1:0<=j)(h2:j<=1000000)(h3:i.natAbs<18446744073709551616):sV (.int i) (.int j)=some (.int (i ^ j.toNat)):=by simp[sV,tZ,og,h1,h2,h3]
theorem zh7 {i j:Int}(h1:0<=j)(h2:j<=1000000)(h3:i.natAbs<18446744073709551616):xM (.int i) (.int j)=some (.int (i*2 ^ j.toNat)):=by simp[xM,tZ,og,h1,h2,h3]
theorem zeg {i j:Int}(h1:0<=j):sY (.int i) (.int j)=some (.int (i/2 ^ j.toNat)):=by simp[sY,tZ,h1]
theorem zh8 (i j:Int):fN (.int i) (.int j)=some (.int (i+j)):=rfl
theorem znf {xs ys:List D}(h:xs.length+ys.length<=16777216):fN (.lst xs) (.lst ys)=some (.lst (xs++ys)):=by simp[fN,h]
theorem zng {x y:aK}(h:x.length+y.length<=16777216):fN (.str x) (.str y)=some (.str (x++y)):=by simp[fN,h]
theorem zh9 (i j:Int):o4 (.int i) (.int j)=some (.int (i-j)):=rfl
theorem zk4 (i j:Int):rK (.int i) (.int j)=some (.bl (decide (i<j))):=rfl
theorem zk5 (i j:Int):zA (.int i) (.int j)=some (.bl (decide (i<=j))):=rfl
theorem zeh (i j:Int):vS (.int i) (.int j)=some (.bl (decide (j<i))):=rfl
theorem zk6 (i j:Int):Iz (.int i) (.int j)=some (.bl (decide (j<=i))):=rfl
theorem zia (i:Int):uU (.int i)=some (.int (-i)):=rfl
theorem jh (ds:List D):eU [.lst ds]=some (.int ds.length):=rfl
theorem zib (ds:List D):eU [.tup ds]=some (.int ds.length):=rfl
theorem zic (i:Int):Aa [.int i]=some (.int (if i<0 then -i else i)):=rfl
theorem zfv (i j:Int):uT [.int i,.int j]=some (.int (if j > i then j else i)):=rfl
theorem zfw (i j:Int):Gx [.int i,.int j]=some (.int (if j<i then j else i)):=rfl
theorem zk7 (neg:Bool)(d:D):mH neg d .non=some (.bl (if neg then !d.isN else d.isN)):=by cases d<;>rfl
theorem zo2 (neg b:Bool)(d:D):mH neg d (.bl b)=some (.bl (if neg then !d.isB b else d.isB b)):=by cases d<;>rfl
theorem zo3 (b:Bool):B4 (.bl b)=some b:=rfl
theorem zk8 (ds:List D):Ih (.lst ds)=some ds:=rfl
theorem zad (ds:List D)(l h:Option Int):nc (.lst ds) l h=some (.lst (cutD ds l h)):=rfl
theorem Co {j:Int}(h1:-4611686018427387904<=j)(h2:j<4611686018427387904):i8 [.int j]=some (fR 0 j.toNat):=by simp[i8,h1,h2]
theorem zq2 {α:Type}(enc:α->D){xs:List α}{i:Int}{j:Nat}{x:α}(hi:i=(j:Int)\/i=(j:Int)-xs.length)(h:xs[j]?=some x):atI (xs.map enc) i=some (enc x):=by
 have hj:=(bg.mp h).1
 unfold L2.atI L2.ixN
 rw[aq]
 rcases hi with rfl|rfl
 ·rw[if_pos (by omega),if_pos (by omega)]
  simp[h]
 ·rw[if_neg (by omega),if_pos (by omega)]
  have:((j:Int)-(xs.length:Int)+(xs.length:Int)).toNat=j:=by omega
  simp[this,h]
theorem Z8 (xs:List D)(k:Nat):cutD xs (some (k:Int)) none=xs.drop k:=by
 unfold cutD
 rw[HT.sIx_none,HT.sIx_nat]
 rcases p7 k xs.length with h|h
 ·rw[ni h,gh (by rw[gG];omega)]
 ·rw[mC h,gd (aF _),gd h]
  simp
theorem znh (xs:List D)(k l:Nat):cutD xs (some (k:Int)) (some (l:Int))=(xs.drop k).take (l-k):=by
 unfold cutD
 rw[HT.sIx_nat,HT.sIx_nat]
 rcases p7 k xs.length with h|h
 ·rw[ni h]
  rcases p7 l xs.length with g|g
  ·rw[ni g]
  ·rw[mC g,gh (by rw[gG];omega),gh (by rw[gG];omega)]
 ·rw[mC h,gd (aF _),gd h]
  simp
theorem zni {i j:Int}{n m:Nat}(h:Sz n i)(h':Sz m j)(hn:n<=100000)(hm:m<=100000):kZ i j:=.inr (.inr ⟨h.mono hn,h'.mono hm⟩)
theorem Cu {i j:Int}{n m:Nat}(h:Sz n i)(h':Sz m j)(hn:n<=100000)(hm:m<=100000):eD (.int i) (.int j)=some (.int (i*j)):=by
 have:=zni h h' hn hm
 simp[eD,tZ,this]
theorem Ra {α:Type}{g:D->Env->Option Env}{p:BF}{f:EF}{ρ0:Env}(enc:α->D)(q:α->Bool)(h:α->D):∀(xs:List α),(∀x∈xs,∃ρ1,g (enc x) ρ0=some ρ1/\p ρ1=some (q x)/\(q x=true->f ρ1=some (h x)))->n4 g p f ρ0 (xs.map enc)=some ((xs.filter q).map h)
 |[],_=>rfl
 |x::xs,H=>by
  obtain⟨ρ1,h1,h2,h3⟩:=H x af
  have ih:=Ra enc q h xs λy hy=>H y (ak _ hy)
  show(g (enc x) ρ0).bind _=_
  rw[h1]
  show(p ρ1).bind _=_
  rw[h2]
  cases hq:q x with
  |false=>
   rw[ck,if_neg aJ,o8 (by rw[hq];exact aJ)]
   exact ih
  |true=>
   rw[ck,if_pos rfl,h3 hq,o9 hq]
   show(n4 g p f ρ0 (xs.map enc)).bind _=_
   rw[ih]
   rfl
end L3
namespace L3
open PySem PySem.Spec L2
structure pD (α:Type)[DecidableEq α] where
 enc:α->D
 py:α->dk
 dep:Nat
 is:∀x,(enc x).py=some (py x)
 lay:∀x,(py x).canLay0=true
 dp:∀x,(py x).depth<=dep
 eqv:∀x y,dk.eqv (py x) (py y)=decide (x=y)
section
variable {α β γ δ ε:Type}[DecidableEq α][DecidableEq β][DecidableEq γ][DecidableEq δ][DecidableEq ε]
theorem pD.eq (E:pD α)(h:E.dep<=60){neg:Bool}(x y:α):jL neg (E.enc x) (E.enc y)=some (.bl (if neg then !decide (x=y)else decide (x=y))):=by
 have h1:oU (E.py x)=true:=by unfold oU;rw[E.lay x,decide_eq_true (bZ (E.dp x) h)];rfl
 have h2:oU (E.py y)=true:=by unfold oU;rw[E.lay y,decide_eq_true (bZ (E.dp y) h)];rfl
 unfold jL
 rw[E.is x,E.is y]
 simp only[ck]
 rw[if_pos ⟨h1,h2⟩,E.eqv]
def Ei:pD Int:=⟨.int,.int,0,λ_=>by simp[D.py],λ_=>rfl,λ_=>by simp[dk.depth],λx y=>by show(x==y)=_;by_cases h:x=y<;>simp[h]⟩
def Eb:pD Bool:=⟨.bl,.bool,0,λ_=>by simp[D.py],λ_=>rfl,λ_=>by simp[dk.depth],λx y=>by cases x<;>cases y<;>rfl⟩
def nM:Option Int->D
 |none=>.non
 |some i=>.int i
def MA:Option Int->dk
 |none=>.none
 |some i=>.int i
def Eo:pD (Option Int):=⟨nM,MA,0,λx=>by cases x<;>simp[nM,MA,D.py],λx=>by cases x<;>rfl,λx=>by cases x<;>simp[MA,dk.depth],λx y=>by
 cases x<;>cases y
 ·rfl
 ·rfl
 ·rfl
 ·rename_i a b;show(a==b)=_;by_cases h:a=b<;>simp[h]⟩
def E2 (A:pD α)(B:pD β):pD (α×β):=⟨λp=>.tup [A.enc p.1,B.enc p.2],λp=>.tuple [A.py p.1,B.py p.2],max A.dep B.dep+1,λp=>by simp[D.py,D.pys,A.is,B.is],λp=>by simp[dk.canLay0,dk.canLayAll0,A.lay,B.lay],
 λp=>by have:=A.dp p.1;have:=B.dp p.2;simp only[dk.depth,dk.depthAll];omega,λp q=>by
  simp only[dk.eqv,dk.eqvAll,A.eqv,B.eqv]
  obtain⟨a,b⟩:=p
  obtain⟨c,d⟩:=q
  by_cases h:a=c<;>by_cases g:b=d<;>simp[h,g]⟩
end
theorem zei {neg:Bool}(a b:Int):jL neg (.int a) (.int b)=some (.bl (if neg then !decide (a=b)else decide (a=b))):=Ei.eq (by decide) a b
theorem zo4 {neg:Bool}(a b:Bool):jL neg (.bl a) (.bl b)=some (.bl (if neg then !decide (a=b)else decide (a=b))):=Eb.eq (by decide) a b
theorem zq3 {neg:Bool}(a b:Option Int):jL neg (nM a) (nM b)=some (.bl (if neg then !decide (a=b)else decide (a=b))):=Eo.eq (by decide) a b
end L3
namespace L3
open PySem PySem.Spec L2
open PyProof.Rows hiding St
section
variable {X:Cx}{ct:Nat->ah}{K:ae}{n m k:Nat}
theorem IntsAre.of {ns:List Int}{us:List aa}(h:bR (ns.map V.int) us):IntsAre us ns:=ZQ h
theorem Na (hc:X.calm=true):eY X (.builtin "sum") (λxs H Q=>∃(a:ah) (ns:List Int),xs=[.ref a]/\gz X.K H a (ns.map V.int)/\Q (.int ns.sum) H):=by
 intro ai s σ H xs us Q I r h
 obtain⟨a,ns,rfl,hq,q⟩:=h
 obtain⟨u,rfl,ru⟩:=r.one
 cases(show u=aa.ref a from ru)
 obtain⟨cx,rv,pl,hz⟩:=I.list hq
 have hi:=IntsAre.of rv
 obtain⟨ys,hx⟩:=hi.allInts.items
 have Fh:s.heap.IsList a (intItems ys):=hx▸pl.isList
 refine sum_intListG (I.ok.hd hc) Fh λh' tk t' hk=>?_
 have e1:ns=ys.toList.map (·.1):=by
  rw[←nums_intItems,←hx]
  exact(show numsOf cx.toArray.toList=ns from hi.numsOf).symm
 have e2:preSum (numAt ys) ys.size=ns.sum:=by
  rw[preSum_eq,gh (by simp),e1]
 rw[e2]
 exact⟨.int ns.sum,H,I.kept (t':=tk) hk,⟨_,rfl⟩,q⟩
theorem Rb (hc:X.calm=true):eY X (.builtin "max") (λxs H Q=>∃(a:ah) (ns:List Int),xs=[.ref a]/\gz X.K H a (ns.map V.int)/\ns≠[]/\∀M,M∈ns->(∀z∈ns,z<=M)->Q (.int M) H):=by
 intro ai s σ H xs us Q I r h
 obtain⟨a,ns,rfl,hq,kD,q⟩:=h
 obtain⟨u,rfl,ru⟩:=r.one
 cases(show u=aa.ref a from ru)
 obtain⟨cx,rv,pl,hz⟩:=I.list hq
 have hi:=IntsAre.of rv
 obtain⟨ys,e⟩:=hi.allInts.items
 have jP:ns=ys.toList.map (·.1):=by rw[←hi.numsOf,←nums_intItems,←e]
 have hsz:0<ys.size:=by
  have h3:0<ns.length:=rS.mpr kD
  rw[jP,aq,dP]at h3;exact h3
 have Fh:s.heap.IsList a (intItems ys):=e▸pl.isList
 refine max_intList (I.ok.hd hc) Fh hsz λv h' tk hv hk=>?_
 obtain⟨t,rfl⟩:=intItems_at hv
 obtain⟨h1,h2⟩:=argBest_gt (numAt ys) (ys.size-1)
 refine⟨.int (numAt ys (argBest (λi j=>decide (numAt ys i > numAt ys j)) (ys.size-1))),H,I.kept (t':=tk) hk,⟨_,rfl⟩,q _ ?_ λz hz=>?_⟩
 ·rw[jP,numAt_eq];exact getD_mem (by rw[aq,dP];omega)
 ·rw[jP]at hz
  obtain⟨j,hj,rfl⟩:=mem_getD hz
  rw[aq,dP]at hj
  rw[←numAt_eq];exact h2 j (by omega)
theorem Rc:∀{bs:List Bool} {us:List aa},bR (bs.map V.bl) us->us=bs.map aa.bool
 |[],_,.nil=>rfl
 |b::bs,_,.cons r t=>by rw[Rc t];cases(show _=aa.bool b from r);rfl
theorem zla (hc:X.calm=true):eY X (.builtin "all") (λxs H Q=>∃(a:ah) (bs:List Bool),xs=[.ref a]/\gz X.K H a (bs.map V.bl)/\Q (.bl (bs.all id)) H):=by
 intro ai s σ H xs us Q I r h
 obtain⟨a,bs,rfl,hq,q⟩:=h
 obtain⟨u,rfl,ru⟩:=r.one
 cases(show u=aa.ref a from ru)
 obtain⟨cx,rv,pl,hz⟩:=I.list hq
 have hb:=Rc rv
 subst hb
 have hl:=pl.isList
 have lz:a<s.heap.objs.size:=by obtain⟨_,e,_⟩:=hl;exact aO e
 refine PySem.call_all_walk (wpAny_pyIter_list hl ?_)
 refine⟨s.heap.objs.size,[s.heap.objs.size,a],[s.heap.objs.size],(bs.map aa.bool).toArray.size,_,_,λi=>(bs[i]?).getD true,rfl,Walks.list (A:=X.A.in1) (I.ok.hd hc) _ a (bo lz) (bs.map aa.bool).toArray,
  ⟨⟨_,bH _ rfl,rfl,rfl⟩,hl.push _⟩,λi v s' Q' E' hP hQ=>?_,λh' tk hk=>?_⟩
 ·have hP:(bs.map aa.bool)[i]?=some v:=by simpa using hP
  rw[bw]at hP
  obtain⟨b,hb,rfl⟩:=bY.mp hP
  simp only[hb,Option.getD_some]at hQ
  exact fK hQ
 ·have e:((ba (bs.map aa.bool).toArray.size).all λi=>(bs[i]?).getD true)=bs.all id:=by
   rw[aL,aq];exact PyProof.Rows.LSm.range_all bs
  rw[e]
  refine⟨.bl (bs.all id),H,I.kept (t':=tk) λb o LD=>hk b o (λhm=>?_) (ar _ LD),rfl,q⟩
  rw[aB.mp hm]at LD
  exact er _ (aO LD)
def hX:List D->Option (List Int)
 |[]=>some []
 |.int i::ds=>(hX ds).bind λns=>some (i::ns)
 |_=>none
theorem QI:∀{ds:List D} {ns:List Int},hX ds=some ns->ds=ns.map .int
 |[],_,e=>by cases e;rfl
 |d::ds,ns,e=>by
  cases d with
  |int i=>
   obtain⟨ms,h1,h2⟩:=aU (show(hX ds).bind _=_ from e)
   cases h2
   rw[QI h1];rfl
  |_=>cases e
theorem Nb:∀ns:List Int,hX (ns.map .int)=some ns
 |[]=>rfl
 |n::ns=>by show(hX (ns.map .int)).bind _=_;rw[Nb ns];rfl
theorem Pr.intV {F G:Hp}:∀{ns:List Int} {vs:List V},Pr (Al K ct F G n) (ns.map .int) vs->vs=ns.map V.int
 |[],_,.nil=>rfl
 |i::ns,_,.cons h t=>by rw[Pr.intV t,h.int];rfl
def mZ:List D->Option (List Bool)
 |[]=>some []
 |.bl i::ds=>(mZ ds).bind λns=>some (i::ns)
 |_=>none
theorem QC:∀{ds:List D} {ns:List Bool},mZ ds=some ns->ds=ns.map .bl
 |[],_,e=>by cases e;rfl
 |d::ds,ns,e=>by
  cases d with
  |bl i=>
   obtain⟨ms,h1,h2⟩:=aU (show(mZ ds).bind _=_ from e)
   cases h2
   rw[QC h1];rfl
  |_=>cases e
theorem Pr.blV {F G:Hp}:∀{ns:List Bool} {vs:List V},Pr (Al K ct F G n) (ns.map .bl) vs->vs=ns.map V.bl
 |[],_,.nil=>rfl
 |i::ns,_,.cons h t=>by rw[Pr.blV t,h.bl];rfl
def Gw:List Int->Option Int
 |[]=>none
 |x::xs=>some (xs.foldl max x)
theorem QR:∀(xs:List Int) (x:Int),(xs.foldl max x=x\/xs.foldl max x∈xs)/\x<=xs.foldl max x/\∀z∈xs,z<=xs.foldl max x
 |[],x=>⟨.inl rfl,fV _,λz h=>by cases h⟩
 |y::xs,x=>by
  obtain⟨h1,h2,h3⟩:=QR xs (max x y)
  refine⟨?_,by show x<=xs.foldl max (max x y);omega,λz hz=>?_⟩
  ·rcases h1 with h1|h1
   ·show xs.foldl max (max x y)=x\/xs.foldl max (max x y)∈y::xs
    rw[h1]
    rcases Int.le_total x y with h|h
    ·rw[Int.max_eq_right h];exact .inr af
    ·rw[Int.max_eq_left h];exact .inl rfl
   ·exact .inr (ak _ h1)
  ·rcases aE.mp hz with rfl|hz
   ·show z<=xs.foldl max (max x z);omega
   ·exact h3 z hz
theorem RC {ns:List Int}{M:Int}(h:Gw ns=some M):M∈ns/\∀z∈ns,z<=M:=by
 cases ns with
 |nil=>cases h
 |cons x xs=>
  cases h
  obtain⟨h1,h2,h3⟩:=QR xs x
  refine⟨?_,λz hz=>?_⟩
  ·rcases h1 with h1|h1
   ·rw[h1];exact af
   ·exact ak _ h1
  ·rcases aE.mp hz with rfl|hz
   ·exact h2
   ·exact h3 z hz
def vC:List D->Option D
 |[.lst ds]=>(hX ds).bind λns=>some (.int ns.sum)
 |_=>none
def rN:List D->Option D
 |[.lst ds]=>(hX ds).bind λns=>(Gw ns).bind λM=>some (.int M)
 |_=>none
def CQ:List D->Option D
 |[.lst ds]=>(mZ ds).bind λbs=>some (.bl (bs.all id))
 |_=>none
theorem RD {F H:Hp}{vs:List V}{ds:List D}{ns:List Int}(s:bC F H)(l:jK K ct F H [n] [.lst ds] vs)(e:hX ds=some ns):∃a,vs=[.ref a]/\gz K H a (ns.map V.int):=by
 cases l with
 |cons h t=>
  cases t
  obtain⟨a,us,rfl,ha,hp⟩:=h.lst s
  have:=QI e
  subst this
  have:=hp.intV
  subst this
  exact⟨a,rfl,ha⟩
theorem NJ:vN K ct [n] k (λxs H Q=>∃(a:ah) (ns:List Int),xs=[.ref a]/\gz K H a (ns.map V.int)/\Q (.int ns.sum) H) vC:=by
 intro F H vs ds d Q s l e w
 match ds,l,e with
 |[.lst xs],l,e=>
  obtain⟨ns,h1,h2⟩:=aU (show(hX xs).bind _=_ from e)
  cases h2
  obtain⟨a,rfl,ha⟩:=RD s l h1
  exact⟨a,ns,rfl,ha,w _ F H (.refl s) (Al.of (.int _))⟩
theorem Sk:vN K ct [n] k (λxs H Q=>∃(a:ah) (ns:List Int),xs=[.ref a]/\gz K H a (ns.map V.int)/\ns≠[]/\∀M,M∈ns->(∀z∈ns,z<=M)->Q (.int M) H) rN:=by
 intro F H vs ds d Q s l e w
 match ds,l,e with
 |[.lst xs],l,e=>
  obtain⟨ns,h1,h2⟩:=aU (show(hX xs).bind _=_ from e)
  obtain⟨M,h3,h4⟩:=aU h2
  cases h4
  obtain⟨a,rfl,ha⟩:=RD s l h1
  obtain⟨m1,m2⟩:=RC h3
  refine⟨a,ns,rfl,ha,(λz=>by rw[z]at m1;cases m1),λM' h5 h6=>?_⟩
  have:M'=M:=Int.le_antisymm (m2 M' h5) (h6 M m1)
  subst this
  exact w _ F H (.refl s) (Al.of (.int _))
theorem zq4:vN K ct [n] k (λxs H Q=>∃(a:ah) (bs:List Bool),xs=[.ref a]/\gz K H a (bs.map V.bl)/\Q (.bl (bs.all id)) H) CQ:=by
 intro F H vs ds d Q s l e w
 match ds,l,e with
 |[.lst xs],l,e=>
  obtain⟨bs,h1,h2⟩:=aU (show(mZ xs).bind _=_ from e)
  cases h2
  cases l with
  |cons h t=>
   cases t
   obtain⟨a,us,rfl,ha,hp⟩:=h.lst s
   have:=QC h1
   subst this
   have:=hp.blV
   subst this
   exact⟨a,bs,rfl,ha,w _ F H (.refl s) (Al.of (.bl _))⟩
end
end L3
namespace L3
open PySem PySem.Spec L2
open PyProof.Rows hiding St
def kr (H:Hp)(x:ah):Hp:=λb=>if b=x then none else H b
theorem Cp (H:Hp)(x:ah):bC (kr H x) H:=λb o h=>by
 unfold kr at h
 by_cases e:b=x
 ·rw[if_pos e]at h;cases h
 ·rw[if_neg e]at h;exact h
theorem HN (H:Hp)(x:ah):kr H x x=none:=if_pos rfl
theorem u2 {H:Hp}{x b:ah}(h:b≠x):kr H x b=H b:=if_neg h
def uE (K:ae)(ct:Nat->ah)(cs:List Nat)(pm:List Nat)(mi:Nat->List D->Option D):Sp:=λvs H Q _=>∃(F:Hp) (c:Nat) (ds:List D) (d:D) (x dx:ah) (us:List V),c∈cs/\vs=.ref x::us/\H x=some (.ins (ct c) dx [])/\F x=none/\bC F H/\jK K ct F (kr H x) pm ds us/\mi c ds=some d /\
 ∀F' H',bC F F'->bC (kr H x) H'->bC F' H'->(∀a o,kr H x a=some o->F a=none->F' a=none)->F' x=none->Ow K ct F' H' 1 d (.ref x) [x]->Q .non H'
theorem uE.len {K:ae}{ct:Nat->ah}{cs pm:List Nat}{mi:Nat->List D->Option D}{ps:List aK}(h:pm.length+1=ps.length):∀vs H Q E,uE K ct cs pm mi vs H Q E->vs.length=ps.length:=by
 rintro vs H Q E ⟨F,c,ds,d,x,dx,us,_,rfl,_,_,_,l,_⟩
 rw[aC,l.length,h]
def Bn (N:List aK)(b:SF)(c:Nat)(ds:List D):Option D:=(b (some (.obj c [] [])::startD N.tail ds)).bind λo=>match o with
 |.nx ρ=>(ρ[0]?).join
 |_=>none
section
variable {X:Cx}{ct:Nat->ah}{ms:List Mo}{rk n m k:Nat}{a b c e tg:Expr}{f g h:EF}{u w:SF}{pos:cX}
theorem qr {P:bn}{w:bP}{K:ae}{mg:aK->Option aa}{base:aM}{x qual:aK}{st:bD}{fa:ah}{fd:aH}{N0:aK}{N ps:List aK}{kk:Nat}{cs pm:List Nat}{bf:SF}(Fn:Fun2 K x qual st fa fd)(S:bu (N0::N) ps (aQ st))(xC:pm.length+1=ps.length)(Fl:ms.length=N.length)(se:pm.length<=N.length)
  (Bc:∀(i n:Nat),pm[i]?=some n->ms[i]?=some (Mo.al n)\/(n=0/\ms[i]?=some (Mo.ow 0)))
  (body:∀(x:ah) (gu:aa) (A:bx) (outer:List PySem.Env) (s:aj) (H:Hp) (E:XK),dU kk (A.deeper (envOfC qual (aQ st) s.heap.objs.size fa gu))->qH (lF eO P w K mg base (N0::N) qual (aQ st) fa gu A outer s H E).nox ct (.so x::ms) rk (fY st) bf) :
  cv P w K mg base eO (kk+1) fa fd ps (uE K ct cs pm (Bn (N0::N) bf)):=by
 refine Fn.ok S (uE.len xC) λgu A outer s H vs Q E hr h=>?_
 obtain⟨F,c,ds,d,x,dx,us,hc,rfl,hx,hF,sF,l,hm,q⟩:=h
 obtain⟨t,pt,qt⟩:=body x gu A outer s H E hr
 refine⟨t,pt,?_⟩
 obtain⟨o,h1,h2⟩:=aU hm
 have hdl:ds.length=us.length:=l.length'
 have Md:us.length=pm.length:=l.length
 have ow:Ow K ct F H 1 (.obj c [] []) (.ref x) [x]:=.inr (vO.obj (vs:=[]) hF hx rfl .nil)
 have XB:bC F (kr H x):=λb o hb=>by
  rw[u2 (λe=>by rw[e,hF]at hb;cases hb)]
  exact sF _ _ hb
 refine qt F (kr H x) F H (some (.obj c [] [])::startD N ds) (L2.start (N0::N) (.ref x::us)) o _ ⟨.refl _,Cp H x,sF,λ_ _ _ h=>h,[x],?_,by simp,λa z=>by rw[aB]at z;subst z;exact HN H _⟩ h1 ?_
 ·have e:L2.start (N0::N) (.ref x::us)=some (.ref x)::(us.map some++ax (N.length-us.length) none):=by
   unfold L2.start
   simp
  rw[e]
  unfold startD
  rw[hdl]
  exact SL.so (fp:=[]) ow (SL.start _ l Bc (by omega))
 ·cases o with
  |nx ρ=>
   intro σ F' H' r
   obtain⟨fp,sl,nd,hb⟩:=r.sl
   cases sl with
   |no _=>cases h2
   |so Bt _=>
    cases h2
    exact q F' H' r.f0 r.bh r.fh r.nf (Bt.cells x af).1 Bt
  |rt d'=>cases h2
  |bk ρ=>cases h2
  |ct ρ=>cases h2
end
end L3
namespace L3
open PySem PySem.Spec L2
open PyProof.Rows hiding St
theorem RE {f:aK}{y:V}:∀{ns:List aK} {vs:List V},ns.length=vs.length->ns.contains f=false->jG f y (ns.zip vs)=(ns++[f]).zip (vs++[y])
 |[],[],_,_=>rfl
 |[],_::_,h,_=>by simp at h
 |_::_,[],h,_=>by simp at h
 |n::ns,v::vs,h,hc=>by
  rw[kL,qP]at hc
  have hn:¬n=f:=λe=>by rw[e]at hc;simp at hc
  have ih:=RE (f:=f) (y:=y) (ns:=ns) (vs:=vs) (by simpa using h) hc.2
  show jG f y ((n,v)::ns.zip vs)=(n,v)::(ns++[f]).zip (vs++[y])
  rw[←ih]
  show(if n=f then _ else _)=_
  rw[if_neg hn]
theorem Ow.obj_inv {ct:Nat->ah}{K:ae}{F H:Hp}{c k:Nat}{ns:List aK}{ds:List D}{v:V}{fp:List ah}(h:Ow K ct F H (k+1) (.obj c ns ds) v fp):∃a dx vs fr,v=.ref a/\fp=a::fr/\F a=none/\H a=some (.ins (ct c) dx (ns.zip vs))/\ns.length=vs.length/\fH (Ow K ct F H k) ds vs fr:=by
 rcases h with⟨h,_⟩|h
 ·cases h
 ·cases h with
  |obj h1 h2 h3 h4=>exact⟨_,_,_,_,rfl,rfl,h1,h2,h3,h4⟩
section
variable {X:Cx}{ct:Nat->ah}{ms:List Mo}{rk n m k:Nat}{a b c e tg:Expr}{f g h:EF}{u w:SF}{pos:cX}{x0:ah}
def ie (cs:List Nat)(x:aK)(f:EF):SF:=λρ=>(f ρ).bind λd=>(eV 0 ρ).bind λo=>match o with
 |.obj c ns ds=>if cs.contains c=true/\ns.contains x=false/\ns.length<900 then some (.nx (ρ.set 0 (some (.obj c (ns++[x]) (ds++[d])))))else none
 |_=>none
theorem RS.self {K:ae}{F0 B F H F' H':Hp}{ρ:Env}{σ:St}{d:D}(rs:RS K ct F0 B (.so x0::ms) F H ρ σ)(hd:ρ[0]?=some (some d)):σ[0]?=some (some (.ref x0))/\Ow K ct F H 1 d (.ref x0) [x0]/\B x0=none /\
  ∀(F' H':Hp) (d':D),bC F F'->bC B H'->bC F' H'->(∀a o,B a=some o->F0 a=none->F' a=none)->(∀a o,H a=some o->a≠x0->H' a=some o)->(∀a o,H a=some o->a≠x0->F a=none->F' a=none)->Ow K ct F' H' 1 d' (.ref x0) [x0]->RS K ct F0 B (.so x0::ms) F' H' (ρ.set 0 (some d')) σ:=by
 obtain⟨fp,sl,nd,hb⟩:=rs.sl
 cases sl with
 |no _=>simp at hd
 |so ow t=>
  simp at hd
  subst hd
  refine⟨rfl,ow,hb _ af,λF' H' d' s1 s2 s3 s4 k1 k2 o'=>⟨rs.f0.trans s1,s2,s3,s4,_,.so o' (t.frame s1 λa z=>?_),nd,hb⟩⟩
  obtain⟨hn,o,ho⟩:=t.cells a z
  have ne:a≠x0:=λe=>(bJ.mp nd).1 (by rw[←e];exact z)
  exact⟨(k1 a o ho ne).trans ho.symm,k2 a o ho ne hn⟩
theorem xW {x s:aK}{cs:List Nat}{p1 pos':cX}(hc:∀c∈cs,Cls X.K (ct c)/\e5 X.K (ct c) x)(he:XE X ct (.so x0::ms) 0 e f)(hN:X.N[0]?=some s:=by rfl)(hv:oK X.env.scope s:=by first|exact Or.inl rfl|exact Or.inr (Or.inl rfl)|exact Or.inr (Or.inr rfl))(hd:(s==("__debug__":aK))=false:=by decide)
  (iI:(s==("__classdict__":aK))=false:=by decide) (hs:dH e (some (.Attribute (.Name s p1) x pos')) pos.line X.env=pure false:=by rfl):XS X ct (.so x0::ms) rk (.Assign [.Attribute (.Name s p1) x pos'] e pos) (ie cs x f):=by
 obtain⟨t,pt,qt⟩:=he
 refine⟨_,zsz (v8 hN hv hd iI) pt hs,λF0 B F H ρ σ o E rs e z=>?_⟩
 obtain⟨d,h1,h2⟩:=aU e
 obtain⟨ob,h3,h4⟩:=aU h2
 refine qt F0 B F H ρ σ d _ rs h1 λy F1 H1 x1 l=>?_
 have ku:=rs.ext x1
 obtain⟨hσ,ow,hB,put⟩:=ku.self (F':=F) (H':=H) (zx h3)
 refine⟨_,hσ,?_⟩
 cases ob with
 |obj c ns ds=>
  dsimp only at h4
  by_cases hz:cs.contains c=true/\ns.contains x=false/\ns.length<900
  ·rw[if_pos hz]at h4
   cases h4
   obtain⟨a,dx,vs,fr,e1,e2,hF,hH,hl,ol⟩:=ow.obj_inv
   cases e1
   cases e2
   have hh:=hc c (by simpa using hz.1)
   refine⟨x0,_,dx,_,rfl,hH,hh.1,hh.2,by rw[eQ,←hl,ik];omega,?_⟩
   rw[RE hl hz.2.1]
   refine z σ F1 _ (put F1 _ _ (.refl _) (λb o h=>?_) (λb o h=>?_) ku.nf (λb o h ne=>by rw[zk ne];exact h) (λb o h ne hn=>hn) (.inr (vO.obj (vs:=vs++[y]) hF zt (by simp[hl]) ?_)))
   ·rw[zk (λe=>by rw[e,hB]at h;cases h)];exact ku.bh _ _ h
   ·rw[zk (λe=>by rw[e,hF]at h;cases h)];exact ku.fh _ _ h
   ·have o1:fH (Ow X.K ct F1 (cY H1 x0 (.ins (ct c) dx ((ns++[x]).zip (vs++[y])))) 0) ds vs []:=ol.mono λ_ _ _ _ q=>⟨q.1,q.2⟩
    have:=o1.append (fH.cons (f:=[]) (g:=[]) (R:=Ow X.K ct F1 (cY H1 x0 (.ins (ct c) dx ((ns++[x]).zip (vs++[y])))) 0) ⟨l,rfl⟩ .nil)
    exact this
  ·rw[if_neg hz]at h4;cases h4
 |_=>cases h4
variable {kk:Nat}{fa:ah}{fd:aH}{ps:List aK}{pm cs:List Nat}{mi:Nat->List D->Option D}{x:aK}{pp:cX}
theorem JM {c0:Nat}{es:List Expr}{ns nd:List Nat}{fs:Env->Option (List D)}{gS:List V}{lT:List D}{m6:List aa}(M:Mk X.K (ct c0) fa)(wY:c0∈cs)(Fn:cv X.prog X.w X.K X.mg X.base eO kk fa fd ps (uE X.K ct cs (ns++nd) mi))(hr:dU (kk+1) X.A)(hg:Gl X x)(hm:X.mg x=some (.ref (ct c0)))
  (hb:bB X.K fd ps m6) (hd:bR gS m6) (wZ:∀F G,jK X.K ct F G nd lT gS) (ha:XA X ct ms (e::es) ns fs)
  (i7:(x==("__debug__":aK))=false:=by decide) (he:ap (e::es) X.env=(false,bG e X.env)::ap es X.env:=by rfl) (gI:(cu pos (ap es X.env)).any (·.1)=false:=by rfl) :
  XO X ct ms 1 (.Call (.Name x pp) (e::es) [] pos) (λρ=>(fs ρ).bind λds=>mi c0 (ds++lT)):=by
 obtain⟨t,pt,_,qt⟩:=ha
 refine⟨_,zp0 M Fn hr hg hm hb hd oe pt i7 he gI,λF0 B F H ρ σ r Q rs e w=>?_⟩
 obtain⟨ds,h1,h2⟩:=aU e
 refine qt F0 B F H ρ σ ds _ rs h1 λvs F1 H1 x1 l y dy hy LQ kD=>?_
 have sH:bC H1 (kr (cY (cY H1 dy (.own y)) y (.ins (ct c0) dy [])) y):=λb o h=>by
  have n1:b≠y:=zl h hy
  rw[u2 n1,zk n1,zk (zl h LQ)]
  exact h
 have MF:bC H1 (cY (cY H1 dy (.own y)) y (.ins (ct c0) dy [])):=sH.trans (Cp _ _)
 refine⟨F1,c0,ds++lT,r,y,dy,vs++gS,wY,rfl,zt,x1.fh.free hy,x1.fh.trans MF,jK.mono (.refl _) sH (jK.append (wZ F1 H1) l),h2,λF' H' s1 s2 s3 s4 hn ow=>⟨rfl,?_⟩⟩
 refine w _ F' H' [y] ⟨x1.ff.trans s1,(x1.hh.trans sH).trans s2,s3,λb o h n=>s4 b o (sH _ _ (x1.hh _ _ h)) (x1.nf b o h n)⟩ ow (by simp) λb z=>?_
 rw[aB]at z
 subst z
 exact x1.hh.free hy
theorem znj {C:ah}{sp:Sp}{gS:List V}{ds:List aa}{E:XK}{m:aK}{p dQ:cX}{es:List Expr}{t:TA}{pl:pq Bool}{mc:aa}(Fn:cv X.prog X.w X.K X.mg X.base eO kk fa fd ps sp)(hr:dU kk X.A)(hg:Gl X x)(hm:X.mg x=some (.ref C))
  (h1:bQ X.K (.ref C) "__getattribute__"=some (some (.builtin "type.__getattribute__"))) (h2:eI X.K C mc=true) (h3:eF X.K (.ref C) mc m=some (.val (.ref fa))) (hk:ao X.K (.ref fa)=true) (hb:bB X.K fd ps ds) (hd:bR gS ds) (hx:jO eO X E) (ha:PA X (e::es) t)
  (i7:(x==("__debug__":aK))=false:=by decide) (iX:ap (e::es) X.env=(false,bG e X.env)::ap es X.env:=by rfl) (gI:(cu pos (ap es X.env)).any (·.1)=false:=by rfl)
  (ht:bG (.Call (.Attribute (.Name x p) m dQ) (e::es) [] pos) X.env=(do
   let ov ← bG (.Name x p) X.env
   fO dQ.atName
   let(f,first) ← dS [ov] (gx ov m pl)
   iT pos f first (cu pos (ap (e::es) X.env)) (e9 pos (dz [] X.env))):=by rfl) :
  PE X (.Call (.Attribute (.Name x p) m dQ) (e::es) [] pos) (zI sp gS E t):=by
 intro ai s σ H Q I h
 refine eM (pl:=pl) (qm I hg hm ?_ i7) ht
 refine qG I.kIn h1 (qV I.kIn h2 h3 rfl ?_)
 have I1:Inv X ai σ H { s with toks:=s.toks+1 }:=I.tok _
 refine ez (first:=[]) (h₀:=X.base) I.ok.mod.kin hk (dw (ha pos ai _ σ H _ I1 h) λus s2 ⟨vs,H2,I2,r,q2⟩=>⟨I2.kIn,?_⟩) iX gI
 exact JT (us:=us) (vs:=vs) Fn hr hb hd hx I2 r q2
theorem jK.flat {K:ae}{F G G':Hp}{ns:List Nat}{ds:List D}{vs:List V}(h:jK K ct F G ns ds vs)(e:ns.all (· == 0)=true):jK K ct F G' ns ds vs:=by
 induction h with
 |nil=>exact .nil
 |cons h t ih=>
  rw[ej,bS]at e
  cases eq_of_beq e.1
  exact .cons h (ih e.2)
def oY (cs:List Nat)(fs:Env->Option (List D))(mi:Nat->List D->Option D):SF:=λρ=>(eV 0 ρ).bind λo=>(fs ρ).bind λds=>match o with
 |.obj c [] []=>if cs.contains c=true then(mi c ds).bind λd=>some (.nx (ρ.set 0 (some d)))else none
 |_=>none
theorem NK {C:ah}{s m:aK}{p p1 eT dQ:cX}{es:List Expr}{ns:List Nat}{fs:Env->Option (List D)}{pl:pq Bool}{mc:aa}(Fn:cv X.prog X.w X.K X.mg X.base eO kk fa fd ps (uE X.K ct cs ns mi))(hr:dU kk X.A)(hm:X.mg x=some (.ref C))
  (h1:bQ X.K (.ref C) "__getattribute__"=some (some (.builtin "type.__getattribute__"))) (h2:eI X.K C mc=true) (h3:eF X.K (.ref C) mc m=some (.val (.ref fa))) (hk:ao X.K (.ref fa)=true) (hb:bB X.K fd ps []) (hz:ns.all (· == 0)=true) (ha:XA X ct (.so x0::ms) es ns fs)
  (hg:Gl X x:=by rfl) (hN:X.N[0]?=some s:=by rfl) (hv:oK X.env.scope s:=by first|exact Or.inl rfl|exact Or.inr (Or.inl rfl)|exact Or.inr (Or.inr rfl)) (hd:(s==("__debug__":aK))=false:=by decide)
  (iI:(s==("__classdict__":aK))=false:=by decide) (i7:(x==("__debug__":aK))=false:=by decide) (iX:ap (.Name s p1::es) X.env=(false,bG (.Name s p1) X.env)::ap es X.env:=by rfl) (gI:(cu eT (ap es X.env)).any (·.1)=false:=by rfl)
  (ht:bG (.Call (.Attribute (.Name x p) m dQ) (.Name s p1::es) [] eT) X.env=(do
   let ov ← bG (.Name x p) X.env
   fO dQ.atName
   let(f,first) ← dS [ov] (gx ov m pl)
   iT eT f first (cu eT (ap (.Name s p1::es) X.env)) (e9 eT (dz [] X.env))):=by rfl)
  (xE:dH (.Call (.Attribute (.Name x p) m dQ) (.Name s p1::es) [] eT) none pos.line X.env=pure false:=by rfl) :
  XS X ct (.so x0::ms) rk (.Expr (.Call (.Attribute (.Name x p) m dQ) (.Name s p1::es) [] eT) pos) (oY cs fs mi):=by
 obtain⟨t,pt,_,qt⟩:=ha
 refine⟨_,JC (znj (E:=E0) Fn hr hg hm h1 h2 h3 hk hb .nil oe (wv (v8 hN hv hd iI) pt iX) i7 iX gI ht) xE,λF0 B F H ρ σ o E rs e z=>?_⟩
 obtain⟨ob,ds,g1,g2,g3⟩:=dB e
 obtain⟨hσ,ow,hB,put⟩:=rs.self (F':=F) (H':=H) (zx g1)
 refine⟨_,hσ,qt F0 B F H ρ σ ds _ rs g2 λvs F1 H1 x1 l=>?_⟩
 have ku:=rs.ext x1
 obtain⟨hσ,ow,hB,put⟩:=ku.self (F':=F) (H':=H) (zx g1)
 match ob,g3,ow with
 |.obj c [] [],g3,ow=>
  dsimp only at g3
  by_cases hc:cs.contains c=true
  ·rw[if_pos hc]at g3
   obtain⟨d,g4,g5⟩:=aU g3
   cases g5
   obtain⟨a,dx,us,fr,e1,e2,hF,hH,hl,ol⟩:=ow.obj_inv
   cases e1
   cases e2
   refine⟨F1,c,ds,d,x0,dx,vs++[],by simpa using hc,rfl,hH,hF,x1.fh,?_,g4,λF' H' s1 s2 s3 s4 hn o'=>?_⟩
   ·rw[bO];exact l.flat hz
   ·have sB:bC B (kr H1 x0):=λb o h=>by
     rw[u2 (λe=>by rw[e,hB]at h;cases h)]
     exact ku.bh _ _ h
    exact z σ F' H' (put F' H' d s1 (sB.trans s2) s3 (λb o h n=>s4 b o (sB _ _ h) (ku.nf b o h n)) (λb o h ne=>s2 _ _ (by rw[u2 ne];exact h)) (λb o h ne yT=>s4 b o (by rw[u2 ne];exact h) yT) o')
  ·rw[if_neg hc]at g3;cases g3
end
end L3
namespace L3
open PySem PySem.Spec L2
open PyProof.Rows hiding St
structure i9 (K:ae)(mg:aK->Option aa)(x:aK)(st:bD)(ps:List aK)(f:ah)(fd:aH):Prop where
 fn:Fun2 K x x st f fd
 mgx:mg x=some (.ref f)
 bd:bB K fd ps []
structure Dm (K:ae)(C:ah)(m qual:aK)(st:bD)(ps:List aK)(f:ah)(fd:aH):Prop where
 fn:Fun2 K m qual st f fd
 me:rj K C m f
 bd:bB K fd ps []
structure Dc (K:ae)(mg:aK->Option aa)(x:aK)(C:ah):Prop where
 cl:Cls K C
 mgx:mg x=some (.ref C)
 mks:dI K C=true
 kp:ao K (.ref C)=true
structure Dq (K:ae)(C:ah)(m:aK)(f:ah):Prop where
 sp:bQ K (.ref C) "__getattribute__"=some (some (.builtin "type.__getattribute__"))
 rd:eI K C (.type "type")=true
 fc:eF K (.ref C) (.type "type") m=some (.val (.ref f))
theorem zu {K:ae}{x qual:aK}{st:bD}{f:ah}{oc:aa}{od an:Option ah}{zC:Array (Option aa)}{dV kV doc pm gu ct:aa}(l:K.lookup f=some ⟨oc,od,.func (gP x qual (mG st) (fY st) (aQ st) dV kV doc pm an gu ct),zC⟩)
  (c:az K gu qual=true) (k:ao K (.ref f)=true):Fun2 K x qual st f (gP x qual (mG st) (fY st) (aQ st) dV kV doc pm an gu ct):=⟨⟨oc,od,dV,kV,doc,pm,an,gu,ct,zC,rfl,l,c⟩,k⟩
theorem zq5 {K:ae}{fd:aH}{ps:List aK}{ds:List aa}{T:ah}{o:df}{items:Array aa}{n:Nat}(hd:fd.defaults=.ref T)(ho:K.lookup T=some o)(hs:o.data=.seq items n)
  (h:∀us:List aa,(us++ds).length=ps.length->∃k,bindArgs fd ⟨us,[]⟩=seqItems? fd.defaults >>= k/\k (some items)=pure (ps.zip (us++ds))):bB K fd ps ds:=λs us X hl=>by
 obtain⟨k,h1,h2⟩:=h us hl
 exact PySem.W.binds_K X hd ho hs h1 h2
theorem JN (m:Nat){K:ae}{fd:aH}{ps:List aK}{ds:List aa}{T:ah}{o:df}{items:Array aa}{n:Nat}(ho:K.lookup T=some o)(h:∀us:List aa,us.length=m->∃k,bindArgs fd ⟨us,[]⟩=seqItems? fd.defaults >>= k/\k (some items)=pure (ps.zip (us++ds)))(hd:fd.defaults=.ref T:=by rfl)(hs:o.data=.seq items n:=by rfl)(hm:m+ds.length=ps.length:=by rfl):bB K fd ps ds :=
 zq5 hd ho hs λus hl=>h us (by rw[aX]at hl;omega)
end L3
namespace L3
open PySem PySem.Spec L2
open PyProof.Rows hiding St
def Ke (x:aK):It:=⟨λi _=>∃c,x.cps[i]?=some c,λi H v H'=>H'=H/\∃c,x.cps[i]?=some c/\v=.str ⟨#[c]⟩,λi _=>x.cps[i]?=none⟩
theorem znk {P:bn}{w:bP}{K:ae}{tg:Expr}(x:aK)(t:Tok)(it:ah):Turn P w K tg (Ke x) [it] it (λi h=>h.IsStrIter it (cP x) x t i) where
 mem:=by simp
 obj:=λi h st b hb=>by
  have e:b=it:=by simpa using hb
  subst e
  obtain⟨o,e,c,d⟩:=st
  exact⟨o,e,λv z=>by rw[d]at z;cases z⟩
 keep:=λi h h' st k=>by
  obtain⟨o,e,c,d⟩:=st
  exact⟨o,k it (by simp) o e,c,d⟩
 item:=by
  intro X hP hw hK hc i ai s σ H E I hf st hg
  subst hP hw hK
  obtain⟨c,hx⟩:=hg
  obtain⟨f0,f1,f2,f3,f4,f5⟩:=hf it (by simp)
  have fin:∀h':aM,h'.IsStrIter it (cP x) x t (i+1)->gY it s.heap h'->aT (aI X.prog X.w) X.A (iA tg (.ref it) (.str ⟨#[c]⟩ s.toks)) (λ_ s2=>∃v H',Inv X ai σ H' s2/\RelV v (.str ⟨#[c]⟩ s.toks)/\(Ke x).yld i H v H'/\s2.heap.IsStrIter it (cP x) x t (i+1)/\∀b∈[it],H' b=none) E { s with heap:=h',toks:=s.toks+1 }:=λh' t6 sb=>by
   have I1:Inv X ai σ H { s with heap:=h',toks:=s.toks+1 }:=I.turned (t':=s.toks+1) (λb o hb e=>(sb.2 b hb).trans e) f0 f1 f3 f4 f5
   obtain⟨o,e,cc,d⟩:=id t6
   refine Oh (s:={ s with heap:=h',toks:=s.toks+1 }) e cc d ?_ ⟨.str ⟨#[c]⟩,H,I1,⟨_,rfl⟩,⟨rfl,c,hx,rfl⟩,t6,λb hb=>(hf b hb).1⟩
   unfold cP
   split<;>decide
  cases ha:x.cps.all (·<128)with
  |true=>
   have e:cP x = "str_ascii_iterator":=by unfold cP;rw[ha];rfl
   rw[e]at st fin
   exact wpAny_pyNext_ascii_item st hx λh' t6 sb=>⟨_,rfl,by rw[e];exact fin h' t6 sb⟩
  |false=>
   have e:cP x = "str_iterator":=by unfold cP;rw[ha];rfl
   rw[e]at st fin
   exact wpAny_pyNext_wide_item st hx λh' t6 sb=>⟨_,rfl,by rw[e];exact fin h' t6 sb⟩
 done:=by
  intro X hP hw hK hc i ai s σ H E I hf st hg
  subst hP hw hK
  obtain⟨f0,f1,f2,f3,f4,f5⟩:=hf it (by simp)
  cases ha:x.cps.all (·<128)with
  |true=>
   have e:cP x = "str_ascii_iterator":=by unfold cP;rw[ha];rfl
   rw[e]at st
   exact wpAny_pyNext_ascii_end (I.ok.hd hc) st hg λh' eb=>⟨rfl,I.turned (t':=s.toks) (λb o hb e=>eb b o hb e) f0 f1 f3 f4 f5⟩
  |false=>
   have e:cP x = "str_iterator":=by unfold cP;rw[ha];rfl
   rw[e]at st
   exact wpAny_pyNext_wide_end (I.ok.hd hc) st hg λh' eb=>⟨rfl,I.turned (t':=s.toks) (λb o hb e=>eb b o hb e) f0 f1 f3 f4 f5⟩
 self:=λA i s Q E st h=>by
  cases ha:x.cps.all (·<128)with
  |true=>
   have e:cP x = "str_ascii_iterator":=by unfold cP;rw[ha];rfl
   rw[e]at st
   exact wpAny_pyIter_striter_ascii st h
  |false=>
   have e:cP x = "str_iterator":=by unfold cP;rw[ha];rfl
   rw[e]at st
   exact wpAny_pyIter_striter_wide st h
def Mi (tl:TE):TI:=λσ H R=>tl σ H λx H1=>∃z,x=.str z/\R (Ke z) H1
section
variable {X:Cx}{ct:Nat->ah}{ms:List Mo}{rk n m k:Nat}{st:bD}{rest:List bD}{a b c e tg:Expr}{f g h:EF}{p q:BF}{u w:SF}{pos:cX}
theorem ztu {l:Expr}{tl:TE}(hl:PE X l tl):PI X tg l (Mi tl):=by
 intro ai s σ H R I h
 refine dw (hl ai s σ H _ I h) λv s1 dO=>?_
 obtain⟨x,H1,I1,r,z,e,q⟩:=dO
 subst e
 obtain⟨t,rfl⟩:=r
 refine wpAny_pyIter_strU ?_
 refine⟨s1.heap.objs.size,[s1.heap.objs.size],_,_,H1,rfl,I1.kept (t':=s1.toks) λb o e=>ar _ e,znk z t _,⟨_,bH _ rfl,rfl,rfl⟩,λb hb=>?_,q⟩
 have e:b=s1.heap.objs.size:=by simpa using hb
 subst e
 exact I1.fpOk (aF _) (I1.hok.fresh (aF _))
def rP (x:aK):List D:=x.cps.toList.map λc=>.str ⟨#[c]⟩
def OE:D->Option (List D)
 |.str x=>some (rP x)
 |_=>none
theorem ztv (he:XE X ct ms m e f):XI X ct ms n tg e (λρ=>(f ρ).bind OE):=by
 obtain⟨t,pt,qt⟩:=he
 refine⟨_,ztu pt,λF0 B F H ρ σ ds R rs e w=>?_⟩
 obtain⟨d,h1,h2⟩:=aU e
 refine qt F0 B F H ρ σ _ _ rs h1 λv F' H' x l=>?_
 cases d with
 |str z=>
  cases h2
  refine⟨z,l.str,w _ F' H' x λi F2 H2 s1 s2 s3=>⟨λd hd=>?_,λhl=>?_⟩⟩
  ·unfold rP at hd
   rw[bw]at hd
   obtain⟨c,hc,rfl⟩:=bY.mp hd
   have qK:z.cps[i]?=some c:=by simpa using hc
   refine⟨⟨c,qK⟩,λy H3 hy=>?_⟩
   obtain⟨rfl,c2,h3,rfl⟩:=hy
   rw[qK]at h3
   cases h3
   exact⟨F2,.refl s3,Al.of (.str _)⟩
  ·unfold rP at hl
   rw[aq,dP]at hl
   exact Array.getElem?_eq_none hl
 |_=>cases h2
theorem znl {κ:Type}[DecidableEq κ](k:κ)(v:V):∀{ks:List κ} {vs:List V},ks.length=vs.length->putK (ks.zip vs) k v=(if ks.contains k=true then ks.zip ((ks.zip vs).map λp=>if p.1=k then v else p.2)else(ks++[k]).zip (vs++[v])):=by
 intro ks vs hl
 unfold putK
 have e:((ks.zip vs).any λkv=>decide (kv.1=k))=ks.contains k:=by
  rw[Bool.eq_iff_iff,List.any_eq_true,List.contains_iff_mem]
  constructor
  ·rintro⟨p,hp,he⟩
   have:=decide_eq_true_iff.mp he
   rw[←this]
   exact(gR hp).1
  ·intro hk
   obtain⟨i,hi,rfl⟩:=List.getElem_of_mem hk
   exact⟨(ks[i],vs[i]'(by omega)),fC.mpr ⟨i,by simp;omega,by simp⟩,by simp⟩
 rw[e]
 by_cases h:ks.contains k=true
 ·rw[if_pos h,if_pos h]
  clear e h
  induction ks generalizing vs with
  |nil=>simp
  |cons y ks ih=>
   cases vs with
   |nil=>simp at hl
   |cons u vs=>
    simp only[fQ,aV,ih (by simpa using hl)]
    by_cases hy:y=k<;>simp[hy]
 ·rw[if_neg h,if_neg h,vL hl]
  rfl
end
end L3
namespace L3
open PySem PySem.Spec L2
open PyProof.Rows hiding St
section
variable {X:Cx}{ct:Nat->ah}{ms:List Mo}{rk n m k:Nat}{st:bD}{rest:List bD}{a b c e tg:Expr}{f g h:EF}{p q:BF}{u w:SF}{pos:cX}
def iP (i:Nat)(fj f:EF):SF:=λρ=>(f ρ).bind λd=>(eV i ρ).bind λo=>(fj ρ).bind λj=>match o with
 |.dK ks ds=>(xH j).bind λk=>if ks.length<16777216 then some (.nx (ρ.set i (some (.dK (d7 ks ds k d).1 (d7 ks ds k d).2))))else none
 |.dT ks ds=>(match j with
  |.tup js=>(pS js).bind λk=>if ks.length<16777216 then some (.nx (ρ.set i (some (.dT (d7 ks ds k d).1 (d7 ks ds k d).2))))else none
  |_=>none)
 |_=>none
theorem Js {κ:Type}[DecidableEq κ]{R:D->V->Prop}{d:D}{v:V}(r:R d v)(k:κ){ks:List κ}{ds:List D}{vs:List V}(hl:ks.length=vs.length)(hp:Pr R ds vs) :
  ∃us,putK (ks.zip vs) k v=(d7 ks ds k d).1.zip us/\(d7 ks ds k d).1.length=us.length/\Pr R (d7 ks ds k d).2 us:=by
 rw[znl k v hl]
 unfold d7
 by_cases h:ks.contains k=true
 ·rw[if_pos h,if_pos h]
  refine⟨_,rfl,by simp[hl],?_⟩
  clear h
  induction ks generalizing ds vs with
  |nil=>simp;exact .nil
  |cons y ks ih=>
   cases hp with
   |nil=>simp at hl
   |cons h t=>
    simp only[fQ,aV]
    refine .cons ?_ (ih (by simpa using hl) t)
    by_cases hy:y=k
    ·rw[if_pos hy,if_pos hy];exact r
    ·rw[if_neg hy,if_neg hy];exact h
 ·rw[if_neg h,if_neg h]
  exact⟨_,rfl,by simp[hl],hp.append (.cons r .nil)⟩
theorem Sl (i:Nat){x:aK}{j:Expr}{p1 gE:cX}{fj:EF}(hm:ms[i]?=some (.ow 1))(hu:X.A.units+1<ip)(hj:XE X ct ms 0 j fj)(he:XE X ct ms 0 e f)(hN:X.N[i]?=some x:=by rfl)(hv:oK X.env.scope x:=by first|exact Or.inl rfl|exact Or.inr (Or.inl rfl)|exact Or.inr (Or.inr rfl))(hd:(x==("__debug__":aK))=false:=by decide)
  (iI:(x==("__classdict__":aK))=false:=by decide) (hs:dH e (some (.Subscript (.Name x p1) j gE)) pos.line X.env=pure false:=by rfl) :
  XS X ct ms rk (.Assign [.Subscript (.Name x p1) j gE] e pos) (iP i fj f):=by
 obtain⟨t,pt,qt⟩:=he
 obtain⟨tj,xJ,xK⟩:=hj
 refine⟨_,R8 hu (v8 hN hv hd iI) xJ pt hs,λF0 B F H ρ σ o E rs e z=>?_⟩
 obtain⟨d,g1,g2⟩:=aU e
 obtain⟨d1,rY,g3,g4,g5⟩:=dB g2
 refine qt F0 B F H ρ σ d _ rs g1 λv0 F1 H1 x1 l0=>?_
 have ku:=rs.ext x1
 obtain⟨f1,fr,n1,b1,dj,i4,cf,put⟩:=ku.put (F':=F) (H':=H) hm
 obtain⟨v,hσ,ow⟩:=i4 d1 (zx g3)
 refine⟨v,hσ,xK F0 B F1 H1 ρ σ rY _ ku g4 λvj F2 H2 x2 lj=>?_⟩
 have Gu:Dt X.K ct F2 d v0:=Dt.mono x2.ff l0
 cases d1 with
 |dK ks ds=>
  dsimp only at g5
  obtain⟨key,g6,g7⟩:=aU g5
  by_cases hz:ks.length<16777216
  ·rw[if_pos hz]at g7
   cases g7
   obtain⟨ad,vs,qJ,rfl,rfl,hF,hH,hl,ol⟩:=ow.dK_inv
   have hA:=x2.hh _ _ hH
   have fA:F2 ad=none:=x2.nf ad _ hH hF
   have e0:=ol.nil0
   subst e0
   have hp:Pr (Dt X.K ct F2) ds vs:=ol.pr λ_ _ _ _ q=>q.1.mono x2.ff
   obtain⟨us,Bi,Bj,Bl⟩:=Js Gu key hl hp
   have hk:=JZ g6 lj
   subst hk
   refine⟨ad,_,rfl,nG.k hA (by rw[eQ,←hl,ik,bX];exact hz),?_⟩
   rw[Bi]
   refine z σ F2 _ (ku.change hm x2 hσ b1 dj cf put af fA (.inr (.dK fA zt Bj (fH.ofPr (Bl.mono λ_ _ q=>⟨q,rfl⟩)))) (fn:=[ad]) (by simp) ?_)
   intro a ha
   rw[aB]at ha
   subst ha
   exact .inl af
  ·rw[if_neg hz]at g7;cases g7
 |dT ks ds=>
  cases rY with
  |tup js=>
   dsimp only at g5
   obtain⟨key,g6,g7⟩:=aU g5
   by_cases hz:ks.length<16777216
   ·rw[if_pos hz]at g7
    cases g7
    obtain⟨ad,vs,qJ,rfl,rfl,hF,hH,hl,ol⟩:=ow.dT_inv
    have hA:=x2.hh _ _ hH
    have fA:F2 ad=none:=x2.nf ad _ hH hF
    have e0:=ol.nil0
    subst e0
    have hp:Pr (Dt X.K ct F2) ds vs:=ol.pr λ_ _ _ _ q=>q.1.mono x2.ff
    obtain⟨us,Bi,Bj,Bl⟩:=Js Gu key hl hp
    obtain⟨bd,ws,rfl,hb,Ft⟩:=lj.tup x2.fh
    have hk:=NF g6 Ft
    subst hk
    refine⟨ad,_,rfl,nG.t hA hb (by rw[eQ,←hl,ik,bX];exact hz),?_⟩
    rw[Bi]
    refine z σ F2 _ (ku.change hm x2 hσ b1 dj cf put af fA (.inr (.dT fA zt Bj (fH.ofPr (Bl.mono λ_ _ q=>⟨q,rfl⟩)))) (fn:=[ad]) (by simp) ?_)
    intro a ha
    rw[aB]at ha
    subst ha
    exact .inl af
   ·rw[if_neg hz]at g7;cases g7
  |_=>cases g5
 |_=>cases g5
def Hk (K:ae):V->V->Hp->VK->Prop:=λo i H Q=>∃p xs k v,o=.ref p/\i=.int k/\gz K H p xs/\atI xs k=some v/\Q v H
theorem zld:CN X (Hk X.K):=by
 intro ai s σ H o i ov iv Q I ro ri h
 obtain⟨p,xs,k,z,rfl,rfl,hq,he,q⟩:=h
 cases ro
 obtain⟨t,rfl⟩:=ri
 obtain⟨cx,r,pl,hz⟩:=I.list hq
 obtain⟨j,h1,h2,h3,h4,h5⟩:=JE he
 obtain⟨w,ew,oW⟩:=r.get h2
 have hl:=r.length
 have hn:=kF
 have fin:EP X ai σ Q w s:=⟨z,H,I,oW,q⟩
 by_cases h0:0<=k
 ·have hj:k.toNat=j:=by
   rw[oA h0 h5]at h1
   exact Option.some.inj h1
  exact wpAny_getItem_list pl.isList h0 (by omega) (by rw[hj];simpa using ew) fin
 ·have hj:(k+(cx.toArray.size:Int)).toNat=j:=by
   rw[nq (by omega) h4]at h1
   rw[aL,←hl]
   exact Option.some.inj h1
  exact wpAny_getItem_list_neg pl.isList (by omega) (by rw[aL]<;>omega) (by omega) (by rw[hj];simpa using ew) fin
def pX (i:Nat)(fj:EF)(gi:Int->Int->Int)(f:EF):SF:=λρ=>(eV i ρ).bind λo=>(fj ρ).bind λj=>(f ρ).bind λy=>match o,j with
 |.lst ds,.int z=>(atI ds z).bind λx=>(match x,y with
  |.int a,.int b=>(m9 ds z (.int (gi a b))).bind λrz=>some (.nx (ρ.set i (some (.lst rz))))
  |_,_=>none)
 |_,_=>none
theorem Sm (i:Nat){x:aK}{op:jT}{j:Expr}{p1 gE:cX}{fj:EF}{gi:Int->Int->Int}(ho:B0 X op (IQ gi))(hm:ms[i]?=some (.ow 1))(hj:XE X ct ms n j fj)(he:XE X ct ms m e f)(hN:X.N[i]?=some x:=by rfl)(hv:oK X.env.scope x:=by first|exact Or.inl rfl|exact Or.inr (Or.inl rfl)|exact Or.inr (Or.inr rfl))(hd:(x==("__debug__":aK))=false:=by decide)
  (iI:(x==("__classdict__":aK))=false:=by decide) (ha:∀ov iv new,augStore j ov iv new=(do dS [new,ov,iv] (nr ov iv new);tP [new,ov,iv] [];pure .next):=by intros;rfl) :
  XS X ct ms rk (.AugAssign (.Subscript (.Name x p1) j gE) op e pos) (pX i fj gi f):=by
 obtain⟨t,pt,qt⟩:=he
 obtain⟨tj,xJ,xK⟩:=hj
 refine⟨_,zpp (v8 hN hv hd iI) xJ zld pt ho Nd ha,λF0 B F H ρ σ o E rs e z=>?_⟩
 obtain⟨d1,rY,g3,g4,g5⟩:=dB e
 obtain⟨d2,g6,g7⟩:=aU g5
 obtain⟨f1,fr,n1,b1,dj,i4,cf,put⟩:=rs.put (F':=F) (H':=H) hm
 obtain⟨v,hσ,ow⟩:=i4 d1 (zx g3)
 refine⟨v,hσ,xK F0 B F H ρ σ rY _ rs g4 λvj F2 H2 x2 lj=>?_⟩
 cases d1<;>try (cases g7;done)
 rename_i ds
 cases rY<;>try (cases g7;done)
 rename_i zi
 ·skip
  dsimp only at g7
  obtain⟨da,g8,g9⟩:=aU g7
  obtain⟨ad,vs,qJ,rfl,rfl,hF,hH,ol⟩:=ow.lst_inv
  have hA:H2 ad=some (.lst vs):=x2.hh _ _ hH
  have hp:Pr (Al X.K ct F2 H2 0) ds vs:=ol.pr λ_ _ _ _ q=>q.1.mono x2.ff
  obtain⟨va,Vt,LB⟩:=hp.atI g8
  refine⟨ad,vs,zi,va,rfl,lj.int,gz.of hA,Vt,qt F0 B F2 H2 ρ σ d2 _ (rs.ext x2) g6 λvy F3 H3 x3 ly=>?_⟩
  have wB:=x2.trans x3
  cases da<;>try (cases g9;done)
  rename_i ia
  cases d2<;>try (cases g9;done)
  rename_i ib
  ·skip
   dsimp only at g9
   obtain⟨rz,U7,U8⟩:=aU g9
   cases U8
   obtain⟨jn,U9,Va⟩:=aU U7
   cases Va
   have Vi:H3 ad=some (.lst vs):=x3.hh _ _ hA
   have fA:F3 ad=none:=wB.nf ad _ hH hF
   have e0:=ol.nil0
   subst e0
   refine⟨ia,ib,LB.int,ly.int,ad,vs,zi,jn,rfl,lj.int,Vi,by rw[←ol.length];exact U9,?_⟩
   refine z σ F3 _ (rs.change hm wB hσ b1 dj cf put af fA (.inr (.lst fA zt (fH.set0 ⟨.int _,rfl⟩ (λ_ _ _ q=>q.2) jn (ol.mono λ_ _ _ _ q=>⟨q.1.mono wB.ff,q.2⟩)))) (fn:=[ad]) (by simp) ?_)
   intro a ha
   rw[aB]at ha
   subst ha
   exact .inl af
structure Ic (K:ae)(C:ah):Prop where
 cl:Cls K C
 ha:am K (.ref C) "__class__"=some (some (.builtin "object.__class__"))
 hn:bQ K (.builtin "object.__class__") "__get__"=some (some (.builtin "getset_descriptor.__get__"))
 ht:gK K (.builtin "object.__class__")=some true
 hm:bz K C (.type "object")=some true
def uP (all sub:List Nat):D->Option D
 |.obj c _ _=>if all.contains c=true then some (.bl (sub.contains c))else none
 |_=>none
theorem Sn {C:ah}{x:aK}{all sub:List Nat}{pp p2:cX}(hI:∀c∈all,Ic X.K (ct c)/\bA X.K (.ref (ct c)) (.ref C)=some (sub.contains c))(hm:X.mg "isinstance"=none)(oP:X.mg x=some (.ref C))(he:XE X ct ms n e f)(hg:Gl X "isinstance":=by rfl)(pz:Gl X x:=by rfl)(hd2:(x==("__debug__":aK))=false:=by decide)
  (Fu:ap [e,.Name x p2] X.env=(false,bG e X.env)::ap [.Name x p2] X.env:=by rfl) (qM:ap [.Name x p2] X.env=(false,bG (.Name x p2) X.env)::ap [] X.env:=by rfl) (gI:(cu pos (ap [.Name x p2] X.env)).any (·.1)=false:=by rfl) :
  XE X ct ms k (.Call (.Name "isinstance" pp) [e,.Name x p2] [] pos) (e1 (uP all sub) f):=by
 obtain⟨t,pt,qt⟩:=he
 refine⟨_,Nl zkn hg hm Qp (wv pt (wv (R3 (v:=.ref C) pz oP rfl hd2) jp qM) Fu) (by decide) (by decide) Fu gI,λF0 B F H ρ σ d Q rs e w=>?_⟩
 obtain⟨d1,h1,h2⟩:=aU e
 refine qt F0 B F H ρ σ d1 _ rs h1 λv F' H' x l=>?_
 cases d1 with
 |obj c ns ds=>
  unfold uP at h2
  dsimp only at h2
  by_cases hc:all.contains c=true
  ·rw[if_pos hc]at h2
   cases h2
   obtain⟨a,dx,vs,rfl,ha,_⟩:=l.obj x.fh
   obtain⟨ic,V8⟩:=hI c (by simpa using hc)
   exact⟨_,C,_,_,rfl,.ins ha ic.cl ic.ha ic.hn ic.ht ic.hm,V8,w _ F' H' x (Al.of (.bl _))⟩
  ·rw[if_neg hc]at h2;cases h2
 |_=>cases h2
end
end L3
namespace L3
open PySem PySem.Spec L2
section
variable {K:ae}{ct:Nat->ah}{n m k:Nat}
def yZ (i:Int):aK:=((toString i:String):aK)
def tu:List D->Option D
 |[.int i]=>if i.natAbs.log2<1920 then some (.str (yZ i))else none
 |_=>none
theorem zq6:vN K ct [n] k (λxs H Q=>∃i,xs=[.int i]/\i.natAbs.log2<1920/\Q (.str (toString i)) H) tu:=by
 intro F H vs ds d Q s l e w
 cases l with
 |cons h t=>
  cases t
  rename_i d1 v
  cases d1 with
  |int i=>
   unfold tu at e
   dsimp only at e
   by_cases hz:i.natAbs.log2<1920
   ·rw[if_pos hz]at e
    cases e
    exact⟨i,by rw[h.int],hz,w _ F H (.refl s) (Al.of (.str _))⟩
   ·rw[if_neg hz]at e;cases e
  |_=>cases e
end
theorem znm {i:Int}(h:Sz 1900 i):tu [.int i]=some (.str (yZ i)):=by
 unfold tu
 dsimp only
 rw[if_pos]
 by_cases h0:i.natAbs=0
 ·rw[h0];decide
 ·rw[mT h0]
  exact bc h (dG (by decide) (by decide))
theorem zq7 {i:Int}(h:Sz 1900 i):(yZ i).length<=1921:=by
 refine PyProof.Rows.int_text_len_1921 ?_
 by_cases h0:i.natAbs=0
 ·rw[h0];decide
 ·rw[mT h0]
  exact bc h (dG (by decide) (by decide))
end L3
namespace PySem
section
variable {prog:bn}{w:bP}{A:bx}{R:Result->aj->Prop}{I:ah}{fp wr:List ah}{n:Nat}{P:Nat->aa->Prop}{St:Nat->aM->Prop}{kw:List (aK×aa)}
end
section
variable {prog:bn}{w:bP}{A:bx}{E:aa->aj->Prop}{s:aj}
end
end PySem
namespace L3
open PySem PySem.Spec L2
section
variable {X:Cx}{ct:Nat->ah}{ms:List Mo}{e b:Expr}{f g:EF}{n m k:Nat}
end
end L3
namespace L3
open PySem PySem.Spec L2
open PyProof.Rows hiding St
section
variable {X:Cx}{ct:Nat->ah}{ms:List Mo}{rk n m k:Nat}{a b c e o:Expr}{f g h:EF}{pos:cX}
def Bx (K:ae):V->List V->Hp->VK->Prop:=λx vs H Q=>∃p ys y j,x=.ref p/\vs=[y]/\gz K H p ys/\ko y=true/\ys.all ko=true/\ys.findIdx? (λz=>tV z y)=some j/\Q (.int (j:Nat)) H
theorem So:∀{xs:List V} {us:List aa} {x:V},bR xs us->xs.all ko=true->us.map (ES x)=xs.map λy=>tV y x
 |_,_,_,.nil,_=>rfl
 |y::xs,u::us,x,.cons r t,f=>by
  rw[ej,bS]at f
  rw[aV,aV,S5 r f.1,So t f.2]
theorem znn:Oo X "list.index" (Bx X.K):=by
 intro ai s σ H x vs v us Q I rx rv h
 obtain⟨p,ys,y,j,rfl,rfl,hq,fy,fs,hj,q⟩:=h
 cases rx
 obtain⟨u,rfl,ru⟩:=rv.one
 obtain⟨cx,r,pl,hz⟩:=I.list hq
 obtain⟨⟨cls,dd,data,sl⟩,ho,hc,n,hd⟩:=pl.isList
 simp only at hc hd
 subst hc hd
 have hm:=So (x:=y) r fs
 have gC:=r.length
 obtain⟨j1,j2,j3⟩:=List.findIdx?_eq_some_iff_getElem.mp hj
 have vU:∀i (hi:i<cx.length),ES y cx[i]=tV (ys[i]'(by omega)) y:=λi hi=>by
  have:=congrArg (λl=>l[i]?) hm
  simp only[bw]at this
  rw[dA hi,dA (by omega)]at this
  simpa using this
 have hzl:ys.length<=16777216:=hz
 refine mD PySem.F.slot_list_index ⟨_,ho,rfl⟩ PySem.F.entry_list_index (PySem.F.args_list_index_2 _ _)
  (SeqAt.list_indexAt p cx.toArray n dd sl u (ES y) j (by simp;omega) (by omega) ?_ ?_) ⟨ho,λw hw=>Rw ru fy r fs w (by simpa using hw),.int (j:Nat),H,I.tok _,⟨_,rfl⟩,q⟩
 ·simp only[qS];rw[vU j (by omega)];exact j2
 ·intro i hi lz
  simp only[qS]
  rw[vU i (by simpa using hi)]
  simpa using j3 i lz
def uO:D->D->Option D
 |.lst ds,x=>if x.sc=true/\ds.all D.sc=true then(ds.findIdx? λy=>vR y x).bind λj=>some (.int (j:Nat))else none
 |_,_=>none
theorem SQ {x:D}(hx:x.sc=true):∀{ds:List D},ds.all D.sc=true->(ds.map D.v).findIdx? (λz=>tV z x.v)=ds.findIdx? λy=>vR y x
 |[],_=>rfl
 |d::ds,h=>by
  rw[ej,bS]at h
  rw[aV,kN,kN,To h.1 hx,SQ hx h.2]
theorem zno {dQ eT:cX}(ho:XE X ct ms n o f)(he:XE X ct ms m e g)(iX:ap [e] X.env=(false,bG e X.env)::ap [] X.env:=by rfl)
  (m7:fD o "index" X.env (bG o X.env)=bG o X.env:=by rfl)
  (rE:((cu eT (ap [e] X.env)).all (λx=>!x.1)&&(e9 eT (dz [] X.env)).all (λx=>x.1.isSome)
   && decide ([e].length+([]:List gZ).length+(if([]:List gZ).isEmpty then 0 else 1)<30))=true:=by rfl)
  (m8:(dQ.endLine==eT.line)=true:=by rfl) (kE:(cu eT (ap [] X.env)).any (·.1)=false:=by rfl) :
  XE X ct ms k (.Call (.Attribute o "index" dQ) [e] [] eT) (e2 uO f g):=by
 obtain⟨ta,pa,qa⟩:=ho
 obtain⟨tb,pb,qb⟩:=he
 refine⟨_,J1 PySem.F.plainAttrs_list PySem.F.slot_list_index PySem.F.type_list_index znn pa (wv pb jp iX) m7 rE m8 iX kE,λF0 B F H ρ σ d Q rs e w=>?_⟩
 obtain⟨d1,d2,h1,h2,h3⟩:=dB e
 refine qa F0 B F H ρ σ d1 _ rs h1 λv1 F1 H1 x1 l1=>?_
 cases d1 with
 |lst ds=>
  unfold uO at h3
  dsimp only at h3
  by_cases hz:d2.sc=true/\ds.all D.sc=true
  ·rw[if_pos hz]at h3
   obtain⟨j,hj,h4⟩:=aU h3
   cases h4
   obtain⟨p,vs,rfl,hp,VY⟩:=l1.lst x1.fh
   refine⟨.inl ⟨rfl,_,hp⟩,qb F0 B F1 H1 ρ σ d2 _ (rs.ext x1) h2 λv2 F2 H2 x2 l2=>?_⟩
   have hv:=VY.vs hz.2
   subst hv
   have hx:=Al.v l2 hz.1
   subst hx
   exact⟨p,_,_,j,rfl,rfl,x2.hh.seq hp,D.flat hz.1,Rl hz.2,by rw[SQ hz.1 hz.2];exact hj,w _ F2 H2 (x1.trans x2) (Al.of (.int _))⟩
  ·rw[if_neg hz]at h3;cases h3
 |_=>cases h3
theorem Nw:∀{xs:List V} {us:List aa},xs.length=us.length->(∀(i:Nat) (x:V) (u:aa),xs[i]?=some x->us[i]?=some u->L2.RelV x u)->bR xs us
 |[],[],_,_=>.nil
 |[],_::_,h,_=>by cases h
 |_::_,[],h,_=>by cases h
 |x::xs,u::us,h,r=>.cons (r 0 x u rfl rfl) (Nw (by simpa using h) λi y w hy hw=>r (i+1) y w (by simpa using hy) (by simpa using hw))
def zH:List V->Hp->VK->Prop:=λvs H Q=>∃j:Int,vs=[.int j]/\0<=j/\j<=16777216/\∀l,H l=none->Q (.ref l) (cY H l (.lst ((fR 0 j.toNat).map D.v)))
def lV:List D->Option D
 |[.int j]=>if 0<=j/\j<=16777216 then some (.lst (fR 0 j.toNat))else none
 |_=>none
theorem znp {lo:Int}{n i:Nat}{d:D}(h:(fR lo n)[i]?=some d):d=.int (lo+(i:Int)):=by
 unfold fR at h
 rw[bw]at h
 obtain⟨t,ht,rfl⟩:=bY.mp h
 have:=bg.mp ht
 obtain⟨h1,h2⟩:=this
 rw[List.getElem_range]at h2
 rw[h2]
theorem zq8 {ta:TA}{p1 p2 iJ:cX}(hc:X.calm=true)(hg:Gl X "list")(hm:X.mg "list"=none)(pz:Gl X "range")(oP:X.mg "range"=none)(ha:PA X [a] ta)(hs:ap [a] X.env=[(false,bG a X.env)]:=by rfl)
    (qM:ap [.Call (.Name "range" p2) [a] [] iJ] X.env=[(false,bG (.Call (.Name "range" p2) [a] [] iJ) X.env)]:=by rfl) :
    PE X (.Call (.Name "list" p1) [.Call (.Name "range" p2) [a] [] iJ] [] pos) (MJ zH ta):=by
  intro ai s σ H Q I h
  refine cJ (xX I hg hm Cs ?_ (by decide) (by decide))
  refine cz ?_ qM rfl
  rw[qM]
  show aT _ _ (spliced ((false,bG (.Call (.Name "range" p2) [a] [] iJ) X.env)::[])) _ _ s
  refine Calls.spliced_cons ?_
  refine cJ (xX I pz oP boot_range ?_ (by decide) (by decide))
  refine cz (dw (ha iJ ai s σ H _ I h) λus s1 ⟨vs,H1,I1,r1,q1⟩=>?_) hs rfl
  obtain⟨j,rfl,h1,h2,q⟩:=q1
  obtain⟨u,rfl,t,rfl⟩:=nh r1
  refine call_range_1 (Calls.spliced_nil ?_)
  have I2:L2.Inv X ai σ H1 { s1 with heap:=s1.heap.push { cls:=.type "range",data:=.fields #[.int 0 s1.toks,.int j t,.int 1 (s1.toks+1)] },toks:=s1.toks+1+1 }:=I1.kept λb o e=>ar _ e
  have hsz:di.Range.rangeSize 0 j 1=(j.toNat:Int):=by rw[rangeSize_one];split<;>omega
  refine call_list_range (n:=j.toNat) (I2.ok.hd hc) (IsRange.new ..) (small_one (by omega) (by omega) (by omega) (by omega)) hsz (by omega) λh' tk ke c' kp hS rD=>?_
  have hv:bR ((fR 0 j.toNat).map D.v) ke.toList:=by
    obtain⟨e1,e2⟩:=rD
    refine Nw (by simp[fR,e1]) λi x u hx hu=>?_
    obtain⟨t,rfl⟩:=e2 i u (by simpa using hu)
    rw[bw]at hx
    obtain⟨d,hd,rfl⟩:=bY.mp hx
    have hd:=znp hd
    subst hd
    exact⟨t,by rw[mK]⟩
  have hl:((fR 0 j.toNat).map D.v).length<=sizeLine:=by rw[bX];simp[fR];omega
  exact⟨.ref _,_,I2.laid (t':=tk) kp (aF _) (show d4 X.prog X.w _ h' _ (.lst _)from⟨hl,ke.toList,c',hv,hS⟩),rfl,q _ (I2.hok.fresh (aF _))⟩
theorem zq9 (lo:Int)(n:Nat):(fR lo n).all D.sc=true:=by
 rw[lY]
 intro d hd
 unfold fR at hd
 obtain⟨t,_,rfl⟩:=bK.mp hd
 rfl
theorem Hi {K:ae}{F G:Hp}:∀{ds:List D},ds.all D.sc=true->Pr (Al K ct F G 0) ds (ds.map D.v)
 |[],_=>.nil
 |d::ds,h=>by
  rw[ej,bS]at h
  refine .cons ?_ (Hi h.2)
  cases d with
  |non=>exact Al.of .non
  |bl b=>exact Al.of (.bl b)
  |int b=>exact Al.of (.int b)
  |str b=>exact Al.of (.str b)
  |_=>cases h.1
theorem znq {K:ae}:zV K ct [n] 1 zH lV:=by
 intro F H vs ds d Q s l e w
 cases l with
 |cons h t=>
  cases t
  rename_i d1 v
  cases d1 with
  |int j=>
   unfold lV at e
   dsimp only at e
   by_cases hz:0<=j/\j<=16777216
   ·rw[if_pos hz]at e
    cases e
    exact⟨j,by rw[h.int],hz.1,hz.2,BP s (Hi (zq9 0 j.toNat)) w⟩
   ·rw[if_neg hz]at e;cases e
  |_=>cases e
theorem Sq {fs:Env->Option (List D)}{p1 p2 iJ:cX}(hc:X.calm=true)(hg:Gl X "list")(hm:X.mg "list"=none)(pz:Gl X "range")(oP:X.mg "range"=none)(ha:XA X ct ms [a] [n] fs)(hs:ap [a] X.env=[(false,bG a X.env)]:=by rfl)
  (qM:ap [.Call (.Name "range" p2) [a] [] iJ] X.env=[(false,bG (.Call (.Name "range" p2) [a] [] iJ) X.env)]:=by rfl) :
  XO X ct ms 1 (.Call (.Name "list" p1) [.Call (.Name "range" p2) [a] [] iJ] [] pos) (eN lV fs):=by
 obtain⟨t,pt,_,qt⟩:=ha
 refine⟨_,zq8 hc hg hm pz oP pt hs qM,λF0 B F H ρ σ r Q rs e w=>?_⟩
 obtain⟨ds,h1,h2⟩:=aU e
 exact qt F0 B F H ρ σ ds _ rs h1 λvs F1 H1 x1 l=>znq F1 H1 vs ds r Q x1.fh l h2 λv F2 H2 fp x2 l2 nd hf=>w v F2 H2 fp (x1.trans x2) l2 nd λz hz=>x1.hh.free (hf z hz)
def oX (i j:Nat)(f:EF):SF:=λρ=>(eV i ρ).bind λo=>(eV j ρ).bind λq=>(f ρ).bind λz=>match o,q,z with
 |.lst ds,.lst es,.int y=>if ds.length<16777216/\es.length<=16777216 then(ixN es.length y).bind λt=>es[t]?.bind λd=>some (.nx ((ρ.set j (some (.lst (es.eraseIdx t)))).set i (some (.lst (ds++[d])))))else none
 |_,_,_=>none
theorem Pr.erase {R:D->V->Prop}:∀{ds:List D} {vs:List V} (i:Nat),Pr R ds vs->Pr R (ds.eraseIdx i) (vs.eraseIdx i)
 |_,_,_,.nil=>.nil
 |_,_,0,.cons h t=>t
 |_,_,i+1,.cons h t=>.cons h (t.erase i)
theorem zli (i j:Nat){x y:aK}{p1 p2 dQ eT mX kn:cX}(hm:ms[i]?=some (.ow 1))(oP:ms[j]?=some (.ow 1))(yR:i≠j)(he:XE X ct ms n e f)
  (hN:X.N[i]?=some x:=by rfl) (hv:oK X.env.scope x:=by first|exact Or.inl rfl|exact Or.inr (Or.inl rfl)|exact Or.inr (Or.inr rfl)) (hd:(x==("__debug__":aK))=false:=by decide) (iI:(x==("__classdict__":aK))=false:=by decide)
  (Lz:X.N[j]?=some y:=by rfl) (Me:oK X.env.scope y:=by first|exact Or.inl rfl|exact Or.inr (Or.inl rfl)|exact Or.inr (Or.inr rfl)) (hd2:(y==("__debug__":aK))=false:=by decide) (AY:(y==("__classdict__":aK))=false:=by decide)
  (iX:ap [e] X.env=(false,bG e X.env)::ap [] X.env:=by rfl)
  (AV:fD (.Name y p2) "pop" X.env (bG (.Name y p2) X.env)=bG (.Name y p2) X.env:=by rfl)
  (Fb:((cu kn (ap [e] X.env)).all (λx=>!x.1)&&(e9 kn (dz [] X.env)).all (λx=>x.1.isSome)
   && decide ([e].length+([]:List gZ).length+(if([]:List gZ).isEmpty then 0 else 1)<30))=true:=by rfl)
  (A8:(mX.endLine==kn.line)=true:=by rfl) (xB:(cu kn (ap [] X.env)).any (·.1)=false:=by rfl)
  (rH:ap [.Call (.Attribute (.Name y p2) "pop" mX) [e] [] kn] X.env=(false,bG (.Call (.Attribute (.Name y p2) "pop" mX) [e] [] kn) X.env)::ap [] X.env:=by rfl)
  (m7:fD (.Name x p1) "append" X.env (bG (.Name x p1) X.env)=bG (.Name x p1) X.env:=by rfl)
  (rE:((cu eT (ap [.Call (.Attribute (.Name y p2) "pop" mX) [e] [] kn] X.env)).all (λx=>!x.1)&&(e9 eT (dz [] X.env)).all (λx=>x.1.isSome)
   && decide ([Expr.Call (.Attribute (.Name y p2) "pop" mX) [e] [] kn].length+([]:List gZ).length+(if([]:List gZ).isEmpty then 0 else 1)<30))=true:=by rfl)
  (m8:(dQ.endLine==eT.line)=true:=by rfl) (kE:(cu eT (ap [] X.env)).any (·.1)=false:=by rfl)
  (xE:dH (.Call (.Attribute (.Name x p1) "append" dQ) [.Call (.Attribute (.Name y p2) "pop" mX) [e] [] kn] [] eT) none pos.line X.env=pure false:=by rfl) :
  XS X ct ms rk (.Expr (.Call (.Attribute (.Name x p1) "append" dQ) [.Call (.Attribute (.Name y p2) "pop" mX) [e] [] kn] [] eT) pos) (oX i j f):=by
 obtain⟨t,pt,qt⟩:=he
 refine⟨_,JC (J1 PySem.F.plainAttrs_list PySem.F.slot_list_append PySem.F.type_list_append Jp (v8 hN hv hd iI)
  (wv (J1 PySem.F.plainAttrs_list PySem.F.slot_list_pop PySem.F.type_list_pop zm0 (v8 Lz Me hd2 AY) (wv pt jp iX) AV Fb A8 iX xB) jp rH) m7 rE m8 rH kE) xE,λF0 B F H ρ σ o E rs e z=>?_⟩
 obtain⟨d1,d2,h1,h2,h3⟩:=dB e
 obtain⟨d3,h4,h5⟩:=aU h3
 cases d1 with
 |lst ds=>
  cases d2 with
  |lst es=>
   cases d3 with
   |int w=>
    dsimp only at h5
    by_cases hz:ds.length<16777216/\es.length<=16777216
    ·rw[if_pos hz]at h5
     obtain⟨t2,h6,h7⟩:=aU h5
     obtain⟨d,h8,h9⟩:=aU h7
     cases h9
     obtain⟨g1,gr,gn1,gb1,gdj,Vb,gcf,Ve⟩:=rs.put (F':=F) (H':=H) hm
     obtain⟨v,hσ,ow⟩:=Vb _ (zx h1)
     obtain⟨ad,vs,qJ,rfl,rfl,hF,hH,ol⟩:=ow.lst_inv
     obtain⟨f1,fr,n1,b1,dj,i4,cf,put⟩:=rs.put (F':=F) (H':=H) oP
     obtain⟨v2,vZ,GD⟩:=i4 _ (zx h2)
     obtain⟨bd,us,U5,rfl,rfl,Vl,Ly,Mw⟩:=GD.lst_inv
     have z2:=fH.nil0 Mw
     subst z2
     refine⟨_,hσ,.inl ⟨rfl,_,gz.of hH⟩,_,vZ,.inl ⟨rfl,_,gz.of Ly⟩,qt F0 B F H ρ σ _ _ rs h4 λv3 F' H' x1 l3=>?_⟩
     have VX:=l3.int
     subst VX
     obtain⟨s1,s2,s3,s4⟩:=NB h6
     have Lv:H' bd=some (.lst us):=x1.hh _ _ Ly
     have fB:F' bd=none:=x1.nf bd _ Ly Vl
     have lu:=Mw.length
     have P6:Pr (λd v=>Dt X.K ct F' d v) es us:=Mw.pr λd v f _ q=>q.1.mono x1.ff
     obtain⟨u,hu,ru⟩:=P6.get' h8
     refine⟨bd,us,w,t2,u,rfl,rfl,Lv,by omega,by omega,by rw[←lu];exact s1,hu,?_⟩
     have ku:=rs.change oP x1 vZ b1 dj cf put af fB (d':=.lst (es.eraseIdx t2)) (o:=.lst (us.eraseIdx t2)) (.inr (.lst fB zt (fH.ofPr ((P6.erase t2).mono λ_ _ q=>Ow.zero q)))) (fn:=[bd]) (by simp) (λa ha=>by
      rw[aB]at ha;subst ha;exact .inl af)
     obtain⟨g1',gr',Vc,Lp,Lr,Ls,Lq,EV⟩:=ku.put (F':=F') (H':=cY H' bd (.lst (us.eraseIdx t2))) hm
     have kD:(ρ.set j (some (D.lst (es.eraseIdx t2))))[i]? = ρ[i]?:=cV (λe=>yR e.symm)
     obtain⟨v',Bm,Bt⟩:=Ls (.lst ds) (by rw[kD];exact zx h1)
     rw[hσ]at Bm
     cases Bm
     obtain⟨ad',Jg,U4,e1,rfl,O2,Vm,Mv⟩:=Bt.lst_inv
     cases e1
     have zn:=fH.nil0 Mv
     subst zn
     refine⟨ad,Jg,u,rfl,rfl,Vm,by rw[←Mv.length,bX];exact hz.1,?_⟩
     refine z σ F' _ (ku.change hm (.refl ku.fh) hσ Lp Lr Lq EV af O2 (.inr (.lst O2 zt ((Mv.mono λ_ _ f' hi o'=>?_).append (.cons (f:=[]) (Ow.zero ru) .nil)))) (fn:=[ad]) (by simp) λa ha=>by
      rw[aB]at ha;subst ha;exact .inl af)
     exact o'
    ·rw[if_neg hz]at h5;cases h5
   |_=>cases h5
  |_=>cases h5
 |_=>cases h5
end
end L3
namespace L2
open PySem PyProof.Rows
theorem znr {X:Cx}{ai:List (ah×df)}{σ:St}{H:Hp}{s:aj}{QV:VK}{use:Option (aa->pq Unit)}{Q0:aa->aj->Prop}{jX iter tg:Expr}{ifs:List Expr}{scope:gc}{pos iJ:cX}{N:List aK}{own:Nat}{cap:List Nat}{wi:TI}{g:TG}{tt:TT}{te:TE}(B:kP X scope N own cap)(hc:X.calm=true)(hi:PI X tg iter wi)
    (kg:gD own g)
    (hg:∀cl C fp s₀ H₀,PG (iW X scope cl N C fp s₀ H₀) tg g) (ht:∀cl C fp s₀ H₀,yK (iW X scope cl N C fp s₀ H₀) ifs tt) (he:∀cl C fp s₀ H₀,PE (iW X scope cl N C fp s₀ H₀) jX te)
    (hs:∀x,dm iter X.env x=pure x) (I:Inv X ai σ H s) (h:sj wi own cap g tt te σ H QV)
    (fin:∀(D C:ah) (H5:Hp) (s6:aj) (r:Flow),QV (.ref D) H5->Inv X ai σ H5 s6->kR X ai H5 C->(∃m,s6.heap.Ns C m)->qD (aI X.prog X.w) X.A X.xe use Q0 (.ref D) C (.ok r) s6) :
    aT (aI X.prog X.w) X.A (comprehension (.ListComp jX [⟨tg,iter,ifs,0⟩] scope pos) scope X.env iJ (newList []) false (bG iter X.env) use) Q0 X.xe s:=by
  obtain⟨cl,AZ,c1,c2,_⟩:=Jj (env:=X.env) scope.names [] (λx hx hf=>I.ok.has x.1 (B.free x hx hf)) (λy c e=>by simp at e)
  have uM:qB scope X.env=pure cl:=by
    have e:qB scope X.env=(forIn scope.names ([]:List (aK×ah)) (λ(x:aK×bp) (cs:List (aK×ah))=>if(x.2==bp.free)=true then do let a ← cellOf X.env x.1;pure (ForInStep.yield ((x.1,a)::cs))else pure (ForInStep.yield cs)) >>= pure:pq (List (aK×ah))):=rfl
    rw[e,AZ]
    rfl
  refine wpAny_comprehension_free (use:=use) rfl hs uM B.kind B.locs (dw (hi ai s σ H _ I h) λv s1 h1=>dw h1 λIR s2 h2=>?_)
  obtain⟨it,fp,tn,J,H2,e,I2,T,tq,f2,W0⟩:=h2
  subst e
  obtain⟨W,⟨m0,w0⟩,cy⟩:=W0 s2.heap.objs.size (I2.hok.fresh (aF _))
  refine jD ?_
  have I3:Inv X ai σ (cY H2 s2.heap.objs.size (.lst [])) { s2 with heap:=s2.heap.push { cls:=.type "list",data:=.seq ([]:List aa).toArray } }:=I2.lnew .nil (dh _)
  generalize Fv:({ s2 with heap:=s2.heap.push { cls:=.type "list",data:=.seq ([]:List aa).toArray } }:aj)=s3 at I3
  have k3:∀b o,s2.heap.get? b=some o->s3.heap.get? b=some o:=λb o e=>by rw[←Fv];exact ar _ e
  have z3:s3.heap.objs.size=s2.heap.objs.size+1:=by rw[←Fv];exact et _ _
  have rF:∀b∈fp,b<s2.heap.objs.size:=λb hb=>by
    obtain⟨o,e,_⟩:=T.obj _ _ tq b hb
    exact aO e
  have kD:∀b∈fp,b≠s2.heap.objs.size:=λb hb=>bo (rF b hb)
  have f3:∀b∈fp,kR X ai (cY H2 s2.heap.objs.size (.lst [])) b:=λb hb=>⟨by rw[zk (kD b hb)];exact(f2 b hb).1,(f2 b hb).2⟩
  have Jd:tn 0 s3.heap:=T.keep _ _ _ tq λb _ o e=>k3 b o e
  show aT _ _ (li scope X.env.globals cl [] X.env.qual none .none (some X.env)) _ _ _
  refine Qt λh₁ kk Bd A0=>?_
  have IB:=Q5 (t':=s3.toks) B I3 c1 c2 f3 (λb hb=>by rw[z3];exact eX (rF b hb)) Bd kk A0
  generalize cellsFrom (s3.heap.objs.size+1) scope.names cl=cl at IB ⊢
  generalize L9:({ s3 with heap:=h₁,toks:=s3.toks }:aj)=s4 at IB
  have HH:tn 0 s4.heap:=T.keep _ _ _ Jd λb _ o e=>by rw[←L9];exact kk b o e
  show eJ (aI X.prog X.w) X.A (.compStart (.ListComp jX [⟨tg,iter,ifs,0⟩] scope pos) 0 (.ref it) (.ref s2.heap.objs.size) (qC scope cl s3.heap.objs.size X.env))
      (qD (aI X.prog X.w) X.A X.xe use Q0 (.ref s2.heap.objs.size) s3.heap.objs.size) s4
  have ng:∀{H':Hp},(∀b∈fp,H' b=none)->∀b∈fp,kR (iW X scope cl N s3.heap.objs.size fp s3 (cY H2 s2.heap.objs.size (.lst []))) [] H' b:=λhn b hb=>
    ⟨hn b hb,bo (by show b<s3.heap.objs.size;rw[z3];exact eX (rF b hb)),IB.ok.exfs b hb,.inl hb,λx c e=>(IB.ok.exf b hb).2 x c e,λp hp=>(nomatch hp)⟩
  have loop:eJ (aI X.prog X.w) X.A (.compLoop (.ListComp jX [⟨tg,iter,ifs,0⟩] scope pos) 0 (.ref it) (.ref s2.heap.objs.size) (qC scope cl s3.heap.objs.size X.env))
      (qD (aI X.prog X.w) X.A X.xe use Q0 (.ref s2.heap.objs.size) s3.heap.objs.size) s4:=by
    refine Qs (λn s'=>∃i ys H',Inv (iW X scope cl N s3.heap.objs.size fp s3 (cY H2 s2.heap.objs.size (.lst []))) [] (ax own none++gB σ cap) H' s'/\tn i s'.heap/\(∀b∈fp,H' b=none)/\W i n ys H') ?_ m0
      ⟨0,[],_,IB,HH,λb hb=>(f3 b hb).1,w0⟩
    rintro n s5 ⟨i,ys,H5,I5,xN,AS,w5⟩
    obtain⟨hD,LV⟩:=cy i n ys H5 w5
    rcases LV with⟨stop,qn⟩|⟨go,lz,step⟩
    · refine dw (T.done (iW X scope cl N s3.heap.objs.size fp s3 (cY H2 s2.heap.objs.size (.lst []))) rfl rfl rfl hc i [] s5 _ H5 (λ_ _=>False) I5 (ng AS) xN stop) λr s6 dO=>?_
      obtain⟨hr,I6⟩:=dO
      subst hr
      obtain⟨m,hm,_⟩:=id I6.loc
      refine fin s2.heap.objs.size s3.heap.objs.size H5 s6 _ qn ?_ (I3.fpOk (aF _) I6.free) ⟨m,hm⟩
      have sb:gY s3.heap.objs.size s6.heap s6.heap:=⟨rfl,λ_ _=>rfl⟩
      have U:=I6.base
      have nC:∀b o,s3.heap.get? b=some o->b≠s3.heap.objs.size:=λb o e=>bo (aO e)
      have nT:∀b o,H5 b=some o->b≠s3.heap.objs.size:=λb o e z=>by
        have q:H5 s3.heap.objs.size=none:=I6.free
        rw[z,q]at e
        cases e
      refine I3.call' (ch:=fp) I6.os ?_ (λa o e=>(I6.hok a o e).stay (λb u hb q=>sb.extBut b u ?_ q) (λ_ q=>q) λ_ _ q=>q) I6.bare (λb hb=>⟨(f3 b hb).2.2.2.1,(f3 b hb).2.1,(f3 b hb).2.2.2.2.1,(f3 b hb).2.2.2.2.2⟩)
      · exact{
          keep:=λb o e z hb he=>sb.extBut b o (nC b o e) (U.keep b o e z hb he)
          slot:=λb o e z hb he=>by
            obtain⟨sl,q⟩:=U.slot b o e z hb he
            exact⟨sl,sb.extBut b _ (nC b o e) q⟩
          free:=U.free
          there:=λb o e he=>by
            obtain⟨o',q⟩:=U.there b o e he
            exact⟨o',sb.extBut b o' (nC b o e) q⟩
          tups:=U.tups
          frzs:=U.frzs
          tbls:=U.tbls }
      · rcases hb with rfl|hb
        · exact nT _ _ e
        · exact nT _ _ hb
    · refine dw (T.item (iW X scope cl N s3.heap.objs.size fp s3 (cY H2 s2.heap.objs.size (.lst []))) rfl rfl rfl hc i [] s5 _ H5 (λ_ _=>False) I5 (ng AS) xN go) λr s6 dO=>?_
      obtain⟨u,hr,h6⟩:=dO
      subst hr
      refine dw h6 λ_ s7 dO=>?_
      obtain⟨x,H7,I7,r7,y7,BC,Ll⟩:=dO
      have Ka:=I7.pinned (ng Ll) (T.obj _ _ BC)
      refine dw (hg cl s3.heap.objs.size fp s3 _ _ s7 _ H7 x u _ Ka r7 (kg _ _ _ _ (step x H7 y7))) λ_ s8 dO=>?_
      obtain⟨σ8,H8,I8,q8,l8,p8⟩:=dO
      have back:∀{H9:Hp} {s9:aj},Inv (iW X scope cl N s3.heap.objs.size fp s3 (cY H2 s2.heap.objs.size (.lst []))) ([]++lH fp s7.heap) σ8 H9 s9 ->
          Inv (iW X scope cl N s3.heap.objs.size fp s3 (cY H2 s2.heap.objs.size (.lst []))) [] (ax own none++gB σ cap) H9 s9/\tn (i+1) s9.heap/\∀b∈fp,H9 b=none:=λ{H9 s9} I9=>by
        refine⟨(I9.unpinned).weak l8.symm (λj v e=>?_),T.keep _ _ _ BC λb hb o e=>(I9.pin (b,o) (aD _ (aD _ (u8 hb e)))).1,λb hb=>?_⟩
        · by_cases hj:j<own
          · rw[dZ (by rw[dq];exact hj),fS,if_pos hj]at e
            cases e
          · rw[p8 j (by omega)];exact e
        · obtain⟨o,e,d⟩:=T.obj _ _ BC b hb
          exact(I9.pin (b,o) (aD _ (aD _ (u8 hb e)))).2.1
      refine dw (ht cl s3.heap.objs.size fp s3 _ _ s8 σ8 H8 _ I8 q8) λok s9 dO=>?_
      obtain⟨H9,I9,q9⟩:=dO
      cases ok with
      |false=>
        rw[if_neg aJ]
        rw[if_neg aJ]at q9
        obtain⟨m',xA,w'⟩:=q9
        obtain⟨b1,b2,b3⟩:=back I9
        exact⟨m',xA,i+1,ys,H9,b1,b2,b3,w'⟩
      |true=>
        rw[if_pos rfl]
        rw[if_pos rfl]at q9
        refine dw (he cl s3.heap.objs.size fp s3 _ _ s9 σ8 H9 _ I9 q9) λuy MD dO=>?_
        obtain⟨y,CI,J8,r10,AT,m',xA,w'⟩:=dO
        refine dw (Jp _ MD σ8 CI (.ref s2.heap.objs.size) [y] (.ref s2.heap.objs.size) [uy] (λ_ CJ=>CJ=cY CI s2.heap.objs.size (.lst (ys++[y]))) J8 rfl (.cons r10 .nil) ⟨_,ys,y,rfl,rfl,AT,lz,rfl⟩) λ_ Xz dO=>?_
        obtain⟨_,CJ,J9,_,KF⟩:=dO
        subst KF
        obtain⟨b1,b2,b3⟩:=back J9
        exact⟨m',xA,i+1,ys++[y],_,b1,b2,b3,w'⟩
  exact codeAny_compStart_list loop (T.self X.A 0 s4 _ _ HH loop)
theorem ZU {X:Cx}{i:Nat}{x:aK}{pos' vB:cX}{jX iter tg:Expr}{ifs:List Expr}{scope:gc}{pos:cX}{N:List aK}{own:Nat}{cap:List Nat}{wi:TI}{g:TG}{tt:TT}{te:TE}(B:kP X scope N own cap)(hc:X.calm=true)(hi:PI X tg iter wi)
  (kg:gD own g)
  (hg:∀cl C fp s₀ H₀,PG (iW X scope cl N C fp s₀ H₀) tg g) (ht:∀cl C fp s₀ H₀,yK (iW X scope cl N C fp s₀ H₀) ifs tt) (he:∀cl C fp s₀ H₀,PE (iW X scope cl N C fp s₀ H₀) jX te)
  (hN:X.N.Nodup) (yQ:X.N[i]?=some x) (hx:Loc X.env.scope x) (xE:dH (.ListComp jX [⟨tg,iter,ifs,0⟩] scope pos) (some (.Name x pos')) vB.line X.env=pure true)
  (hs:∀x,dm iter X.env x=pure x:=by intro _;rfl) (hf:X.fn x=true\/X.env.scope.names.lookup x=some .local:=by first|exact .inl rfl|exact .inr rfl|assumption) :
  PS X (.Assign [.Name x pos'] (.ListComp jX [⟨tg,iter,ifs,0⟩] scope pos) vB) (BD (sj wi own cap g tt te) (rZ i)):=by
 intro ai s σ H D I h
 rw[exec_Assign_Name_used _ _ _ _ xE]
 refine aw (jH (aw ?_))
 show aT _ X.A (do let _ ← comprehension (.ListComp jX [⟨tg,iter,ifs,0⟩] scope pos) scope X.env _ (newList []) false (bG iter X.env) (some (gW (.Name x pos') X.env))) _ _ s
 refine aw (dc (znr (use:=some (gW (.Name x pos') X.env)) (Q0:=λ_ s'=>∃σ' H',Inv X ai σ' H' s'/\D.nx σ' H') B hc hi kg hg ht he hs I h λDa C H5 s6 r q I6 fo hm=>?_) (λ_ s' hq=>bi (bi hq)) λ_ _ e=>e)
 show aT _ X.A (gW (.Name x pos') X.env (.ref Da)) _ _ _
 refine wpAny_assign_Name (QP (v:=.ref Da) I6 hN yQ hx rfl (λs7 I7 VQ=>?_) hf)
 obtain⟨m,hm⟩:=hm
 obtain⟨a,sb,ha⟩:=VQ
 obtain⟨f0,f1,f2,f3,f4,f5⟩:=fo
 have kD:C≠a:=by
  rcases ha with rfl|ha
  ·exact f1
  ·exactλz=>f4 x a ha z.symm
 refine⟨m,hm.sameBut sb kD,λh' XC=>⟨_,H5,I7.turned (t':=s7.toks) (it:=C) (λb o hb e=>XC.extBut b o hb e) f0 f1 f3 f4 f5,q⟩⟩
end L2
namespace L3
open PySem PySem.Spec L2
open PyProof.Rows hiding St
section
variable {X:Cx}{ct:Nat->ah}{ms:List Mo}{rk n m k:Nat}{a b c e o:Expr}{f g h:EF}{pos:cX}
theorem jr {om:List Mo}{jX iter tg:Expr}{ifs:List Expr}{scope:gc}{N:List aK}{own:Nat}{cap:List Nat}{fi:Env->Option (List D)}{gg:D->Env->Option Env}{p:BF}{i:Nat}{x:aK}{pos' vB:cX}
  (hm:ms[i]?=some (.ow k)) (hN:X.N.Nodup) (yQ:X.N[i]?=some x) (hx:Loc X.env.scope x)
  (B:kP X scope N own cap) (hc:X.calm=true) (ho:om.length=own) (iH:∀i∈cap,i<ms.length) (hi:zX X ct ms n tg iter fi)
  (hg:∀cl C fp s₀ H₀,wM (iW X scope cl N C fp s₀ H₀) ct (om++hJ ms cap) own n tg gg) (ht:∀cl C fp s₀ H₀,zZ (iW X scope cl N C fp s₀ H₀) ct (om++hJ ms cap) ifs p) (he:∀cl C fp s₀ H₀,XO (iW X scope cl N C fp s₀ H₀) ct (om++hJ ms cap) (k-1) jX f)
  (xE:dH (.ListComp jX [⟨tg,iter,ifs,0⟩] scope pos) (some (.Name x pos')) vB.line X.env=pure true:=by rfl)
  (hs:∀x,dm iter X.env x=pure x:=by intro _;rfl) (hf:X.fn x=true\/X.env.scope.names.lookup x=some .local:=by first|exact .inl rfl|exact .inr rfl|assumption) :
  XS X ct ms rk (.Assign [.Name x pos'] (.ListComp jX [⟨tg,iter,ifs,0⟩] scope pos) vB) (sSet i (fI fi own cap gg p f)):=by
 obtain⟨wi,g,tt,te,pi,kg,pg,pt,pe,q⟩:=Rm (k:=k-1) (pos:=pos) B hc ho iH hi hg ht he
 refine⟨_,ZU B hc pi kg pg pt pe hN yQ hx xE hs hf,λF0 B F H ρ σ o E rs e w=>?_⟩
 obtain⟨d,h1,h2⟩:=aU e
 cases h2
 cases k with
 |succ k=>exact q F0 B F H ρ σ d _ rs h1 λv F' H' fp x l nd hf=>w _ F' H' (rs.set hm x l nd hf)
 |zero=>
  refine q F0 B F H ρ σ d _ rs h1 λv F' H' fp x l nd hf=>?_
  obtain⟨F2,x2,l2⟩:=l.freeze x hf
  exact w _ F2 H' (rs.set hm x2 (Ow.zero l2) bL λa z=>by cases z)
theorem Sr {i:Nat}{x:aK}{pos':cX}(hm:ms[i]?=some (.ow k))(hN:X.N[i]?=some x:=by rfl)(hv:oK X.env.scope x:=by first|exact Or.inl rfl|exact Or.inr (Or.inl rfl)|exact Or.inr (Or.inr rfl))(hd:(x==("__debug__":aK))=false:=by decide)
  (iI:(x==("__classdict__":aK))=false:=by decide):XS X ct ms 0 (.Return (some (.Name x pos')) pos) (sRet (eV i)):=by
 refine⟨_,JR (v8 hN hv hd iI),λF0 B F H ρ σ o E rs e w=>?_⟩
 obtain⟨d,h1,h2⟩:=aU e
 cases h2
 obtain⟨fp,sl,nd,hb⟩:=rs.sl
 obtain⟨f1,fr,i1,i2,i3,i4,i5⟩:=sl.put hm
 obtain⟨v,vY,l⟩:=i4 d (zx h1)
 obtain⟨F',x,l2⟩:=l.freeze (⟨rs.f0,rs.bh,rs.fh,rs.nf⟩:fL F0 B F H) (λz hz=>hb z (i1 z hz))
 exact⟨v,vY,w v F' H [] x.ff x.hh x.fh x.nf (Ow.zero l2) bL λz hz=>by cases hz⟩
theorem ztw (hu:X.A.units+1<ip)(ha:XE X ct ms n a f)(hb:XE X ct ms m b g)(hm:dM .In b=false):XT X ct ms (.Compare a [.In] [b] pos) (tb λρ=>(f ρ).bind λx=>(g ρ).bind λy=>(hU y x).bind λr=>some (.bl r.isSome)):=by
 obtain⟨ta,tb',pa,pb,q⟩:=ha.bin hb
 refine⟨_,SW (ztc hu pa pb) hm,λF0 B F H ρ σ t Q rs e w=>?_⟩
 obtain⟨d0,h0,h9⟩:=aU e
 obtain⟨d1,d2,h1,h2,h3⟩:=dB h0
 obtain⟨r,h4,h5⟩:=aU h3
 cases h5
 cases h9
 refine q F0 B F H ρ σ d1 d2 _ rs h1 h2 λx y F' H' x1 l1 l2=>?_
 obtain⟨a,o,rfl,g,_,h⟩:=NG (r:=r) x1.fh l2 l1 h4
 refine⟨a,o,rfl,g,?_⟩
 cases r with
 |none=>rw[h.none_of];exact⟨_,rfl,w F' H' x1⟩
 |some d=>obtain⟨u,rfl,Fy⟩:=h.some_of;exact⟨_,rfl,w F' H' x1⟩
theorem zlk (hu:X.A.units+1<ip)(ha:XE X ct ms n a f)(hb:XE X ct ms m b g)(hm:dM .NotIn b=false):XT X ct ms (.Compare a [.NotIn] [b] pos) (tb λρ=>(f ρ).bind λx=>(g ρ).bind λy=>(hU y x).bind λr=>some (.bl (!r.isSome))):=by
 obtain⟨ta,tb',pa,pb,q⟩:=ha.bin hb
 refine⟨_,SW (zkj hu pa pb) hm,λF0 B F H ρ σ t Q rs e w=>?_⟩
 obtain⟨d0,h0,h9⟩:=aU e
 obtain⟨d1,d2,h1,h2,h3⟩:=dB h0
 obtain⟨r,h4,h5⟩:=aU h3
 cases h5
 cases h9
 refine q F0 B F H ρ σ d1 d2 _ rs h1 h2 λx y F' H' x1 l1 l2=>?_
 obtain⟨a,o,rfl,g,_,h⟩:=NG (r:=r) x1.fh l2 l1 h4
 refine⟨a,o,rfl,g,?_⟩
 cases r with
 |none=>rw[h.none_of];exact⟨_,rfl,w F' H' x1⟩
 |some d=>obtain⟨u,rfl,Fy⟩:=h.some_of;exact⟨_,rfl,w F' H' x1⟩
end
end L3
namespace L2
open PySem PyProof.Rows
end L2
namespace L3
open PySem PySem.Spec L2
open PyProof.Rows hiding St
section
variable {X:Cx}{ct:Nat->ah}{ms:List Mo}{rk n m k:Nat}{st:bD}{rest:List bD}{a b c e tg:Expr}{f g h:EF}{p q:BF}{u w:SF}{pos:cX}
end
end L3
namespace L3
open PySem PySem.Spec L2
open PyProof.Rows hiding St
section
variable {X:Cx}{ct:Nat->ah}{ms:List Mo}{rk n m k:Nat}{st:bD}{rest:List bD}{a b c e tg:Expr}{f g h:EF}{p q:BF}{u w:SF}{pos:cX}
end
end L3
namespace L3
open PySem PySem.Spec L2
open PyProof.Rows hiding St
section
variable {K:ae}{ct:Nat->ah}{F F' H B F0:Hp}
theorem SL.fz {ms:List Mo}{ρ:Env}{σ:St}{fp:List ah}{i k:Nat}(h0:SL K ct F B H ms ρ σ fp)(s:bC F H):fp.Nodup->ms[i]?=some (.ow k)->∃f1:List ah,(∀a∈f1,a∈fp) /\
  ∃iC,SL K ct (iE F H f1) B H (ms.set i (.ow 0)) ρ σ iC/\iC.Nodup/\∀a∈iC,a∈fp/\a∉f1:=by
 induction h0 generalizing i with
 |nil=>
  intro _ e
  simp at e
 |@no m0 o0 ms ρ σ fp t ih=>
  intro nd e
  cases i with
  |zero=>
   obtain⟨w1,w2,w3⟩:=uq (F:=F) (H:=H) (fp:=[]) s (λa z=>by cases z)
   exact⟨[],λa z=>(by cases z),fp,.no (t.frame w1 λa z=>⟨rfl,by unfold iE;rw[if_neg (by simp)];exact(t.cells a z).1⟩),nd,λa z=>⟨z,by simp⟩⟩
  |succ i=>
   obtain⟨f1,h1,iC,q1,q2,q3⟩:=ih (i:=i) nd (by simpa using e)
   exact⟨f1,h1,iC,.no q1,q2,q3⟩
 |@al n0 d0 v0 ms ρ σ fp h t ih=>
  intro nd e
  cases i with
  |zero=>
   simp at e
  |succ i=>
   obtain⟨f1,h1,iC,q1,q2,q3⟩:=ih (i:=i) nd (by simpa using e)
   obtain⟨w1,w2,w3⟩:=uq (F:=F) (H:=H) (fp:=f1) s (λa z=>(t.cells a (h1 a z)).1)
   exact⟨f1,h1,iC,.al (h.mono w1 (.refl _)) q1,q2,q3⟩
 |@px d0 v0 ms ρ σ fp h t ih=>
  intro nd e
  cases i with
  |zero=>
   simp at e
  |succ i=>
   obtain⟨f1,h1,iC,q1,q2,q3⟩:=ih (i:=i) nd (by simpa using e)
   obtain⟨w1,w2,w3⟩:=uq (F:=F) (H:=H) (fp:=f1) s (λa z=>(t.cells a (h1 a z)).1)
   exact⟨f1,h1,iC,.px (h.mono w1 (.refl _)) q1,q2,q3⟩
 |@so d0 x ms ρ σ fp h t ih=>
  intro nd e
  cases i with
  |zero=>
   simp at e
  |succ i=>
   obtain⟨n1,n2⟩:=bJ.mp nd
   obtain⟨f1,h1,iC,q1,q2,q3⟩:=ih (i:=i) n2 (by simpa using e)
   obtain⟨w1,w2,w3⟩:=uq (F:=F) (H:=H) (fp:=f1) s (λa z=>(t.cells a (h1 a z)).1)
   refine⟨f1,λa z=>ak _ (h1 a z),x::iC,.so (h.frame w1 λa z=>⟨rfl,?_⟩) q1,bJ.mpr ⟨λz=>n1 (q3 x z).1,q2⟩,λa z=>?_⟩
   ·rw[aB]at z
    unfold iE
    rw[if_neg λq=>n1 (z▸h1 a q)]
    exact(h.cells a (by rw[z];exact af)).1
   ·rcases aE.mp z with z|z
    ·exact⟨z▸af,λq=>n1 (z▸h1 a q)⟩
    ·exact⟨ak _ (q3 a z).1,(q3 a z).2⟩
 |@ow n0 d0 v0 ms ρ σ f fp h t ih=>
  intro nd e
  cases i with
  |zero=>
   obtain⟨w1,w2,w3⟩:=uq (F:=F) (H:=H) (fp:=f) s (λa z=>(h.cells a z).1)
   obtain⟨n1,n2,n3⟩:=br.mp nd
   refine⟨f,λa z=>bq _ z,[]++fp,.ow ⟨h.dt w1 w3,rfl⟩ (t.frame w1 λa z=>⟨rfl,?_⟩),n2,λa z=>⟨aD _ z,λq=>n3 a q a z rfl⟩⟩
   unfold iE
   rw[if_neg λq=>n3 a q a z rfl]
   exact(t.cells a z).1
  |succ i=>
   obtain⟨n1,n2,n3⟩:=br.mp nd
   obtain⟨f1,h1,iC,q1,q2,q3⟩:=ih (i:=i) n2 (by simpa using e)
   obtain⟨w1,w2,w3⟩:=uq (F:=F) (H:=H) (fp:=f1) s (λa z=>(t.cells a (h1 a z)).1)
   refine⟨f1,λa z=>aD _ (h1 a z),f++iC,.ow (h.frame w1 λa z=>⟨rfl,?_⟩) q1,br.mpr ⟨n1,q2,λa z b zb=>n3 a z b (q3 b zb).1⟩,λa z=>?_⟩
   ·unfold iE
    rw[if_neg λq=>n3 a z a (h1 a q) rfl]
    exact(h.cells a z).1
   ·rcases aZ.mp z with z|z
    ·exact⟨bq _ z,λq=>n3 a z a (h1 a q) rfl⟩
    ·exact⟨aD _ (q3 a z).1,(q3 a z).2⟩
theorem SL.forget (m':Mo){ms:List Mo}{ρ:Env}{σ:St}{fp:List ah}(i:Nat)(h0:SL K ct F B H ms ρ σ fp):∃iC,SL K ct F B H (ms.set i m') (ρ.set i none) σ iC/\iC.Sublist fp:=by
 induction h0 generalizing i with
 |nil=>
  exact⟨[],.nil,.refl _⟩
 |@no m0 o0 ms ρ σ fp t ih=>
  cases i with
  |zero=>
   exact⟨fp,.no t,.refl _⟩
  |succ i=>
   obtain⟨iC,q1,q2⟩:=ih i
   exact⟨iC,.no q1,q2⟩
 |@al n0 d0 v0 ms ρ σ fp h t ih=>
  cases i with
  |zero=>
   exact⟨fp,.no t,.refl _⟩
  |succ i=>
   obtain⟨iC,q1,q2⟩:=ih i
   exact⟨iC,.al h q1,q2⟩
 |@px d0 v0 ms ρ σ fp h t ih=>
  cases i with
  |zero=>
   exact⟨fp,.no t,.refl _⟩
  |succ i=>
   obtain⟨iC,q1,q2⟩:=ih i
   exact⟨iC,.px h q1,q2⟩
 |@so d0 x ms ρ σ fp h t ih=>
  cases i with
  |zero=>
   exact⟨fp,.no t,List.sublist_cons_self _ _⟩
  |succ i=>
   obtain⟨iC,q1,q2⟩:=ih i
   exact⟨_,.so h q1,q2.cons₂ _⟩
 |@ow n0 d0 v0 ms ρ σ f fp h t ih=>
  cases i with
  |zero=>
   exact⟨fp,.no t,List.sublist_append_right _ _⟩
  |succ i=>
   obtain⟨iC,q1,q2⟩:=ih i
   exact⟨_,.ow h q1,(List.Sublist.refl _).append q2⟩
theorem RS.fz {ms:List Mo}{ρ:Env}{σ:St}{i k:Nat}(rs:RS K ct F0 B ms F H ρ σ)(hm:ms[i]?=some (.ow k)):∃F',RS K ct F0 B (ms.set i (.ow 0)) F' H ρ σ:=by
 obtain⟨fp,sl,nd,hb⟩:=rs.sl
 obtain⟨f1,h1,iC,q1,q2,q3⟩:=sl.fz rs.fh nd hm
 obtain⟨w1,w2,w3⟩:=uq (F:=F) (H:=H) (fp:=f1) rs.fh (λa z=>(sl.cells a (h1 a z)).1)
 refine⟨iE F H f1,rs.f0.trans w1,rs.bh,w2,λa o ho hn=>?_,iC,q1,q2,λa z=>hb a (q3 a z).1⟩
 have:¬a∈f1:=λz=>by rw[hb a (h1 a z)]at ho;cases ho
 unfold iE;rw[if_neg this];exact rs.nf a o ho hn
theorem RS.forget {ms:List Mo}{ρ:Env}{σ:St}(m':Mo)(i:Nat)(rs:RS K ct F0 B ms F H ρ σ):RS K ct F0 B (ms.set i m') F H (ρ.set i none) σ:=by
 obtain⟨fp,sl,nd,hb⟩:=rs.sl
 obtain⟨iC,q1,q2⟩:=sl.forget m' i
 exact⟨rs.f0,rs.bh,rs.fh,rs.nf,iC,q1,q2.nodup nd,λa z=>hb a (q2.subset z)⟩
end
def uX (i:Nat):Out->Out
 |.nx ρ=>.nx (ρ.set i none)
 |.rt d=>.rt d
 |.bk ρ=>.bk (ρ.set i none)
 |.ct ρ=>.ct (ρ.set i none)
def sFz (i:Nat)(u:SF):SF:=λρ=>(u ρ).bind λo=>some (uX i o)
section
variable {X:Cx}{ct:Nat->ah}{ms:List Mo}{rk k:Nat}
theorem ZV {ms:List Mo}{i k:Nat}(hm:ms[i]?=some (.ow k)):(ms.set i (.ow 0)).set i (.ow k)=ms:=by
 rw[List.set_set]
 apply lA
 intro j
 rw[tJ]
 split
 ·next h=>
  subst h
  rw[hm]
  have:=(bg.mp hm).1
  rw[if_pos this]
 ·rfl
theorem zvc {i:Nat}{t:iw->St->Hp->Prop}{w:SF}(hm:ms[i]?=some (.ow k))
  (q:∀(F0 B F H:Hp) (ρ:Env) (σ:St) (o:Out) (E:iw),RS X.K ct F0 B (ms.set i (.ow 0)) F H ρ σ->w ρ=some o->jA X.K ct F0 B (ms.set i (.ow 0)) rk E o->t E σ H)
  (F0 B F H:Hp) (ρ:Env) (σ:St) (o:Out) (E:iw) (rs:RS X.K ct F0 B ms F H ρ σ) (e:sFz i w ρ=some o) (z:jA X.K ct F0 B ms rk E o):t E σ H:=by
 obtain⟨F',r2⟩:=rs.fz hm
 obtain⟨o1,e1,e2⟩:=aU e
 refine q F0 B F' H ρ σ o1 E r2 e1 ?_
 have back:∀{ρ':Env} {σ':St} {F2 H2:Hp},RS X.K ct F0 B (ms.set i (.ow 0)) F2 H2 ρ' σ'->RS X.K ct F0 B ms F2 H2 (ρ'.set i none) σ':=λr=>by
  have:=r.forget (.ow k) i
  rw[ZV hm]at this
  exact this
 cases o1 with
 |nx ρ'=>cases e2;exactλσ' F2 H2 r=>z σ' F2 H2 (back r)
 |rt d=>cases e2;exact z
 |bk ρ'=>cases e2;exactλσ' F2 H2 r=>z σ' F2 H2 (back r)
 |ct ρ'=>cases e2;exactλσ' F2 H2 r=>z σ' F2 H2 (back r)
theorem N8 {Qb:List bD}{w:SF}{i:Nat}(hm:ms[i]?=some (.ow k))(h:qH X ct (ms.set i (.ow 0)) rk Qb w):qH X ct ms rk Qb (sFz i w):=by
 obtain⟨t,pt,qt⟩:=h
 exact⟨t,pt,zvc hm qt⟩
theorem zig {i:Nat}{d:D}:uX i (.rt d)=.rt d:=rfl
theorem zih {i:Nat}{ρ:Env}:uX i (.nx ρ)=.nx (ρ.set i none):=rfl
end
end L3
namespace L3
open PySem PySem.Spec L2
open PyProof.Rows hiding St
section
variable {X:Cx}{ct:Nat->ah}{ms:List Mo}{rk n m k:Nat}{a b c tg:Expr}{pos:cX}
end
end L3
namespace L2
open PySem PySem.Spec PyProof.Rows
section
variable {X:Cx}{sP:List Expr}{kt:Nat}{pt:cX}
end
end L2
namespace L3
open PySem PySem.Spec L2
open PyProof.Rows hiding St
section
variable {X:Cx}{ct:Nat->ah}{ms:List Mo}{n:Nat}{a b:Expr}{pos:cX}
end
end L3
namespace L3
open PySem PySem.Spec L2
open PyProof.Rows hiding St
section
variable {K:ae}{ct:Nat->ah}{n m k:Nat}
end
end L3
namespace L2
open PySem PySem.Spec PyProof.Rows
section
variable {X:Cx}{e sp:Expr}{te:TE}{tp:TO}{pos p2:cX}
end
end L2
namespace L3
open PySem PySem.Spec L2
open PyProof.Rows hiding St
section
variable {X:Cx}{ct:Nat->ah}{ms:List Mo}{n m:Nat}{e sp:Expr}{f g:EF}{pos p1:cX}
end
end L3
namespace L3
open PySem PySem.Spec L2
open PyProof.Rows hiding St
def kg {α:Type}(p q:Nat)(rv:Bool)(us ws:List α):List α:=if us.length=p/\ws.length=q then us++(if rv then ws.reverse else ws)else[]
section
variable {X:Cx}{ct:Nat->ah}{ms:List Mo}{rk n m k kk:Nat}{e a:Expr}{f:EF}{x:aK}{pp pos Bq:cX}{fa:ah}{fd:aH}{ps ks:List aK}{mf:List D->Option D}
end
end L3
namespace L3
open PySem PySem.Spec L2
open PyProof.Rows hiding St
section
variable {X:Cx}{ct:Nat->ah}{ms:List Mo}{rk n m k:Nat}{st:bD}{rest:List bD}{a b c e tg:Expr}{f g h:EF}{p q:BF}{u w:SF}{pos:cX}
end
end L3
namespace L3
open PySem PySem.Spec L2
open PyProof.Rows hiding St
theorem zra:mE (aa.type "list_reverseiterator") (aK.ofString "__len__")=pure none:=by with_unfolding_all rfl
theorem zns:mE (aa.type "list_reverseiterator") (aK.ofString "__length_hint__")=pure (some (aa.builtin "list_reverseiterator.__length_hint__")):=by with_unfolding_all rfl
theorem zlm:splitId "list_reverseiterator.__length_hint__"=some ("list_reverseiterator","__length_hint__"):=by with_unfolding_all rfl
theorem zrb:isSubtype (aa.type "list_reverseiterator") (aa.type "list_reverseiterator")=pure true:=by with_unfolding_all rfl
theorem znt {prog:bn}{w:bP}{A:bx}{E:aa->aj->Prop}{s:aj}{it l:ah}{i:Int}{Q:Bool->aj->Prop}(st:s.heap.IsRevIter it l i)(h:Q false s):aT (aI prog w) A (di.List.listLengthHint (aa.ref it)) Q E s:=by
 unfold di.List.listLengthHint
 refine aw (pw st.typeIs zra ?_)
 simp only[]
 refine aw (pw st.typeIs zns ?_)
 simp only[zlm]
 refine aw (wpAny_isInstance st.typeIs zrb ?_)
 rw[if_neg (by decide)]
 rw[if_pos (by with_unfolding_all decide),if_neg (by decide)]
 exact bi h
theorem ZW {prog:bn}{w:bP}{A:bx}{s:aj}{R:Result->aj->Prop}{it l:ah}{items:Array aa}(hh:A.handled=none)(st:s.heap.IsRevIter it l ((items.size:Int)-1))(hl:s.heap.IsList l items)(kD:l≠it)(hsz:items.size<=sizeLine)(S:ah)(res:aa)(c₀:Nat)(hS:s.heap.get? S=some { cls:=aa.type "list",data:=kj.seq #[] c₀ })(Vo:S≠l)
    (hR:∀(h':aM) (tk:Nat) (ke:Array aa) (c':Nat),(∀(b:ah) (o:df),b≠S->b≠it->s.heap.get? b=some o->h'.get? b=some o)->h'.get? S=some { cls:=aa.type "list",data:=kj.seq ke c' }->ItemsOf (λi v=>items[items.size-1-i]?=some v) ke items.size->R (Except.ok (Flow.ret res)) { s with heap:=h',toks:=tk }) :
    aT (aI prog w) A.in1 (di.List.listExtendWith (aa.ref S) (aa.ref it) res) (λfin s'=>match fin with|Fin.done f=>R (Except.ok f) s'|Fin.again c'=>c'.quiet=true/\eJ (aI prog w) A c' R s') (λe s'=>R (Except.error e) s') s:=by
  have EZ:S≠it:=λe=>by
    obtain⟨o,h1,h2,h3⟩:=st
    rw[←e,hS]at h1
    cases h1
    simp at h2
  have W:=(Walks.listRev (prog:=prog) (w:=w) (A:=A.in1) hh it l kD items).toS
  have key:eJ (aI prog w) A (pj.builtin "list.extend.loop" { pos:=[aa.ref S,aa.ref it,res] }) R s:=by
    refine codeAny_extend_loopS W hsz S (by simp[EZ,Vo]) res items.size 0 s #[] c₀ rfl (dh _) ⟨dh _,by simpa using st,hl⟩ hS (ItemsOf.nil _) λs' ke c' hm B7 rD=>?_
    rw[Moved.eq_with hm]
    exact hR s'.heap s'.toks ke c' (λb o hb hi e=>hm.heap b o (by simp[hb,hi]) e) B7 rD
  unfold di.List.listExtendWith
  refine aw (wpAny_typeOf st.typeIs ?_)
  have h1:di.List.listSameRef (aa.ref S) (aa.ref it)=false:=by simp[di.List.listSameRef,EZ]
  have h2:(aa.type "list_reverseiterator" == aa.type "list")=false:=by decide
  have h3:(aa.type "list_reverseiterator" == aa.type "tuple")=false:=by decide
  simp only[h1,h2,h3,yC,cE,if_false]
  refine aw (wpAny_pyIter_revIter st ?_)
  refine aw (mm (znt st ?_))
  rw[if_neg (by with_unfolding_all decide)]
  exact bi ⟨plainId_quiet F.plain_extend_loop _,key⟩
theorem Y6 {prog:bn}{w:bP}{A:bx}{E:aa->aj->Prop}{s:aj}{Q:aa->aj->Prop}{it l:ah}{items:Array aa}(hh:A.handled=none)(st:s.heap.IsRevIter it l ((items.size:Int)-1))(hl:s.heap.IsList l items)(kD:l≠it)(hsz:items.size<=sizeLine)
    (hQ:∀(h':aM) (tk:Nat) (ke:Array aa) (c':Nat),(∀(b:ah) (o:df),b≠it->s.heap.get? b=some o->h'.get? b=some o)->h'.get? s.heap.objs.size=some { cls:=aa.type "list",data:=kj.seq ke c' }->ItemsOf (λi v=>items[items.size-1-i]?=some v) ke items.size->Q (aa.ref s.heap.objs.size) { s with heap:=h',toks:=tk }) :
    aT (aI prog w) A (call (aa.type "list") [aa.ref it]) Q E s:=by
  refine callType_codes (Q₁:=λobj s₁=>obj=aa.ref s.heap.objs.size/\s₁ = { s with heap:=s.heap.push { cls:=aa.type "list",data:=kj.seq #[] } }) F.called_list (F.typeCall_list_1 (aa.ref it)) F.entry_list_init (code_list_new (aa.ref it) ⟨rfl,rfl⟩) λobj s₁ h₁=>?_
  obtain⟨rfl,rfl⟩:=h₁
  have hS:=bH s.heap (o:={ cls:=aa.type "list",data:=kj.seq #[] }) rfl
  refine⟨⟨_,hS,rfl⟩,F.args_list_init_2 (aa.ref s.heap.objs.size) (aa.ref it),?_⟩
  have Gv:∀b o,s.heap.get? b=some o->b≠s.heap.objs.size:=λb o e=>bo (aO e)
  have VD:s.heap.objs.size≠l:=λe=>by
    obtain⟨o,h1,_⟩:=hl
    exact Gv l o h1 e.symm
  have V2:(#[]:Array aa).size<=sizeLine:=dh _
  have IP:(#[]:Array aa).size<=sizeLine+1:=dh _
  show aT _ _ (di.List.listItems (aa.ref s.heap.objs.size) >>= _) _ _ _
  refine aw ?_
  show aT _ _ (seqItems? (aa.ref s.heap.objs.size) >>= _) _ _ _
  refine aw (wpAny_seqItems hS rfl ?_)
  refine bi ?_
  show aT _ _ (updateSeq s.heap.objs.size (λ_=>#[]) >>= _) _ _ _
  refine aw (wpAny_updateSeq hS rfl ?_ V2 IP)
  have Vp:((s.heap.push { cls:=aa.type "list",data:=kj.seq #[] }).update s.heap.objs.size (df.mapSeq λ_=>#[])).get? s.heap.objs.size=some { cls:=aa.type "list",data:=kj.seq #[] 0 }:=dW (df.mapSeq λ_=>#[]) hS rfl
  have n9:∀(b:ah) (o:df),b≠s.heap.objs.size->s.heap.get? b=some o->((s.heap.push { cls:=aa.type "list",data:=kj.seq #[] }).update s.heap.objs.size (df.mapSeq λ_=>#[])).get? b=some o:=λb o hb e=>(cI _ _ (Ne.symm hb)).trans (ar _ e)
  refine aw (wpAny_letGo ?_)
  obtain⟨oi,i1,i2,i3⟩:=st
  obtain⟨ol,l1,l2,l3⟩:=hl
  refine ZW (A:=A.in1) (R:=wants (λr s₂=>r=aa.none/\Q (aa.ref s.heap.objs.size) s₂) E) (s:={ s with heap:=(s.heap.push { cls:=aa.type "list",data:=kj.seq #[] }).update s.heap.objs.size (df.mapSeq λ_=>#[]) }) (l:=l) (items:=items) hh ⟨oi,n9 it oi (Gv it oi i1) i1,i2,i3⟩ ⟨ol,n9 l ol (Gv l ol l1) l1,l2,l3⟩ kD hsz s.heap.objs.size aa.none _ Vp VD λh' tk ke c' hk B7 rD=>⟨rfl,hQ h' tk ke c' (λb o hb e=>hk b o (Gv b o e) hb (n9 b o (Gv b o e) e)) B7 rD⟩
section
variable {X:Cx}{ct:Nat->ah}{ms:List Mo}{rk n m k:Nat}{a e:Expr}{f:EF}{pos:cX}
def zG (K:ae):V->Hp->VK->Prop:=λx H Q=>∃a xs,x=.ref a/\gz K H a xs/\∀p,H p=none->Q (.ref p) (cY H p (.lst xs.reverse))
def Hy (K:ae)(te:TE):TE:=λσ H Q=>te σ H λx H1=>zG K x H1 Q
theorem zrc {te:TE}{p1 p2 iJ:cX}(hc:X.calm=true)(hg:Gl X "list")(hm:X.mg "list"=none)(pz:Gl X "reversed")(oP:X.mg "reversed"=none)(he:PE X e te)(hs:ap [e] X.env=[(false,bG e X.env)]:=by rfl)
  (qM:ap [.Call (.Name "reversed" p2) [e] [] iJ] X.env=[(false,bG (.Call (.Name "reversed" p2) [e] [] iJ) X.env)]:=by rfl) :
  PE X (.Call (.Name "list" p1) [.Call (.Name "reversed" p2) [e] [] iJ] [] pos) (Hy X.K te):=by
 intro ai s σ H Q I h
 refine cJ (xX I hg hm Cs ?_ (by decide) (by decide))
 refine cz ?_ qM rfl
 rw[qM]
 show aT _ _ (spliced ((false,bG (.Call (.Name "reversed" p2) [e] [] iJ) X.env)::[])) _ _ s
 refine Calls.spliced_cons ?_
 refine cJ (xX (u:=.type "reversed") I pz oP (by rfl) ?_ (by decide) (by decide))
 refine cz (dw ((wv he jp hs) iJ ai s σ H (λvs H1=>match vs with|[x]=>zG X.K x H1 Q|_=>False) I h) λus s1 ⟨vs,H1,I1,r,q⟩=>?_) hs rfl
 match vs,q with
 |[x],q=>
  obtain⟨a,xs,rfl,hq,q⟩:=q
  obtain⟨u,rfl,ru⟩:=r.one
  cases ru
  obtain⟨cx,rv,pl,hz⟩:=I1.list hq
  have hl:=rv.length
  refine call_reversed_list pl.isList (Calls.spliced_nil ?_)
  have I2:L2.Inv X ai σ H1 { s1 with heap:=s1.heap.push (yG a ((cx.toArray.size:Int)-1)) }:=I1.kept (t':=s1.toks) λb o e=>ar _ e
  have st:(s1.heap.push (yG a ((cx.toArray.size:Int)-1))).IsRevIter s1.heap.objs.size a ((cx.toArray.size:Int)-1):=⟨_,bH _ rfl,rfl,by simp[yG]⟩
  have Xr:(s1.heap.push (yG a ((cx.toArray.size:Int)-1))).IsList a cx.toArray:=by
   obtain⟨o,h1,h2⟩:=pl.isList
   exact⟨o,ar _ h1,h2⟩
  have Uk:a≠s1.heap.objs.size:=by
   obtain⟨o,h1,h2⟩:=pl.isList
   exact bo (aO h1)
  refine Y6 (I2.ok.hd hc) st Xr Uk (by rw[aL,←hl];exact hz) λh' tk ke c' kp hS rD=>?_
  have yV:(s1.heap.push (yG a ((cx.toArray.size:Int)-1))).objs.size=s1.heap.objs.size+1:=by simp[aM.push]
  have hv:bR xs.reverse ke.toList:=by
   obtain⟨e1,e2⟩:=rD
   have e3:ke.size=cx.length:=by rw[e1,aL]
   refine Nw ((gU).trans (hl.trans (e3.symm.trans dP.symm))) λi x u hx hu=>?_
   have hi:i<xs.length:=by
    have:=(bg.mp hx).1
    rwa[gU]at this
   rw[List.getElem?_reverse hi]at hx
   obtain⟨u',Fy,ru⟩:=rv.get hx
   have:=e2 i u (by simpa using hu)
   rw[aL,←hl]at this
   have h3:cx[xs.length-1-i]?=some u:=by simpa using this
   rw[Fy]at h3
   cases h3
   exact ru
  have gC:xs.reverse.length<=sizeLine:=by rw[gU];exact hz
  refine⟨.ref _,_,I1.laid (t':=tk) (λb o e=>kp b o (bo (aO e)) (ar _ e)) (by rw[yV];omega) (show d4 X.prog X.w _ h' _ (.lst _)from⟨gC,ke.toList,c',hv,hS⟩),rfl,q _ (I1.hok.fresh (by rw[yV];omega))⟩
def pT:D->Option D
 |.lst ds=>some (.lst ds.reverse)
 |_=>none
theorem Ss {p1 p2 iJ:cX}(hn:n<=1)(hc:X.calm=true)(hg:Gl X "list")(hm:X.mg "list"=none)(pz:Gl X "reversed")(oP:X.mg "reversed"=none)(he:XE X ct ms n e f)(hs:ap [e] X.env=[(false,bG e X.env)]:=by rfl)
  (qM:ap [.Call (.Name "reversed" p2) [e] [] iJ] X.env=[(false,bG (.Call (.Name "reversed" p2) [e] [] iJ) X.env)]:=by rfl) :
  XO X ct ms 1 (.Call (.Name "list" p1) [.Call (.Name "reversed" p2) [e] [] iJ] [] pos) (e1 pT f):=by
 obtain⟨t,pt,qt⟩:=he
 refine⟨_,zrc hc hg hm pz oP pt hs qM,λF0 B F H ρ σ r Q rs e w=>?_⟩
 obtain⟨d,h1,h2⟩:=aU e
 refine qt F0 B F H ρ σ d _ rs h1 λv F1 H1 x1 l=>?_
 cases d with
 |lst ds=>
  cases h2
  obtain⟨a,vs,rfl,ha,hp⟩:=Al.lst1 hn l x1.fh
  exact⟨a,vs,rfl,ha,BP x1.fh (Pr.reverse hp) λv F2 H2 fp x2 l2 nd hf=>w v F2 H2 fp (x1.trans x2) l2 nd λz hz=>x1.hh.free (hf z hz)⟩
 |_=>cases h2
end
end L3
namespace L3
open PySem PySem.Spec L2
open PyProof.Rows hiding St
section
variable {X:Cx}{ct:Nat->ah}{ms:List Mo}{n m l k:Nat}{a b c:Expr}{f g h:EF}{pos:cX}
end
end L3
namespace L3
open PySem PySem.Spec L2
open PyProof.Rows hiding St
def vQ (f:EF):EF:=λρ=>(f ρ).bind λd=>if d.sc=true then some d else none
section
variable {X:Cx}{ct:Nat->ah}{ms:List Mo}{rk n m k:Nat}{a b c e tg:Expr}{f g h:EF}{pos:cX}
theorem J5 (he:XE X ct ms n e f):XO X ct ms k e (vQ f):=by
 obtain⟨t,p,q⟩:=he
 refine⟨t,p,λF0 B F H ρ σ d Q r e w=>?_⟩
 obtain⟨d0,h1,h2⟩:=aU e
 by_cases hs:d0.sc=true
 ·rw[if_pos hs]at h2
  cases h2
  exact q F0 B F H ρ σ d Q r h1 λv F' H' x l=>w v F' H' [] x (Ow.scal (Al.scal l hs) hs) bL λa z=>(by cases z)
 ·rw[if_neg hs]at h2;cases h2
end
end L3
namespace L3
open PySem PySem.Spec L2
open PyProof.Rows hiding St
section
variable {X:Cx}{ct:Nat->ah}{ms:List Mo}{n:Nat}{e tg:Expr}{f:EF}{pos:cX}
end
end L3
namespace L3
open PySem PySem.Spec L2
open PyProof.Rows hiding St
section
variable {X:Cx}{K:ae}{ct:Nat->ah}{ms:List Mo}{n k:Nat}
end
end L3
namespace L3
open PySem PySem.Spec L2
open PyProof.Rows hiding St
section
variable {X:Cx}{ct:Nat->ah}{ms:List Mo}{rk n m k:Nat}{a b c e:Expr}{f g h:EF}{pos:cX}
end
end L3
namespace L3
open PySem PySem.Spec L2
open PyProof.Rows hiding St
def hZ:D->Bool
 |.lst _=>true
 |.dK _ _=>true
 |.dT _ _=>true
 |_=>false
theorem Ow.cell {K:ae}{ct:Nat->ah}{F H:Hp}{d:D}{v:V}{fp:List ah}(h:Ow K ct F H 1 d v fp)(hc:hZ d=true):∃a,v=.ref a/\fp=[a]:=by
 cases d with
 |lst ds=>obtain⟨a,vs,fr,rfl,rfl,_,_,ol⟩:=h.lst_inv;have e0:=ol.nil0;subst e0;exact⟨_,rfl,rfl⟩
 |dK ks ds=>obtain⟨a,vs,fr,rfl,rfl,_,_,_,ol⟩:=h.dK_inv;have e0:=ol.nil0;subst e0;exact⟨_,rfl,rfl⟩
 |dT ks ds=>obtain⟨a,vs,fr,rfl,rfl,_,_,_,ol⟩:=h.dT_inv;have e0:=ol.nil0;subst e0;exact⟨_,rfl,rfl⟩
 |_=>cases hc
section
variable {K:ae}{ct:Nat->ah}{F F' H H' B F0:Hp}
theorem SL.putS {x:ah}{d:D}{ms:List Mo}{ρ:Env}{σ:St}{fp:List ah}{i:Nat}(h0:SL K ct F B H ms ρ σ fp):fp.Nodup->ms[i]?=some (.so x)->ρ[i]?=some (some d) ->
  σ[i]?=some (some (.ref x))/\Ow K ct F H 1 d (.ref x) [x]/\x∈fp/\∀(F' H':Hp) (d':D),bC F F'->(∀a∈fp,a≠x->H' a=H a/\F' a=none)->Ow K ct F' H' 1 d' (.ref x) [x]->SL K ct F' B H' ms (ρ.set i (some d')) σ fp:=by
 induction h0 generalizing i with
 |nil=>
  intro _ e _
  simp at e
 |@no m0 o0 ms ρ σ fp t ih=>
  intro nd e e'
  cases i with
  |zero=>
   have e:=e'
   simp at e
  |succ i=>
   obtain⟨h1,h2,h3,h4⟩:=ih (i:=i) nd (by simpa using e) (by simpa using e')
   exact⟨by simpa using h1,h2,h3,λF' H' d' s k o=>.no (h4 F' H' d' s k o)⟩
 |@al n0 d0 v0 ms ρ σ fp h t ih=>
  intro nd e e'
  cases i with
  |zero=>
   simp at e
  |succ i=>
   obtain⟨h1,h2,h3,h4⟩:=ih (i:=i) nd (by simpa using e) (by simpa using e')
   exact⟨by simpa using h1,h2,h3,λF' H' d' s k o=>.al (h.mono s (.refl _)) (h4 F' H' d' s k o)⟩
 |@px d0 v0 ms ρ σ fp h t ih=>
  intro nd e e'
  cases i with
  |zero=>
   simp at e
  |succ i=>
   obtain⟨h1,h2,h3,h4⟩:=ih (i:=i) nd (by simpa using e) (by simpa using e')
   exact⟨by simpa using h1,h2,h3,λF' H' d' s k o=>.px (h.mono s (.refl _)) (h4 F' H' d' s k o)⟩
 |@so d0 y ms ρ σ Lk h t ih=>
  intro nd e e'
  cases i with
  |zero=>
   simp at e e'
   subst e
   subst e'
   obtain⟨n1,n2⟩:=bJ.mp nd
   exact⟨rfl,h,af,λF' H' d' s k o=>.so o (t.frame s λa z=>k a (ak _ z) λe=>n1 (e▸z))⟩
  |succ i=>
   obtain⟨n1,n2⟩:=bJ.mp nd
   obtain⟨h1,h2,h3,h4⟩:=ih (i:=i) n2 (by simpa using e) (by simpa using e')
   refine⟨by simpa using h1,h2,ak _ h3,λF' H' d' s k o=>.so (h.frame s λa z=>?_) (h4 F' H' d' s (λa z=>k a (ak _ z)) o)⟩
   rw[aB]at z
   subst z
   exact k a af λe=>n1 (e▸h3)
 |@ow n0 d0 v0 ms ρ σ f Lk h t ih=>
  intro nd e e'
  cases i with
  |zero=>
   simp at e
  |succ i=>
   obtain⟨n1,n2,n3⟩:=br.mp nd
   obtain⟨h1,h2,h3,h4⟩:=ih (i:=i) n2 (by simpa using e) (by simpa using e')
   refine⟨by simpa using h1,h2,aD _ h3,λF' H' d' s k o=>.ow (h.frame s λa z=>?_) (h4 F' H' d' s (λa z=>k a (aD _ z)) o)⟩
   exact k a (bq _ z) λe=>n3 a z x h3 e
theorem RS.changeS {ms:List Mo}{ρ:Env}{σ:St}{i:Nat}{d d':D}{ad:ah}{o:HO}(rs:RS K ct F0 B ms F H ρ σ)(hm:ms[i]?=some (.so ad))(hρ:ρ[i]?=some (some d))(x:fL F H F' H')(Lh:F' ad=none)(o':Ow K ct F' (cY H' ad o) 1 d' (.ref ad) [ad]) :
  RS K ct F0 B ms F' (cY H' ad o) (ρ.set i (some d')) σ:=by
 have r:=rs.ext x
 obtain⟨fp,sl,nd,hb⟩:=rs.sl
 obtain⟨h1,h2,h3,h4⟩:=sl.putS nd hm hρ
 have hB:B ad=none:=hb ad h3
 refine⟨r.f0,λz u h=>?_,λz u h=>?_,r.nf,fp,h4 F' _ d' x.ff (λa z ne=>?_) o',nd,hb⟩
 ·rw[zk (λe=>by rw[e,hB]at h;cases h)];exact r.bh _ _ h
 ·rw[zk (λe=>by rw[e,Lh]at h;cases h)];exact x.fh _ _ h
 ·obtain⟨hn,o,ho⟩:=sl.cells a z
  rw[zk ne]
  exact⟨(x.hh _ _ ho).trans ho.symm,x.nf a o ho hn⟩
theorem RS.so_at {ms:List Mo}{ρ:Env}{σ:St}{i:Nat}{d:D}{ad:ah}(rs:RS K ct F0 B ms F H ρ σ)(hm:ms[i]?=some (.so ad))(hρ:ρ[i]?=some (some d)):σ[i]?=some (some (.ref ad))/\Ow K ct F H 1 d (.ref ad) [ad]/\B ad=none:=by
 obtain⟨fp,sl,nd,hb⟩:=rs.sl
 obtain⟨h1,h2,h3,h4⟩:=sl.putS nd hm hρ
 exact⟨h1,h2,hb _ h3⟩
end
section
variable {X:Cx}{ct:Nat->ah}{ms:List Mo}{rk n m k:Nat}{st:bD}{rest:List bD}{a b c e tg:Expr}{f g h:EF}{p q:BF}{u w:SF}{pos:cX}
theorem RF (i:Nat){xa:ah}{x:aK}{j:Expr}{p1 gE:cX}{fj:EF}(hm:ms[i]?=some (.so xa))(hj:XE X ct ms n j fj)(he:XE X ct ms 0 e f)(hN:X.N[i]?=some x:=by rfl)(hv:oK X.env.scope x:=by first|exact Or.inl rfl|exact Or.inr (Or.inl rfl)|exact Or.inr (Or.inr rfl))(hd:(x==("__debug__":aK))=false:=by decide)
  (iI:(x==("__classdict__":aK))=false:=by decide)
  (ha:∀v,gW (.Subscript (.Name x p1) j gE) X.env v=(do
   let ov ← dS [v] (bG (.Name x p1) X.env)
   let iv ← dS [v,ov] (bG j X.env)
   fO gE
   dS [v,ov,iv] (nr ov iv v)
   tP [v,ov,iv] []):=by intro _;rfl)
  (hs:ml [.Subscript (.Name x p1) j gE] e pos.line X.env=pure false:=by rfl) (hw:mj [.Subscript (.Name x p1) j gE] e X.env=pure none:=by rfl)
  (h1:(cZ [.Subscript (.Name x p1) j gE] X.env).map (·.2)=[gW (.Subscript (.Name x p1) j gE) X.env]:=by rfl) :
  XS X ct ms rk (.Assign [.Subscript (.Name x p1) j gE] e pos) (iQ i fj f):=by
 obtain⟨t,pt,qt⟩:=he
 obtain⟨tj,xJ,xK⟩:=hj
 refine⟨_,NU pt (SZ (v8 hN hv hd iI) xJ Nd ha) hs hw h1,λF0 B F H ρ σ o E rs e z=>?_⟩
 obtain⟨d,g1,g2⟩:=aU e
 obtain⟨d1,rY,g3,g4,g5⟩:=dB g2
 refine qt F0 B F H ρ σ d _ rs g1 λv0 F1 H1 x1 l0=>?_
 have ku:=rs.ext x1
 obtain⟨hσ,ow,hB⟩:=ku.so_at hm (zx g3)
 refine⟨_,hσ,xK F0 B F1 H1 ρ σ rY _ ku g4 λvj F2 H2 x2 lj=>?_⟩
 cases d1 with
 |lst ds=>
  cases rY with
  |int zi=>
   obtain⟨rz,g6,g7⟩:=aU g5
   cases g7
   obtain⟨jn,g8,g9⟩:=aU g6
   cases g9
   obtain⟨ad,vs,qJ,ea,ef,hF,hH,ol⟩:=ow.lst_inv
   cases ea
   cases ef
   have hA:H2 xa=some (.lst vs):=x2.hh _ _ hH
   have fA:F2 xa=none:=x2.nf xa _ hH hF
   refine⟨xa,vs,zi,jn,rfl,lj.int,hA,by rw[←ol.length];exact g8,?_⟩
   exact z σ F2 _ (ku.changeS hm (zx g3) x2 fA (.inr (.lst fA zt (fH.set0 ⟨Dt.mono x2.ff l0,rfl⟩ (λ_ _ _ q=>q.2) jn (ol.mono λ_ _ _ _ q=>⟨q.1.mono x2.ff,q.2⟩)))))
  |_=>cases g5
 |_=>cases g5
theorem RH (i:Nat){xa:ah}{x:aK}{j:Expr}{p1 gE:cX}{fj:EF}(hm:ms[i]?=some (.so xa))(hu:X.A.units+1<ip)(hj:XE X ct ms 0 j fj)(he:XE X ct ms 0 e f)(hN:X.N[i]?=some x:=by rfl)(hv:oK X.env.scope x:=by first|exact Or.inl rfl|exact Or.inr (Or.inl rfl)|exact Or.inr (Or.inr rfl))(hd:(x==("__debug__":aK))=false:=by decide)
  (iI:(x==("__classdict__":aK))=false:=by decide) (hs:dH e (some (.Subscript (.Name x p1) j gE)) pos.line X.env=pure false:=by rfl) :
  XS X ct ms rk (.Assign [.Subscript (.Name x p1) j gE] e pos) (iP i fj f):=by
 obtain⟨t,pt,qt⟩:=he
 obtain⟨tj,xJ,xK⟩:=hj
 refine⟨_,R8 hu (v8 hN hv hd iI) xJ pt hs,λF0 B F H ρ σ o E rs e z=>?_⟩
 obtain⟨d,g1,g2⟩:=aU e
 obtain⟨d1,rY,g3,g4,g5⟩:=dB g2
 refine qt F0 B F H ρ σ d _ rs g1 λv0 F1 H1 x1 l0=>?_
 have ku:=rs.ext x1
 obtain⟨hσ,ow,hB⟩:=ku.so_at hm (zx g3)
 refine⟨_,hσ,xK F0 B F1 H1 ρ σ rY _ ku g4 λvj F2 H2 x2 lj=>?_⟩
 have Gu:Dt X.K ct F2 d v0:=Dt.mono x2.ff l0
 cases d1 with
 |dK ks ds=>
  dsimp only at g5
  obtain⟨key,g6,g7⟩:=aU g5
  by_cases hz:ks.length<16777216
  ·rw[if_pos hz]at g7
   cases g7
   obtain⟨ad,vs,qJ,ea,ef,hF,hH,hl,ol⟩:=ow.dK_inv
   cases ea
   cases ef
   have hA:=x2.hh _ _ hH
   have fA:F2 xa=none:=x2.nf xa _ hH hF
   have hp:Pr (Dt X.K ct F2) ds vs:=ol.pr λ_ _ _ _ q=>q.1.mono x2.ff
   obtain⟨us,Bi,Bj,Bl⟩:=Js Gu key hl hp
   have hk:=JZ g6 lj
   subst hk
   refine⟨xa,_,rfl,nG.k hA (by rw[eQ,←hl,ik,bX];exact hz),?_⟩
   rw[Bi]
   exact z σ F2 _ (ku.changeS hm (zx g3) x2 fA (.inr (.dK fA zt Bj (fH.ofPr (Bl.mono λ_ _ q=>⟨q,rfl⟩)))))
  ·rw[if_neg hz]at g7;cases g7
 |dT ks ds=>
  cases rY with
  |tup js=>
   dsimp only at g5
   obtain⟨key,g6,g7⟩:=aU g5
   by_cases hz:ks.length<16777216
   ·rw[if_pos hz]at g7
    cases g7
    obtain⟨ad,vs,qJ,ea,ef,hF,hH,hl,ol⟩:=ow.dT_inv
    cases ea
    cases ef
    have hA:=x2.hh _ _ hH
    have fA:F2 xa=none:=x2.nf xa _ hH hF
    have hp:Pr (Dt X.K ct F2) ds vs:=ol.pr λ_ _ _ _ q=>q.1.mono x2.ff
    obtain⟨us,Bi,Bj,Bl⟩:=Js Gu key hl hp
    obtain⟨bd,ws,rfl,hb,Ft⟩:=lj.tup x2.fh
    have hk:=NF g6 Ft
    subst hk
    refine⟨xa,_,rfl,nG.t hA hb (by rw[eQ,←hl,ik,bX];exact hz),?_⟩
    rw[Bi]
    exact z σ F2 _ (ku.changeS hm (zx g3) x2 fA (.inr (.dT fA zt Bj (fH.ofPr (Bl.mono λ_ _ q=>⟨q,rfl⟩)))))
   ·rw[if_neg hz]at g7;cases g7
  |_=>cases g5
 |_=>cases g5
abbrev EM:=Env->Option (D×Env)
def wO (X:Cx)(ct:Nat->ah)(ms:List Mo)(st:List bD)(f:EM):Prop:=∃t,oH X st t/\∀(F0 B F H:Hp) (ρ ρ':Env) (σ:St) (d:D) (E:iw),RS X.K ct F0 B ms F H ρ σ->f ρ=some (d,ρ')->(∀v σ' F' H',RS X.K ct F0 B ms F' H' ρ' σ'->Dt X.K ct F' d v->E.rt v H')->t E σ H
def rM (f:SF)(g:EM):EM:=λρ=>(f ρ).bind λo=>match o with
 |.nx ρ'=>g ρ'
 |_=>none
def uS (f:EF):EM:=λρ=>(f ρ).bind λd=>some (d,ρ)
theorem SR (he:XE X ct ms 0 e f):wO X ct ms [.Return (some e) pos] (uS f):=by
 obtain⟨t,pt,qt⟩:=he
 refine⟨_,JB (JR pt),λF0 B F H ρ ρ' σ d E rs e z=>?_⟩
 obtain⟨d',h1,h2⟩:=aU e
 cases h2
 exact qt F0 B F H ρ σ _ _ rs h1 λv F' H' x l=>z v σ F' H' (rs.ext x) l
theorem JO {gm:EM}(h1:XS X ct ms 0 st u)(h2:wO X ct ms rest gm):wO X ct ms (st::rest) (rM u gm):=by
 obtain⟨t,pt,qt⟩:=h1
 obtain⟨t2,oT,oV⟩:=h2
 refine⟨_,Jq pt oT,λF0 B F H ρ ρ' σ d E rs e z=>?_⟩
 obtain⟨o1,e1,e2⟩:=aU e
 refine qt F0 B F H ρ σ o1 _ rs e1 ?_
 cases o1 with
 |nx ρ1=>exactλσ' F' H' BA=>oV F0 B F' H' ρ1 ρ' σ' d E BA e2 z
 |rt d=>cases e2
 |bk ρ'=>cases e2
 |ct ρ'=>cases e2
end
theorem SL.app {K:ae}{ct:Nat->ah}{F B H:Hp}{PJ:List Mo}{ρ2:Env}{σ2:St}{Iw:List ah}(h2:SL K ct F B H PJ ρ2 σ2 Iw){ms:List Mo}{ρ:Env}{σ:St}{fp:List ah}(h0:SL K ct F B H ms ρ σ fp):SL K ct F B H (ms++PJ) (ρ ++ ρ2) (σ ++ σ2) (fp++Iw):=by
 induction h0 with
 |nil=>
  exact h2
 |@no m0 o0 ms ρ σ fp t ih=>
  exact .no ih
 |@al n0 d0 v0 ms ρ σ fp h t ih=>
  exact .al h ih
 |@px d0 v0 ms ρ σ fp h t ih=>
  exact .px h ih
 |@so d0 x0 ms ρ σ Lk h t ih=>
  exact .so h ih
 |@ow n0 d0 v0 ms ρ σ f0 Lk h t ih=>
  rw[ed]
  exact .ow h ih
theorem SL.none {K:ae}{ct:Nat->ah}{F B H:Hp}:∀(ms:List Mo),SL K ct F B H ms (ax ms.length none) (ax ms.length none) []
 |[]=>.nil
 |m::ms=>.no (SL.none ms)
theorem SL.start0 {K:ae}{ct:Nat->ah}{F B H:Hp}:∀{ds:List D} {us:List V},Pr (Dt K ct F) ds us->SL K ct F B H (ax ds.length (Mo.ow 0)) (ds.map some) (us.map some) []
 |_,_,.nil=>.nil
 |_,_,.cons h t=>SL.ow (f:=[]) (Ow.zero h) (SL.start0 t)
def zS (K:ae)(ct:Nat->ah)(n:Nat)(mf:List D->Option D):Sp:=λvs H Q _=>∃(F:Hp) (ds:List D) (us:List V) (d p q p' q':D) (a b:ah),vs=us++[.ref a,.ref b]/\ds.length=n/\bC F H/\Pr (Dt K ct F) ds us/\a≠b/\Ow K ct F H 1 p (.ref a) [a]/\Ow K ct F H 1 q (.ref b) [b]/\mf (ds++[p,q])=some (.tup [d,p',q']) /\
 ∀v F' H',bC F F'->(∀x o,H x=some o->x≠a->x≠b->H' x=some o)->bC F' H'->(∀x o,H x=some o->F x=none->F' x=none)->Ow K ct F' H' 1 p' (.ref a) [a]->Ow K ct F' H' 1 q' (.ref b) [b]->Dt K ct F' d v->Q v H'
theorem zS.len {K:ae}{ct:Nat->ah}{n:Nat}{mf:List D->Option D}{ps:List aK}(h:n+2=ps.length):∀vs H Q E,zS K ct n mf vs H Q E->vs.length=ps.length:=by
 rintro vs H Q E ⟨F,ds,us,d,p,q,p',q',a,b,rfl,hn,_,l,_⟩
 rw[←h,←hn,l.length,aX]
 rfl
def uR (n:Nat)(N:List aK)(bf:EM)(ds:List D):Option D:=(bf (startD N ds)).bind λr=>(r.2[n]?).join.bind λp=>(r.2[n+1]?).join.bind λq=>some (.tup [r.1,p,q])
theorem RI {ct:Nat->ah}{P:bn}{w:bP}{K:ae}{mg:aK->Option aa}{base:aM}{x qual:aK}{st:bD}{fa:ah}{fd:aH}{N ps:List aK}{kk n:Nat}{ms:List Mo}{bf:EM}(Fn:Fun2 K x qual st fa fd)(S:bu N ps (aQ st))(xC:n+2=ps.length)(Fl:n+2+ms.length=N.length)
  (body:∀(a b:ah) (gu:aa) (A:bx) (outer:List PySem.Env) (s:aj) (H:Hp) (E:XK),dU kk (A.deeper (envOfC qual (aQ st) s.heap.objs.size fa gu))->wO (lF eO P w K mg base N qual (aQ st) fa gu A outer s H E).nox ct (ax n (Mo.ow 0) ++ .so a::.so b::ms) (fY st) bf) :
  cv P w K mg base eO (kk+1) fa fd ps (zS K ct n (uR n N bf)):=by
 refine Fn.ok S (zS.len xC) λgu A outer s H vs Q E hr h=>?_
 obtain⟨F,ds,us,d,p,q,p',q',a,b,rfl,hn,sF,l,wW,oa,ob,hm,z⟩:=h
 subst hn
 obtain⟨t,pt,qt⟩:=body a b gu A outer s H E hr
 refine⟨t,pt,?_⟩
 obtain⟨⟨d1,ρ'⟩,h1,h2⟩:=aU hm
 obtain⟨p1,h3,h4⟩:=aU h2
 obtain⟨q1,h5,h6⟩:=aU h4
 cases h6
 have Md:us.length=ds.length:=l.length.symm
 have Lg:=(oa.cells a af).1
 have Li:=(ob.cells b af).1
 have XB:bC F (kr (kr H a) b):=λy o hy=>by
  rw[u2 (λe=>by rw[e,Li]at hy;cases hy),u2 (λe=>by rw[e,Lg]at hy;cases hy)]
  exact sF _ _ hy
 have hB:bC (kr (kr H a) b) H:=(Cp _ _).trans (Cp _ _)
 refine qt F (kr (kr H a) b) F H (startD N (ds++[p,q])) ρ' (L2.start N (us++[.ref a,.ref b])) d1 _ ⟨.refl _,hB,sF,λ_ _ _ h=>h,[a,b],?_,by simp[wW],λy hy=>?_⟩ h1 ?_
 ·have e1:startD N (ds++[p,q])=ds.map some++(some p::some q::ax ms.length none):=by
   unfold startD
   rw[show N.length-(ds++[p,q]).length=ms.length by rw[aX];simp;omega]
   simp
  have e2:L2.start N (us++[.ref a,.ref b])=us.map some++(some (.ref a)::some (.ref b)::ax ms.length none):=by
   unfold L2.start
   rw[show N.length-(us++[V.ref a,V.ref b]).length=ms.length by rw[aX];simp;omega]
   simp
  rw[e1,e2]
  have:=SL.app (.so oa (.so ob (SL.none (K:=K) (ct:=ct) (F:=F) (B:=kr (kr H a) b) (H:=H) ms))) (SL.start0 (B:=kr (kr H a) b) (H:=H) l)
  have h7:SL K ct F (kr (kr H a) b) H (ax ds.length (Mo.ow 0)++Mo.so a::Mo.so b::ms) (ds.map some++(some p::some q::ax ms.length none)) (us.map some++(some (.ref a)::some (.ref b)::ax ms.length none)) [a,b]:=by simpa using this
  exact h7
 ·simp at hy
  rcases hy with rfl|rfl
  ·rw[u2 wW];exact HN _ _
  ·exact HN _ _
 ·intro v σ' F' H' r dt
  obtain⟨_,o1,_⟩:=r.so_at (i:=ds.length) (ad:=a) (by simp) (zx h3)
  obtain⟨_,o2,_⟩:=r.so_at (i:=ds.length+1) (ad:=b) (by simp) (zx h5)
  refine z v F' H' r.f0 (λy o hy n1 n2=>r.bh _ _ (by rw[u2 n2,u2 n1];exact hy)) r.fh (λy o hy hn=>?_) o1 o2 dt
  by_cases ea:y=a
  ·subst ea;exact(o1.cells _ af).1
  by_cases eb:y=b
  ·subst eb;exact(o2.cells _ af).1
  exact r.nf y o (by rw[u2 eb,u2 ea];exact hy) hn
section
variable {X:Cx}{ct:Nat->ah}{ms:List Mo}{rk n m k:Nat}{st:bD}{rest:List bD}{a b c e tg:Expr}{f g h:EF}{p q:BF}{u w:SF}{pos:cX}{i j:Nat}
def HZ (X:Cx)(ct:Nat->ah)(ms:List Mo)(i j:Nat)(es:List Expr)(f:Env->Option (List D)):Prop:=∃t,PA X es t/\∀(F0 B F H:Hp) (ρ:Env) (σ:St) (ds:List D) (a b:ah) (Q:List V->Hp->Prop),RS X.K ct F0 B ms F H ρ σ->f ρ=some ds->σ[i]?=some (some (.ref a))->σ[j]?=some (some (.ref b)) ->
 (∀us F' H',fL F H F' H'->Pr (Dt X.K ct F') ds us->Q (us++[.ref a,.ref b]) H')->t σ H Q
theorem Su {x y:aK}{p1 p2:cX}(hN:X.N[i]?=some x:=by rfl)(hv:oK X.env.scope x:=by first|exact Or.inl rfl|exact Or.inr (Or.inl rfl)|exact Or.inr (Or.inr rfl))(hd:(x==("__debug__":aK))=false:=by decide)(iI:(x==("__classdict__":aK))=false:=by decide)
  (Lz:X.N[j]?=some y:=by rfl) (Me:oK X.env.scope y:=by first|exact Or.inl rfl|exact Or.inr (Or.inl rfl)|exact Or.inr (Or.inr rfl)) (hd2:(y==("__debug__":aK))=false:=by decide) (AY:(y==("__classdict__":aK))=false:=by decide) :
  HZ X ct ms i j [.Name x p1,.Name y p2] aNil:=by
 refine⟨_,wv (v8 hN hv hd iI) (wv (v8 Lz Me hd2 AY) jp),λF0 B F H ρ σ ds a b Q rs e ha hb z=>?_⟩
 cases e
 exact⟨_,ha,_,hb,z [] F H (.refl rs.fh) .nil⟩
theorem Jt {es:List Expr}{fs:Env->Option (List D)}(h1:XE X ct ms 0 a f)(h2:HZ X ct ms i j es fs)(hs:ap (a::es) X.env=(false,bG a X.env)::ap es X.env:=by rfl):HZ X ct ms i j (a::es) (aCons f fs):=by
 obtain⟨t,pt,qt⟩:=h1
 obtain⟨t2,oT,oV⟩:=h2
 refine⟨_,wv pt oT hs,λF0 B F H ρ σ ds xa xb Q rs e ha hb z=>?_⟩
 obtain⟨d,rz,g1,g2,g3⟩:=dB e
 cases g3
 refine qt F0 B F H ρ σ d _ rs g1 λv F1 H1 x1 l=>?_
 exact oV F0 B F1 H1 ρ σ rz xa xb _ (rs.ext x1) g2 ha hb λus F2 H2 x2 l2=>z (v::us) F2 H2 (x1.trans x2) (.cons (Dt.mono x2.ff l) l2)
def XM (X:Cx)(ct:Nat->ah)(ms:List Mo)(e:Expr)(g:EM):Prop:=∃t,PE X e t/\∀(F0 B F H:Hp) (ρ ρ':Env) (σ:St) (d:D) (Q:VK),RS X.K ct F0 B ms F H ρ σ->g ρ=some (d,ρ')->(∀v F' H',RS X.K ct F0 B ms F' H' ρ' σ->Dt X.K ct F' d v->Q v H')->t σ H Q
def iB (i j:Nat)(fs:Env->Option (List D))(mf:List D->Option D):EM:=λρ=>(fs ρ).bind λds=>(eV i ρ).bind λp=>(eV j ρ).bind λq=>if hZ p=true/\hZ q=true then(mf (ds++[p,q])).bind λr=>match r with
 |.tup [d,p',q']=>some (d,(ρ.set i (some p')).set j (some q'))
 |_=>none else none
theorem RJ {σ:St}{i:Nat}{v:V}(h:σ[i]?=some (some v)):σ.set i (some v) = σ:=by
 apply lA
 intro k
 rw[tJ]
 by_cases e:i=k
 ·subst e
  rw[if_pos rfl]
  by_cases hl:i < σ.length
  ·rw[if_pos hl,h]
  ·rw[if_neg hl,p5 (by omega)]
 ·rw[if_neg e]
theorem RS.two {K:ae}{F0 B F H:Hp}{ρ:Env}{σ:St}{p q:D}(rs:RS K ct F0 B ms F H ρ σ)(yR:i≠j)(IG:ms[i]?=some (.ow 1))(Ce:ms[j]?=some (.ow 1))(hp:ρ[i]?=some (some p))(hq:ρ[j]?=some (some q))(cp:hZ p=true)(cq:hZ q=true) :
  ∃a b,σ[i]?=some (some (.ref a))/\σ[j]?=some (some (.ref b))/\a≠b/\Ow K ct F H 1 p (.ref a) [a]/\Ow K ct F H 1 q (.ref b) [b]/\B a=none/\B b=none /\
   ∀(F' H':Hp) (p' q':D),bC F F'->(∀x o,H x=some o->x≠a->x≠b->H' x=some o)->bC F' H'->(∀x o,H x=some o->F x=none->F' x=none)->Ow K ct F' H' 1 p' (.ref a) [a]->Ow K ct F' H' 1 q' (.ref b) [b]->RS K ct F0 B ms F' H' ((ρ.set i (some p')).set j (some q')) σ:=by
 obtain⟨f1,fr,n1,b1,dj,i4,cf,put⟩:=rs.put (F':=F) (H':=H) IG
 obtain⟨v,hσ,ow⟩:=i4 p hp
 obtain⟨a,rfl,rfl⟩:=ow.cell cp
 obtain⟨f2,U5,n2,b2,dj2,V4,cf2,put2⟩:=rs.put (F':=F) (H':=H) Ce
 obtain⟨v2,vZ,GD⟩:=V4 q hq
 obtain⟨b,rfl,rfl⟩:=GD.cell cq
 have ca:=ow.cells a af
 have cb:=GD.cells b af
 have wW:a≠b:=by
  intro e
  subst e
  have r1:=put F (kr H a) (.non) .non [] (.refl _) (λy o hy=>by rw[u2 (λe=>by rw[e,b1 a af]at hy;cases hy)];exact rs.bh _ _ hy) (λy o hy=>by rw[u2 (λe=>by rw[e,ca.1]at hy;cases hy)];exact rs.fh _ _ hy) rs.nf
   (λy hy=>⟨u2 (λe=>dj a af (e▸hy)),(cf y hy).1⟩) (Ow.scal .non rfl) bL (λy hy=>by cases hy) (λy hy=>by cases hy)
  obtain⟨f3,Iy,n3,b3,KB,Mh,OG,put3⟩:=r1.put (F':=F) (H':=H) Ce
  obtain⟨v3,FC,IY⟩:=Mh q (by rw[cV yR];exact hq)
  obtain⟨a3,rfl,rfl⟩:=IY.cell cq
  rw[cV yR,vZ]at FC
  cases FC
  obtain⟨o,ho⟩:=(IY.cells a af).2
  rw[HN]at ho
  cases ho
 refine⟨a,b,hσ,vZ,wW,ow,GD,b1 a af,b2 b af,λF' H' p' q' s1 kH s3 nf o1 o2=>?_⟩
 have Ba:=b1 a af
 have Bb:=b2 b af
 have Lg:=(o1.cells a af).1
 have Li:=(o2.cells b af).1
 obtain⟨ob,VJ⟩:=cb.2
 have hm:∀y,y≠b->cY H' b ob y=H' y:=λy ne=>zk ne
 have r1:=put F' (cY H' b ob) p' (.ref a) [a] s1 (λy o hy=>by
   have na:y≠a:=λe=>by rw[e,Ba]at hy;cases hy
   have nb:y≠b:=λe=>by rw[e,Bb]at hy;cases hy
   rw[hm y nb]
   exact kH y o (rs.bh _ _ hy) na nb) (λy o hy=>by
   rw[hm y (λe=>by rw[e,Li]at hy;cases hy)]
   exact s3 _ _ hy) (λy o hy hn=>nf y o (rs.bh _ _ hy) (rs.nf y o hy hn)) (λy hy=>by
   obtain⟨hn,o,ho⟩:=cf y hy
   refine⟨?_,nf y o ho hn⟩
   have na:y≠a:=λe=>dj a af (e▸hy)
   by_cases nb:y=b
   ·subst nb;rw[zt,VJ]
   ·rw[hm y nb,kH y o ho na nb,ho]) (o1.frame (.refl _) λy hy=>by
   rw[aB]at hy
   subst hy
   exact⟨hm _ wW,Lg⟩) (by simp) (λy hy=>by
   rw[aB]at hy
   subst hy
   exact dj _ af) (λy hy=>by
   rw[aB]at hy
   subst hy
   exact Ba)
 rw[RJ hσ]at r1
 obtain⟨f3,Iy,n3,b3,KB,Mh,OG,put3⟩:=r1.put (F':=F) (H':=H) Ce
 obtain⟨v3,FC,IY⟩:=Mh q (by rw[cV yR];exact hq)
 obtain⟨a3,rfl,rfl⟩:=IY.cell cq
 rw[vZ]at FC
 cases FC
 have r2:=put3 F' H' q' (.ref b) [b] (.refl _) (λy o hy=>by
   have na:y≠a:=λe=>by rw[e,Ba]at hy;cases hy
   have nb:y≠b:=λe=>by rw[e,Bb]at hy;cases hy
   exact kH y o (rs.bh _ _ hy) na nb) s3 r1.nf (λy hy=>by
   have nb:y≠b:=λe=>KB b af (e▸hy)
   exact⟨(hm y nb).symm,(OG y hy).1⟩) o2 (by simp) (λy hy=>by
   rw[aB]at hy
   subst hy
   exact KB _ af) (λy hy=>by
   rw[aB]at hy
   subst hy
   exact Bb)
 rw[RJ vZ]at r2
 exact r2
variable {kk:Nat}{fa:ah}{fd:aH}{ps:List aK}{mf:List D->Option D}{x:aK}{pp:cX}
theorem Sv {es:List Expr}{fs:Env->Option (List D)}{m6:List aa}(yR:i≠j)(IG:ms[i]?=some (.ow 1))(Ce:ms[j]?=some (.ow 1))(Fn:cv X.prog X.w X.K X.mg X.base eO kk fa fd ps (zS X.K ct n mf))(hr:dU kk X.A)(hg:Gl X x)(hm:X.mg x=some (.ref fa))(hk:ao X.K (.ref fa)=true)
  (hb:bB X.K fd ps m6) (hd:bR [] m6) (hn:∀ρ ds,fs ρ=some ds->ds.length=n) (ha:HZ X ct ms i j (e::es) fs)
  (i7:(x==("__debug__":aK))=false:=by decide) (he:ap (e::es) X.env=(false,bG e X.env)::ap es X.env:=by rfl) (gI:(cu pos (ap es X.env)).any (·.1)=false:=by rfl) :
  XM X ct ms (.Call (.Name x pp) (e::es) [] pos) (iB i j fs mf):=by
 obtain⟨t,pt,qt⟩:=ha
 refine⟨_,R1 Fn hr hg hm hk hb hd oe pt i7 he gI,λF0 B F H ρ ρ' σ d Q rs e z=>?_⟩
 obtain⟨ds,h1,h2⟩:=aU e
 obtain⟨p,h3,h4⟩:=aU h2
 obtain⟨q,h5,h6⟩:=aU h4
 by_cases hc:hZ p=true/\hZ q=true
 ·rw[if_pos hc]at h6
  obtain⟨r,h7,h8⟩:=aU h6
  have:∃p' q',r=.tup [d,p',q']/\ρ'=(ρ.set i (some p')).set j (some q'):=by
   split at h8
   ·cases h8;exact⟨_,_,rfl,rfl⟩
   ·cases h8
  obtain⟨p',q',rfl,rfl⟩:=this
  obtain⟨a0,b0,hσ,vZ,_⟩:=rs.two yR IG Ce (zx h3) (zx h5) hc.1 hc.2
  refine qt F0 B F H ρ σ ds a0 b0 _ rs h1 hσ vZ λus F1 H1 x1 l=>?_
  obtain⟨a,b,Bm,FB,wW,oa,ob,Ba,Bb,put⟩:=(rs.ext x1).two yR IG Ce (zx h3) (zx h5) hc.1 hc.2
  rw[hσ]at Bm
  rw[vZ]at FB
  cases Bm
  cases FB
  refine⟨F1,ds,us,d,p,q,p',q',a0,b0,by simp,hn _ _ h1,x1.fh,l,wW,oa,ob,h7,λv F' H' s1 kH s3 nf o1 o2 dt=>?_⟩
  exact z v F' H' (put F' H' p' q' s1 kH s3 nf o1 o2) dt
 ·rw[if_neg hc]at h6;cases h6
theorem SS:∀(ρ:Env) (ds:List D),aNil ρ=some ds->ds.length=0:=λρ ds e=>by cases e;rfl
theorem JP {fs:Env->Option (List D)}(h:∀(ρ:Env) (ds:List D),fs ρ=some ds->ds.length=n):∀(ρ:Env) (ds:List D),aCons f fs ρ=some ds->ds.length=n+1:=λρ ds e=>by
 obtain⟨x,xs,h1,h2,h3⟩:=dB e
 cases h3
 rw[aC,h ρ xs h2]
def oh (i:Nat)(g:EM):SF:=λρ=>(g ρ).bind λr=>some (.nx (r.2.set i (some r.1)))
theorem zrd {i:Nat}{x:aK}{pos':cX}{gm:EM}(hm:ms[i]?=some (.ow 0))(hN:X.N.Nodup)(hi:X.N[i]?=some x)(hx:Loc X.env.scope x)(he:XM X ct ms e gm)(hs:dH e (some (.Name x pos')) pos.line X.env=pure false:=by rfl)
  (hf:X.fn x=true\/X.env.scope.names.lookup x=some .local:=by first|exact .inl rfl|exact .inr rfl|assumption):XS X ct ms rk (.Assign [.Name x pos'] e pos) (oh i gm):=by
 obtain⟨t,pt,qt⟩:=he
 refine⟨_,NV hN hi hx pt hs hf,λF0 B F H ρ σ o E rs e w=>?_⟩
 obtain⟨⟨d,ρ'⟩,h1,h2⟩:=aU e
 cases h2
 exact qt F0 B F H ρ ρ' σ d _ rs h1 λv F' H' r l=>w _ F' H' (r.set hm (.refl r.fh) (Ow.zero l) bL λa z=>(by cases z))
def jY (g:EM)(b:SF):Nat->SF
 |0,_=>none
 |n+1,ρ=>(g ρ).bind λr=>match r.1 with
  |.bl true=>(b r.2).bind λo=>match o with
   |.nx ρ'=>jY g b n ρ'
   |.ct ρ'=>jY g b n ρ'
   |.bk ρ'=>some (.nx ρ')
   |.rt d=>some (.rt d)
  |.bl false=>some (.nx r.2)
  |_=>none
def mI (g:EM)(b:SF):SF:=jY g b kA
theorem zlq {gm:EM}(hc:XM X ct ms c gm)(hb:qH X ct ms rk rest u)(hp:bV (aI X.prog X.w) X.A X.env X.xe)(hi:∀whole,qE c X.env whole=(do let v ← whole;fO c.pos;dS [v] (truthy v)):=by intro _;rfl):XS X ct ms rk (.While c rest [] pos) (mI gm u):=by
 obtain⟨t,pt,qt⟩:=hc
 obtain⟨t1,sW,sX⟩:=hb
 refine⟨_,Rt hp (SX pt hi) sW,λF0 B F H ρ σ o E rs e z=>?_⟩
 refine⟨λm σ H=>∃F ρ,RS X.K ct F0 B ms F H ρ σ/\jY gm u m ρ=some o,⟨kA,F,ρ,rs,e⟩,?_⟩
 rintro m σ H ⟨F,ρ,rs,e⟩
 cases m with
 |zero=>cases e
 |succ m=>
  obtain⟨⟨x,ρ1⟩,h1,h2⟩:=aU e
  refine qt F0 B F H ρ ρ1 σ x _ rs h1 λv F1 H1 r1 l=>?_
  cases x with
  |bl y=>
   cases l
   refine⟨y,rfl,?_⟩
   cases y with
   |true=>
    rw[if_pos rfl]
    obtain⟨o1,h3,h4⟩:=aU h2
    refine⟨λσ H=>∃F ρ,RS X.K ct F0 B ms F H ρ σ/\jY gm u m ρ=some o,λσ' H' h=>⟨m,fM m,h⟩,?_⟩
    refine sX F0 B F1 H1 ρ1 σ o1 _ r1 h3 ?_
    cases o1 with
    |nx ρ'=>exactλσ' F' H' r=>⟨F',ρ',r,h4⟩
    |ct ρ'=>exactλσ' F' H' r=>⟨F',ρ',r,h4⟩
    |bk ρ'=>cases h4;exact z
    |rt d=>cases h4;exact z
   |false=>
    rw[if_neg aJ]
    cases h2
    exact z σ F1 H1 r1
  |_=>cases h2
end
end L3
namespace L2
open PySem PySem.Spec
open PyProof.Rows hiding St
section
variable {X:Cx}{pos:cX}
end
end L2
namespace L3
open PySem PySem.Spec L2
open PyProof.Rows hiding St
section
variable {X:Cx}{ct:Nat->ah}{ms:List Mo}{n:Nat}{pos:cX}
end
end L3
namespace L3
open PySem PySem.Spec L2
open PyProof.Rows hiding St
section
variable {X:Cx}{ct:Nat->ah}{ms:List Mo}{rk n m k i:Nat}{a b c e:Expr}{f g h:EF}{pos:cX}
def Ia (X:Cx)(ct:Nat->ah)(ms:List Mo)(k i:Nat)(es:List Expr)(f:Env->Option (List D)):Prop:=∃t,PA X es t/\(∀ρ ds,f ρ=some ds->ds.length=es.length)/\∀(F0 B F H:Hp) (ρ:Env) (σ:St) (ds:List D) (Q:List V->Hp->Prop) (d:D) (v:V) (f1:List ah),RS X.K ct F0 B ms F H ρ σ->ρ[i]?=some (some d)->σ[i]?=some (some v)->Ow X.K ct F H k d v f1->f1.Nodup->f ρ=some ds ->
 (∀vs F' H' fp,fL F H F' H'->fH (Ow X.K ct F' H' k) ds vs fp->fp.Nodup->(∀a∈fp,H a=none\/a∈f1)->Q vs H')->t σ H Q
theorem zre {x:aK}{p1:cX}(hN:X.N[i]?=some x:=by rfl)(hv:oK X.env.scope x:=by first|exact Or.inl rfl|exact Or.inr (Or.inl rfl)|exact Or.inr (Or.inr rfl))(hd:(x==("__debug__":aK))=false:=by decide)(iI:(x==("__classdict__":aK))=false:=by decide) :
  Ia X ct ms k i [.Name x p1] (aCons (eV i) aNil):=by
 refine⟨_,wv (v8 hN hv hd iI) jp,λρ ds e=>(by obtain⟨y,ys,h1,h2,h3⟩:=dB e;cases h3;cases h2;rfl),λF0 B F H ρ σ ds Q d v f1 rs hρ hσ ow nd e z=>?_⟩
 obtain⟨y,ys,h1,h2,h3⟩:=dB e
 cases h3
 cases h2
 have ey:y=d:=by
  have:=zx h1
  rw[hρ]at this
  cases this
  rfl
 subst ey
 refine⟨_,hσ,z [v] F H f1 (.refl rs.fh) ?_ nd λa h=>.inr h⟩
 have:=fH.cons (R:=Ow X.K ct F H k) ow .nil
 rw[bO]at this
 exact this
theorem RK {es:List Expr}{fs:Env->Option (List D)}(h1:XO X ct ms k a f)(h2:Ia X ct ms k i es fs)(hs:ap (a::es) X.env=(false,bG a X.env)::ap es X.env:=by rfl):Ia X ct ms k i (a::es) (aCons f fs):=by
 obtain⟨ta,pa,qa⟩:=h1
 obtain⟨tb,pb,lb,qb⟩:=h2
 refine⟨_,wv pa pb hs,λρ ds e=>(by obtain⟨x,xs,h1,h2,h3⟩:=dB e;cases h3;rw[aC,aC,lb _ _ h2]),λF0 B F H ρ σ ds Q d v f1 rs hρ hσ ow nd e z=>?_⟩
 obtain⟨y,ys,h1,h2,h3⟩:=dB e
 cases h3
 refine qa F0 B F H ρ σ y _ rs h1 λu F1 H1 fp x1 l Wc hf=>?_
 refine qb F0 B F1 H1 ρ σ ys _ d v f1 (rs.ext x1) hρ hσ (ow.ext x1) nd h2 λus F2 H2 Iw x2 l2 Bs Cd=>?_
 refine z (u::us) F2 H2 (fp++Iw) (x1.trans x2) (.cons (l.ext x2) l2) ?_ λa ha=>?_
 ·refine br.mpr ⟨Wc,Bs,λa ha b hb e=>?_⟩
  subst e
  obtain⟨_,o,ho⟩:=l.cells a ha
  rcases Cd a hb with h|h
  ·rw[ho]at h;cases h
  ·obtain⟨_,o',vV⟩:=ow.cells a h
   rw[hf a ha]at vV;cases vV
 ·rcases aZ.mp ha with h|h
  ·exact .inl (hf a h)
  ·rcases Cd a h with h|h
   ·exact .inl (x1.hh.free h)
   ·exact .inr h
theorem znv {es:List Expr}{fs:Env->Option (List D)}{x1}{p2:cX}(hm:ms[i]?=some (.ow k))(h:Ia X ct ms k i es fs)(hl:es.length<=1000:=by decide):XS X ct ms (k+1) (.Return (some (.Tuple es x1 p2)) pos) (sRet (λρ=>(eV i ρ).bind λ_=>(fs ρ).bind λds=>some (.tup ds))):=by
 obtain⟨t,pt,lt,qt⟩:=h
 refine⟨_,JR (S4 pt),λF0 B F H ρ σ o E rs e w=>?_⟩
 obtain⟨r,h1,h2⟩:=aU e
 cases h2
 obtain⟨d,h3,h4⟩:=aU h1
 obtain⟨ds,h5,h6⟩:=aU h4
 cases h6
 obtain⟨f1,fr,n1,b1,n3,i4,cf,put⟩:=rs.put (F':=F) (H':=H) hm
 obtain⟨v,hσ,ow⟩:=i4 d (zx h3)
 refine qt F0 B F H ρ σ ds _ d v f1 rs (zx h3) hσ ow n1 h5 λvs F1 H1 fp x1 l nd hf=>⟨?_,λp hp=>?_⟩
 ·rw[←l.length,lt _ _ h5];exact small hl
 ·have x2:=fL.newS x1.fh hp (.tup vs)
  have r2:=rs.ext (x1.trans x2)
  refine w _ _ _ fp r2.f0 r2.bh r2.fh r2.nf (.inr (.tup zt (l.mono λ_ _ _ _ o=>o.ext x2))) nd λa ha=>?_
  rcases hf a ha with h|h
  ·exact rs.bh.free h
  ·exact b1 a h
end
end L3
namespace L3
open PySem PySem.Spec L2
open PyProof.Rows hiding St
section
variable {X:Cx}{ct:Nat->ah}{ms:List Mo}{rk n m k:Nat}{a b c e o:Expr}{f g h:EF}{pos:cX}
end
end L3
namespace L2
open PySem PySem.Spec
open PyProof.Rows hiding St
section
variable {X:Cx}{CX:sJ}{k:Nat}{f C:ah}{fd:aH}{ps ks:List aK}{sp:Sp}{E:XK}{x m:aK}{p pos dQ Bq:cX}{e o:Expr}{es:List Expr}{kws:List gZ}{te ta:TE}{t tk:TA}{nm:Option aK}
variable {g:List aa->List aa->List aa}{gV:List V->List V->List V}
end
end L2
namespace L3
open PySem PySem.Spec L2
open PyProof.Rows hiding St
section
variable {X:Cx}{ct:Nat->ah}{ms:List Mo}{rk n m k kk:Nat}{e a:Expr}{f:EF}{x:aK}{pp pos Bq:cX}{fa:ah}{fd:aH}{ps ks:List aK}{pm cs:List Nat}{mi:Nat->List D->Option D}
end
end L3
namespace L3
open PySem PySem.Spec L2
open PyProof.Rows hiding St
section
variable {X:Cx}{ct:Nat->ah}{ms:List Mo}{rk n m k i j:Nat}{a b c e:Expr}{f g h:EF}{pos:cX}
variable {kk:Nat}{fa:ah}{fd:aH}{ps:List aK}{mf:List D->Option D}{x y:aK}{pp:cX}
end
end L3
namespace L3
open PySem PySem.Spec L2
open PyProof.Rows hiding St
open Classical in
open Classical in
section
variable {X:Cx}
end
section
variable {K:ae}{ct:Nat->ah}{n m k:Nat}
end
section
variable {α:Type}[DecidableEq α]
end
end L3
namespace L3
open PySem PySem.Spec L2
open PyProof.Rows hiding St
section
variable {X:Cx}{ct:Nat->ah}{ms:List Mo}{rk n m k:Nat}{st:bD}{rest:List bD}{a b c e tg:Expr}{f g h:EF}{p q:BF}{u w:SF}{pos:cX}{K:ae}
end
end L3
namespace L3
open PySem PySem.Spec L2
open PyProof.Rows hiding St
section
variable {X:Cx}{ct:Nat->ah}{ms:List Mo}{rk n m k kk kq:Nat}{st:bD}{rest:List bD}{a b c e tg:Expr}{f g h:EF}{p q:BF}{u w:SF}{pos pp:cX}{K:ae}{x:aK}{fa:ah}{fd:aH}{ps:List aK}{mf:List D->Option D}
theorem rA (h:XO X ct ms k e f):XO X ct ms 0 e f:=XE.ow (XO.sh (n:=0) h)
theorem pZ {own i:Nat}(hN:X.N.Nodup)(ho:i<own:=by decide)(hm:ms[i]?=some (.ow 0):=by rfl)(hi:X.N[i]?=some x:=by rfl)(hx:Loc X.env.scope x:=by first|exact Or.inl rfl|exact Or.inr rfl)
  (hf:X.fn x=true\/X.env.scope.names.lookup x=some .local:=by first|exact .inl rfl|exact .inr rfl|assumption):wM X ct ms own 0 (.Name x pos) (gV i):=znc ho hm hN hi hx hf
theorem e7 {i:Nat}{pos':cX}(hN:X.N.Nodup)(he:XO X ct ms k e f)(hm:ms[i]?=some (.ow k):=by rfl)(hi:X.N[i]?=some x:=by rfl)(hx:Loc X.env.scope x:=by first|exact Or.inl rfl|exact Or.inr rfl)
  (hs:dH e (some (.Name x pos')) pos.line X.env=pure false:=by rfl)
  (hf:X.fn x=true\/X.env.scope.names.lookup x=some .local:=by first|exact .inl rfl|exact .inr rfl|assumption):XS X ct ms rk (.Assign [.Name x pos'] e pos) (sSet i f):=ztk hm hN hi hx he hs hf
theorem nD {i:Nat}(hN:X.N.Nodup)(hm:ms[i]?=some (.ow 0):=by rfl)(hi:X.N[i]?=some x:=by rfl)(hx:Loc X.env.scope x:=by first|exact Or.inl rfl|exact Or.inr rfl)
  (hf:X.fn x=true\/X.env.scope.names.lookup x=some .local:=by first|exact .inl rfl|exact .inr rfl|assumption):XG X ct ms 0 (.Name x pos) (gV i):=zqn hm hN hi hx hf
theorem cQ {es:List Expr}{ns:List Nat}{fs:Env->Option (List D)}(d:i9 X.K X.mg x st ps fa fd)(Fn:cv X.prog X.w X.K X.mg X.base eO kk fa fd ps (gX X.K ct ns rk mf))(hr:dU kq X.A)(ha:XA X ct ms (e::es) ns fs)(se:kk<=kq:=by decide)(hg:Gl X x:=by rfl)
  (i7:(x==("__debug__":aK))=false:=by decide) (he:ap (e::es) X.env=(false,bG e X.env)::ap es X.env:=by rfl) (gI:(cu pos (ap es X.env)).any (·.1)=false:=by rfl) :
  XO X ct ms rk (.Call (.Name x pp) (e::es) [] pos) (λρ=>(fs ρ).bind λds=>mf (ds++[])) :=
 zql (ns:=ns) (nd:=[]) (lT:=[]) (by rw[bO];exact Fn) (hr.mono se) hg d.mgx d.fn.kp d.bd .nil (λ_ _=>.nil) ha i7 he gI
theorem yB {om:List Mo}{jX iter:Expr}{ifs:List Expr}{scope:gc}{N:List aK}{own:Nat}{cap:List Nat}{fi:Env->Option (List D)}{gg:D->Env->Option Env}(hi:zX X ct ms n tg iter fi)
  (hg:∀cl C fp s₀ H₀,wM (iW X scope cl N C fp s₀ H₀) ct (om++hJ ms cap) own n tg gg) (ht:∀cl C fp s₀ H₀,zZ (iW X scope cl N C fp s₀ H₀) ct (om++hJ ms cap) ifs p) (he:∀cl C fp s₀ H₀,XO (iW X scope cl N C fp s₀ H₀) ct (om++hJ ms cap) k jX f)
  (B:kP X scope N own cap:=by exact CB (by rfl)) (hc:X.calm=true:=by rfl) (ho:om.length=own:=by rfl) (iH:∀i∈cap,i<ms.length:=by decide)
  (hs:∀x,dm iter X.env x=pure x:=by intro _;rfl):XO X ct ms (k+1) (.ListComp jX [⟨tg,iter,ifs,0⟩] scope pos) (fI fi own cap gg p f):=zqs B hc ho iH hi hg ht he hs
theorem jF {P:bn}{w:bP}{mg:aK->Option aa}{base:aM}{qual:aK}{N:List aK}{pm:List Nat}{bf:SF}(Fn:Fun2 K x qual st fa fd)(S:bu N ps (aQ st))
  (body:∀(gu:aa) (A:bx) (outer:List PySem.Env) (s:aj) (H:Hp) (E:XK),dU kk (A.deeper (envOfC qual (aQ st) s.heap.objs.size fa gu))->qH (lF eO P w K mg base N qual (aQ st) fa gu A outer s H E).nox ct ms rk (fY st) bf)
  (xC:pm.length=ps.length:=by rfl) (Fl:ms.length=N.length:=by rfl) (se:ps.length<=N.length:=by decide) (Bc:∀(i n:Nat),pm[i]?=some n->ms[i]?=some (Mo.al n)\/(n=0/\ms[i]?=some (Mo.ow 0)):=by exact u4 (by decide)) :
  cv P w K mg base eO (kk+1) fa fd ps (gX K ct pm rk (mOf N bf)):=lift Fn S xC Fl se Bc body
theorem cW {i:Int}{j}:XE X ct ms 0 (.Constant (.int i) j pos) (eC (.int i)):=zti
theorem lW {j}:XE X ct ms 0 (.Constant .none j pos) (eC .non):=ztj
theorem oq (ha:XE X ct ms 0 a f)(hb:XE X ct ms 0 b g):XO X ct ms 1 (.BinOp a .Add b pos) (e2 fN f g):=zu4 zqu (zqv (by decide) (by decide)) ha hb
theorem jR (ha:XE X ct ms 0 a f)(hb:XE X ct ms 0 b g)(hp:oI b:=by exactλ_ _=>rfl):XE X ct ms 0 (.Subscript a b pos) (e2 eh f g):=sk (n:=0) je jg ha hb hp
theorem o6 {fs:Env->Option (List D)}(hm:X.mg "len"=none)(ha:XA X ct ms [e] [n] fs)(hg:Gl X "len":=by rfl)(he:ap [e] X.env=(false,bG e X.env)::ap [] X.env:=by rfl)(gI:(cu pos (ap [] X.env)).any (·.1)=false:=by rfl):XE X ct ms 0 (.Call (.Name "len" pp) [e] [] pos) (eN eU fs):=u3 (k:=0) zkx zqq hg hm ztf ha (by decide) (by decide) he gI
theorem Wa {P:List aa->Prop}(h:P [])(us:List aa)(e:us.length=0):P us:=by
 cases us with
 |nil=>exact h
 |cons a t=>cases e
theorem wA {P:List aa->Prop}(h:∀a1,P [a1])(us:List aa)(e:us.length=1):P us:=by
 cases us with
 |nil=>cases e
 |cons a t=>exact Wa (P:=λt=>P (a::t)) (h a) t (Nat.succ.inj e)
theorem oR {P:List aa->Prop}(h:∀a1 a2,P [a1,a2])(us:List aa)(e:us.length=2):P us:=by
 cases us with
 |nil=>cases e
 |cons a t=>exact wA (P:=λt=>P (a::t)) (h a) t (Nat.succ.inj e)
theorem t5 {P:List aa->Prop}(h:∀a1 a2 a3,P [a1,a2,a3])(us:List aa)(e:us.length=3):P us:=by
 cases us with
 |nil=>cases e
 |cons a t=>exact oR (P:=λt=>P (a::t)) (h a) t (Nat.succ.inj e)
theorem Br {P:List aa->Prop}(h:∀a1 a2 a3 a4,P [a1,a2,a3,a4])(us:List aa)(e:us.length=4):P us:=by
 cases us with
 |nil=>cases e
 |cons a t=>exact t5 (P:=λt=>P (a::t)) (h a) t (Nat.succ.inj e)
theorem IS {P:List aa->Prop}(h:∀a1 a2 a3 a4 a5,P [a1,a2,a3,a4,a5])(us:List aa)(e:us.length=5):P us:=by
 cases us with
 |nil=>cases e
 |cons a t=>exact Br (P:=λt=>P (a::t)) (h a) t (Nat.succ.inj e)
end
end L3
namespace L3
open PySem PySem.Spec L2
open PyProof.Rows hiding St
section
variable {K:ae}{ct:Nat->ah}{F B H:Hp}
end
section
variable {X:Cx}{ct:Nat->ah}{ms:List Mo}{rk n m k i j:Nat}{a b c e:Expr}{f g h:EF}{p q:BF}{pos:cX}{K:ae}
end
end L3
set_option maxHeartbeats 1000000
namespace L3
open PySem PySem.Spec L2
open PyProof.Rows hiding St
inductive nL where
 |ok (d:D)|xc (d:D)
inductive uG where
 |ok (o:Out)|xc (ρ:Env) (d:D)
abbrev mw:=Env->Option uG
abbrev BY:=Env->Option nL
def yM (K:ae)(ct:Nat->ah)(F H:Hp)(d:D)(a:ah):Prop:=∃c ns ds T dx,d=.exc c ns ds/\F a=none/\F T=none/\qI H a (ct c) dx (some T) /\
 ((ns=[]/\ds=[]/\dx=none)\/∃y vs,dx=some y/\F y=some (.xd (ns.zip vs))/\ns.length=vs.length/\Dts K ct F ds vs)
def lD (K:ae)(cl:Nat->ah)(F0 B:Hp)(ms:List Mo)(rk:Nat)(E:iw)(G:GK):uG->Prop
 |.ok o=>jA K cl F0 B ms rk E o
 |.xc ρ d=>∀a σ F1 H0 F H,RS K cl F0 B ms F1 H0 ρ σ->fL F1 H0 F H->H0 a=none->yM K cl F H d a->G σ a H
theorem yM.note {K:ae}{ct:Nat->ah}{F H:Hp}{d:D}{a:ah}(h:yM K ct F H d a)(s:bC F H):∃C dx T,qI H a C dx (some T)/\∀T',H T'=none->yM K ct F (eA H a C dx T') d a/\bC F (eA H a C dx T')/\∀b o,b≠a->H b=some o->eA H a C dx T' b=some o:=by
 obtain⟨c,ns,ds,T,dx,rfl,fa,fT,xr,r⟩:=h
 refine⟨ct c,dx,T,xr,λT' hT=>⟨⟨c,ns,ds,T',dx,rfl,fa,s.free hT,NC xr hT,r⟩,λb o e=>?_,λb o hb e=>?_⟩⟩
 ·unfold eA
  rw[zk (zl e fa),zk (zl e (s.free hT))]
  exact s _ _ e
 ·unfold eA
  rw[zk hb,zk (zl e hT)]
  exact e
theorem fL.note {F1 H0 F H:Hp}{a C:ah}{dx:Option ah}{T':ah}(x:fL F1 H0 F H)(ha:H0 a=none)(hT:H T'=none)(s:bC F (eA H a C dx T')):fL F1 H0 F (eA H a C dx T') :=
 ⟨x.ff,λb o e=>by
  unfold eA
  rw[zk (zl e ha),zk (zl (x.hh _ _ e) hT)]
  exact x.hh _ _ e,s,x.nf⟩
section
variable (X:Cx)(G:GK)(ct:Nat->ah)(ms:List Mo)(rk:Nat)
def zY (st:bD)(f:mw):Prop:=∃t,PS X st t/\∀(F0 B F H:Hp) (ρ:Env) (σ:St) (o:uG) (E:iw),RS X.K ct F0 B ms F H ρ σ->f ρ=some o->lD X.K ct F0 B ms rk E G o->t E σ H
def oM (st:List bD)(f:mw):Prop:=∃t,oH X st t/\∀(F0 B F H:Hp) (ρ:Env) (σ:St) (o:uG) (E:iw),RS X.K ct F0 B ms F H ρ σ->f ρ=some o->lD X.K ct F0 B ms rk E G o->t E σ H
def Ig (k:Nat)(e:Expr)(f:BY):Prop:=∃t,PE X e t/\∀(F0 B F H:Hp) (ρ:Env) (σ:St) (r:nL) (Q:VK),RS X.K ct F0 B ms F H ρ σ->f ρ=some r ->
 (match r with
  |.ok d=>∀v F' H' fp,fL F H F' H'->Ow X.K ct F' H' k d v fp->fp.Nodup->(∀a∈fp,H a=none)->Q v H'
  |.xc d=>∀a F' H',fL F H F' H'->H a=none->yM X.K ct F' H' d a->G σ a H')->t σ H Q
end
def xOf (u:SF):mw:=λρ=>(u ρ).map .ok
def sSeqX (f g:mw):mw:=λρ=>(f ρ).bind λo=>match o with
 |.ok (.nx ρ')=>g ρ'
 |o=>some o
def sIfX (c:BF)(f g:mw):mw:=λρ=>(c ρ).bind λb=>if b=true then f ρ else g ρ
def sSetX (i:Nat)(f:BY):mw:=λρ=>(f ρ).bind λr=>match r with
 |.ok d=>some (.ok (.nx (ρ.set i (some d))))
 |.xc d=>some (.xc ρ d)
def sDropX (f:BY):mw:=λρ=>(f ρ).bind λr=>match r with
 |.ok _=>some (.ok (.nx ρ))
 |.xc d=>some (.xc ρ d)
def sRetX (f:BY):mw:=λρ=>(f ρ).bind λr=>match r with
 |.ok d=>some (.ok (.rt d))
 |.xc d=>some (.xc ρ d)
def rC (g:D->Env->Option Env)(b:mw):List D->mw
 |[],ρ=>some (.ok (.nx ρ))
 |d::ds,ρ=>(g d ρ).bind λρ1=>(b ρ1).bind λo=>match o with
   |.ok (.nx ρ')=>rC g b ds ρ'
   |.ok (.ct ρ')=>rC g b ds ρ'
   |.ok (.bk ρ')=>some (.ok (.nx ρ'))
   |.ok (.rt d)=>some (.ok (.rt d))
   |.xc ρ' d=>some (.xc ρ' d)
def sForX (f:Env->Option (List D))(g:D->Env->Option Env)(b:mw):mw:=λρ=>(f ρ).bind λds=>rC g b ds ρ
section
variable {X:Cx}{G:GK}{ct:Nat->ah}{ms:List Mo}{rk n m k:Nat}{st:bD}{rest:List bD}{a b c e:Expr}{f g h:EF}{p q:BF}{u w:mw}{pos:cX}
theorem N9 {u:SF}(h:XS X ct ms rk st u):zY X G ct ms rk st (xOf u):=by
 obtain⟨t,pt,qt⟩:=h
 refine⟨t,pt,λF0 B F H ρ σ o E rs e z=>?_⟩
 obtain⟨o',h1,rfl⟩:=bY.mp e
 exact qt F0 B F H ρ σ o' E rs h1 z
theorem zrf {u:SF}(h:qH X ct ms rk rest u):oM X G ct ms rk rest (xOf u):=by
 obtain⟨t,pt,qt⟩:=h
 refine⟨t,pt,λF0 B F H ρ σ o E rs e z=>?_⟩
 obtain⟨o',h1,rfl⟩:=bY.mp e
 exact qt F0 B F H ρ σ o' E rs h1 z
theorem Ju (h1:zY X G ct ms rk st u):oM X G ct ms rk [st] u:=by
 obtain⟨t,pt,qt⟩:=h1
 exact⟨_,JB pt,qt⟩
theorem Nc (h1:zY X G ct ms rk st u)(h2:oM X G ct ms rk rest w):oM X G ct ms rk (st::rest) (sSeqX u w):=by
 obtain⟨t,pt,qt⟩:=h1
 obtain⟨t2,oT,oV⟩:=h2
 refine⟨_,Jq pt oT,λF0 B F H ρ σ o E rs e z=>?_⟩
 obtain⟨o1,e1,e2⟩:=aU e
 refine qt F0 B F H ρ σ o1 _ rs e1 ?_
 cases o1 with
 |xc ρ' d=>cases e2;exact z
 |ok o1=>
  cases o1 with
  |nx ρ'=>exactλσ' F' H' BA=>oV F0 B F' H' ρ' σ' o E BA e2 z
  |rt d=>cases e2;exact z
  |bk ρ'=>cases e2;exact z
  |ct ρ'=>cases e2;exact z
theorem ztx {Ht tq:List bD}(hc:XT X ct ms c p)(h1:oM X G ct ms rk Ht u)(h2:oM X G ct ms rk tq w):zY X G ct ms rk (.If c Ht tq pos) (sIfX p u w):=by
 obtain⟨t,pt,qt⟩:=hc
 obtain⟨t1,sW,sX⟩:=h1
 obtain⟨t2,oT,oV⟩:=h2
 refine⟨_,Tj pt sW oT,λF0 B F H ρ σ o E rs e z=>?_⟩
 obtain⟨x,h1,h2⟩:=aU e
 refine qt F0 B F H ρ σ x _ rs h1 λF1 H1 x1=>?_
 cases x with
 |true=>rw[if_pos rfl]at h2 ⊢;exact sX F0 B F1 H1 ρ σ o E (rs.ext x1) h2 z
 |false=>rw[if_neg aJ]at h2 ⊢;exact oV F0 B F1 H1 ρ σ o E (rs.ext x1) h2 z
theorem zrg {i:Nat}{x:aK}{f:BY}{pos':cX}(hm:ms[i]?=some (.ow k))(hN:X.N.Nodup)(hi:X.N[i]?=some x)(hx:Loc X.env.scope x)(he:Ig X G ct ms k e f)(hs:dH e (some (.Name x pos')) pos.line X.env=pure false:=by rfl)
  (hf:X.fn x=true\/X.env.scope.names.lookup x=some .local:=by first|exact .inl rfl|exact .inr rfl|assumption):zY X G ct ms rk (.Assign [.Name x pos'] e pos) (sSetX i f):=by
 obtain⟨t,pt,qt⟩:=he
 refine⟨_,NV hN hi hx pt hs hf,λF0 B F H ρ σ o E rs e z=>?_⟩
 obtain⟨r,h1,h2⟩:=aU e
 refine qt F0 B F H ρ σ r _ rs h1 ?_
 cases r with
 |ok d=>cases h2;exactλv F' H' fp x l nd hf=>z _ F' H' (rs.set hm x l nd hf)
 |xc d=>cases h2;exactλa F' H' x ha xd=>z a σ F H F' H' rs x ha xd
theorem lD.re {K:ae}{F0 B F H:Hp}{ρ:Env}{σ:St}{E:iw}{o:uG}(r:RS K ct F0 B ms F H ρ σ)(z:lD K ct F0 B ms rk E G o):lD K ct F B ms rk E G o:=by
 cases o with
 |ok o=>exact jA.re (o:=o) r z
 |xc ρ d=>exactλa σ' F1 H0 F' H' q=>z a σ' F1 H0 F' H' (r.back q)
theorem zrh {tg iter:Expr}{fi:Env->Option (List D)}{gg:D->Env->Option Env}(hi:XI X ct ms n tg iter fi)(hg:XG X ct ms n tg gg)(hb:oM X G ct ms rk rest u)(hp:bV (aI X.prog X.w) X.A X.env X.xe)(hc:X.calm=true)
  (hs:∀x,dm iter X.env x=pure x:=by intro _;rfl):zY X G ct ms rk (.For tg iter rest [] pos) (sForX fi gg u):=by
 obtain⟨wi,pi,qi⟩:=hi
 obtain⟨MV,pg,qg⟩:=hg
 obtain⟨t1,sW,sX⟩:=hb
 refine⟨_,S2 hp hc pi pg sW hs,λF0 B F H ρ σ o E rs e z=>?_⟩
 obtain⟨ds,h1,h2⟩:=aU e
 refine qi F0 B F H ρ σ ds _ rs h1 λJ F1 H1 x1 ok=>?_
 refine⟨λi m σ H=>m=ds.length-i/\i<=ds.length/\∃F ρ,bC F1 F/\RS X.K ct F0 B ms F H ρ σ/\rC gg u (ds.drop i) ρ=some o,⟨ds.length,rfl,dh _,F1,ρ,.refl _,rs.ext x1,h2⟩,?_⟩
 rintro i m σ H ⟨rfl,A6,F,ρ,s1,rs,e⟩
 obtain⟨k1,k2⟩:=ok i F H s1 rs.bh rs.fh
 by_cases lz:i<ds.length
 ·right
  have hd:ds[i]?=some ds[i]:=by simp[lz]
  obtain⟨go,yl⟩:=k1 _ hd
  rw[iF lz]at e
  obtain⟨ρ1,h3,h4⟩:=aU e
  obtain⟨o1,h5,h6⟩:=aU h4
  refine⟨go,λσ H=>i+1<=ds.length/\∃F ρ,bC F1 F/\RS X.K ct F0 B ms F H ρ σ/\rC gg u (ds.drop (i+1)) ρ=some o,λσ' H' h=>⟨ds.length-(i+1),by omega,rfl,h⟩,λx H2 y=>?_⟩
  obtain⟨F2,x2,l⟩:=yl x H2 y
  refine qg F0 B F2 H2 ρ ρ1 σ _ x _ (rs.ext x2) l h3 λσ' r=>?_
  have s2:=s1.trans x2.ff
  refine sX F2 B F2 H2 ρ1 σ' o1 _ r.re h5 ?_
  cases o1 with
  |xc ρ' d=>cases h6;exact lD.re (o:=.xc ρ' d) r z
  |ok o1=>
   cases o1 with
   |nx ρ'=>exactλσ' F' H' q=>⟨lz,F',ρ',s2.trans q.f0,r.back q,h6⟩
   |ct ρ'=>exactλσ' F' H' q=>⟨lz,F',ρ',s2.trans q.f0,r.back q,h6⟩
   |bk ρ'=>cases h6;exactλσ' F' H' q=>z σ' F' H' (r.back q)
   |rt d=>cases h6;exact jA.re (o:=.rt d) r z
 ·left
  refine⟨k2 (by omega),?_⟩
  have:ds.drop i=[]:=jB (by omega)
  rw[this]at e
  cases e
  exact z σ F H rs
end
end L3
set_option maxHeartbeats 1000000
namespace L3
open PySem PySem.Spec L2
open PyProof.Rows hiding St
theorem zvd {K:ae}{ct:Nat->ah}{F H F1 H1 F' H':Hp}{σ:St}{d:D}{a:ah}{G:GK}(x1:fL F H F1 H1)(x2:fL F1 H1 F' H')(ha:H1 a=none)(xd:yM K ct F' H' d a)(w:∀a F' H',fL F H F' H'->H a=none->yM K ct F' H' d a->G σ a H'):EX G σ (.ref a) none H':=by
 obtain⟨C,dx,T,xr,nt⟩:=xd.note x2.fh
 refine⟨a,C,dx,T,rfl,xr,λT' hT=>?_⟩
 obtain⟨q1,q2,_⟩:=nt T' hT
 exact w a F' _ ((x1.trans x2).note (x1.hh.free ha) hT q2) (x1.hh.free ha) q1
section
variable {X:Cx}{G:GK}{ct:Nat->ah}{ms:List Mo}{rk n m k kk:Nat}{st:bD}{rest:List bD}{a b c e:Expr}{f g h:EF}{p q:BF}{u w:mw}{pos pp:cX}{fa:ah}{fd:aH}{ps:List aK}{mf:List D->Option nL}{x:aK}
def mOfX (N:List aK)(b:mw)(ds:List D):Option nL:=(b (startD N ds)).bind λo=>match o with
 |.ok (.rt d)=>some (.ok d)
 |.ok (.nx _)=>some (.ok .non)
 |.xc _ d=>some (.xc d)
 |_=>none
def XR (X:Cx)(ct:Nat->ah)(ms:List Mo)(e:Expr)(f:EF):Prop:=∃t,PE X e t/\∀(F0 B F H:Hp) (ρ:Env) (σ:St) (d:D) (Q:VK),RS X.K ct F0 B ms F H ρ σ->f ρ=some d ->
 (∀a F' H' c ns ds dx,fL F H F' H'->H a=none->d=.exc c ns ds->F' a=none->uI X.K (ct c)->qI H' a (ct c) dx none->((ns=[]/\ds=[]/\dx=none)\/∃y vs,dx=some y/\F' y=some (.xd (ns.zip vs))/\ns.length=vs.length/\Dts X.K ct F' ds vs)->Q (.ref a) H')->t σ H Q
def sRaise (f:EF):mw:=λρ=>(f ρ).bind λd=>some (.xc ρ d)
theorem zls (hc:X.calm=true)(hx:km X G)(he:XR X ct ms e f):zY X G ct ms rk (.Raise (some e) none pos) (sRaise f):=by
 obtain⟨t,pt,qt⟩:=he
 refine⟨_,zm5 hc hx pt,λF0 B F H ρ σ o E rs e z=>?_⟩
 obtain⟨d,h1,h2⟩:=aU e
 cases h2
 refine qt F0 B F H ρ σ d _ rs h1 λa F' H' c ns ds dx x ha hd fa cl xr r=>⟨a,ct c,dx,rfl,cl,xr,λT hT=>?_⟩
 have sN:bC F' (eA H' a (ct c) dx T):=λb o e=>by
  unfold eA
  rw[zk (zl e fa),zk (zl e (x.fh.free hT))]
  exact x.fh _ _ e
 exact z a σ F H F' _ rs (x.note ha hT sN) ha ⟨c,ns,ds,T,dx,hd,fa,x.fh.free hT,NC xr hT,r⟩
def rB:D->Option D
 |.non=>some .non
 |.int i=>if i.natAbs.log2<1920 then some (.int i)else none
 |_=>none
theorem zlt {K:ae}{F G':Hp}{d d':D}{v:V}(h:rB d=some d')(l:Al K ct F G' n d v):d'=d/\nW v/\∀F',Dt K ct F' d v:=by
 cases d with
 |non=>
  unfold rB at h
  cases h
  refine⟨rfl,.inl l.non,λF'=>?_⟩
  rw[l.non];exact .non
 |int i=>
  unfold rB at h
  dsimp only at h
  by_cases hi:i.natAbs.log2<1920
  ·rw[if_pos hi]at h
   cases h
   refine⟨rfl,.inr ⟨i,l.int,hi⟩,λF'=>?_⟩
   rw[l.int];exact .int i
  ·rw[if_neg hi]at h;cases h
 |_=>unfold rB at h;cases h
def sM (f:aK)(C:ah):Sp:=λvs H Q _=>∃a u,vs=[.ref a,u]/\H a=some (nB a C none none)/\nW u/\∀dx,H dx=none->dx≠a->Q .non (cY (cY H dx (.xd [(f,u)])) a (nB a C (some dx) none))
theorem sM.len {f y z:aK}{C:ah}:∀vs H Q E,sM f C vs H Q E->vs.length=[y,z].length:=by
 rintro vs H Q E ⟨a,u,rfl,_⟩
 rfl
theorem znw {fn:aK}{c0:Nat}(cl:uI X.K (ct c0))(LZ:ao X.K (.ref (ct c0))=true)(hi:am X.K (.ref (ct c0)) "__init__"=some (some (.ref fa)))(tX:cH X.K (.ref fa)=true)(Fn:cv X.prog X.w X.K X.mg X.base eO kk fa fd ps (sM fn (ct c0)))(hr:dU (kk+1) X.A)(hm:X.mg x=some (.ref (ct c0)))(hb:bB X.K fd ps [])
  (he:XE X ct ms n e f) (hg:Gl X x:=by rfl) (i7:(x==("__debug__":aK))=false:=by decide) (iX:ap [e] X.env=(false,bG e X.env)::ap [] X.env:=by rfl) (gI:(cu pos (ap [] X.env)).any (·.1)=false:=by rfl) :
  XR X ct ms (.Call (.Name x pp) [e] [] pos) (λρ=>(f ρ).bind λd=>(rB d).bind λd=>some (.exc c0 [fn] [d])):=by
 obtain⟨t,pt,qt⟩:=he
 refine⟨_,zm4 cl LZ hi tX Fn hr hg hm hb (wv pt jp iX) i7 iX gI,λF0 B F H ρ σ d Q rs e w=>?_⟩
 obtain⟨d1,h1,h2⟩:=aU e
 obtain⟨d2,h3,h4⟩:=aU h2
 cases h4
 refine qt F0 B F H ρ σ d1 _ rs h1 λv F1 H1 x1 l=>⟨by simp,λa ha=>⟨a,v,rfl,zt,?_⟩⟩
 obtain⟨rfl,fo,dt⟩:=zlt h3 l
 refine⟨fo,λdx ID kD=>⟨rfl,?_⟩⟩
 have LP:H1 dx=none:=by rw[zk kD]at ID;exact ID
 have hH:cY (cY (cY H1 a (nB a (ct c0) none none)) dx (.xd [(fn,v)])) a (nB a (ct c0) (some dx) none)=cY (cY H1 dx (.xd [(fn,v)])) a (nB a (ct c0) (some dx) none):=by
  funext b
  by_cases h1:b=a
  ·rw[h1,zt,zt]
  ·rw[zk h1,zk h1]
   by_cases h2:b=dx
   ·rw[h2,zt,zt]
   ·rw[zk h2,zk h2,zk h1]
 rw[hH]
 have x2:fL F1 H1 (cY F1 dx (.xd [(fn,v)])) (cY H1 dx (.xd [(fn,v)])):=fL.newS x1.fh LP _
 have LB:cY H1 dx (.xd [(fn,v)]) a=none:=by rw[zk (Ne.symm kD)];exact ha
 have x3:=fL.newO x2.fh LB (nB a (ct c0) (some dx) none)
 refine w a _ _ c0 [fn] [d2] (some dx) ((x1.trans x2).trans x3) (x1.hh.free ha) rfl ?_ cl ⟨zt,λT z=>by cases z⟩ (.inr ⟨dx,[v],rfl,zt,rfl,.cons (dt _) .nil⟩)
 rw[zk (Ne.symm kD)]
 exact x1.fh.free ha
end
end L3
set_option maxHeartbeats 1000000
namespace L3
open PySem PySem.Spec L2
open PyProof.Rows hiding St
def sL (K:ae)(ct:Nat->ah)(cs:List Nat)(pm:List Nat)(mi:Nat->List D->Option nL):Sp:=λvs H Q E=>∃(F:Hp) (c:Nat) (ds:List D) (r:nL) (x dx:ah) (us:List V),c∈cs/\vs=.ref x::us/\H x=some (.ins (ct c) dx [])/\F x=none/\bC F H/\jK K ct F (kr H x) pm ds us/\mi c ds=some r /\
 match r with
  |.ok d=>∀F' H',bC F F'->bC (kr H x) H'->bC F' H'->(∀a o,kr H x a=some o->F a=none->F' a=none)->F' x=none->Ow K ct F' H' 1 d (.ref x) [x]->Q .non H'
  |.xc d=>∀a F' H',bC F F'->bC (kr H x) H'->bC F' H'->(∀a o,kr H x a=some o->F a=none->F' a=none)->kr H x a=none->yM K ct F' H' d a->E (.ref a) none H'
theorem sL.len {K:ae}{ct:Nat->ah}{cs pm:List Nat}{mi:Nat->List D->Option nL}{ps:List aK}(h:pm.length+1=ps.length):∀vs H Q E,sL K ct cs pm mi vs H Q E->vs.length=ps.length:=by
 rintro vs H Q E ⟨F,c,ds,r,x,dx,us,_,rfl,_,_,_,l,_⟩
 rw[aC,l.length,h]
def xF (N:List aK)(b:mw)(c:Nat)(ds:List D):Option nL:=(b (some (.obj c [] [])::startD N.tail ds)).bind λo=>match o with
 |.ok (.nx ρ)=>((ρ[0]?).join).map .ok
 |.xc _ d=>some (.xc d)
 |_=>none
section
variable {X:Cx}{G:GK}{ct:Nat->ah}{ms:List Mo}{rk n m k kk:Nat}{a b c e tg:Expr}{f g h:EF}{u w:SF}{pos pp:cX}{fa:ah}{fd:aH}{ps:List aK}{x:aK}
theorem ZX {P:bn}{w:bP}{K:ae}{mg:aK->Option aa}{base:aM}{x qual:aK}{st:bD}{fa:ah}{fd:aH}{N0:aK}{N ps:List aK}{kk:Nat}{cs pm:List Nat}{bf:mw}(Fn:Fun2 K x qual st fa fd)(S:bu (N0::N) ps (aQ st))(xC:pm.length+1=ps.length)(Fl:ms.length=N.length)(se:pm.length<=N.length)
  (Bc:∀(i n:Nat),pm[i]?=some n->ms[i]?=some (Mo.al n)\/(n=0/\ms[i]?=some (Mo.ow 0)))
  (body:∀(x:ah) (gu:aa) (A:bx) (outer:List PySem.Env) (s:aj) (H:Hp) (E:XK),dU kk (A.deeper (envOfC qual (aQ st) s.heap.objs.size fa gu))->oM (lF (yJ P w) P w K mg base (N0::N) qual (aQ st) fa gu A outer s H E) (λ_ a H'=>E (.ref a) none H') ct (.so x::ms) rk (fY st) bf) :
  cv P w K mg base (yJ P w) (kk+1) fa fd ps (sL K ct cs pm (xF (N0::N) bf)):=by
 obtain⟨oc,od,dV,kV,doc,pm',an,gu,ct',zC,rfl,lk,iI⟩:=Fn.ex
 refine Ti lk iI S (sL.len xC) λA outer s H vs Q E hr h=>?_
 obtain⟨F,c,ds,r,x,dx,us,hc,rfl,hx,hF,sF,l,hm,q⟩:=h
 obtain⟨t,pt,qt⟩:=body x gu A outer s H E hr
 refine⟨t,pt,?_⟩
 obtain⟨o,h1,h2⟩:=aU hm
 have hdl:ds.length=us.length:=l.length'
 have Md:us.length=pm.length:=l.length
 have ow:Ow K ct F H 1 (.obj c [] []) (.ref x) [x]:=.inr (vO.obj (vs:=[]) hF hx rfl .nil)
 refine qt F (kr H x) F H (some (.obj c [] [])::startD N ds) (L2.start (N0::N) (.ref x::us)) o _ ⟨.refl _,Cp H x,sF,λ_ _ _ h=>h,[x],?_,by simp,λa z=>by rw[aB]at z;subst z;exact HN H _⟩ h1 ?_
 ·have e:L2.start (N0::N) (.ref x::us)=some (.ref x)::(us.map some++ax (N.length-us.length) none):=by
   unfold L2.start
   simp
  rw[e]
  unfold startD
  rw[hdl]
  exact SL.so (fp:=[]) ow (SL.start _ l Bc (by omega))
 ·cases o with
  |xc ρ d=>
   cases h2
   exactλa σ F1 H0 F' H' rs x ha xd=>q a F' H' (rs.f0.trans x.ff) (rs.bh.trans x.hh) x.fh (λb o h n=>x.nf b o (rs.bh _ _ h) (rs.nf b o h n)) (rs.bh.free ha) xd
  |ok o=>
   cases o with
   |nx ρ=>
    obtain⟨d,h3,rfl⟩:=bY.mp h2
    intro σ F' H' r
    obtain⟨fp,sl,nd,hb⟩:=r.sl
    cases sl with
    |no _=>cases h3
    |so Bt _=>
     cases h3
     exact q F' H' r.f0 r.bh r.fh r.nf (Bt.cells x af).1 Bt
   |rt d'=>cases h2
   |bk ρ=>cases h2
   |ct ρ=>cases h2
theorem znx {cs:List Nat}{es:List Expr}{ns nd:List Nat}{fs:Env->Option (List D)}{gS:List V}{lT:List D}{m6:List aa}{mi:Nat->List D->Option nL}{c0:Nat}(hx:km X G)(M:Mk X.K (ct c0) fa)(wY:c0∈cs)(Fn:cv X.prog X.w X.K X.mg X.base (yJ X.prog X.w) kk fa fd ps (sL X.K ct cs (ns++nd) mi))(hr:dU (kk+1) X.A)(hg:Gl X x)(hm:X.mg x=some (.ref (ct c0)))
  (hb:bB X.K fd ps m6) (hd:bR gS m6) (wZ:∀F G,jK X.K ct F G nd lT gS) (ha:XA X ct ms (e::es) ns fs)
  (i7:(x==("__debug__":aK))=false:=by decide) (he:ap (e::es) X.env=(false,bG e X.env)::ap es X.env:=by rfl) (gI:(cu pos (ap es X.env)).any (·.1)=false:=by rfl) :
  Ig X G ct ms 1 (.Call (.Name x pp) (e::es) [] pos) (λρ=>(fs ρ).bind λds=>mi c0 (ds++lT)):=by
 obtain⟨t,pt,_,qt⟩:=ha
 refine⟨_,zm2 M Fn hr hg hm hb hd hx pt i7 he gI,λF0 B F H ρ σ r Q rs e w=>?_⟩
 obtain⟨ds,h1,h2⟩:=aU e
 refine qt F0 B F H ρ σ ds _ rs h1 λvs F1 H1 x1 l y dy hy LQ kD=>?_
 have sH:bC H1 (kr (cY (cY H1 dy (.own y)) y (.ins (ct c0) dy [])) y):=λb o h=>by
  have n1:b≠y:=zl h hy
  rw[u2 n1,zk n1,zk (zl h LQ)]
  exact h
 have MF:bC H1 (cY (cY H1 dy (.own y)) y (.ins (ct c0) dy [])):=sH.trans (Cp _ _)
 refine⟨F1,c0,ds++lT,r,y,dy,vs++gS,wY,rfl,zt,x1.fh.free hy,x1.fh.trans MF,jK.mono (.refl _) sH (jK.append (wZ F1 H1) l),h2,?_⟩
 cases r with
 |ok d=>
  refineλF' H' s1 s2 s3 s4 hn ow=>⟨rfl,?_⟩
  refine w _ F' H' [y] ⟨x1.ff.trans s1,(x1.hh.trans sH).trans s2,s3,λb o h n=>s4 b o (sH _ _ (x1.hh _ _ h)) (x1.nf b o h n)⟩ ow (by simp) λb z=>?_
  rw[aB]at z
  subst z
  exact x1.hh.free hy
 |xc d=>
  refineλa F' H' s1 s2 s3 s4 ha xd=>zvd x1 (F':=F') (H':=H') ⟨s1,sH.trans s2,s3,λb o h n=>s4 b o (sH _ _ h) n⟩ (sH.free ha) xd w
theorem zny {P:bn}{w:bP}{K:ae}{mg:aK->Option aa}{base:aM}{qual fn N0 N1:aK}{st:bD}{fa C:ah}{fd:aH}{kk:Nat}(Fn:Fun2 K "__init__" qual st fa fd)(S:bu [N0,N1] [N0,N1] (aQ st))(cl:uI K C)(hd:bM K C=true/\am K (.ref C) "__setattr__"=some (some (.builtin "object.__setattr__"))/\dY K C fn=some none)
  (body:∀(gu:aa) (A:bx) (outer:List PySem.Env) (s:aj) (H:Hp) (E:XK),∃tf:TF,(∀σ H v (Q:Hp->Prop),σ[1]?=some (some v)->nW v->Q H->tf σ H Q)/\oH (lF eO P w K mg base [N0,N1] qual (aQ st) fa gu A outer s H E).nox (fY st) (HC (zJ (vD K (tw 0) (λσ H Q=>tf σ H λH1=>∀x,Q (.str x) H1))) (zM K fn (tw 1) (tw 0)))) :
  cv P w K mg base eO (kk+1) fa fd [N0,N1] (sM fn C):=by
 refine Fn.ok S sM.len λgu A outer s H vs Q E hr h=>?_
 obtain⟨a,u,rfl,ha,fo,q⟩:=h
 obtain⟨tf,VS,p⟩:=body gu A outer s H E
 exact⟨_,p,.ref a,rfl,VS _ _ u _ rfl fo λx=>⟨a,C,none,none,rfl,cl,ha,u,rfl,.ref a,rfl,a,C,none,rfl,cl,hd.1,hd.2.1,hd.2.2,ha,λdx h1 h2=>q dx h1 h2⟩⟩
theorem Yy {v:V}{σ:St}{H:Hp}{Q:Hp->Prop}(h1:σ[1]?=some (some v))(h2:nW v)(h3:Q H):tw 1 σ H (λv H1=>nW v/\Q H1):=⟨v,h1,h2,h3⟩
def thD (hit:Nat->Option Bool)(i:Option Nat)(u:SF)(rest:Nat->D->SF):Nat->D->SF:=λc d ρ=>(hit c).bind λb=>if b=true then
  (match i with
   |none=>u ρ
   |some i=>(u (ρ.set i (some d))).bind λo=>match o with
    |.nx ρ'=>some (.nx (ρ'.set i none))
    |.bk ρ'=>some (.bk (ρ'.set i none))
    |.ct ρ'=>some (.ct (ρ'.set i none))
    |.rt d=>some (.rt d))
 else rest c d ρ
def sTry (b:mw)(h:Nat->D->SF):SF:=λρ=>(b ρ).bind λo=>match o with
 |.ok o=>some o
 |.xc ρ' (.exc c ns ds)=>h c (.exc c ns ds) ρ'
 |.xc _ _=>none
def Ie (X:Cx)(ct:Nat->ah)(ms:List Mo)(rk:Nat)(hs:List ExceptHandler)(h:Nat->D->SF):Prop:=∃th,PH X hs th/\∀(F0 B F H:Hp) (ρ:Env) (σ:St) (o:Out) (E:iw) (a:ah) (c:Nat) (d:D),RS X.K ct F0 B ms F H ρ σ->Dt X.K ct F d (.ref a)->h c d ρ=some o->jA X.K ct F0 B ms rk E o->th a (ct c) E σ H
theorem zri:Ie X ct ms rk [] (λ_ _ _=>none):=⟨_,zs8,λF0 B F H ρ σ o E a c d rs dt e z=>by cases e⟩
theorem znz {hs:List ExceptHandler}{np:cX}{st:bD}{body:List bD}{Ba:ah}{hit:Nat->Option Bool}{r:Nat->D->SF}(hm:X.mg x=some (.ref Ba))(hh:∀c b,hit c=some b->eW X.K (.ref (ct c)) (.ref Ba)=some b)(hb:∀a,qH (X.hd a) ct ms rk (st::body) u)(hr:Ie X ct ms rk hs r)(hg:Gl X x:=by rfl)(i7:(x==("__debug__":aK))=false:=by decide) :
  Ie X ct ms rk (.ExceptHandler (some (.Name x np)) none (st::body) pos::hs) (thD hit none u r):=by
 obtain⟨th,ph,qh⟩:=hr
 refine⟨_,zqb hg hm (λa=>(hb a).choose_spec.1) ph i7,λF0 B F H ρ σ o E a c d rs dt e z=>?_⟩
 obtain⟨b,h1,h2⟩:=aU e
 refine⟨b,hh c b h1,?_⟩
 cases b with
 |true=>
  rw[if_pos rfl]at h2 ⊢
  exact(hb a).choose_spec.2 F0 B F H ρ σ o E rs h2 z
 |false=>
  rw[if_neg aJ]at h2 ⊢
  exact qh F0 B F H ρ σ o E a c d rs dt h2 z
theorem zty {body:List bD}{h0:ExceptHandler}{hs:List ExceptHandler}{bf:mw}{hf:Nat->D->SF}(hb:∀(E:aa->aj->Prop) (ai:List (ah×df)) (G:GK),bV (aI X.prog X.w) X.A X.env E->km (X.tr E ai) G->oM (X.tr E ai) G ct ms rk body bf)(hh:Ie X ct ms rk (h0::hs) hf)
  (iX:X.stack=X.env::X.outer:=by rfl) (Fc:X.env.frame=some X.env.locals:=by rfl):XS X ct ms rk (.Try body (h0::hs) [] [] pos) (sTry bf hf):=by
 obtain⟨th,ph,qh⟩:=hh
 refine⟨_,zs9 (tb:=λE ai G h1 h2=>(hb E ai G h1 h2).choose) iX Fc (λE ai G h1 h2=>(hb E ai G h1 h2).choose_spec.1) ph,λF0 B F H ρ σ o E rs e z E' ai h1 h2=>?_⟩
 obtain⟨r,g1,g2⟩:=aU e
 refine(hb E' ai (BL th E) h1 h2).choose_spec.2 F0 B F H ρ σ r E rs g1 ?_
 cases r with
 |ok o'=>cases g2;exact z
 |xc ρ' d=>
  intro a σ' F1 H0 F' H' BA x ha xd
  obtain⟨c,ns,ds,T,dx,rfl,fa,fT,xr,rr⟩:=xd
  refine⟨ct c,dx,T,xr,?_⟩
  have x2:fL F1 H0 (cY F' a (nB a (ct c) dx (some T))) H':=⟨x.ff.trans (jf fa _),x.hh,λb o q=>by
   by_cases hb:b=a
   ·rw[hb,zt]at q;rw[hb,xr.1];exact q
   ·rw[zk hb]at q;exact x.fh _ _ q,λb o h n=>by rw[zk (zl h ha)];exact x.nf b o h n⟩
  refine qh F0 B _ H' ρ' σ' o E a c _ (BA.ext x2) ?_ g2 z
  rcases rr with⟨rfl,rfl,rfl⟩|⟨y,vs,rfl,hy,hl,UX⟩
  ·exact .exc0 zt
  ·exact .exc (vs:=vs) zt (jf fa _ _ _ hy) hl (UX.mono (jf fa _))
end
end L3
set_option maxHeartbeats 1000000
namespace L2
open PySem PySem.Spec PyProof.Rows
section
variable {X:Cx}
end
end L2
namespace L3
open PySem PySem.Spec L2
open PyProof.Rows hiding St
def fldX (cs:List Nat)(x:aK):D->Option D
 |.exc c ns ds=>if cs.contains c=true then(ns.zip ds).lookup x else none
 |_=>none
def isiX (all sub:List Nat):D->Option D
 |.exc c _ _=>if all.contains c=true then some (.bl (sub.contains c))else none
 |.non=>some (.bl false)
 |_=>none
section
variable {X:Cx}{ct:Nat->ah}{ms:List Mo}{n m k:Nat}{e:Expr}{f:EF}{pos:cX}
end
theorem ztz {K:ae}{C B:ah}{b:Bool}(h1:lQ K B=true)(h2:mF K (.ref B)=some (.type "type"))(h3:kc K (.ref C) (.ref B)=some b)(h4:kc K (.ref B) (.type "BaseException")=some true):eW K (.ref C) (.ref B)=some b:=by
 unfold eW PySem.W.kitCls
 rw[h4,if_pos (by decide)]
 dsimp only
 rw[if_pos,h3]
 unfold lQ at h1
 rw[h1,h2];rfl
def hitL (all sub:List Nat):Nat->Option Bool:=λc=>if all.contains c=true then some (sub.contains c)else none
theorem zt0 {K:ae}{ct:Nat->ah}{B:ah}{all sub:List Nat}(h:∀c∈all,eW K (.ref (ct c)) (.ref B)=some (sub.contains c)):∀c b,hitL all sub c=some b->eW K (.ref (ct c)) (.ref B)=some b:=by
 intro c b e
 unfold hitL at e
 by_cases hc:all.contains c=true
 ·rw[if_pos hc]at e
  cases e
  exact h c (by simpa using hc)
 ·rw[if_neg hc]at e;cases e
end L3
set_option maxHeartbeats 1000000
namespace L3
open PySem PySem.Spec L2
open PyProof.Rows hiding St
theorem zt1 {X:Cx}{G:GK}{ct:Nat->ah}{ms:List Mo}{k:Nat}{e:Expr}{f:BY}(he:Ig X G ct ms k e f):Ig X G ct ms 0 e f:=by
 obtain⟨t,p,q⟩:=he
 refine⟨t,p,λF0 B F H ρ σ r Q rs e w=>q F0 B F H ρ σ r Q rs e ?_⟩
 cases r with
 |ok d=>
  intro v F' H' fp x o nd hf
  obtain⟨F2,x2,h2⟩:=o.freeze x hf
  exact w v F2 H' [] x2 ⟨h2,rfl⟩ bL λa z=>(by cases z)
 |xc d=>exact w
end L3
set_option maxHeartbeats 1000000
namespace L3
open PySem PySem.Spec L2
open PyProof.Rows hiding St
end L3
namespace Fq
theorem gcd_step (a b:Int):eK b (a.fmod b)=eK a b:=by
 rw[Int.fmod_def,Int.gcd_sub_mul_left_right,Int.gcd_comm]
theorem fmod_less (a:Int){b:Int}(hb:b≠0):(a.fmod b).natAbs<b.natAbs:=by
 rcases Int.lt_or_gt_of_ne hb with h|h
 ·have h1:=tG (-a) (b:=-b) (by omega)
  have h2:=p3 (-a) (b:=-b) (by omega)
  have e:(-a).fmod (-b) = -(a.fmod b):=Int.neg_fmod_neg ..
  omega
 ·have h1:=tG a h
  have h2:=p3 a h
  omega
theorem gcd_end (a:Int):(if a<0 then -a else a)=((eK a 0:Nat):Int):=by
 rw[Int.gcd_zero_right]
 split<;>omega
def dv (t b:Int):Int:=if b<0 then -((eK t b:Nat):Int)else((eK t b:Nat):Int)
def mk (t b:Int):Int×Int:=(t.fdiv (dv t b),b.fdiv (dv t b))
structure Low (q:Int×Int):Prop where
 pos:1<=q.2
 cop:eK q.1 q.2=1
theorem gcd_pos {t b:Int}(hb:b≠0):0<eK t b:=Int.gcd_pos_of_ne_zero_right t hb
theorem Ol {t b:Int}(hb:b≠0):dv t b≠0:=by
 have:=gcd_pos (t:=t) hb
 unfold dv;split<;>omega
theorem SU (t b:Int):(dv t b).natAbs=eK t b:=by
 unfold dv;split<;>omega
theorem dv_le {t b:Int}(hb:b≠0):(dv t b).natAbs<=b.natAbs:=by
 rw[SU]
 exact Nat.le_of_dvd (by omega) (jS.mpr (lJ t b)|> λh=>by simpa using h)
theorem QD (t b:Int):dv t b ∣ t:=by
 unfold dv;split
 ·exact Int.neg_dvd.mpr (vH t b)
 ·exact vH t b
theorem Qv (t b:Int):dv t b ∣ b:=by
 unfold dv;split
 ·exact Int.neg_dvd.mpr (lJ t b)
 ·exact lJ t b
theorem Oa (t b:Int):t=dv t b*(mk t b).1:=by
 show t=dv t b*t.fdiv (dv t b)
 rw[pA (QD t b),rR (QD t b)]
theorem Ob (t b:Int):b=dv t b*(mk t b).2:=by
 show b=dv t b*b.fdiv (dv t b)
 rw[pA (Qv t b),rR (Qv t b)]
theorem mk_low {t b:Int}(hb:b≠0):Low (mk t b):=by
 have e1:=Oa t b
 have e2:=Ob t b
 have hd:=Ol (t:=t) hb
 have hg:=gcd_pos (t:=t) hb
 constructor
 ·have hs:(b<0/\dv t b<0)\/(0<b/\0<dv t b):=by
   unfold dv;split<;>omega
  rcases hs with⟨h1,h2⟩|⟨h1,h2⟩
  ·rcases Int.lt_or_le (mk t b).2 1 with h|h
   ·have:0<=dv t b*(mk t b).2:=lh (by omega) (by omega)
    omega
   ·exact h
  ·rcases Int.lt_or_le (mk t b).2 1 with h|h
   ·have:dv t b*(mk t b).2<=0:=Int.mul_nonpos_of_nonneg_of_nonpos (by omega) (by omega)
    omega
   ·exact h
 ·have h:eK (dv t b*(mk t b).1) (dv t b*(mk t b).2)=eK t b:=by rw[←e1,←e2]
  rw[Int.gcd_mul_left,SU]at h
  exact Nat.eq_of_mul_eq_mul_left hg (by rw[h,Nat.mul_one])
theorem mk_cross (t b:Int):(mk t b).1*b=t*(mk t b).2:=by
 have e1:=Oa t b
 have e2:=Ob t b
 generalize (mk t b).1=x,(mk t b).2=y,dv t b=d at *
 subst e1
 rw[e2]
 grind
theorem QJ {d x:Int}(hd:d≠0):x.natAbs<=(d*x).natAbs:=by
 rw[nR]
 exact Nat.le_mul_of_pos_left _ (by omega)
theorem mk_le_one {t b:Int}(hb:b≠0):(mk t b).1.natAbs<=t.natAbs:=by
 have h:=QJ (x:=(mk t b).1) (Ol (t:=t) hb)
 rwa[←Oa]at h
theorem mk_le_two {t b:Int}(hb:b≠0):(mk t b).2.natAbs<=b.natAbs:=by
 have h:=QJ (x:=(mk t b).2) (Ol (t:=t) hb)
 rwa[←Ob]at h
theorem QK {a b c:Int}(h:a ∣ b*c)(g:eK b a=1):a ∣ c:=by
 have h1:a.natAbs ∣ b.natAbs*c.natAbs:=by
  rw[←nR];exact jS.mpr h
 have h2:Nat.Coprime a.natAbs b.natAbs:=by
  rw[Nat.coprime_comm];exact g
 exact jS.mp (h2.dvd_of_dvd_mul_left h1)
theorem uniq {p q:Int×Int}(hp:Low p)(hq:Low q)(h:p.1*q.2=q.1*p.2):p=q:=by
 obtain⟨p1,p2⟩:=p
 obtain⟨q1,q2⟩:=q
 obtain⟨a1,a2⟩:=hp
 obtain⟨b1,b2⟩:=hq
 simp only at *
 have d1:p2 ∣ q2:=QK (b:=p1) ⟨q1,by rw[h,eL]⟩ a2
 have d2:q2 ∣ p2:=QK (b:=q1) ⟨p1,by rw[←h,eL]⟩ b2
 have e:p2=q2:=Int.dvd_antisymm (by omega) (by omega) d1 d2
 subst e
 have:p1=q1:=fF (by omega) h
 rw[this]
def plus (p q:Int×Int):Int×Int:=mk (p.1*q.2+q.1*p.2) (p.2*q.2)
def scaled (p:Int×Int)(n:Int):Int×Int:=mk (p.1*n) p.2
def minus (p q:Int×Int):Int×Int:=plus p (scaled q (-1))
def under (p q:Int×Int):Bool:=decide (p.1*q.2<q.1*p.2)
theorem Low.ne {q:Int×Int}(h:Low q):q.2≠0:=by have:=h.pos;omega
theorem Low.mul_ne {p q:Int×Int}(h:Low p)(h':Low q):p.2*q.2≠0:=Int.mul_ne_zero h.ne h'.ne
theorem plus_low {p q:Int×Int}(h:Low p)(h':Low q):Low (plus p q):=mk_low (h.mul_ne h')
theorem scaled_low {p:Int×Int}(h:Low p)(n:Int):Low (scaled p n):=mk_low h.ne
theorem minus_low {p q:Int×Int}(h:Low p)(h':Low q):Low (minus p q):=plus_low h (scaled_low h' _)
theorem plus_v (p q:Int×Int):(plus p q).1*(p.2*q.2)=(p.1*q.2+q.1*p.2)*(plus p q).2:=mk_cross _ _
theorem zn0 (p:Int×Int)(n:Int):(scaled p n).1*p.2=(p.1*n)*(scaled p n).2:=mk_cross _ _
theorem minus_v {p q:Int×Int}(h':Low q):(minus p q).1*(p.2*q.2)=(p.1*q.2-q.1*p.2)*(minus p q).2:=by
 have e1:=plus_v p (scaled q (-1))
 have e2:=zn0 q (-1)
 have hs:=(scaled_low h' (-1)).ne
 show(plus p (scaled q (-1))).1*(p.2*q.2)=(p.1*q.2-q.1*p.2)*(plus p (scaled q (-1))).2
 have k:(scaled q (-1)).2*((plus p (scaled q (-1))).1*(p.2*q.2))=(scaled q (-1)).2*((p.1*q.2-q.1*p.2)*(plus p (scaled q (-1))).2):=by grind
 exact Int.eq_of_mul_eq_mul_left hs k
theorem lt_congr {n d m e n' d' m' e':Int}(hd:0<d)(he:0<e)(E7:0<d')(Vw:0<e')(h:n*e=m*d)(h':n' * e'=m' * d'):(n*d'<n' * d↔m*e'<m' * e):=by
 have p1:0<e*e':=dF he Vw
 have p2:0<d*d':=dF hd E7
 have k:(e*e')*(n' * d-n*d')=(d*d')*(m' * e-m*e'):=by grind
 constructor
 ·intro q
  have:0<(d*d')*(m' * e-m*e'):=by rw[←k];exact dF p1 (by omega)
  have:=o7 this (by omega)
  omega
 ·intro q
  have:0<(e*e')*(n' * d-n*d'):=by rw[k];exact dF p2 (by omega)
  have:=o7 this (by omega)
  omega
theorem Low.gt {q:Int×Int}(h:Low q):0<q.2:=by have:=h.pos;omega
end Fq
set_option maxHeartbeats 4000000
namespace My
open PySem L2 L3
def top (i:Nat):bD:=PySem.Challenge.pw_ringbeat_k94_whole_turned_about.main.body.getD i (.Pass ⟨0,0,0,0⟩)
abbrev yi:bD:=inClass (top 2) 0
abbrev yu:bD:=inClass (top 3) 0
abbrev ye:bD:=inClass (top 4) 0
abbrev yf:bD:=inClass (top 5) 0
abbrev xu:bD:=top 17
abbrev xv:bD:=top 18
abbrev vc:bD:=top 19
abbrev xw:bD:=top 20
abbrev yw:bD:=top 21
abbrev wk:bD:=top 22
abbrev yg:bD:=top 23
abbrev zy:bD:=top 24
abbrev wm:bD:=top 25
abbrev xh:bD:=inClass (top 27) 0
abbrev zw:bD:=inClass (top 27) 1
abbrev ya:bD:=top 32
abbrev uv:bD:=top 33
abbrev vw:bD:=top 36
abbrev qk:bD:=top 34
abbrev uw:bD:=top 35
abbrev ux:bD:=top 37
abbrev ql:bD:=top 39
abbrev xx:bD:=top 40
abbrev zo:bD:=top 41
abbrev xi:bD:=top 43
abbrev vx:bD:=top 44
abbrev xy:bD:=top 45
abbrev yh:bD:=top 46
abbrev yx:bD:=top 47
abbrev yy:bD:=top 48
abbrev yz:bD:=inClass (top 50) 1
abbrev yj:bD:=inClass (top 10) 0
abbrev yk:bD:=inClass (top 50) 0
abbrev xj:bD:=top 29
abbrev uz:bD:=top 30
abbrev y3:bD:=top 52
abbrev xk:bD:=top 53
abbrev xz:bD:=top 54
abbrev wn:bD:=top 55
abbrev x8:bD:=top 56
abbrev wo:bD:=top 57
abbrev vd:bD:=top 58
abbrev xl:bD:=top 59
abbrev x9:bD:=top 60
abbrev xm:bD:=top 61
abbrev BQ:bD:=top 62
theorem YU:bu ["self","start","goal","time","behind"] ["self","start","goal","time","behind"] (aQ yi):=⟨rfl,rfl,rfl,by decide +kernel,rfl,by decide +kernel,by decide +kernel⟩
theorem YL:bu ["self","start","goal","time"] ["self","start","goal","time"] (aQ yu):=⟨rfl,rfl,rfl,by decide +kernel,rfl,by decide +kernel,by decide +kernel⟩
theorem YM:bu ["self","start","goal","time","behind"] ["self","start","goal","time","behind"] (aQ ye):=⟨rfl,rfl,rfl,by decide +kernel,rfl,by decide +kernel,by decide +kernel⟩
theorem YN:bu ["self","start","goal","time","behind"] ["self","start","goal","time","behind"] (aQ yf):=⟨rfl,rfl,rfl,by decide +kernel,rfl,by decide +kernel,by decide +kernel⟩
theorem Ze:bu ["sign"] ["sign"] (aQ xu):=⟨rfl,rfl,rfl,by decide +kernel,rfl,by decide +kernel,by decide +kernel⟩
theorem Zf:bu ["sign"] ["sign"] (aQ xv):=⟨rfl,rfl,rfl,by decide +kernel,rfl,by decide +kernel,by decide +kernel⟩
theorem ZY:bu ["word"] ["word"] (aQ vc):=⟨rfl,rfl,rfl,by decide +kernel,rfl,by decide +kernel,by decide +kernel⟩
theorem qv:bu ["names","seen","name"] ["names"] (aQ xw):=⟨rfl,rfl,rfl,by decide +kernel,rfl,by decide +kernel,by decide +kernel⟩
theorem YO:bu ["number","least","most"] ["number","least","most"] (aQ yw):=⟨rfl,rfl,rfl,by decide +kernel,rfl,by decide +kernel,by decide +kernel⟩
theorem M1:bu ["arrow","many","least","most"] ["arrow","many"] (aQ wk):=⟨rfl,rfl,rfl,by decide +kernel,rfl,by decide +kernel,by decide +kernel⟩
theorem xf:bu ["many","arrows","within","waited","arrow","placed","done","here"] ["many","arrows"] (aQ yg):=⟨rfl,rfl,rfl,by decide +kernel,rfl,by decide +kernel,by decide +kernel⟩
theorem ww:bu ["arrows","chosen","going","here","seen","way"] ["arrows","chosen","going"] (aQ zy):=⟨rfl,rfl,rfl,by decide +kernel,rfl,by decide +kernel,by decide +kernel⟩
theorem j0:bu ["arrows","chosen","start","goal","here","way"] ["arrows","chosen","start","goal"] (aQ wm):=⟨rfl,rfl,rfl,by decide +kernel,rfl,by decide +kernel,by decide +kernel⟩
theorem u5:bu ["self","names","arrows","number","arrow","placed"] ["self","names","arrows"] (aQ xh):=⟨rfl,rfl,rfl,by decide +kernel,rfl,by decide +kernel,by decide +kernel⟩
theorem YE:bu ["self"] ["self"] (aQ zw):=⟨rfl,rfl,rfl,by decide +kernel,rfl,by decide +kernel,by decide +kernel⟩
theorem vm:bu ["one","other","rest"] ["one","other"] (aQ ya):=⟨rfl,rfl,rfl,by decide +kernel,rfl,by decide +kernel,by decide +kernel⟩
theorem Nt:bu ["top","bottom","divisor"] ["top","bottom"] (aQ uv):=⟨rfl,rfl,rfl,by decide +kernel,rfl,by decide +kernel,by decide +kernel⟩
theorem zlw:bu ["one","whole"] ["one","whole"] (aQ vw):=⟨rfl,rfl,rfl,by decide +kernel,rfl,by decide +kernel,by decide +kernel⟩
theorem zrk:bu ["one","other"] ["one","other"] (aQ qk):=⟨rfl,rfl,rfl,by decide +kernel,rfl,by decide +kernel,by decide +kernel⟩
theorem zn1:bu ["one","other"] ["one","other"] (aQ uw):=⟨rfl,rfl,rfl,by decide +kernel,rfl,by decide +kernel,by decide +kernel⟩
theorem zn2:bu ["one","other"] ["one","other"] (aQ ux):=⟨rfl,rfl,rfl,by decide +kernel,rfl,by decide +kernel,by decide +kernel⟩
theorem Nx:bu ["net","ring","times","behinds"] ["net","ring"] (aQ ql):=⟨rfl,rfl,rfl,by decide +kernel,rfl,by decide +kernel,by decide +kernel⟩
theorem v9:bu ["net","pace","numbers","times","chosen","pushed","number","arrow","earliest"] ["net","pace","numbers","times","chosen"] (aQ xx):=⟨rfl,rfl,rfl,by decide +kernel,rfl,by decide +kernel,by decide +kernel⟩
theorem yr:bu ["net","pace","numbers","times","chosen","pushed","count"] ["net","pace","numbers"] (aQ zo):=⟨rfl,rfl,rfl,by decide +kernel,rfl,by decide +kernel,by decide +kernel⟩
theorem Qk:bu ["net","pace","numbers","found"] ["net","pace","numbers"] (aQ xi):=⟨rfl,rfl,rfl,by decide +kernel,rfl,by decide +kernel,by decide +kernel⟩
theorem QS:bu ["one","other","total"] ["one","other"] (aQ vx):=⟨rfl,rfl,rfl,by decide +kernel,rfl,by decide +kernel,by decide +kernel⟩
theorem Qw:bu ["net","most"] ["net"] (aQ xy):=⟨rfl,rfl,rfl,by decide +kernel,rfl,by decide +kernel,by decide +kernel⟩
theorem xn:bu ["net","numbers","ring","ceiling","gap","middle","better"] ["net","numbers"] (aQ yh):=⟨rfl,rfl,rfl,by decide +kernel,rfl,by decide +kernel,by decide +kernel⟩
theorem jl:bu ["net","numbers","ring","pace"] ["net","numbers"] (aQ yx):=⟨rfl,rfl,rfl,by decide +kernel,rfl,by decide +kernel,by decide +kernel⟩
theorem YQ:bu ["net"] ["net"] (aQ yy):=⟨rfl,rfl,rfl,by decide +kernel,rfl,by decide +kernel,by decide +kernel⟩
theorem Qm:bu ["self","arrow","link"] ["self","arrow"] (aQ yz):=⟨rfl,rfl,rfl,by decide +kernel,rfl,by decide +kernel,by decide +kernel⟩
theorem YV:bu ["self","arrow"] ["self","arrow"] (aQ yj):=⟨rfl,rfl,rfl,by decide +kernel,rfl,by decide +kernel,by decide +kernel⟩
theorem qw:bu ["self","net","times","beat","number"] ["self","net","times","beat"] (aQ yk):=⟨rfl,rfl,rfl,by decide +kernel,rfl,by decide +kernel,by decide +kernel⟩
theorem vn:bu ["table","prices","chosen","lowered","number","arrow","price"] ["table","prices","chosen"] (aQ xj):=⟨rfl,rfl,rfl,by decide +kernel,rfl,by decide +kernel,by decide +kernel⟩
theorem Nu:bu ["table","one","other","prices","chosen"] ["table","one","other"] (aQ uz):=⟨rfl,rfl,rfl,by decide +kernel,rfl,by decide +kernel,by decide +kernel⟩
theorem YR:bu ["_law_script","_law_k"] ["_law_script","_law_k"] (aQ y3):=⟨rfl,rfl,rfl,by decide +kernel,rfl,by decide +kernel,by decide +kernel⟩
theorem Y7:bu ["_law_cell"] ["_law_cell"] (aQ xk):=⟨rfl,rfl,rfl,by decide +kernel,rfl,by decide +kernel,by decide +kernel⟩
theorem qx:bu ["_law_cell","_law_k","_law_number"] ["_law_cell","_law_k"] (aQ xz):=⟨rfl,rfl,rfl,by decide +kernel,rfl,by decide +kernel,by decide +kernel⟩
theorem j4:bu ["_law_turn","_law_many","_law_going","_law_order","_law_left","_law_k"] ["_law_turn","_law_many","_law_going"] (aQ wn):=⟨rfl,rfl,rfl,by decide +kernel,rfl,by decide +kernel,by decide +kernel⟩
theorem wp:bu ["_law_cell","_law_many","_law_turn","_law_number","_law_start","_law_goal","_law_behind","_law_time"] ["_law_cell","_law_many","_law_turn"] (aQ x8):=⟨rfl,rfl,rfl,by decide +kernel,rfl,by decide +kernel,by decide +kernel⟩
theorem ja:bu ["_law_arrow_here","_law_kind","_law_start","_law_goal","_law_time","_law_behind"] ["_law_arrow_here","_law_kind"] (aQ wo):=⟨rfl,rfl,rfl,by decide +kernel,rfl,by decide +kernel,by decide +kernel⟩
theorem ZZ:bu ["_law_arrows","_law_many"] ["_law_arrows","_law_many"] (aQ vd):=⟨rfl,rfl,rfl,by decide +kernel,rfl,by decide +kernel,by decide +kernel⟩
theorem w9:bu ["_law_arrows","_law_beat","_law_many","_law_cell","_law_tops","_law_step","_law_start","_law_goal","_law_time","_law_behind"] ["_law_arrows","_law_beat","_law_many","_law_cell"] (aQ xl):=⟨rfl,rfl,rfl,by decide +kernel,rfl,by decide +kernel,by decide +kernel⟩
theorem ji:bu ["_law_net_here","_law_tops","_law_beat","_law_found"] ["_law_net_here","_law_tops","_law_beat"] (aQ x9):=⟨rfl,rfl,rfl,by decide +kernel,rfl,by decide +kernel,by decide +kernel⟩
theorem Ql:bu ["_law_table_here","_law_one","_law_other","_law_found"] ["_law_table_here","_law_one","_law_other"] (aQ xm):=⟨rfl,rfl,rfl,by decide +kernel,rfl,by decide +kernel,by decide +kernel⟩
theorem jb:bu ["_law_script","_law_many","_law_arrows","_law_about","_law_net_here","_law_other_net","_law_found","_law_other","_law_beat","_law_tops","_law_table_here","_law_other_table","_law_one","_law_two"] ["_law_script"] (aQ BQ):=⟨rfl,rfl,rfl,by decide +kernel,rfl,by decide +kernel,by decide +kernel⟩
set_option genInjectivity false
set_option genSizeOf false
structure CH where
 c_Arrow:ah
 c_Ride:ah
 c_Wait:ah
 c_Back:ah
 c_Net:ah
 c_Table:ah
 c_BeatError:ah
 c_NoFit:ah
 f_Arrow___init:ah
 d_Arrow___init:aH
 f_Ride___init:ah
 d_Ride___init:aH
 f_Wait___init:ah
 d_Wait___init:aH
 f_Back___init:ah
 d_Back___init:aH
 f_is_letter:ah
 d_is_letter:aH
 f_is_figure:ah
 d_is_figure:aH
 f_is_name:ah
 d_is_name:aH
 f_are_names:ah
 d_are_names:aH
 f_lies_within:ah
 d_lies_within:aH
 f_is_right:ah
 d_is_right:aH
 f_placed_goings:ah
 d_placed_goings:aH
 f_ring_back_from:ah
 d_ring_back_from:aH
 f_way_back:ah
 d_way_back:aH
 f_Net___init:ah
 d_Net___init:aH
 f_Net_most_behind:ah
 d_Net_most_behind:aH
 f_common_divisor:ah
 d_common_divisor:aH
 f_ratio:ah
 d_ratio:aH
 f_scaled:ah
 d_scaled:aH
 f_plus:ah
 d_plus:aH
 f_minus:ah
 d_minus:aH
 f_under:ah
 d_under:aH
 f_mean:ah
 d_mean:aH
 f_push_once:ah
 d_push_once:aH
 f_times_or_ring_along:ah
 d_times_or_ring_along:aH
 f_ring_above:ah
 d_ring_above:aH
 f_midway:ah
 d_midway:aH
 f_least_gap:ah
 d_least_gap:aH
 f_greatest_ring:ah
 d_greatest_ring:aH
 f_paper_along:ah
 d_paper_along:aH
 f_least_round:ah
 d_least_round:aH
 f_Table_slack:ah
 d_Table_slack:aH
 f_NoFit___init:ah
 d_NoFit___init:aH
 f_Table___init:ah
 d_Table___init:aH
 f_lower_once:ah
 d_lower_once:aH
 f_spare:ah
 d_spare:aH
 f_law_cell_at:ah
 d_law_cell_at:aH
 f_law_is_row:ah
 d_law_is_row:aH
 f_law_mixed:ah
 d_law_mixed:aH
 f_law_rank:ah
 d_law_rank:aH
 f_law_arrow:ah
 d_law_arrow:aH
 f_law_made:ah
 d_law_made:aH
 f_law_net:ah
 d_law_net:aH
 f_law_pushed:ah
 d_law_pushed:aH
 f_law_table:ah
 d_law_table:aH
 f_law_spared:ah
 d_law_spared:aH
 f_law:ah
 d_law:aH
set_option genSizeOf true
set_option genInjectivity true
def CH.ct (a:CH):Nat->ah
 |0=>a.c_Arrow
 |1=>a.c_Ride
 |2=>a.c_Wait
 |3=>a.c_Back
 |4=>a.c_Net
 |5=>a.c_Table
 |6=>a.c_BeatError
 |9=>a.c_NoFit
 |_=>0
structure Txt (K:ae)(mg:aK->Option aa)(a:CH):Prop where
 Arrow:Dc K mg "Arrow" a.c_Arrow
 Ride:Dc K mg "Ride" a.c_Ride
 Wait:Dc K mg "Wait" a.c_Wait
 Back:Dc K mg "Back" a.c_Back
 Net:Dc K mg "Net" a.c_Net
 Table:Dc K mg "Table" a.c_Table
 Arrow___init:Dm K a.c_Arrow "__init__" "Arrow.__init__" yi ["self","start","goal","time","behind"] a.f_Arrow___init a.d_Arrow___init
 Ride___init:Dm K a.c_Ride "__init__" "Ride.__init__" yu ["self","start","goal","time"] a.f_Ride___init a.d_Ride___init
 Wait___init:Dm K a.c_Wait "__init__" "Wait.__init__" ye ["self","start","goal","time","behind"] a.f_Wait___init a.d_Wait___init
 Wait___init_d1:∃m6,True/\bR [(V.int 0)] m6/\bB K a.d_Wait___init ["self","start","goal","time","behind"] m6
 Back___init:Dm K a.c_Back "__init__" "Back.__init__" yf ["self","start","goal","time","behind"] a.f_Back___init a.d_Back___init
 Back___init_d1:∃m6,True/\bR [(V.int 1)] m6/\bB K a.d_Back___init ["self","start","goal","time","behind"] m6
 is_letter:i9 K mg "is_letter" xu ["sign"] a.f_is_letter a.d_is_letter
 is_figure:i9 K mg "is_figure" xv ["sign"] a.f_is_figure a.d_is_figure
 is_name:i9 K mg "is_name" vc ["word"] a.f_is_name a.d_is_name
 are_names:i9 K mg "are_names" xw ["names"] a.f_are_names a.d_are_names
 lies_within:i9 K mg "lies_within" yw ["number","least","most"] a.f_lies_within a.d_lies_within
 is_right:i9 K mg "is_right" wk ["arrow","many"] a.f_is_right a.d_is_right
 placed_goings:i9 K mg "placed_goings" yg ["many","arrows"] a.f_placed_goings a.d_placed_goings
 ring_back_from:i9 K mg "ring_back_from" zy ["arrows","chosen","going"] a.f_ring_back_from a.d_ring_back_from
 way_back:i9 K mg "way_back" wm ["arrows","chosen","start","goal"] a.f_way_back a.d_way_back
 Net___init:Dm K a.c_Net "__init__" "Net.__init__" xh ["self","names","arrows"] a.f_Net___init a.d_Net___init
 Net_most_behind:Dm K a.c_Net "most_behind" "Net.most_behind" zw ["self"] a.f_Net_most_behind a.d_Net_most_behind
 common_divisor:i9 K mg "common_divisor" ya ["one","other"] a.f_common_divisor a.d_common_divisor
 ratio:i9 K mg "ratio" uv ["top","bottom"] a.f_ratio a.d_ratio
 scaled:i9 K mg "scaled" vw ["one","whole"] a.f_scaled a.d_scaled
 plus:i9 K mg "plus" qk ["one","other"] a.f_plus a.d_plus
 minus:i9 K mg "minus" uw ["one","other"] a.f_minus a.d_minus
 under:i9 K mg "under" ux ["one","other"] a.f_under a.d_under
 mean:i9 K mg "mean" ql ["net","ring"] a.f_mean a.d_mean
 push_once:i9 K mg "push_once" xx ["net","pace","numbers","times","chosen"] a.f_push_once a.d_push_once
 times_or_ring_along:i9 K mg "times_or_ring_along" zo ["net","pace","numbers"] a.f_times_or_ring_along a.d_times_or_ring_along
 ring_above:i9 K mg "ring_above" xi ["net","pace","numbers"] a.f_ring_above a.d_ring_above
 midway:i9 K mg "midway" vx ["one","other"] a.f_midway a.d_midway
 least_gap:i9 K mg "least_gap" xy ["net"] a.f_least_gap a.d_least_gap
 greatest_ring:i9 K mg "greatest_ring" yh ["net","numbers"] a.f_greatest_ring a.d_greatest_ring
 paper_along:i9 K mg "paper_along" yx ["net","numbers"] a.f_paper_along a.d_paper_along
 least_round:i9 K mg "least_round" yy ["net"] a.f_least_round a.d_least_round
 Table_slack:Dm K a.c_Table "slack" "Table.slack" yz ["self","arrow"] a.f_Table_slack a.d_Table_slack
 NoFit___init:Dm K a.c_NoFit "__init__" "NoFit.__init__" yj ["self","arrow"] a.f_NoFit___init a.d_NoFit___init
 Table___init:Dm K a.c_Table "__init__" "Table.__init__" yk ["self","net","times","beat"] a.f_Table___init a.d_Table___init
 lower_once:i9 K mg "lower_once" xj ["table","prices","chosen"] a.f_lower_once a.d_lower_once
 spare:i9 K mg "spare" uz ["table","one","other"] a.f_spare a.d_spare
 law_cell_at:i9 K mg "_law_cell_at" y3 ["_law_script","_law_k"] a.f_law_cell_at a.d_law_cell_at
 law_is_row:i9 K mg "_law_is_row" xk ["_law_cell"] a.f_law_is_row a.d_law_is_row
 law_mixed:i9 K mg "_law_mixed" xz ["_law_cell","_law_k"] a.f_law_mixed a.d_law_mixed
 law_rank:i9 K mg "_law_rank" wn ["_law_turn","_law_many","_law_going"] a.f_law_rank a.d_law_rank
 law_arrow:i9 K mg "_law_arrow" x8 ["_law_cell","_law_many","_law_turn"] a.f_law_arrow a.d_law_arrow
 law_made:i9 K mg "_law_made" wo ["_law_arrow_here","_law_kind"] a.f_law_made a.d_law_made
 law_net:i9 K mg "_law_net" vd ["_law_arrows","_law_many"] a.f_law_net a.d_law_net
 law_pushed:i9 K mg "_law_pushed" xl ["_law_arrows","_law_beat","_law_many","_law_cell"] a.f_law_pushed a.d_law_pushed
 law_table:i9 K mg "_law_table" x9 ["_law_net_here","_law_tops","_law_beat"] a.f_law_table a.d_law_table
 law_spared:i9 K mg "_law_spared" xm ["_law_table_here","_law_one","_law_other"] a.f_law_spared a.d_law_spared
 law:i9 K mg "law" BQ ["_law_script"] a.f_law a.d_law
 q_Arrow:Dq K a.c_Arrow "__init__" a.f_Arrow___init
 fld_arrows:∀c∈([4]:List Nat),Cls K (a.ct c)/\e5 K (a.ct c) "arrows"
 fld_beat:∀c∈([5]:List Nat),Cls K (a.ct c)/\e5 K (a.ct c) "beat"
 fld_behind:∀c∈([0,1,2,3]:List Nat),Cls K (a.ct c)/\e5 K (a.ct c) "behind"
 fld_goal:∀c∈([0,1,2,3]:List Nat),Cls K (a.ct c)/\e5 K (a.ct c) "goal"
 fld_names:∀c∈([4]:List Nat),Cls K (a.ct c)/\e5 K (a.ct c) "names"
 fld_net:∀c∈([5]:List Nat),Cls K (a.ct c)/\e5 K (a.ct c) "net"
 fld_start:∀c∈([0,1,2,3]:List Nat),Cls K (a.ct c)/\e5 K (a.ct c) "start"
 fld_time:∀c∈([0,1,2,3]:List Nat),Cls K (a.ct c)/\e5 K (a.ct c) "time"
 fld_times:∀c∈([5]:List Nat),Cls K (a.ct c)/\e5 K (a.ct c) "times"
 isi_Back:∀c∈([0,1,2,3,4,5]:List Nat),Ic K (a.ct c)/\bA K (.ref (a.ct c)) (.ref a.c_Back)=some (oy [3] c)
 isi_Ride:∀c∈([0,1,2,3,4,5]:List Nat),Ic K (a.ct c)/\bA K (.ref (a.ct c)) (.ref a.c_Ride)=some (oy [1] c)
 xm_BeatError:mg "BeatError"=some (.ref a.c_BeatError)
 xm_NoFit:mg "NoFit"=some (.ref a.c_NoFit)
 xk_NoFit:ao K (.ref a.c_NoFit)=true
 xc_NoFit:uI K a.c_NoFit
 xs_NoFit:bM K a.c_NoFit=true/\am K (.ref a.c_NoFit) "__setattr__"=some (some (.builtin "object.__setattr__"))/\dY K a.c_NoFit "arrow"=some none
 xq:bQ K (.ref a.c_BeatError) "__getattribute__"=some (some (.builtin "type.__getattribute__"))/\eI K a.c_BeatError (.type "type")=true/\eF K (.ref a.c_BeatError) (.type "type") "__init__"=some (.val (.builtin "ValueError.__init__"))
 hh_NoFit:∀c∈([9]:List Nat),eW K (.ref (a.ct c)) (.ref a.c_NoFit)=some (oy [9] c)
 b_abs:mg "abs"=none
 b_all:mg "all"=none
 b_bool:mg "bool"=none
 b_enumerate:mg "enumerate"=none
 b_int:mg "int"=none
 b_isinstance:mg "isinstance"=none
 b_len:mg "len"=none
 b_list:mg "list"=none
 b_max:mg "max"=none
 b_range:mg "range"=none
 b_reversed:mg "reversed"=none
 b_str:mg "str"=none
 b_sum:mg "sum"=none
 g_MOST_ARROWS:∃t,mg "MOST_ARROWS"=some (.int 120 t)
 g_MOST_BEHIND:∃t,mg "MOST_BEHIND"=some (.int 4 t)
 g_MOST_NAMES:∃t,mg "MOST_NAMES"=some (.int 40 t)
 g_MOST_SIGNS:∃t,mg "MOST_SIGNS"=some (.int 8 t)
 g_MOST_TIME:∃t,mg "MOST_TIME"=some (.int 1000000000 t)
section
variable {P:bn}{w:bP}{K:ae}{mg:aK->Option aa}{base:aM}{a:CH}{ct:Nat->ah}
def um:Nat->List D->Option D:=Bn ["self","start","goal","time","behind"]
  (sSeq (ie [0,1,2,3] "start" (eV 1))
  (sSeq (ie [0,1,2,3] "goal" (eV 2))
  (sSeq (ie [0,1,2,3] "time" (eV 3))
  (ie [0,1,2,3] "behind" (eV 4)))))
theorem jc (T:Txt K mg a):cv P w K mg base eO 1 a.f_Arrow___init a.d_Arrow___init ["self","start","goal","time","behind"] (uE K a.ct [0,1,2,3] [0,0,0,0] um):=by
 refine qr (ms:=[.ow 0,.ow 0,.ow 0,.ow 0]) (rk:=0) T.Arrow___init.fn YU rfl rfl (by decide) (u4 (by decide)) λx0 gu A outer s H E hr=>?_
 exact(zf (xW T.fld_start (za 1 0))
  (zf (xW T.fld_goal (za 2 0))
  (zf (xW T.fld_time (za 3 0))
  (zh (xW T.fld_behind (za 4 0))))))
def j5:Nat->List D->Option D:=Bn ["self","start","goal","time"]
  (oY [0,1,2,3] (aCons (eV 1) (aCons (eV 2) (aCons (eV 3) (aCons (eC (.int 0)) aNil)))) um)
theorem YS (T:Txt K mg a):cv P w K mg base eO 2 a.f_Ride___init a.d_Ride___init ["self","start","goal","time"] (uE K a.ct [1] [0,0,0] j5):=by
 have eZ:=jc (P:=P) (w:=w) (base:=base) T
 refine qr (ms:=[.ow 0,.ow 0,.ow 0]) (rk:=0) T.Ride___init.fn YL rfl rfl (by decide) (u4 (by decide)) λx0 gu A outer s H E hr=>?_
 exact(zh (NK (ns:=[0,0,0,0]) eZ (hr.mono (by decide)) T.Arrow.mgx T.q_Arrow.sp T.q_Arrow.rd T.q_Arrow.fc T.Arrow___init.fn.kp T.Arrow___init.bd (by decide) (ze (za 1 0) (ze (za 2 0) (ze (za 3 0) (ze cW zj))))))
def j6:Nat->List D->Option D:=Bn ["self","start","goal","time","behind"]
  (oY [0,1,2,3] (aCons (eV 1) (aCons (eV 2) (aCons (eV 3) (aCons (eV 4) aNil)))) um)
theorem YY (T:Txt K mg a):cv P w K mg base eO 2 a.f_Wait___init a.d_Wait___init ["self","start","goal","time","behind"] (uE K a.ct [2] [0,0,0,0] j6):=by
 have eZ:=jc (P:=P) (w:=w) (base:=base) T
 refine qr (ms:=[.ow 0,.ow 0,.ow 0,.ow 0]) (rk:=0) T.Wait___init.fn YM rfl rfl (by decide) (u4 (by decide)) λx0 gu A outer s H E hr=>?_
 exact(zh (NK (ns:=[0,0,0,0]) eZ (hr.mono (by decide)) T.Arrow.mgx T.q_Arrow.sp T.q_Arrow.rd T.q_Arrow.fc T.Arrow___init.fn.kp T.Arrow___init.bd (by decide) (ze (za 1 0) (ze (za 2 0) (ze (za 3 0) (ze (za 4 0) zj))))))
def j7:Nat->List D->Option D:=Bn ["self","start","goal","time","behind"]
  (oY [0,1,2,3] (aCons (eV 1) (aCons (eV 2) (aCons (eV 3) (aCons (eV 4) aNil)))) um)
theorem YZ (T:Txt K mg a):cv P w K mg base eO 2 a.f_Back___init a.d_Back___init ["self","start","goal","time","behind"] (uE K a.ct [3] [0,0,0,0] j7):=by
 have eZ:=jc (P:=P) (w:=w) (base:=base) T
 refine qr (ms:=[.ow 0,.ow 0,.ow 0,.ow 0]) (rk:=0) T.Back___init.fn YN rfl rfl (by decide) (u4 (by decide)) λx0 gu A outer s H E hr=>?_
 exact(zh (NK (ns:=[0,0,0,0]) eZ (hr.mono (by decide)) T.Arrow.mgx T.q_Arrow.sp T.q_Arrow.rd T.q_Arrow.fc T.Arrow___init.fn.kp T.Arrow___init.bd (by decide) (ze (za 1 0) (ze (za 2 0) (ze (za 3 0) (ze (za 4 0) zj))))))
def M2:List D->Option D:=mOf ["sign"]
  (sRet (eB (bAnd (tb (e2 zA (eC (.str "a")) (eV 0))) (tb (e2 zA (eV 0) (eC (.str "z")))))))
theorem Zg (T:Txt K mg a):cv P w K mg base eO 1 a.f_is_letter a.d_is_letter ["sign"] (gX K a.ct [0] 0 M2):=by
 refine jF (ms:=[.ow 0]) T.is_letter.fn Ze λ_ _ _ _ _ _ hr=>?_
 exact(zh (yc (XE.ow (BU (qq (k:=0) CA Ct (zN (n:=0)) (za 0 0) (bE _)) (zO (k:=0) (qq (k:=0) CA Ct (za 0 0) (zN (n:=0)) (bE _)))))))
def QE:List D->Option D:=mOf ["sign"]
  (sRet (eB (bAnd (tb (e2 zA (eC (.str "0")) (eV 0))) (tb (e2 zA (eV 0) (eC (.str "9")))))))
theorem Zh (T:Txt K mg a):cv P w K mg base eO 1 a.f_is_figure a.d_is_figure ["sign"] (gX K a.ct [0] 0 QE):=by
 refine jF (ms:=[.ow 0]) T.is_figure.fn Zf λ_ _ _ _ _ _ hr=>?_
 exact(zh (yc (XE.ow (BU (qq (k:=0) CA Ct (zN (n:=0)) (za 0 0) (bE _)) (zO (k:=0) (qq (k:=0) CA Ct (za 0 0) (zN (n:=0)) (bE _)))))))
def Zn:EF:=(fI (λρ=>((eV 0) ρ).bind OE) 1 [] (gV 0) gQ (eB (bOr (tb (λρ=>((aCons (eV 0) aNil) ρ).bind λds=>M2 (ds++[]))) (tb (λρ=>((aCons (eV 0) aNil) ρ).bind λds=>QE (ds++[]))))))
def QT:List D->Option D:=mOf ["word"]
  (sSeq (sIf (bOr (bNot (tb (e1 (rJ "str") (eV 0)))) (bOr (tb (e2 rK (eN eU (aCons (eV 0) aNil)) (eC (.int 1)))) (tb (e2 vS (eN eU (aCons (eV 0) aNil)) (eC (.int 8)))))) (sRet (eC (.bl false))) sSkip)
  (sRet (eB (bAnd (tb (λρ=>((aCons (e2 eh (eV 0) (eC (.int 0))) aNil) ρ).bind λds=>M2 (ds++[]))) (tb (eN CQ (aCons Zn aNil)))))))
theorem Z0 (T:Txt K mg a):cv P w K mg base eO 2 a.f_is_name a.d_is_name ["word"] (gX K a.ct [0] 0 QT):=by
 have lR:=Zg (P:=P) (w:=w) (base:=base) T
 have pF:=Zh (P:=P) (w:=w) (base:=base) T
 refine jF (ms:=[.ow 0]) T.is_name.fn ZY λ_ _ _ _ _ _ hr=>?_
 exact(zf (vk (XW.t (t8 (wD (u9 (JQ (k:=0) (by decide) T.b_isinstance T.b_str S6 (za 0 0)))) (t8 (yq (k:=0) yA xV (o6 T.b_len (ze (za 0 0) zj)) cW (bE _)) (wC (yq (k:=0) CC Cz (o6 T.b_len (ze (za 0 0) zj)) (HM (n:=0) (d:=(.int 8)) rfl T.g_MOST_SIGNS.choose_spec rfl ⟨_,rfl⟩) (bE _)))))) (zh (yc (XE.ow (tD (n:=0))))) yp)
  (zh (yc (XE.ow (BU (XO.sh (n:=0) (cQ T.is_letter lR hr (ze (jR (za 0 0) cW) zj))) (zO (k:=0) (u3 (k:=0) (zla rfl) zq4 rfl T.b_all zth (ze (XO.sh (n:=0) (yB (N:=["sign"]) (om:=[.ow 0]) (cap:=[]) (own:=1) (XI.cc (ztv (n:=0) (za 0 0))) (λ_ _ _ _ _=>(pZ (show cU (["sign"]:List aK)from by decide +kernel))) (λ_ _ _ _ _=>uu) (λ_ _ _ _ _=>(XE.ow (zu6 (XO.sh (n:=0) (cQ T.is_letter lR hr (ze (za 0 0) zj))) (zO (k:=0) (XO.sh (n:=0) (cQ T.is_figure pF hr (ze (za 0 0) zj))))))))) zj))))))))
def Y8:SF:=(sSeq (sIf (bOr (bNot (tb (λρ=>((aCons (eV 2) aNil) ρ).bind λds=>QT (ds++[])))) (tb (λρ=>((eV 2) ρ).bind λx=>((eV 1) ρ).bind λy=>(hU y x).bind λr=>some (.bl r.isSome)))) (sRet (eC (.bl false))) sSkip)
  (iP 1 (eV 2) (eC (.bl true))))
def j8:List D->Option D:=mOf ["names","seen","name"]
  (sSeq (sIf (bOr (bNot (tb (e1 (rJ "list") (eV 0)))) (bOr (tb (e2 rK (eN eU (aCons (eV 0) aNil)) (eC (.int 1)))) (tb (e2 vS (eN eU (aCons (eV 0) aNil)) (eC (.int 40)))))) (sRet (eC (.bl false))) sSkip)
  (sSeq (sSet 1 (eC (.dK [] [])))
  (sSeq (sFor (lsD (eV 0)) (gV 2) Y8)
  (sRet (eC (.bl true))))))
theorem Zi (T:Txt K mg a):cv P w K mg base eO 3 a.f_are_names a.d_are_names ["names"] (gX K a.ct [0] 0 j8):=by
 have sK:=Z0 (P:=P) (w:=w) (base:=base) T
 refine jF (ms:=[.ow 0,.ow 1,.ow 0]) T.are_names.fn qv λ_ _ _ _ _ _ hr=>?_
 exact(zf (vk (XW.t (t8 (wD (u9 (JQ (k:=0) (by decide) T.b_isinstance T.b_list Cs (za 0 0)))) (t8 (yq (k:=0) yA xV (o6 T.b_len (ze (za 0 0) zj)) cW (bE _)) (wC (yq (k:=0) CC Cz (o6 T.b_len (ze (za 0 0) zj)) (HM (n:=0) (d:=(.int 40)) rfl T.g_MOST_NAMES.choose_spec rfl ⟨_,rfl⟩) (bE _)))))) (zh (yc (XE.ow (tD (n:=0))))) yp)
  (zf (e7 qv.nd Jr)
  (zf (qj (HL (za 0 0)) (nD qv.nd) (zf (vk (XW.t (t8 (wD (u9 (XO.sh (n:=0) (cQ T.is_name sK hr (ze (za 2 0) zj))))) (wC (ztw (vG hr) (za 2 0) (za 1 1) (by with_unfolding_all rfl))))) (zh (yc (XE.ow (tD (n:=0))))) yp)
  (zh (Sl 1 rfl (vG hr) (za 2 0) (tD (n:=0))))) bV.never rfl)
  (zh (yc (XE.ow (tD (n:=0))))))))
def ym:List D->Option D:=mOf ["number","least","most"]
  (sSeq (sIf (bOr (bNot (tb (e1 (rJ "int") (eV 0)))) (tb (e1 (rJ "bool") (eV 0)))) (sRet (eC (.bl false))) sSkip)
  (sRet (eB (bAnd (tb (e2 zA (eV 1) (eV 0))) (tb (e2 zA (eV 0) (eV 2)))))))
theorem Y0 (T:Txt K mg a):cv P w K mg base eO 1 a.f_lies_within a.d_lies_within ["number","least","most"] (gX K a.ct [0,0,0] 0 ym):=by
 refine jF (ms:=[.ow 0,.ow 0,.ow 0]) T.lies_within.fn YO λ_ _ _ _ _ _ hr=>?_
 exact(zf (vk (XW.t (t8 (wD (u9 (JQ (k:=0) (by decide) T.b_isinstance T.b_int zte (za 0 0)))) (wC (u9 (JQ (k:=0) (by decide) T.b_isinstance T.b_bool zqf (za 0 0)))))) (zh (yc (XE.ow (tD (n:=0))))) yp)
  (zh (yc (XE.ow (BU (qq (k:=0) CA Ct (za 1 0) (za 0 0) (bE _)) (zO (k:=0) (qq (k:=0) CA Ct (za 0 0) (za 2 0) (bE _))))))))
def Jm:List D->Option D:=mOf ["arrow","many","least","most"]
  (sSeq (sSet 2 (eIf (tb (e1 (uP [0,1,2,3,4,5] [3]) (eV 0))) (eC (.int 1)) (eC (.int 0))))
  (sSeq (sSet 3 (eIf (tb (e1 (uP [0,1,2,3,4,5] [1]) (eV 0))) (eC (.int 0)) (eC (.int 4))))
  (sSeq (sIf (bOr (bNot (tb (λρ=>((aCons (e1 (cn [0,1,2,3] "start") (eV 0)) (aCons (eC (.int 0)) (aCons (e2 o4 (eV 1) (eC (.int 1))) aNil))) ρ).bind λds=>ym (ds++[])))) (bNot (tb (λρ=>((aCons (e1 (cn [0,1,2,3] "goal") (eV 0)) (aCons (eC (.int 0)) (aCons (e2 o4 (eV 1) (eC (.int 1))) aNil))) ρ).bind λds=>ym (ds++[]))))) (sRet (eC (.bl false))) sSkip)
  (sRet (eB (bAnd (tb (λρ=>((aCons (e1 (cn [0,1,2,3] "time") (eV 0)) (aCons (eC (.int 0)) (aCons (eC (.int 1000000000)) aNil))) ρ).bind λds=>ym (ds++[]))) (tb (λρ=>((aCons (e1 (cn [0,1,2,3] "behind") (eV 0)) (aCons (eV 2) (aCons (eV 3) aNil))) ρ).bind λds=>ym (ds++[])))))))))
theorem Zo (T:Txt K mg a):cv P w K mg base eO 2 a.f_is_right a.d_is_right ["arrow","many"] (gX K a.ct [0,0] 0 Jm):=by
 have gF:=Y0 (P:=P) (w:=w) (base:=base) T
 refine jF (ms:=[.ow 0,.ow 0,.ow 0,.ow 0]) T.is_right.fn M1 λ_ _ _ _ _ _ hr=>?_
 exact(zf (e7 M1.nd (XE.ow (Oj (u9 (Sn (k:=0) T.isi_Back T.b_isinstance T.Back.mgx (za 0 0))) cW cW)))
  (zf (e7 M1.nd (XE.ow (Oj (u9 (Sn (k:=0) T.isi_Ride T.b_isinstance T.Ride.mgx (za 0 0))) cW (HM (n:=0) (d:=(.int 4)) rfl T.g_MOST_BEHIND.choose_spec rfl ⟨_,rfl⟩))))
  (zf (vk (XW.t (t8 (wD (u9 (XO.sh (n:=0) (cQ T.lies_within gF hr (ze (yb (n:=0) (za 0 0) T.fld_start rfl) (ze cW (ze (yo (k:=0) BS BO (za 1 0) cW) zj))))))) (wC (wD (u9 (XO.sh (n:=0) (cQ T.lies_within gF hr (ze (yb (n:=0) (za 0 0) T.fld_goal rfl) (ze cW (ze (yo (k:=0) BS BO (za 1 0) cW) zj)))))))))) (zh (yc (XE.ow (tD (n:=0))))) yp)
  (zh (yc (XE.ow (BU (XO.sh (n:=0) (cQ T.lies_within gF hr (ze (yb (n:=0) (za 0 0) T.fld_time rfl) (ze cW (ze (HM (n:=0) (d:=(.int 1000000000)) rfl T.g_MOST_TIME.choose_spec rfl ⟨_,rfl⟩) zj))))) (zO (k:=0) (XO.sh (n:=0) (cQ T.lies_within gF hr (ze (yb (n:=0) (za 0 0) T.fld_behind rfl) (ze (za 2 0) (ze (za 3 0) zj)))))))))))))
def wx:SF:=(sIf (tb (e2 (jL false) (e1 (cn [0,1,2,3] "start") (eV 4)) (eV 7))) (sSeq (pX 3 (e1 (cn [0,1,2,3] "goal") (eV 4)) (λi j=>i-j) (eC (.int 1)))
  (sIf (tb (e2 (jL false) (e2 eh (eV 3) (e1 (cn [0,1,2,3] "goal") (eV 4))) (eC (.int 0)))) (sApp 5 (e1 (cn [0,1,2,3] "goal") (eV 4))) sSkip)) sSkip)
def uh:SF:=(sSeq (sSet 7 (e2 eh (eV 5) (eV 6)))
  (sSeq (sFor (lsD (eV 2)) (gV 4) wx)
  (BB 6 (i2 λi j=>.int (i+j)) (eC (.int 1)))))
def jt:EF:=(fI (λρ=>((aCons (eV 0) aNil) ρ).bind i8) 1 [3] (gV 0) (tb (e2 (jL false) (e2 eh (eV 1) (eV 0)) (eC (.int 0)))) (eV 0))
def ui:SF:=(pX 3 (e1 (cn [0,1,2,3] "goal") (eV 4)) (λi j=>i+j) (eC (.int 1)))
def ju:EF:=(fI (lsD (eV 1)) 1 [] (gV 0) (tb (e2 (jL false) (e1 (cn [0,1,2,3] "behind") (eV 0)) (eC (.int 0)))) (eV 0))
def ve:List D->Option D:=mOf ["many","arrows","within","waited","arrow","placed","done","here"]
  (sSeq (sSet 2 ju)
  (sSeq (sSet 3 (e2 nO (λρ=>((aCons (eC (.int 0)) aNil) ρ).bind λds=>some (.lst ds)) (eV 0)))
  (sSeq (sFor (lsD (eV 2)) (gV 4) ui)
  (sSeq (sSet 5 jt)
  (sSeq (sSet 6 (eC (.int 0)))
  (sSeq (ig (tb (e2 rK (eV 6) (eN eU (aCons (eV 5) aNil)))) uh)
  (sRet (eV 5))))))))
theorem YJ (T:Txt K mg a):cv P w K mg base eO 1 a.f_placed_goings a.d_placed_goings ["many","arrows"] (gX K a.ct [0,0] 0 ve):=by
 refine jF (ms:=[.ow 0,.ow 0,.ow 0,.ow 1,.ow 0,.ow 1,.ow 0,.ow 0]) T.placed_goings.fn xf λ_ _ _ _ _ _ hr=>?_
 exact(zf (jr (k:=0) (N:=["arrow"]) (om:=[.ow 0]) (cap:=[]) (own:=1) rfl xf.nd rfl (Or.inl rfl) (CB (by rfl)) rfl rfl (by decide) (uk (n:=0) (za 1 0)) (λ_ _ _ _ _=>(pZ (show cU (["arrow"]:List aK)from by decide +kernel))) (λ_ _ _ _ _=>(Sd (yq (k:=0) (qf hr.u64) u0 (yb (n:=0) (za 0 0) T.fld_behind rfl) cW (bE _)))) (λ_ _ _ _ _=>(XE.ow (za 0 0))))
  (zf (e7 xf.nd (NW (BV (k:=0) (yt (XE.ow cW) v7)) (za 0 0)))
  (zf (qj (HL (za 2 0)) (nD xf.nd) (zh (Sm 3 S1 rfl (yb (n:=0) (za 4 0) T.fld_goal rfl) cW)) bV.never rfl)
  (zf (jr (k:=1) (N:=["going","waited"]) (om:=[.ow 0]) (cap:=[3]) (own:=1) rfl xf.nd rfl (Or.inl rfl) (CB (by rfl)) rfl rfl (by decide) (XI.cc (uc (n:=0) T.b_range (ze (za 0 0) zj))) (λ_ _ _ _ _=>(pZ (show cU (["going","waited"]:List aK)from by decide +kernel))) (λ_ _ _ _ _=>(Sd (yq (k:=0) (qf hr.u64) u0 (sk (n:=1) je jg (za 1 1) (za 0 0) (λ_ _=>rfl)) cW (bE _)))) (λ_ _ _ _ _=>(XE.ow (za 0 0))))
  (zf (e7 xf.nd (XE.ow cW))
  (zf (HK (yq (k:=0) yA xV (za 6 0) (o6 T.b_len (ze (za 5 1) zj)) (bE _)) (zf (e7 xf.nd (XE.ow (sk (n:=1) je jg (za 5 1) (za 6 0) (λ_ _=>rfl))))
  (zf (qj (HL (za 2 0)) (nD xf.nd) (zh (vk (yq (k:=0) (qf hr.u64) u0 (yb (n:=0) (za 4 0) T.fld_start rfl) (za 7 0) (bE _)) (zf (Sm 3 zss rfl (yb (n:=0) (za 4 0) T.fld_goal rfl) cW)
  (zh (vk (yq (k:=0) (qf hr.u64) u0 (sk (n:=1) je jg (za 3 1) (yb (n:=0) (za 4 0) T.fld_goal rfl) (λ_ _=>rfl)) cW (bE _)) (zh (M9 5 rfl (XE.ow (yb (n:=0) (za 4 0) T.fld_goal rfl)))) yp))) yp)) bV.never rfl)
  (zh (ztq S1 rfl xf.nd rfl (Or.inl rfl) cW)))) bV.never)
  (zh (Sr (i:=5) rfl))))))))
def ud:SF:=(sSeq (iP 4 (eV 3) (eN eU (aCons (eV 5) aNil)))
  (sSeq (sApp 5 (λρ=>((eV 1) ρ).bind λx=>((eV 3) ρ).bind λy=>(hU x y).join))
  (sSet 3 (e1 (cn [0,1,2,3] "start") (e2 eh (eV 0) (λρ=>((eV 1) ρ).bind λx=>((eV 3) ρ).bind λy=>(hU x y).join))))))
def vz:List D->Option D:=mOf ["arrows","chosen","going","here","seen","way"]
  (sSeq (sSet 3 (eV 2))
  (sSeq (sSet 4 (eC (.dK [] [])))
  (sSeq (sSet 5 (λρ=>(aNil ρ).bind λds=>some (.lst ds)))
  (sSeq (ig (tb (λρ=>((eV 3) ρ).bind λx=>((eV 4) ρ).bind λy=>(hU y x).bind λr=>some (.bl (!r.isSome)))) ud)
  (sRet (e1 pT (λρ=>((eV 5) ρ).bind λd=>((pInt (λρ=>((eV 4) ρ).bind λx=>((eV 3) ρ).bind λy=>(hU x y).join)) ρ).bind λl=>(pNo ρ).bind λh=>nc d l h)))))))
theorem YH (T:Txt K mg a):cv P w K mg base eO 1 a.f_ring_back_from a.d_ring_back_from ["arrows","chosen","going"] (gX K a.ct [0,0,0] 1 vz):=by
 refine jF (ms:=[.ow 0,.ow 0,.ow 0,.ow 0,.ow 1,.ow 1]) T.ring_back_from.fn ww λ_ _ _ _ _ _ hr=>?_
 exact(zf (e7 ww.nd (XE.ow (za 2 0)))
  (zf (e7 ww.nd Jr)
  (zf (e7 ww.nd (BV (k:=0) v7))
  (zf (HK (zlk (vG hr) (za 3 0) (za 4 1) (by with_unfolding_all rfl)) (zf (Sl 4 rfl (vG hr) (za 3 0) (o6 T.b_len (ze (za 5 1) zj)))
  (zf (M9 5 rfl (XE.ow (HR (vG hr) (za 1 0) (za 3 0) (λ_ _=>rfl))))
  (zh (e7 ww.nd (XE.ow (yb (n:=0) (jR (za 0 0) (HR (vG hr) (za 1 0) (za 3 0) (λ_ _=>rfl))) T.fld_start rfl)))))) bV.never)
  (zh (yc (Ss (n:=0) (by decide) rfl rfl T.b_list rfl T.b_reversed (XO.sh (n:=0) (Ro (n:=1) (by decide) (za 5 1) (NH (HR (vG hr) (za 4 1) (za 3 0) (λ_ _=>rfl))) zvb)))))))))
def ur:SF:=(sSeq (sApp 5 (λρ=>((eV 1) ρ).bind λx=>((eV 4) ρ).bind λy=>(hU x y).join))
  (sSet 4 (e1 (cn [0,1,2,3] "start") (e2 eh (eV 0) (λρ=>((eV 1) ρ).bind λx=>((eV 4) ρ).bind λy=>(hU x y).join)))))
def Jn:List D->Option D:=mOf ["arrows","chosen","start","goal","here","way"]
  (sSeq (sSet 4 (eV 3))
  (sSeq (sSet 5 (λρ=>(aNil ρ).bind λds=>some (.lst ds)))
  (sSeq (ig (tb (e2 (jL true) (eV 4) (eV 2))) ur)
  (sRet (e1 pT (eV 5))))))
theorem Zp (T:Txt K mg a):cv P w K mg base eO 1 a.f_way_back a.d_way_back ["arrows","chosen","start","goal"] (gX K a.ct [0,0,0,0] 1 Jn):=by
 refine jF (ms:=[.ow 0,.ow 0,.ow 0,.ow 0,.ow 0,.ow 1]) T.way_back.fn j0 λ_ _ _ _ _ _ hr=>?_
 exact(zf (e7 j0.nd (XE.ow (za 3 0)))
  (zf (e7 j0.nd (BV (k:=0) v7))
  (zf (HK (yq (k:=0) (JU hr.u64) u0 (za 4 0) (za 2 0) (bE _)) (zf (M9 5 rfl (XE.ow (HR (vG hr) (za 1 0) (za 4 0) (λ_ _=>rfl))))
  (zh (e7 j0.nd (XE.ow (yb (n:=0) (jR (za 0 0) (HR (vG hr) (za 1 0) (za 4 0) (λ_ _=>rfl))) T.fld_start rfl))))) bV.never)
  (zh (yc (Ss (n:=1) (by decide) rfl rfl T.b_list rfl T.b_reversed (za 5 1)))))))
def jm:SF:=(sIf (bNot (tb (λρ=>((aCons (eV 4) (aCons (eN eU (aCons (eV 1) aNil)) aNil)) ρ).bind λds=>Jm (ds++[])))) oZ sSkip)
def jj:Nat->List D->Option D:=Bn ["self","names","arrows","number","arrow","placed"]
  (sSeq (sIf (bOr (bNot (tb (λρ=>((aCons (eV 1) aNil) ρ).bind λds=>j8 (ds++[])))) (tb (e2 vS (eN eU (aCons (eV 2) aNil)) (eC (.int 120))))) oZ sSkip)
  (sSeq (sFor (λρ=>((aCons (eV 2) aNil) ρ).bind λds=>match ds with|[.lst xs]=>some (hV 0 xs)|_=>none) (gT (gsCons (gV 3) (gsCons (gV 4) gsNil))) jm)
  (sSeq (sSet 5 (λρ=>((aCons (eN eU (aCons (eV 1) aNil)) (aCons (eV 2) aNil)) ρ).bind λds=>ve (ds++[])))
  (sSeq (sIf (tb (e2 rK (eN eU (aCons (eV 5) aNil)) (eN eU (aCons (eV 1) aNil)))) oZ sSkip)
  (sSeq (ie [4] "names" (eN lU (aCons (eV 1) aNil)))
  (ie [4] "arrows" (eN lU (aCons (eV 2) aNil))))))))
theorem Y9 (T:Txt K mg a):cv P w K mg base eO 4 a.f_Net___init a.d_Net___init ["self","names","arrows"] (uE K a.ct [4] [0,0] jj):=by
 have pE:=Zi (P:=P) (w:=w) (base:=base) T
 have qZ:=Zo (P:=P) (w:=w) (base:=base) T
 have mr:=YJ (P:=P) (w:=w) (base:=base) T
 refine qr (ms:=[.ow 0,.ow 0,.ow 0,.ow 0,.ow 0]) (rk:=0) T.Net___init.fn u5 rfl rfl (by decide) (u4 (by decide)) λx0 gu A outer s H E hr=>?_
 exact(zf (vk (XW.t (t8 (wD (u9 (XO.sh (n:=0) (cQ T.are_names pE hr (ze (za 1 0) zj))))) (wC (yq (k:=0) CC Cz (o6 T.b_len (ze (za 2 0) zj)) (HM (n:=0) (d:=(.int 120)) rfl T.g_MOST_ARROWS.choose_spec rfl ⟨_,rfl⟩) (bE _))))) (zh Nj) yp)
  (zf (qj (Se T.b_enumerate (ze (za 2 0) zj)) (JX (n:=1) rfl (vt (nD u5.nd) (vt (nD u5.nd) JK))) (zh (vk (wD (u9 (XO.sh (n:=0) (cQ T.is_right qZ hr (ze (za 4 0) (ze (o6 T.b_len (ze (za 1 0) zj)) zj)))))) (zh Nj) yp)) bV.never rfl)
  (zf (e7 u5.nd (cQ T.placed_goings mr hr (ze (o6 T.b_len (ze (za 1 0) zj)) (ze (za 2 0) zj))))
  (zf (vk (yq (k:=0) yA xV (o6 T.b_len (ze (za 5 0) zj)) (o6 T.b_len (ze (za 1 0) zj)) (bE _)) (zh Nj) yp)
  (zf (xW T.fld_names (XO.sh (n:=0) (M6 qp (Nq (n:=0) (by decide)) rfl T.b_list Cs (ze (za 1 0) zj))))
  (zh (xW T.fld_arrows (XO.sh (n:=0) (M6 qp (Nq (n:=0) (by decide)) rfl T.b_list Cs (ze (za 2 0) zj))))))))))
def jd:EF:=(fI (lsD (e1 (cn [4] "arrows") (eV 0))) 1 [] (gV 0) gQ (e1 (cn [0,1,2,3] "behind") (eV 0)))
def yn:List D->Option D:=mOf ["self"]
  (sRet (eN rN (aCons (e2 fN (λρ=>((aCons (eC (.int 1)) aNil) ρ).bind λds=>some (.lst ds)) jd) aNil)))
theorem YF (T:Txt K mg a):cv P w K mg base eO 1 a.f_Net_most_behind a.d_Net_most_behind ["self"] (gX K a.ct [0] 0 yn):=by
 refine jF (ms:=[.ow 0]) T.Net_most_behind.fn YE λ_ _ _ _ _ _ hr=>?_
 exact(zh (yc (XE.ow (u3 (k:=0) (Rb rfl) Sk rfl T.b_max NY (ze (XO.sh (n:=0) (oq (XO.sh (n:=0) (BV (k:=0) (yt (XE.ow cW) v7))) (XO.sh (n:=0) (yB (N:=["arrow"]) (om:=[.ow 0]) (cap:=[]) (own:=1) (uk (n:=0) (yb (n:=0) (za 0 0) T.fld_arrows rfl)) (λ_ _ _ _ _=>(pZ (show cU (["arrow"]:List aK)from by decide +kernel))) (λ_ _ _ _ _=>uu) (λ_ _ _ _ _=>(XE.ow (yb (n:=0) (za 0 0) T.fld_behind rfl))))))) zj)))))
def ue:SF:=(sSeq (sSet 2 (e2 e6 (eV 0) (eV 1)))
  (sSeq (sSet 0 (eV 1))
  (sSet 1 (eV 2))))
def v6:List D->Option D:=mOf ["one","other","rest"]
  (sSeq (ig (tb (e2 (jL true) (eV 1) (eC (.int 0)))) ue)
  (sRet (eN Aa (aCons (eV 0) aNil))))
theorem YI (T:Txt K mg a):cv P w K mg base eO 1 a.f_common_divisor a.d_common_divisor ["one","other"] (gX K a.ct [0,0] 0 v6):=by
 refine jF (ms:=[.ow 0,.ow 0,.ow 0]) T.common_divisor.fn vm λ_ _ _ _ _ _ hr=>?_
 exact(zf (HK (yq (k:=0) (JU hr.u64) u0 (za 1 0) cW (bE _)) (zf (e7 vm.nd (XE.ow (yo (k:=0) wf wg (za 0 0) (za 1 0))))
  (zf (e7 vm.nd (XE.ow (za 1 0)))
  (zh (e7 vm.nd (XE.ow (za 2 0)))))) bV.never)
  (zh (yc (XE.ow (u3 (k:=0) zmu zqy rfl T.b_abs ztg (ze (za 0 0) zj))))))
def j9:List D->Option D:=mOf ["top","bottom","divisor"]
  (sSeq (sSet 2 (λρ=>((aCons (eV 0) (aCons (eV 1) aNil)) ρ).bind λds=>v6 (ds++[])))
  (sSeq (sIf (tb (e2 rK (eV 1) (eC (.int 0)))) (sSet 2 (e1 uU (eV 2))) sSkip)
  (sRet (λρ=>((aCons (e2 gw (eV 0) (eV 2)) (aCons (e2 gw (eV 1) (eV 2)) aNil)) ρ).bind λds=>some (.tup ds)))))
theorem Cq (T:Txt K mg a):cv P w K mg base eO 2 a.f_ratio a.d_ratio ["top","bottom"] (gX K a.ct [0,0] 0 j9):=by
 have lB:=YI (P:=P) (w:=w) (base:=base) T
 refine jF (ms:=[.ow 0,.ow 0,.ow 0]) T.ratio.fn Nt λ_ _ _ _ _ _ hr=>?_
 exact(zf (e7 Nt.nd (cQ T.common_divisor lB hr (ze (za 0 0) (ze (za 1 0) zj))))
  (zf (vk (yq (k:=0) yA xV (za 1 0) cW (bE _)) (zh (e7 Nt.nd (XE.ow (NX (k:=0) (za 2 0))))) yp)
  (zh (yc (rA (zP (yt (XE.ow (yo (k:=0) vq vv (za 0 0) (za 2 0))) (yt (XE.ow (yo (k:=0) vq vv (za 1 0) (za 2 0))) v7))))))))
def Jv:List D->Option D:=mOf ["one","whole"]
  (sRet (λρ=>((aCons (e2 eD (e2 eh (eV 0) (eC (.int 0))) (eV 1)) (aCons (e2 eh (eV 0) (eC (.int 1))) aNil)) ρ).bind λds=>j9 (ds++[])))
theorem zlx (T:Txt K mg a):cv P w K mg base eO 3 a.f_scaled a.d_scaled ["one","whole"] (gX K a.ct [0,0] 0 Jv):=by
 have fX:=Cq (P:=P) (w:=w) (base:=base) T
 refine jF (ms:=[.ow 0,.ow 0]) T.scaled.fn zlw λ_ _ _ _ _ _ hr=>?_
 exact(zh (yc (cQ T.ratio fX hr (ze (yo (k:=0) w8 wa (jR (za 0 0) cW) (za 1 0)) (ze (jR (za 0 0) cW) zj)))))
def HP:List D->Option D:=mOf ["one","other"]
  (sRet (λρ=>((aCons (e2 fN (e2 eD (e2 eh (eV 0) (eC (.int 0))) (e2 eh (eV 1) (eC (.int 1)))) (e2 eD (e2 eh (eV 1) (eC (.int 0))) (e2 eh (eV 0) (eC (.int 1))))) (aCons (e2 eD (e2 eh (eV 0) (eC (.int 1))) (e2 eh (eV 1) (eC (.int 1)))) aNil)) ρ).bind λds=>j9 (ds++[])))
theorem Sw (T:Txt K mg a):cv P w K mg base eO 3 a.f_plus a.d_plus ["one","other"] (gX K a.ct [0,0] 0 HP):=by
 have fX:=Cq (P:=P) (w:=w) (base:=base) T
 refine jF (ms:=[.ow 0,.ow 0]) T.plus.fn zrk λ_ _ _ _ _ _ hr=>?_
 exact(zh (yc (cQ T.ratio fX hr (ze (XO.sh (n:=0) (oq (yo (k:=0) w8 wa (jR (za 0 0) cW) (jR (za 1 0) cW)) (yo (k:=0) w8 wa (jR (za 1 0) cW) (jR (za 0 0) cW)))) (ze (yo (k:=0) w8 wa (jR (za 0 0) cW) (jR (za 1 0) cW)) zj)))))
def Cv:List D->Option D:=mOf ["one","other"]
  (sRet (λρ=>((aCons (eV 0) (aCons (λρ=>((aCons (eV 1) (aCons (e1 uU (eC (.int 1))) aNil)) ρ).bind λds=>Jv (ds++[])) aNil)) ρ).bind λds=>HP (ds++[])))
theorem zn3 (T:Txt K mg a):cv P w K mg base eO 4 a.f_minus a.d_minus ["one","other"] (gX K a.ct [0,0] 0 Cv):=by
 have rf:=Sw (P:=P) (w:=w) (base:=base) T
 have uD:=zlx (P:=P) (w:=w) (base:=base) T
 refine jF (ms:=[.ow 0,.ow 0]) T.minus.fn zn1 λ_ _ _ _ _ _ hr=>?_
 exact(zh (yc (cQ T.plus rf hr (ze (za 0 0) (ze (XO.sh (n:=0) (cQ T.scaled uD hr (ze (za 1 0) (ze (NX (k:=0) cW) zj)))) zj)))))
def Cw:List D->Option D:=mOf ["one","other"]
  (sRet (e2 rK (e2 eD (e2 eh (eV 0) (eC (.int 0))) (e2 eh (eV 1) (eC (.int 1)))) (e2 eD (e2 eh (eV 1) (eC (.int 0))) (e2 eh (eV 0) (eC (.int 1))))))
theorem zn4 (T:Txt K mg a):cv P w K mg base eO 1 a.f_under a.d_under ["one","other"] (gX K a.ct [0,0] 0 Cw):=by
 refine jF (ms:=[.ow 0,.ow 0]) T.under.fn zn2 λ_ _ _ _ _ _ hr=>?_
 exact(zh (yc (XE.ow (qq (k:=0) yA xV (yo (k:=0) w8 wa (jR (za 0 0) cW) (jR (za 1 0) cW)) (yo (k:=0) w8 wa (jR (za 1 0) cW) (jR (za 0 0) cW)) (bE _)))))
def Nv:EF:=(fI (lsD (eV 1)) 1 [0] (gV 0) gQ (e1 (cn [0,1,2,3] "behind") (e2 eh (e1 (cn [4] "arrows") (eV 1)) (eV 0))))
def zev:EF:=(fI (lsD (eV 1)) 1 [0] (gV 0) gQ (e1 (cn [0,1,2,3] "time") (e2 eh (e1 (cn [4] "arrows") (eV 1)) (eV 0))))
def xY:List D->Option D:=mOf ["net","ring","times","behinds"]
  (sSeq (sSet 2 (eN vC (aCons zev aNil)))
  (sSeq (sSet 3 (eN vC (aCons Nv aNil)))
  (sRet (λρ=>((aCons (eV 2) (aCons (eV 3) aNil)) ρ).bind λds=>j9 (ds++[])))))
theorem Sx (T:Txt K mg a):cv P w K mg base eO 3 a.f_mean a.d_mean ["net","ring"] (gX K a.ct [0,0] 0 xY):=by
 have fX:=Cq (P:=P) (w:=w) (base:=base) T
 refine jF (ms:=[.ow 0,.ow 0,.ow 0,.ow 0]) T.mean.fn Nx λ_ _ _ _ _ _ hr=>?_
 exact(zf (e7 Nx.nd (XE.ow (u3 (k:=0) (Na rfl) NJ rfl T.b_sum NZ (ze (XO.sh (n:=0) (yB (N:=["number","net"]) (om:=[.ow 0]) (cap:=[0]) (own:=1) (uk (n:=0) (za 1 0)) (λ_ _ _ _ _=>(pZ (show cU (["number","net"]:List aK)from by decide +kernel))) (λ_ _ _ _ _=>uu) (λ_ _ _ _ _=>(XE.ow (yb (n:=0) (jR (yb (n:=0) (za 1 0) T.fld_arrows rfl) (za 0 0)) T.fld_time rfl))))) zj))))
  (zf (e7 Nx.nd (XE.ow (u3 (k:=0) (Na rfl) NJ rfl T.b_sum NZ (ze (XO.sh (n:=0) (yB (N:=["number","net"]) (om:=[.ow 0]) (cap:=[0]) (own:=1) (uk (n:=0) (za 1 0)) (λ_ _ _ _ _=>(pZ (show cU (["number","net"]:List aK)from by decide +kernel))) (λ_ _ _ _ _=>uu) (λ_ _ _ _ _=>(XE.ow (yb (n:=0) (jR (yb (n:=0) (za 1 0) T.fld_arrows rfl) (za 0 0)) T.fld_behind rfl))))) zj))))
  (zh (yc (cQ T.ratio fX hr (ze (za 2 0) (ze (za 3 0) zj)))))))
def xo:SF:=(sSeq (sSet 7 (e2 eh (e1 (cn [4] "arrows") (eV 0)) (eV 6)))
  (sSeq (sSet 8 (e2 o4 (e2 fN (e2 eh (eV 3) (e1 (cn [0,1,2,3] "start") (eV 7))) (e2 eD (e1 (cn [0,1,2,3] "time") (eV 7)) (e2 eh (eV 1) (eC (.int 1))))) (e2 eD (e1 (cn [0,1,2,3] "behind") (eV 7)) (e2 eh (eV 1) (eC (.int 0))))))
  (sIf (tb (e2 vS (eV 8) (e2 eh (eV 3) (e1 (cn [0,1,2,3] "goal") (eV 7))))) (sSeq (iQ 3 (e1 (cn [0,1,2,3] "goal") (eV 7)) (eV 8))
  (sSeq (iP 4 (e1 (cn [0,1,2,3] "goal") (eV 7)) (eV 6))
  (sSet 5 (e1 (cn [0,1,2,3] "goal") (eV 7))))) sSkip)))
def vf:List D->Option D:=uR 3 ["net","pace","numbers","times","chosen","pushed","number","arrow","earliest"]
  (rM (sSet 5 (eC .non))
  (rM (sFor (lsD (eV 2)) (gV 6) xo)
  (uS (eV 5))))
theorem Zs (T:Txt K mg a):cv P w K mg base eO 1 a.f_push_once a.d_push_once ["net","pace","numbers","times","chosen"] (zS K a.ct 3 vf):=by
 refine RI (n:=3) (ms:=[.ow 0,.ow 0,.ow 0,.ow 0]) T.push_once.fn v9 rfl rfl λxa xb gu A outer s H E hr=>?_
 exact(JO (e7 v9.nd (XE.ow lW))
  (JO (qj (HL (za 2 0)) (nD v9.nd) (zf (e7 v9.nd (XE.ow (jR (yb (n:=0) (za 0 0) T.fld_arrows rfl) (za 6 0))))
  (zf (e7 v9.nd (XE.ow (yo (k:=0) BS BO (XO.sh (n:=0) (oq (sk (n:=1) je jg (za 3 1) (yb (n:=0) (za 7 0) T.fld_start rfl) (λ_ _=>rfl)) (yo (k:=0) w8 wa (yb (n:=0) (za 7 0) T.fld_time rfl) (jR (za 1 0) cW)))) (yo (k:=0) w8 wa (yb (n:=0) (za 7 0) T.fld_behind rfl) (jR (za 1 0) cW)))))
  (zh (vk (yq (k:=0) CC Cz (za 8 0) (sk (n:=1) je jg (za 3 1) (yb (n:=0) (za 7 0) T.fld_goal rfl) (λ_ _=>rfl)) (bE _)) (zf (RF 3 rfl (yb (n:=0) (za 7 0) T.fld_goal rfl) (za 8 0))
  (zf (RH 4 rfl (vG hr) (yb (n:=0) (za 7 0) T.fld_goal rfl) (za 6 0))
  (zh (e7 v9.nd (XE.ow (yb (n:=0) (za 7 0) T.fld_goal rfl)))))) yp)))) bV.never rfl)
  (SR (za 5 0))))
def uf:EF:=(fI (lsD (eV 3)) 1 [1] (gV 0) gQ (λρ=>((aCons (eV 0) (aCons (e2 eh (eV 1) (eC (.int 1))) aNil)) ρ).bind λds=>j9 (ds++[])))
def wc:SF:=(sSeq (oh 5 (iB 3 4 (aCons (eV 0) (aCons (eV 1) (aCons (eV 2) aNil))) vf))
  (sIf (tb (e2 (mH false) (eV 5) (eC .non))) (sFz 3 (sRet (λρ=>((aCons (vQ (eC (.str "times"))) (aCons uf aNil)) ρ).bind λds=>some (.tup ds)))) sSkip))
def xg:List D->Option D:=mOf ["net","pace","numbers","times","chosen","pushed","count"]
  (sSeq (sSet 3 (e2 nO (λρ=>((aCons (eC (.int 0)) aNil) ρ).bind λds=>some (.lst ds)) (eN eU (aCons (e1 (cn [4] "names") (eV 0)) aNil))))
  (sSeq (sSet 4 (eC (.dK [] [])))
  (sSeq (sSet 5 (eC .non))
  (sSeq (sFor (λρ=>((aCons (eN eU (aCons (e1 (cn [4] "names") (eV 0)) aNil)) aNil) ρ).bind i8) (gV 6) wc)
  (sFz 4 (sRet (λρ=>((aCons (vQ (eC (.str "ring"))) (aCons (λρ=>((aCons (e1 (cn [4] "arrows") (eV 0)) (aCons (eV 4) (aCons (eV 5) aNil))) ρ).bind λds=>vz (ds++[])) aNil)) ρ).bind λds=>some (.tup ds))))))))
theorem ug (T:Txt K mg a):cv P w K mg base eO 3 a.f_times_or_ring_along a.d_times_or_ring_along ["net","pace","numbers"] (gX K a.ct [0,0,0] 2 xg):=by
 have pI:=Zs (P:=P) (w:=w) (base:=base) T
 have fX:=Cq (P:=P) (w:=w) (base:=base) T
 have lC:=YH (P:=P) (w:=w) (base:=base) T
 refine jF (ms:=[.ow 0,.ow 0,.ow 0,.ow 1,.ow 1,.ow 0,.ow 0]) T.times_or_ring_along.fn yr λ_ _ _ _ _ _ hr=>?_
 exact(zf (e7 yr.nd (NW (BV (k:=0) (yt (XE.ow cW) v7)) (o6 T.b_len (ze (yb (n:=0) (za 0 0) T.fld_names rfl) zj))))
  (zf (e7 yr.nd Jr)
  (zf (e7 yr.nd (XE.ow lW))
  (zf (qj (uc (n:=0) T.b_range (ze (o6 T.b_len (ze (yb (n:=0) (za 0 0) T.fld_names rfl) zj)) zj)) (nD yr.nd) (zf (zrd rfl yr.nd rfl (Or.inl rfl) (Sv (i:=3) (j:=4) (by decide) rfl rfl pI (hr.mono (by decide)) rfl T.push_once.mgx T.push_once.fn.kp T.push_once.bd .nil (JP (JP (JP SS))) (Jt (za 0 0) (Jt (za 1 0) (Jt (za 2 0) (Su (i:=3) (j:=4)))))))
  (zh (vk (yq (k:=0) tE jq (za 5 0) lW (bE _)) (N8 (i:=3) rfl (zh (yc (zP (yt (J5 (zN (n:=0))) (yt (yB (N:=["time","pace"]) (om:=[.ow 0]) (cap:=[1]) (own:=1) (uk (n:=0) (za 3 0)) (λ_ _ _ _ _=>(pZ (show cU (["time","pace"]:List aK)from by decide +kernel))) (λ_ _ _ _ _=>uu) (λ_ _ _ _ _=>(cQ T.ratio fX hr (ze (za 0 0) (ze (jR (za 1 0) cW) zj))))) v7)))))) yp))) bV.never rfl)
  (N8 (i:=4) rfl (zh (yc (zP (yt (J5 (zN (n:=0))) (yt (cQ T.ring_back_from lC hr (ze (yb (n:=0) (za 0 0) T.fld_arrows rfl) (ze (za 4 0) (ze (za 5 0) zj)))) v7))))))))))
def vg:List D->Option D:=mOf ["net","pace","numbers","found"]
  (sSeq (sSet 3 (λρ=>((aCons (eV 0) (aCons (eV 1) (aCons (eV 2) aNil))) ρ).bind λds=>xg (ds++[])))
  (sRet (eIf (tb (e2 (jL false) (e2 eh (eV 3) (eC (.int 0))) (eC (.str "ring")))) (e2 eh (eV 3) (eC (.int 1))) (eC .non))))
theorem Za (T:Txt K mg a):cv P w K mg base eO 4 a.f_ring_above a.d_ring_above ["net","pace","numbers"] (gX K a.ct [0,0,0] 0 vg):=by
 have eR:=ug (P:=P) (w:=w) (base:=base) T
 refine jF (ms:=[.ow 0,.ow 0,.ow 0,.ow 0]) T.ring_above.fn Qk λ_ _ _ _ _ _ hr=>?_
 exact(zf (e7 Qk.nd (rA (cQ T.times_or_ring_along eR hr (ze (za 0 0) (ze (za 1 0) (ze (za 2 0) zj))))))
  (zh (yc (XE.ow (Oj (yq (k:=0) (qf hr.u64) u0 (jR (za 3 0) cW) (zN (n:=0)) (bE _)) (jR (za 3 0) cW) lW)))))
def Jw:List D->Option D:=mOf ["one","other","total"]
  (sSeq (sSet 2 (λρ=>((aCons (eV 0) (aCons (eV 1) aNil)) ρ).bind λds=>HP (ds++[])))
  (sRet (λρ=>((aCons (e2 eh (eV 2) (eC (.int 0))) (aCons (e2 eD (e2 eh (eV 2) (eC (.int 1))) (eC (.int 2))) aNil)) ρ).bind λds=>j9 (ds++[]))))
theorem zl0 (T:Txt K mg a):cv P w K mg base eO 4 a.f_midway a.d_midway ["one","other"] (gX K a.ct [0,0] 0 Jw):=by
 have rf:=Sw (P:=P) (w:=w) (base:=base) T
 have fX:=Cq (P:=P) (w:=w) (base:=base) T
 refine jF (ms:=[.ow 0,.ow 0,.ow 0]) T.midway.fn QS λ_ _ _ _ _ _ hr=>?_
 exact(zf (e7 QS.nd (cQ T.plus rf hr (ze (za 0 0) (ze (za 1 0) zj))))
  (zh (yc (cQ T.ratio fX hr (ze (jR (za 2 0) cW) (ze (yo (k:=0) w8 wa (jR (za 2 0) cW) cW) zj))))))
def qc:List D->Option D:=mOf ["net","most"]
  (sSeq (sSet 1 (e2 eD (eN eU (aCons (e1 (cn [4] "names") (eV 0)) aNil)) (λρ=>((eV 0) ρ).bind λo=>kY 4 "most_behind" yn o [])))
  (sRet (λρ=>((aCons (eC (.int 1)) (aCons (e2 eD (eV 1) (eV 1)) aNil)) ρ).bind λds=>j9 (ds++[]))))
theorem Zt (T:Txt K mg a):cv P w K mg base eO 3 a.f_least_gap a.d_least_gap ["net"] (gX K a.ct [0] 0 qc):=by
 have kS:=YF (P:=P) (w:=w) (base:=base) T
 have fX:=Cq (P:=P) (w:=w) (base:=base) T
 refine jF (ms:=[.ow 0,.ow 0]) T.least_gap.fn Qw λ_ _ _ _ _ _ hr=>?_
 exact(zf (e7 Qw.nd (XE.ow (yo (k:=0) w8 wa (o6 T.b_len (ze (yb (n:=0) (za 0 0) T.fld_names rfl) zj)) (XO.sh (n:=0) (zna (n:=0) (c0:=4) (nd:=[]) (lT:=[]) (za 0 0) T.Net.cl T.Net_most_behind.me kS (hr.mono (by decide)) T.Net_most_behind.bd .nil (λ_ _=>.nil))))))
  (zh (yc (cQ T.ratio fX hr (ze cW (ze (yo (k:=0) w8 wa (za 1 0) (za 1 0)) zj))))))
def vo:SF:=(sSeq (sSet 5 (λρ=>((aCons (λρ=>((aCons (eV 0) (aCons (eV 2) aNil)) ρ).bind λds=>xY (ds++[])) (aCons (eV 3) aNil)) ρ).bind λds=>Jw (ds++[])))
  (sSeq (sSet 6 (λρ=>((aCons (eV 0) (aCons (eV 5) (aCons (eV 1) aNil))) ρ).bind λds=>vg (ds++[])))
  (sIf (tb (e2 (mH false) (eV 6) (eC .non))) (sSet 3 (eV 5)) (sSet 2 (eV 6)))))
def jv:EF:=(fI (lsD (eV 1)) 1 [0] (gV 0) gQ (e1 (cn [0,1,2,3] "time") (e2 eh (e1 (cn [4] "arrows") (eV 1)) (eV 0))))
def vh:List D->Option D:=mOf ["net","numbers","ring","ceiling","gap","middle","better"]
  (sSeq (sSet 2 (λρ=>((aCons (eV 0) (aCons (λρ=>((aCons (e1 uU (eC (.int 1))) (aCons (eC (.int 1)) aNil)) ρ).bind λds=>some (.tup ds)) (aCons (eV 1) aNil))) ρ).bind λds=>vg (ds++[])))
  (sSeq (sIf (tb (e2 (mH false) (eV 2) (eC .non))) (sRet (eC .non)) sSkip)
  (sSeq (sSet 3 (λρ=>((aCons (eN vC (aCons jv aNil)) (aCons (eC (.int 1)) aNil)) ρ).bind λds=>some (.tup ds)))
  (sSeq (sSet 4 (λρ=>((aCons (eV 0) aNil) ρ).bind λds=>qc (ds++[])))
  (sSeq (ig (bNot (tb (λρ=>((aCons (λρ=>((aCons (eV 3) (aCons (λρ=>((aCons (eV 0) (aCons (eV 2) aNil)) ρ).bind λds=>xY (ds++[])) aNil)) ρ).bind λds=>Cv (ds++[])) (aCons (eV 4) aNil)) ρ).bind λds=>Cw (ds++[])))) vo)
  (sRet (eV 2)))))))
theorem YK (T:Txt K mg a):cv P w K mg base eO 5 a.f_greatest_ring a.d_greatest_ring ["net","numbers"] (gX K a.ct [0,0] 0 vh):=by
 have kU:=Za (P:=P) (w:=w) (base:=base) T
 have pH:=Zt (P:=P) (w:=w) (base:=base) T
 have wK:=zn4 (P:=P) (w:=w) (base:=base) T
 have wI:=zn3 (P:=P) (w:=w) (base:=base) T
 have oG:=Sx (P:=P) (w:=w) (base:=base) T
 have uC:=zl0 (P:=P) (w:=w) (base:=base) T
 refine jF (ms:=[.ow 0,.ow 0,.ow 0,.ow 0,.ow 0,.ow 0,.ow 0]) T.greatest_ring.fn xn λ_ _ _ _ _ _ hr=>?_
 exact(zf (e7 xn.nd (cQ T.ring_above kU hr (ze (za 0 0) (ze (XO.sh (n:=0) (zP (yt (XE.ow (NX (k:=0) cW)) (yt (XE.ow cW) v7)))) (ze (za 1 0) zj)))))
  (zf (vk (yq (k:=0) tE jq (za 2 0) lW (bE _)) (zh (yc (XE.ow lW))) yp)
  (zf (e7 xn.nd (rA (zP (yt (XE.ow (u3 (k:=0) (Na rfl) NJ rfl T.b_sum NZ (ze (XO.sh (n:=0) (yB (N:=["number","net"]) (om:=[.ow 0]) (cap:=[0]) (own:=1) (uk (n:=0) (za 1 0)) (λ_ _ _ _ _=>(pZ (show cU (["number","net"]:List aK)from by decide +kernel))) (λ_ _ _ _ _=>uu) (λ_ _ _ _ _=>(XE.ow (yb (n:=0) (jR (yb (n:=0) (za 1 0) T.fld_arrows rfl) (za 0 0)) T.fld_time rfl))))) zj))) (yt (XE.ow cW) v7)))))
  (zf (e7 xn.nd (cQ T.least_gap pH hr (ze (za 0 0) zj)))
  (zf (HK (wD (u9 (XO.sh (n:=0) (cQ T.under wK hr (ze (XO.sh (n:=0) (cQ T.minus wI hr (ze (za 3 0) (ze (XO.sh (n:=0) (cQ T.mean oG hr (ze (za 0 0) (ze (za 2 0) zj)))) zj)))) (ze (za 4 0) zj)))))) (zf (e7 xn.nd (cQ T.midway uC hr (ze (XO.sh (n:=0) (cQ T.mean oG hr (ze (za 0 0) (ze (za 2 0) zj)))) (ze (za 3 0) zj))))
  (zf (e7 xn.nd (cQ T.ring_above kU hr (ze (za 0 0) (ze (za 5 0) (ze (za 1 0) zj)))))
  (zh (vk (yq (k:=0) tE jq (za 6 0) lW (bE _)) (zh (e7 xn.nd (XE.ow (za 5 0)))) (zh (e7 xn.nd (XE.ow (za 6 0)))))))) bV.never)
  (zh (yc (XE.ow (za 2 0)))))))))
def vp:List D->Option D:=mOf ["net","numbers","ring","pace"]
  (sSeq (sSet 2 (λρ=>((aCons (eV 0) (aCons (eV 1) aNil)) ρ).bind λds=>vh (ds++[])))
  (sSeq (sIf (tb (e2 (mH false) (eV 2) (eC .non))) (sRet (eC .non)) sSkip)
  (sSeq (sSet 3 (λρ=>((aCons (eV 0) (aCons (eV 2) aNil)) ρ).bind λds=>xY (ds++[])))
  (sRet (λρ=>((aCons (eV 3) (aCons (eV 2) (aCons (e2 eh (λρ=>((aCons (eV 0) (aCons (eV 3) (aCons (eV 1) aNil))) ρ).bind λds=>xg (ds++[])) (eC (.int 1))) aNil))) ρ).bind λds=>some (.tup ds))))))
theorem Y1 (T:Txt K mg a):cv P w K mg base eO 6 a.f_paper_along a.d_paper_along ["net","numbers"] (gX K a.ct [0,0] 0 vp):=by
 have mq:=YK (P:=P) (w:=w) (base:=base) T
 have oG:=Sx (P:=P) (w:=w) (base:=base) T
 have eR:=ug (P:=P) (w:=w) (base:=base) T
 refine jF (ms:=[.ow 0,.ow 0,.ow 0,.ow 0]) T.paper_along.fn jl λ_ _ _ _ _ _ hr=>?_
 exact(zf (e7 jl.nd (cQ T.greatest_ring mq hr (ze (za 0 0) (ze (za 1 0) zj))))
  (zf (vk (yq (k:=0) tE jq (za 2 0) lW (bE _)) (zh (yc (XE.ow lW))) yp)
  (zf (e7 jl.nd (cQ T.mean oG hr (ze (za 0 0) (ze (za 2 0) zj))))
  (zh (yc (rA (zP (yt (XE.ow (za 3 0)) (yt (XE.ow (za 2 0)) (yt (XE.ow (jR (XO.sh (n:=0) (cQ T.times_or_ring_along eR hr (ze (za 0 0) (ze (za 3 0) (ze (za 1 0) zj))))) cW)) v7))))))))))
def vb:List D->Option D:=mOf ["net"]
  (sRet (λρ=>((aCons (eV 0) (aCons (eN lV (aCons (eN eU (aCons (e1 (cn [4] "arrows") (eV 0)) aNil)) aNil)) aNil)) ρ).bind λds=>vp (ds++[])))
theorem Y2 (T:Txt K mg a):cv P w K mg base eO 7 a.f_least_round a.d_least_round ["net"] (gX K a.ct [0] 0 vb):=by
 have nK:=Y1 (P:=P) (w:=w) (base:=base) T
 refine jF (ms:=[.ow 0]) T.least_round.fn YQ λ_ _ _ _ _ _ hr=>?_
 exact(zh (yc (cQ T.paper_along nK hr (ze (za 0 0) (ze (XO.sh (n:=0) (Sq rfl rfl T.b_list rfl T.b_range (ze (o6 T.b_len (ze (yb (n:=0) (za 0 0) T.fld_arrows rfl) zj)) zj))) zj)))))
def wq:List D->Option D:=mOf ["self","arrow","link"]
  (sSeq (sSet 2 (e2 eh (e1 (cn [4] "arrows") (e1 (cn [5] "net") (eV 0))) (eV 1)))
  (sRet (e2 o4 (e2 o4 (e2 fN (e2 eh (e1 (cn [5] "times") (eV 0)) (e1 (cn [0,1,2,3] "goal") (eV 2))) (e2 eD (e1 (cn [5] "beat") (eV 0)) (e1 (cn [0,1,2,3] "behind") (eV 2)))) (e2 eh (e1 (cn [5] "times") (eV 0)) (e1 (cn [0,1,2,3] "start") (eV 2)))) (e1 (cn [0,1,2,3] "time") (eV 2)))))
theorem Qn (T:Txt K mg a):cv P w K mg base eO 1 a.f_Table_slack a.d_Table_slack ["self","arrow"] (gX K a.ct [1,0] 0 wq):=by
 refine jF (ms:=[.al 1,.ow 0,.ow 0]) T.Table_slack.fn Qm λ_ _ _ _ _ _ hr=>?_
 exact(zf (e7 Qm.nd (XE.ow (jR (yb (n:=0) (yb (n:=1) (za 0 1) T.fld_net rfl) T.fld_arrows rfl) (za 1 0))))
  (zh (yc (XE.ow (yo (k:=0) BS BO (yo (k:=0) BS BO (XO.sh (n:=0) (oq (jR (yb (n:=1) (za 0 1) T.fld_times rfl) (yb (n:=0) (za 2 0) T.fld_goal rfl)) (yo (k:=0) w8 wa (yb (n:=1) (za 0 1) T.fld_beat rfl) (yb (n:=0) (za 2 0) T.fld_behind rfl)))) (jR (yb (n:=1) (za 0 1) T.fld_times rfl) (yb (n:=0) (za 2 0) T.fld_start rfl))) (yb (n:=0) (za 2 0) T.fld_time rfl))))))
theorem YW (T:Txt K mg a):cv P w K mg base eO 1 a.f_NoFit___init a.d_NoFit___init ["self","arrow"] (sM "arrow" a.c_NoFit) :=
 zny (kk:=0) T.NoFit___init.fn YV T.xc_NoFit T.xs_NoFit λgu A outer s H E=>⟨_,λ_ _ _ _ h1 h2 h3=>Yy h1 h2 h3,Jq (JC (zm6 (B:=a.c_BeatError) rfl T.xm_BeatError T.xq.1 T.xq.2.1 T.xq.2.2 (v8 (i:=0) rfl (Or.inl rfl)) (zqa (Nf Rx (Nf (zu0 (v8 (i:=1) rfl (Or.inl rfl))) (Nf Rx zp9)))))) (JB (zp8 (v8 (i:=0) rfl (Or.inl rfl)) (v8 (i:=1) rfl (Or.inl rfl))))⟩
def we:mw:=(sIfX (tb (e2 rK (λρ=>((eV 0) ρ).bind λo=>((aCons (eV 4) aNil) ρ).bind λds=>kY 5 "slack" wq o (ds++[])) (eC (.int 0)))) (sRaise (λρ=>((eV 4) ρ).bind λd=>(rB d).bind λd=>some (.exc 9 ["arrow"] [d]))) (xOf sSkip))
def wy:Nat->List D->Option nL:=xF ["self","net","times","beat","number"]
  (sSeqX (xOf (ie [5] "net" (eV 1)))
  (sSeqX (xOf (ie [5] "times" (eN lU (aCons (eV 2) aNil))))
  (sSeqX (xOf (ie [5] "beat" (eV 3)))
  (sForX (λρ=>((aCons (eN eU (aCons (e1 (cn [4] "arrows") (eV 1)) aNil)) aNil) ρ).bind i8) (gV 4) we))))
theorem YG (T:Txt K mg a):cv P w K mg base (yJ P w) 3 a.f_Table___init a.d_Table___init ["self","net","times","beat"] (sL K a.ct [5] [0,0,0] wy):=by
 have mU:=YW (P:=P) (w:=w) (base:=base) T
 have iG:=Qn (P:=P) (w:=w) (base:=base) T
 refine ZX (ms:=[.ow 0,.ow 0,.ow 0,.ow 0]) (rk:=0) T.Table___init.fn qw rfl rfl (by decide) (u4 (by decide)) λx0 gu A outer s H E hr=>?_
 exact(Nc (N9 (xW T.fld_net (za 1 0)))
  (Nc (N9 (xW T.fld_times (XO.sh (n:=0) (M6 qp (Nq (n:=0) (by decide)) rfl T.b_list Cs (ze (za 2 0) zj)))))
  (Nc (N9 (xW T.fld_beat (za 3 0)))
  (Ju (zrh (uc (n:=0) T.b_range (ze (o6 T.b_len (ze (yb (n:=0) (za 1 0) T.fld_arrows rfl) zj)) zj)) (nD qw.nd) (Ju (ztx (yq (k:=0) yA xV (XO.sh (n:=0) (Sa (n:=1) (c0:=5) (ns:=[0]) (nd:=[]) (lT:=[]) (za 0 1) T.Table.cl T.Table_slack.me iG (hr.mono (by decide)) T.Table_slack.bd .nil (λ_ _=>.nil) (ze (za 4 0) zj))) cW (bE _)) (Ju (zls rfl zkb (znw (c0:=9) (fn:="arrow") T.xc_NoFit T.xk_NoFit T.NoFit___init.me.at_ T.NoFit___init.me.fn mU (hr.mono (by decide)) T.xm_NoFit T.NoFit___init.bd (za 4 0)))) (zrf yp))) bV.leaving rfl)))))
def wt:SF:=(sIf (tb (e2 (mH true) (e2 eh (eV 1) (e1 (cn [0,1,2,3] "start") (eV 5))) (eC .non))) (sSeq (sSet 6 (e2 fN (e2 eh (eV 1) (e1 (cn [0,1,2,3] "start") (eV 5))) (λρ=>((eV 0) ρ).bind λo=>((aCons (eV 4) aNil) ρ).bind λds=>kY 5 "slack" wq o (ds++[]))))
  (sIf (bOr (tb (e2 (mH false) (e2 eh (eV 1) (e1 (cn [0,1,2,3] "goal") (eV 5))) (eC .non))) (tb (e2 rK (eV 6) (e2 eh (eV 1) (e1 (cn [0,1,2,3] "goal") (eV 5)))))) (sSeq (iQ 1 (e1 (cn [0,1,2,3] "goal") (eV 5)) (eV 6))
  (sSeq (iP 2 (e1 (cn [0,1,2,3] "goal") (eV 5)) (eV 4))
  (sSet 3 (eC (.bl true))))) sSkip)) sSkip)
def xt:List D->Option D:=uR 1 ["table","prices","chosen","lowered","number","arrow","price"]
  (rM (sSet 3 (eC (.bl false)))
  (rM (sFor (λρ=>((aCons (e1 (cn [4] "arrows") (e1 (cn [5] "net") (eV 0))) aNil) ρ).bind λds=>match ds with|[.lst xs]=>some (hV 0 xs)|_=>none) (gT (gsCons (gV 4) (gsCons (gV 5) gsNil))) wt)
  (uS (eV 3))))
theorem Zb (T:Txt K mg a):cv P w K mg base eO 2 a.f_lower_once a.d_lower_once ["table","prices","chosen"] (zS K a.ct 1 xt):=by
 have iG:=Qn (P:=P) (w:=w) (base:=base) T
 refine RI (n:=1) (ms:=[.ow 0,.ow 0,.ow 0,.ow 0]) T.lower_once.fn vn rfl rfl λxa xb gu A outer s H E hr=>?_
 exact(JO (e7 vn.nd (XE.ow (tD (n:=0))))
  (JO (qj (Se T.b_enumerate (ze (yb (n:=0) (yb (n:=0) (za 0 0) T.fld_net rfl) T.fld_arrows rfl) zj)) (JX (n:=1) rfl (vt (nD vn.nd) (vt (nD vn.nd) JK))) (zh (vk (yq (k:=0) Nn M7 (sk (n:=1) je jg (za 1 1) (yb (n:=0) (za 5 0) T.fld_start rfl) (λ_ _=>rfl)) lW (bE _)) (zf (e7 vn.nd (rA (oq (sk (n:=1) je jg (za 1 1) (yb (n:=0) (za 5 0) T.fld_start rfl) (λ_ _=>rfl)) (XO.sh (n:=0) (Sa (n:=1) (c0:=5) (ns:=[0]) (nd:=[]) (lT:=[]) (XE.up (za 0 0) (by decide:0<=1)) T.Table.cl T.Table_slack.me iG (hr.mono (by decide)) T.Table_slack.bd .nil (λ_ _=>.nil) (ze (za 4 0) zj))))))
  (zh (vk (XW.t (t8 (yq (k:=0) tE jq (sk (n:=1) je jg (za 1 1) (yb (n:=0) (za 5 0) T.fld_goal rfl) (λ_ _=>rfl)) lW (bE _)) (wC (yq (k:=0) yA xV (za 6 0) (sk (n:=1) je jg (za 1 1) (yb (n:=0) (za 5 0) T.fld_goal rfl) (λ_ _=>rfl)) (bE _))))) (zf (RF 1 rfl (yb (n:=0) (za 5 0) T.fld_goal rfl) (za 6 0))
  (zf (RH 2 rfl (vG hr) (yb (n:=0) (za 5 0) T.fld_goal rfl) (za 4 0))
  (zh (e7 vn.nd (XE.ow (tD (n:=0))))))) yp))) yp)) bV.never rfl)
  (SR (za 3 0))))
def qy:List D->Option D:=mOf ["table","one","other","prices","chosen"]
  (sSeq (sSet 3 (e2 nO (λρ=>((aCons (eC .non) aNil) ρ).bind λds=>some (.lst ds)) (eN eU (aCons (e1 (cn [4] "names") (e1 (cn [5] "net") (eV 0))) aNil))))
  (sSeq (iQ 3 (eV 1) (eC (.int 0)))
  (sSeq (sSet 4 (eC (.dK [] [])))
  (sSeq (mI (iB 3 4 (aCons (eV 0) aNil) xt) sSkip)
  (sFz 4 (sSeq (sIf (tb (e2 (mH false) (e2 eh (eV 3) (eV 2)) (eC .non))) (sRet (vQ (eC .non))) sSkip)
  (sRet (λρ=>(eV 3 ρ).bind λ_=>((aCons (vQ (e2 eh (eV 3) (eV 2))) (aCons (λρ=>((aCons (e1 (cn [4] "arrows") (e1 (cn [5] "net") (eV 0))) (aCons (eV 4) (aCons (eV 1) (aCons (eV 2) aNil)))) ρ).bind λds=>Jn (ds++[])) (aCons (eV 3) aNil))) ρ).bind λds=>some (.tup ds)))))))))
theorem zn5 (T:Txt K mg a):cv P w K mg base eO 3 a.f_spare a.d_spare ["table","one","other"] (gX K a.ct [0,0,0] 2 qy):=by
 have oF:=Zb (P:=P) (w:=w) (base:=base) T
 have rh:=Zp (P:=P) (w:=w) (base:=base) T
 refine jF (ms:=[.ow 0,.ow 0,.ow 0,.ow 1,.ow 1]) T.spare.fn Nu λ_ _ _ _ _ _ hr=>?_
 exact(zf (e7 Nu.nd (NW (BV (k:=0) (yt (XE.ow lW) v7)) (o6 T.b_len (ze (yb (n:=0) (yb (n:=0) (za 0 0) T.fld_net rfl) T.fld_names rfl) zj))))
  (zf (R6 3 rfl (za 1 0) cW)
  (zf (e7 Nu.nd Jr)
  (zf (zlq (Sv (i:=3) (j:=4) (by decide) rfl rfl oF (hr.mono (by decide)) rfl T.lower_once.mgx T.lower_once.fn.kp T.lower_once.bd .nil (JP SS) (Jt (za 0 0) (Su (i:=3) (j:=4)))) (zh zqm) bV.never)
  (N8 (i:=4) rfl (zf (vk (yq (k:=0) tE jq (sk (n:=1) je jg (za 3 1) (za 2 0) (λ_ _=>rfl)) lW (bE _)) (zh (yc (J5 lW))) yp)
  (zh (znv (i:=3) rfl (RK (J5 (sk (n:=1) je jg (za 3 1) (za 2 0) (λ_ _=>rfl))) (RK (cQ T.way_back rh hr (ze (yb (n:=0) (yb (n:=0) (za 0 0) T.fld_net rfl) T.fld_arrows rfl) (ze (za 4 0) (ze (za 1 0) (ze (za 2 0) zj))))) (zre (i:=3))))))))))))
def xp:List D->Option D:=mOf ["_law_script","_law_k"]
  (sSeq (sIf (tb (e2 rK (eV 1) (eN eU (aCons (eV 0) aNil)))) (sRet (e2 eh (eV 0) (eV 1))) sSkip)
  (sRet (eC (.int 0))))
theorem Y3 (T:Txt K mg a):cv P w K mg base eO 1 a.f_law_cell_at a.d_law_cell_at ["_law_script","_law_k"] (gX K a.ct [0,0] 0 xp):=by
 refine jF (ms:=[.ow 0,.ow 0]) T.law_cell_at.fn YR λ_ _ _ _ _ _ hr=>?_
 exact(zf (vk (yq (k:=0) yA xV (za 1 0) (o6 T.b_len (ze (za 0 0) zj)) (bE _)) (zh (yc (XE.ow (jR (za 0 0) (za 1 0))))) yp)
  (zh (yc (XE.ow cW))))
def ua:List D->Option D:=mOf ["_law_cell"]
  (sRet (eB (bAnd (tb (e2 Iz (eV 0) (e2 xM (eC (.int 1)) (eC (.int 90))))) (tb (e2 (jL false) (e2 e6 (eV 0) (eC (.int 2))) (eC (.int 1)))))))
theorem qd (T:Txt K mg a):cv P w K mg base eO 1 a.f_law_is_row a.d_law_is_row ["_law_cell"] (gX K a.ct [0] 0 ua):=by
 refine jF (ms:=[.ow 0]) T.law_is_row.fn Y7 λ_ _ _ _ _ _ hr=>?_
 exact(zh (yc (XE.ow (BU (qq (k:=0) Tl SN (za 0 0) (yo (k:=0) zsu zqp cW cW) (bE _)) (zO (k:=0) (qq (k:=0) (qf hr.u64) u0 (yo (k:=0) wf wg (za 0 0) cW) cW (bE _)))))))
def wj:List D->Option D:=mOf ["_law_cell","_law_k","_law_number"]
  (sSeq (sIf (bAnd (tb (λρ=>((aCons (eV 0) aNil) ρ).bind λds=>ua (ds++[]))) (tb (e2 vS (e2 sY (eV 0) (e2 fN (eC (.int 1)) (e2 eD (eC (.int 31)) (eV 1)))) (eC (.int 0))))) (sRet (e2 e6 (e2 sY (eV 0) (e2 fN (eC (.int 1)) (e2 eD (eC (.int 31)) (eV 1)))) (eC (.int 2147483648)))) sSkip)
  (sSeq (sSet 2 (e2 e6 (e2 eD (e2 fN (e2 fN (eV 0) (e2 eD (eC (.int 7919)) (eV 1))) (eC (.int 1))) (eC (.int 48271))) (eC (.int 2147483647))))
  (sSeq (sSet 2 (e2 e6 (e2 eD (eV 2) (e2 fN (e2 gw (eV 2) (eC (.int 1009))) (eC (.int 69621)))) (eC (.int 2147483647))))
  (sRet (e2 e6 (e2 eD (eV 2) (e2 fN (e2 fN (e2 gw (eV 2) (eC (.int 2003))) (eC (.int 39373))) (eV 1))) (eC (.int 2147483629)))))))
theorem qz (T:Txt K mg a):cv P w K mg base eO 2 a.f_law_mixed a.d_law_mixed ["_law_cell","_law_k"] (gX K a.ct [0,0] 0 wj):=by
 have fW:=qd (P:=P) (w:=w) (base:=base) T
 refine jF (ms:=[.ow 0,.ow 0,.ow 0]) T.law_mixed.fn qx λ_ _ _ _ _ _ hr=>?_
 exact(zf (vk (XW.t (JW (u9 (XO.sh (n:=0) (cQ T.law_is_row fW hr (ze (za 0 0) zj)))) (JA (yq (k:=0) CC Cz (yo (k:=0) S3 Sb (za 0 0) (XO.sh (n:=0) (oq cW (yo (k:=0) w8 wa cW (za 1 0))))) cW (bE _))))) (zh (yc (XE.ow (yo (k:=0) wf wg (yo (k:=0) S3 Sb (za 0 0) (XO.sh (n:=0) (oq cW (yo (k:=0) w8 wa cW (za 1 0))))) cW)))) yp)
  (zf (e7 qx.nd (XE.ow (yo (k:=0) wf wg (yo (k:=0) w8 wa (XO.sh (n:=0) (oq (XO.sh (n:=0) (oq (za 0 0) (yo (k:=0) w8 wa cW (za 1 0)))) cW)) cW) cW)))
  (zf (e7 qx.nd (XE.ow (yo (k:=0) wf wg (yo (k:=0) w8 wa (za 2 0) (XO.sh (n:=0) (oq (yo (k:=0) vq vv (za 2 0) cW) cW))) cW)))
  (zh (yc (XE.ow (yo (k:=0) wf wg (yo (k:=0) w8 wa (za 2 0) (XO.sh (n:=0) (oq (XO.sh (n:=0) (oq (yo (k:=0) vq vv (za 2 0) cW) cW)) (za 1 0)))) cW)))))))
def ut:SF:=(oX 3 4 (e2 e6 (λρ=>((aCons (eV 0) (aCons (eV 5) aNil)) ρ).bind λds=>wj (ds++[])) (eN eU (aCons (eV 4) aNil))))
def uj:List D->Option D:=mOf ["_law_turn","_law_many","_law_going","_law_order","_law_left","_law_k"]
  (sSeq (sIf (bNot (tb (λρ=>((aCons (eV 0) aNil) ρ).bind λds=>ua (ds++[])))) (sRet (e2 e6 (e2 fN (eV 2) (eV 0)) (eV 1))) sSkip)
  (sSeq (sSet 3 (λρ=>(aNil ρ).bind λds=>some (.lst ds)))
  (sSeq (sSet 4 (eN lV (aCons (eV 1) aNil)))
  (sSeq (sFor (λρ=>((aCons (eV 1) aNil) ρ).bind i8) (gV 5) ut)
  (sRet (e2 uO (eV 3) (eV 2)))))))
theorem Zq (T:Txt K mg a):cv P w K mg base eO 3 a.f_law_rank a.d_law_rank ["_law_turn","_law_many","_law_going"] (gX K a.ct [0,0,0] 0 uj):=by
 have fW:=qd (P:=P) (w:=w) (base:=base) T
 have fP:=qz (P:=P) (w:=w) (base:=base) T
 refine jF (ms:=[.ow 0,.ow 0,.ow 0,.ow 1,.ow 1,.ow 0]) T.law_rank.fn j4 λ_ _ _ _ _ _ hr=>?_
 exact(zf (vk (wD (u9 (XO.sh (n:=0) (cQ T.law_is_row fW hr (ze (za 0 0) zj))))) (zh (yc (XE.ow (yo (k:=0) wf wg (XO.sh (n:=0) (oq (za 2 0) (za 0 0))) (za 1 0))))) yp)
  (zf (e7 j4.nd (BV (k:=0) v7))
  (zf (e7 j4.nd (Sq rfl rfl T.b_list rfl T.b_range (ze (za 1 0) zj)))
  (zf (qj (uc (n:=0) T.b_range (ze (za 1 0) zj)) (nD j4.nd) (zh (zli 3 4 rfl rfl (by decide) (yo (k:=0) wf wg (XO.sh (n:=0) (cQ T.law_mixed fP hr (ze (za 0 0) (ze (za 5 0) zj)))) (o6 T.b_len (ze (za 4 1) zj))))) bV.never rfl)
  (zh (yc (XE.ow (zno (k:=0) (za 3 1) (za 2 0)))))))))
def u6:SF:=(sSeq (sSet 7 (e2 e6 (e2 gw (eV 3) (eC (.int 1000))) (eC (.int 10))))
  (sSeq (sIf (tb (e2 (jL false) (e2 e6 (eV 0) (eC (.int 3))) (eC (.int 2)))) (sSet 7 (e2 e6 (e2 gw (eV 0) (eC (.int 3))) (e2 fN (e2 sV (eC (.int 10)) (eC (.int 6))) (eC (.int 1))))) sSkip)
  (sSeq (sIf (tb (λρ=>((aCons (eV 0) aNil) ρ).bind λds=>ua (ds++[]))) (sSet 7 (e2 e6 (λρ=>((aCons (eV 0) (aCons (eC (.int 30)) aNil)) ρ).bind λds=>wj (ds++[])) (e2 fN (e2 sV (eC (.int 10)) (eC (.int 6))) (eC (.int 1))))) sSkip)
  (sRet (λρ=>((aCons (eV 4) (aCons (eV 5) (aCons (eV 7) (aCons (eV 6) aNil)))) ρ).bind λds=>some (.tup ds))))))
def wu:List D->Option D:=mOf ["_law_cell","_law_many","_law_turn","_law_number","_law_start","_law_goal","_law_behind","_law_time"]
  (sSeq (sSet 3 (λρ=>((aCons (eV 0) (aCons (eC (.int 1)) aNil)) ρ).bind λds=>wj (ds++[])))
  (sSeq (sSet 4 (e2 e6 (eV 3) (eV 1)))
  (sSeq (sSet 5 (e2 e6 (e2 gw (eV 3) (eC (.int 8))) (eV 1)))
  (sSeq (sSet 6 (e2 e6 (e2 gw (eV 3) (eC (.int 64))) (eC (.int 5))))
  (sSeq (sIf (bAnd (tb (e2 (jL false) (eV 6) (eC (.int 0)))) (tb (e2 Iz (λρ=>((aCons (eV 2) (aCons (eV 1) (aCons (eV 4) aNil))) ρ).bind λds=>uj (ds++[])) (λρ=>((aCons (eV 2) (aCons (eV 1) (aCons (eV 5) aNil))) ρ).bind λds=>uj (ds++[]))))) (sSet 6 (e2 fN (eC (.int 1)) (e2 e6 (e2 gw (eV 3) (eC (.int 320))) (eC (.int 2))))) sSkip)
  u6)))))
theorem Zu (T:Txt K mg a):cv P w K mg base eO 4 a.f_law_arrow a.d_law_arrow ["_law_cell","_law_many","_law_turn"] (gX K a.ct [0,0,0] 0 wu):=by
 have fP:=qz (P:=P) (w:=w) (base:=base) T
 have mW:=Zq (P:=P) (w:=w) (base:=base) T
 have fW:=qd (P:=P) (w:=w) (base:=base) T
 refine jF (ms:=[.ow 0,.ow 0,.ow 0,.ow 0,.ow 0,.ow 0,.ow 0,.ow 0]) T.law_arrow.fn wp λ_ _ _ _ _ _ hr=>?_
 exact(zf (e7 wp.nd (cQ T.law_mixed fP hr (ze (za 0 0) (ze cW zj))))
  (zf (e7 wp.nd (XE.ow (yo (k:=0) wf wg (za 3 0) (za 1 0))))
  (zf (e7 wp.nd (XE.ow (yo (k:=0) wf wg (yo (k:=0) vq vv (za 3 0) cW) (za 1 0))))
  (zf (e7 wp.nd (XE.ow (yo (k:=0) wf wg (yo (k:=0) vq vv (za 3 0) cW) cW)))
  (zf (vk (XW.t (JW (yq (k:=0) (qf hr.u64) u0 (za 6 0) cW (bE _)) (JA (yq (k:=0) Tl SN (XO.sh (n:=0) (cQ T.law_rank mW hr (ze (za 2 0) (ze (za 1 0) (ze (za 4 0) zj))))) (XO.sh (n:=0) (cQ T.law_rank mW hr (ze (za 2 0) (ze (za 1 0) (ze (za 5 0) zj))))) (bE _))))) (zh (e7 wp.nd (rA (oq cW (yo (k:=0) wf wg (yo (k:=0) vq vv (za 3 0) cW) cW))))) yp)
  (zf (e7 wp.nd (XE.ow (yo (k:=0) wf wg (yo (k:=0) vq vv (za 3 0) cW) cW)))
  (zf (vk (yq (k:=0) (qf hr.u64) u0 (yo (k:=0) wf wg (za 0 0) cW) cW (bE _)) (zh (e7 wp.nd (XE.ow (yo (k:=0) wf wg (yo (k:=0) vq vv (za 0 0) cW) (XO.sh (n:=0) (oq (yo (k:=0) NT NE cW cW) cW)))))) yp)
  (zf (vk (u9 (XO.sh (n:=0) (cQ T.law_is_row fW hr (ze (za 0 0) zj)))) (zh (e7 wp.nd (XE.ow (yo (k:=0) wf wg (XO.sh (n:=0) (cQ T.law_mixed fP hr (ze (za 0 0) (ze cW zj)))) (XO.sh (n:=0) (oq (yo (k:=0) NT NE cW cW) cW)))))) yp)
  (zh (yc (rA (zP (yt (XE.ow (za 4 0)) (yt (XE.ow (za 5 0)) (yt (XE.ow (za 7 0)) (yt (XE.ow (za 6 0)) v7))))))))))))))))
def Jo:List D->Option D:=mOf ["_law_arrow_here","_law_kind","_law_start","_law_goal","_law_time","_law_behind"]
  (sSeq (sAsg (gT (gsCons (gV 2) (gsCons (gV 3) (gsCons (gV 4) (gsCons (gV 5) gsNil))))) (eV 0))
  (sSeq (sIf (bAnd (tb (e2 (jL false) (eV 5) (eC (.int 0)))) (tb (e2 (jL false) (e2 e6 (eV 1) (eC (.int 2))) (eC (.int 0))))) (sRet (λρ=>((aCons (eV 2) (aCons (eV 3) (aCons (eV 4) aNil))) ρ).bind λds=>j5 1 (ds++[]))) sSkip)
  (sSeq (sIf (bAnd (tb (e2 vS (eV 5) (eC (.int 0)))) (tb (e2 (jL false) (e2 e6 (eV 1) (eC (.int 2))) (eC (.int 0))))) (sRet (λρ=>((aCons (eV 2) (aCons (eV 3) (aCons (eV 4) (aCons (eV 5) aNil)))) ρ).bind λds=>j7 3 (ds++[]))) sSkip)
  (sRet (λρ=>((aCons (eV 2) (aCons (eV 3) (aCons (eV 4) (aCons (eV 5) aNil)))) ρ).bind λds=>j6 2 (ds++[]))))))
theorem Zr (T:Txt K mg a):cv P w K mg base eO 4 a.f_law_made a.d_law_made ["_law_arrow_here","_law_kind"] (gX K a.ct [0,0] 0 Jo):=by
 have nI:=YS (P:=P) (w:=w) (base:=base) T
 have nH:=YZ (P:=P) (w:=w) (base:=base) T
 have tT:=T.Back___init_d1.choose_spec
 have nJ:=YY (P:=P) (w:=w) (base:=base) T
 have tU:=T.Wait___init_d1.choose_spec
 refine jF (ms:=[.ow 0,.ow 0,.ow 0,.ow 0,.ow 0,.ow 0]) T.law_made.fn ja λ_ _ _ _ _ _ hr=>?_
 exact(zf (ztr (za 0 0) (JX (n:=0) rfl (vt (nD ja.nd) (vt (nD ja.nd) (vt (nD ja.nd) (vt (nD ja.nd) JK))))))
  (zf (vk (XW.t (JW (yq (k:=0) (qf hr.u64) u0 (za 5 0) cW (bE _)) (JA (yq (k:=0) (qf hr.u64) u0 (yo (k:=0) wf wg (za 1 0) cW) cW (bE _))))) (zh (yc (rA (JM (c0:=1) (lT:=[]) (ns:=[0,0,0]) (nd:=[]) ⟨T.Ride.mks,T.Ride___init.me.at_,T.Ride___init.me.fn,T.Ride.kp⟩ (by decide) nI (hr.mono (by decide)) rfl T.Ride.mgx T.Ride___init.bd .nil (λ_ _=>.nil) (ze (za 2 0) (ze (za 3 0) (ze (za 4 0) zj))))))) yp)
  (zf (vk (XW.t (JW (yq (k:=0) CC Cz (za 5 0) cW (bE _)) (JA (yq (k:=0) (qf hr.u64) u0 (yo (k:=0) wf wg (za 1 0) cW) cW (bE _))))) (zh (yc (rA (JM (c0:=3) (lT:=[]) (ns:=[0,0,0,0]) (nd:=[]) ⟨T.Back.mks,T.Back___init.me.at_,T.Back___init.me.fn,T.Back.kp⟩ (by decide) nH (hr.mono (by decide)) rfl T.Back.mgx T.Back___init.bd .nil (λ_ _=>.nil) (ze (za 2 0) (ze (za 3 0) (ze (za 4 0) (ze (za 5 0) zj)))))))) yp)
  (zh (yc (rA (JM (c0:=2) (lT:=[]) (ns:=[0,0,0,0]) (nd:=[]) ⟨T.Wait.mks,T.Wait___init.me.at_,T.Wait___init.me.fn,T.Wait.kp⟩ (by decide) nJ (hr.mono (by decide)) rfl T.Wait.mgx T.Wait___init.bd .nil (λ_ _=>.nil) (ze (za 2 0) (ze (za 3 0) (ze (za 4 0) (ze (za 5 0) zj)))))))))))
def QF:EF:=(fI (lsD (eV 0)) 1 [] (gV 0) gQ (λρ=>((aCons (eV 0) (aCons (e2 eh (eV 0) (eC (.int 0))) aNil)) ρ).bind λds=>Jo (ds++[])))
def Qx:EF:=(fI (λρ=>((aCons (eV 1) aNil) ρ).bind i8) 1 [] (gV 0) gQ (e2 fN (eC (.str "a")) (eN tu (aCons (eV 0) aNil))))
def q0:List D->Option D:=mOf ["_law_arrows","_law_many"]
  (sRet (λρ=>((aCons Qx (aCons QF aNil)) ρ).bind λds=>jj 4 (ds++[])))
theorem Z1 (T:Txt K mg a):cv P w K mg base eO 6 a.f_law_net a.d_law_net ["_law_arrows","_law_many"] (gX K a.ct [0,0] 0 q0):=by
 have oC:=Y9 (P:=P) (w:=w) (base:=base) T
 have rc:=Zr (P:=P) (w:=w) (base:=base) T
 refine jF (ms:=[.ow 0,.ow 0]) T.law_net.fn ZZ λ_ _ _ _ _ _ hr=>?_
 exact(zh (yc (rA (JM (c0:=4) (lT:=[]) (ns:=[0,0]) (nd:=[]) ⟨T.Net.mks,T.Net___init.me.at_,T.Net___init.me.fn,T.Net.kp⟩ (by decide) oC (hr.mono (by decide)) rfl T.Net.mgx T.Net___init.bd .nil (λ_ _=>.nil) (ze (XO.sh (n:=0) (yB (N:=["_law_k"]) (om:=[.ow 0]) (cap:=[]) (own:=1) (XI.cc (uc (n:=0) T.b_range (ze (za 1 0) zj))) (λ_ _ _ _ _=>(pZ (show cU (["_law_k"]:List aK)from by decide +kernel))) (λ_ _ _ _ _=>uu) (λ_ _ _ _ _=>(rA (oq (zN (n:=0)) (zku (k:=0) Y5 zq6 rfl T.b_str S6 (ze (za 0 0) zj))))))) (ze (XO.sh (n:=0) (yB (N:=["_law_arrow_here"]) (om:=[.ow 0]) (cap:=[]) (own:=1) (uk (n:=0) (za 0 0)) (λ_ _ _ _ _=>(pZ (show cU (["_law_arrow_here"]:List aK)from by decide +kernel))) (λ_ _ _ _ _=>uu) (λ_ _ _ _ _=>(cQ T.law_made rc hr (ze (za 0 0) (ze (jR (za 0 0) cW) zj)))))) zj))))))
def jo:SF:=(iQ 4 (eV 7) (eN uT (aCons (e2 eh (eV 4) (eV 7)) (aCons (e2 o4 (e2 fN (e2 eh (eV 4) (eV 6)) (eV 8)) (e2 eD (eV 1) (eV 9))) aNil))))
def uo:SF:=(sFor (lsD (eV 0)) (gT (gsCons (gV 6) (gsCons (gV 7) (gsCons (gV 8) (gsCons (gV 9) gsNil))))) jo)
def Qo:EF:=(fI (λρ=>((aCons (eV 2) aNil) ρ).bind i8) 1 [3] (gV 0) gQ (e2 e6 (λρ=>((aCons (eV 1) (aCons (eV 0) aNil)) ρ).bind λds=>wj (ds++[])) (eC (.int 20))))
def jk:List D->Option D:=mOf ["_law_arrows","_law_beat","_law_many","_law_cell","_law_tops","_law_step","_law_start","_law_goal","_law_time","_law_behind"]
  (sSeq (sSet 4 Qo)
  (sSeq (sFor (λρ=>((aCons (eV 2) aNil) ρ).bind i8) (gV 5) uo)
  (sRet (eV 4))))
theorem Zc (T:Txt K mg a):cv P w K mg base eO 3 a.f_law_pushed a.d_law_pushed ["_law_arrows","_law_beat","_law_many","_law_cell"] (gX K a.ct [0,0,0,0] 0 jk):=by
 have fP:=qz (P:=P) (w:=w) (base:=base) T
 refine jF (ms:=[.ow 0,.ow 0,.ow 0,.ow 0,.ow 1,.ow 0,.ow 0,.ow 0,.ow 0,.ow 0]) T.law_pushed.fn w9 λ_ _ _ _ _ _ hr=>?_
 exact(zf (jr (k:=1) (N:=["_law_k","_law_cell"]) (om:=[.ow 0]) (cap:=[3]) (own:=1) rfl w9.nd rfl (Or.inl rfl) (CB (by rfl)) rfl rfl (by decide) (XI.cc (uc (n:=0) T.b_range (ze (za 2 0) zj))) (λ_ _ _ _ _=>(pZ (show cU (["_law_k","_law_cell"]:List aK)from by decide +kernel))) (λ_ _ _ _ _=>uu) (λ_ _ _ _ _=>(XE.ow (yo (k:=0) wf wg (XO.sh (n:=0) (cQ T.law_mixed fP hr (ze (za 1 0) (ze (za 0 0) zj)))) cW))))
  (zf (qj (uc (n:=0) T.b_range (ze (za 2 0) zj)) (nD w9.nd) (zh (qj (HL (za 0 0)) (JX (n:=0) rfl (vt (nD w9.nd) (vt (nD w9.nd) (vt (nD w9.nd) (vt (nD w9.nd) JK))))) (zh (R6 4 rfl (za 7 0) (u3 (k:=0) (ZJ rfl) zne rfl T.b_max NY (ze (sk (n:=1) je jg (za 4 1) (za 7 0) (λ_ _=>rfl)) (ze (yo (k:=0) BS BO (XO.sh (n:=0) (oq (sk (n:=1) je jg (za 4 1) (za 6 0) (λ_ _=>rfl)) (za 8 0))) (yo (k:=0) w8 wa (za 1 0) (za 9 0))) zj))))) bV.never rfl)) bV.never rfl)
  (zh (Sr (i:=4) rfl))))
def vi:List D->Option D:=mOf ["_law_net_here","_law_tops","_law_beat","_law_found"]
  (sSeq (sSet 3 (eC .non))
  (sSeq (sTry (sSetX 3 (λρ=>((aCons (eV 0) (aCons (eV 1) (aCons (eV 2) aNil))) ρ).bind λds=>wy 5 (ds++[]))) (thD (hitL [9] [9]) none (sSet 3 (eC .non)) (λ_ _ _=>none)))
  (sRet (eV 3))))
theorem Zv (T:Txt K mg a):cv P w K mg base eO 5 a.f_law_table a.d_law_table ["_law_net_here","_law_tops","_law_beat"] (gX K a.ct [0,0,0] 0 vi):=by
 have mn:=YG (P:=P) (w:=w) (base:=base) T
 refine jF (ms:=[.ow 0,.ow 0,.ow 0,.ow 0]) T.law_table.fn ji λ_ _ _ _ _ _ hr=>?_
 exact(zf (e7 ji.nd (XE.ow lW))
  (zf (zty (λE ai G h1 h2=>(Ju (zrg (k:=0) rfl ji.nd rfl (Or.inl rfl) (zt1 (znx (c0:=5) (lT:=[]) (ns:=[0,0,0]) (nd:=[]) h2 ⟨T.Table.mks,T.Table___init.me.at_,T.Table___init.me.fn,T.Table.kp⟩ (by decide) mn (hr.mono (by decide)) rfl T.Table.mgx T.Table___init.bd .nil (λ_ _=>.nil) (ze (za 0 0) (ze (za 1 0) (ze (za 2 0) zj)))))))) (znz T.xm_NoFit (zt0 T.hh_NoFit) (λa=>(zh (e7 ji.nd (XE.ow lW)))) zri))
  (zh (yc (XE.ow (za 3 0))))))
def wz:List D->Option D:=mOf ["_law_table_here","_law_one","_law_other","_law_found"]
  (sSeq (sSet 3 (λρ=>((aCons (eV 0) (aCons (eV 1) (aCons (eV 2) aNil))) ρ).bind λds=>qy (ds++[])))
  (sSeq (sIf (tb (e2 (mH false) (eV 3) (eC .non))) (sRet (eC .non)) sSkip)
  (sRet (e2 eh (eV 3) (eC (.int 0))))))
theorem Zd (T:Txt K mg a):cv P w K mg base eO 4 a.f_law_spared a.d_law_spared ["_law_table_here","_law_one","_law_other"] (gX K a.ct [0,0,0] 0 wz):=by
 have wJ:=zn5 (P:=P) (w:=w) (base:=base) T
 refine jF (ms:=[.ow 0,.ow 0,.ow 0,.ow 0]) T.law_spared.fn Ql λ_ _ _ _ _ _ hr=>?_
 exact(zf (e7 Ql.nd (rA (cQ T.spare wJ hr (ze (za 0 0) (ze (za 1 0) (ze (za 2 0) zj))))))
  (zf (vk (yq (k:=0) tE jq (za 3 0) lW (bE _)) (zh (yc (XE.ow lW))) yp)
  (zh (yc (XE.ow (jR (za 3 0) cW))))))
def Ny:SF:=(sIf (tb (e2 (jL true) (λρ=>((aCons (eV 10) (aCons (eV 12) (aCons (eV 13) aNil))) ρ).bind λds=>wz (ds++[])) (λρ=>((aCons (eV 11) (aCons (eV 13) (aCons (eV 12) aNil))) ρ).bind λds=>wz (ds++[])))) (sRet (eC (.bl false))) sSkip)
def Nz:SF:=(sFor (λρ=>((aCons (eV 1) aNil) ρ).bind i8) (gV 13) Ny)
def Sf:EF:=(fI (lsD (eV 9)) 1 [9] (gV 0) gQ (e2 o4 (eN rN (aCons (eV 1) aNil)) (eV 0)))
def JF:SF:=(sSeq (sSet 9 (λρ=>((aCons (eV 2) (aCons (eV 8) (aCons (eV 1) (aCons (λρ=>((aCons (eV 0) (aCons (eC (.int 2)) aNil)) ρ).bind λds=>xp (ds++[])) aNil)))) ρ).bind λds=>jk (ds++[])))
  (sSeq (sSet 10 (λρ=>((aCons (eV 4) (aCons (eV 9) (aCons (eV 8) aNil))) ρ).bind λds=>vi (ds++[])))
  (sSeq (sSet 11 (λρ=>((aCons (eV 5) (aCons Sf (aCons (eV 8) aNil))) ρ).bind λds=>vi (ds++[])))
  (sSeq (sIf (bOr (tb (e2 (mH false) (eV 10) (eC .non))) (tb (e2 (mH false) (eV 11) (eC .non)))) (sRet (eB (bAnd (tb (e2 (mH false) (eV 10) (eC .non))) (tb (e2 (mH false) (eV 11) (eC .non)))))) sSkip)
  (sSeq (sFor (λρ=>((aCons (eV 1) aNil) ρ).bind i8) (gV 12) Nz)
  (sRet (eC (.bl true))))))))
def JG:SF:=(sSeq (sSet 8 (e2 e6 (λρ=>((aCons (eV 0) (aCons (eC (.int 1)) aNil)) ρ).bind λds=>xp (ds++[])) (eC (.int 41))))
  (sSeq (sIf (tb (e2 (jL false) (e2 e6 (e2 gw (λρ=>((aCons (eV 0) (aCons (eC (.int 1)) aNil)) ρ).bind λds=>xp (ds++[])) (eC (.int 41))) (eC (.int 3))) (eC (.int 1)))) (sSet 8 (e2 e6 (e2 gw (λρ=>((aCons (eV 0) (aCons (eC (.int 1)) aNil)) ρ).bind λds=>xp (ds++[])) (eC (.int 123))) (e2 fN (e2 sV (eC (.int 10)) (eC (.int 7))) (eC (.int 1))))) sSkip)
  JF))
def Sg:EF:=(fI (lsD (eV 2)) 4 [] (gT (gsCons (gV 0) (gsCons (gV 1) (gsCons (gV 2) (gsCons (gV 3) gsNil))))) gQ (λρ=>((aCons (eV 1) (aCons (eV 0) (aCons (eV 2) (aCons (eV 3) aNil)))) ρ).bind λds=>some (.tup ds)))
def Sh:EF:=(fI (lsD (λρ=>((eV 0) ρ).bind λd=>((pInt (eC (.int 4))) ρ).bind λl=>((pInt (eC (.int 20))) ρ).bind λh=>nc d l h)) 1 [1,0] (gV 0) gQ (λρ=>((aCons (eV 0) (aCons (eV 1) (aCons (e2 gw (λρ=>((aCons (eV 2) (aCons (eC (.int 0)) aNil)) ρ).bind λds=>xp (ds++[])) (eC (.int 8))) aNil))) ρ).bind λds=>wu (ds++[])))
def J3:List D->Option D:=mOf ["_law_script","_law_many","_law_arrows","_law_about","_law_net_here","_law_other_net","_law_found","_law_other","_law_beat","_law_tops","_law_table_here","_law_other_table","_law_one","_law_two"]
  (sSeq (sSet 1 (e2 fN (eC (.int 1)) (e2 e6 (λρ=>((aCons (eV 0) (aCons (eC (.int 0)) aNil)) ρ).bind λds=>xp (ds++[])) (eC (.int 8)))))
  (sSeq (sSet 2 Sh)
  (sSeq (sSet 3 Sg)
  (sSeq (sSet 4 (λρ=>((aCons (eV 2) (aCons (eV 1) aNil)) ρ).bind λds=>q0 (ds++[])))
  (sSeq (sSet 5 (λρ=>((aCons (eV 3) (aCons (eV 1) aNil)) ρ).bind λds=>q0 (ds++[])))
  (sSeq (sSet 6 (λρ=>((aCons (eV 4) aNil) ρ).bind λds=>vb (ds++[])))
  (sSeq (sSet 7 (λρ=>((aCons (eV 5) aNil) ρ).bind λds=>vb (ds++[])))
  (sSeq (sIf (bOr (tb (e2 (mH false) (eV 6) (eC .non))) (tb (e2 (mH false) (eV 7) (eC .non)))) (sIf (bOr (tb (e2 (mH true) (eV 6) (eC .non))) (tb (e2 (mH true) (eV 7) (eC .non)))) (sRet (eC (.bl false))) sSkip) (sIf (tb (e2 (jL true) (e2 eh (eV 6) (eC (.int 0))) (e2 eh (eV 7) (eC (.int 0))))) (sRet (eC (.bl false))) sSkip))
  JG))))))))
theorem zt2 (T:Txt K mg a):cv P w K mg base eO 8 a.f_law a.d_law ["_law_script"] (gX K a.ct [0] 0 J3):=by
 have eP:=Y3 (P:=P) (w:=w) (base:=base) T
 have pG:=Zu (P:=P) (w:=w) (base:=base) T
 have nX:=Z1 (P:=P) (w:=w) (base:=base) T
 have kl:=Y2 (P:=P) (w:=w) (base:=base) T
 have oE:=Zc (P:=P) (w:=w) (base:=base) T
 have lS:=Zv (P:=P) (w:=w) (base:=base) T
 have kT:=Zd (P:=P) (w:=w) (base:=base) T
 refine jF (ms:=[.ow 0,.ow 0,.ow 0,.ow 0,.ow 0,.ow 0,.ow 0,.ow 0,.ow 0,.ow 0,.ow 0,.ow 0,.ow 0,.ow 0]) T.law.fn jb λ_ _ _ _ _ _ hr=>?_
 exact(zf (e7 jb.nd (rA (oq cW (yo (k:=0) wf wg (XO.sh (n:=0) (cQ T.law_cell_at eP hr (ze (za 0 0) (ze cW zj)))) cW))))
  (zf (jr (k:=0) (N:=["_law_cell","_law_many","_law_script"]) (om:=[.ow 0]) (cap:=[1,0]) (own:=1) rfl jb.nd rfl (Or.inl rfl) (CB (by rfl)) rfl rfl (by decide) (uk (n:=0) (XO.sh (n:=0) (Ro (n:=0) (by decide) (za 0 0) (NH cW) (NH cW)))) (λ_ _ _ _ _=>(pZ (show cU (["_law_cell","_law_many","_law_script"]:List aK)from by decide +kernel))) (λ_ _ _ _ _=>uu) (λ_ _ _ _ _=>(cQ T.law_arrow pG hr (ze (za 0 0) (ze (za 1 0) (ze (yo (k:=0) vq vv (XO.sh (n:=0) (cQ T.law_cell_at eP hr (ze (za 2 0) (ze cW zj)))) cW) zj))))))
  (zf (jr (k:=0) (N:=["_law_start","_law_goal","_law_time","_law_behind"]) (om:=[.ow 0,.ow 0,.ow 0,.ow 0]) (cap:=[]) (own:=4) rfl jb.nd rfl (Or.inl rfl) (CB (by rfl)) rfl rfl (by decide) (uk (n:=0) (za 2 0)) (λ_ _ _ _ _=>(zqr (n:=0) rfl (Ji (pZ (show cU (["_law_start","_law_goal","_law_time","_law_behind"]:List aK)from by decide +kernel)) (Ji (pZ (show cU (["_law_start","_law_goal","_law_time","_law_behind"]:List aK)from by decide +kernel)) (Ji (pZ (show cU (["_law_start","_law_goal","_law_time","_law_behind"]:List aK)from by decide +kernel)) (Ji (pZ (show cU (["_law_start","_law_goal","_law_time","_law_behind"]:List aK)from by decide +kernel)) znd)))))) (λ_ _ _ _ _=>uu) (λ_ _ _ _ _=>(rA (zP (yt (XE.ow (za 1 0)) (yt (XE.ow (za 0 0)) (yt (XE.ow (za 2 0)) (yt (XE.ow (za 3 0)) v7))))))))
  (zf (e7 jb.nd (cQ T.law_net nX hr (ze (za 2 0) (ze (za 1 0) zj))))
  (zf (e7 jb.nd (cQ T.law_net nX hr (ze (za 3 0) (ze (za 1 0) zj))))
  (zf (e7 jb.nd (cQ T.least_round kl hr (ze (za 4 0) zj)))
  (zf (e7 jb.nd (cQ T.least_round kl hr (ze (za 5 0) zj)))
  (zf (vk (XW.t (t8 (yq (k:=0) tE jq (za 6 0) lW (bE _)) (wC (yq (k:=0) tE jq (za 7 0) lW (bE _))))) (zh (vk (XW.t (t8 (yq (k:=0) Nn M7 (za 6 0) lW (bE _)) (wC (yq (k:=0) Nn M7 (za 7 0) lW (bE _))))) (zh (yc (XE.ow (tD (n:=0))))) yp)) (zh (vk (yq (k:=0) (JU hr.u64) u0 (jR (za 6 0) cW) (jR (za 7 0) cW) (bE _)) (zh (yc (XE.ow (tD (n:=0))))) yp)))
  (zf (e7 jb.nd (XE.ow (yo (k:=0) wf wg (XO.sh (n:=0) (cQ T.law_cell_at eP hr (ze (za 0 0) (ze cW zj)))) cW)))
  (zf (vk (yq (k:=0) (qf hr.u64) u0 (yo (k:=0) wf wg (yo (k:=0) vq vv (XO.sh (n:=0) (cQ T.law_cell_at eP hr (ze (za 0 0) (ze cW zj)))) cW) cW) cW (bE _)) (zh (e7 jb.nd (XE.ow (yo (k:=0) wf wg (yo (k:=0) vq vv (XO.sh (n:=0) (cQ T.law_cell_at eP hr (ze (za 0 0) (ze cW zj)))) cW) (XO.sh (n:=0) (oq (yo (k:=0) NT NE cW cW) cW)))))) yp)
  (zf (e7 jb.nd (cQ T.law_pushed oE hr (ze (za 2 0) (ze (za 8 0) (ze (za 1 0) (ze (XO.sh (n:=0) (cQ T.law_cell_at eP hr (ze (za 0 0) (ze cW zj)))) zj))))))
  (zf (e7 jb.nd (cQ T.law_table lS hr (ze (za 4 0) (ze (za 9 0) (ze (za 8 0) zj)))))
  (zf (e7 jb.nd (cQ T.law_table lS hr (ze (za 5 0) (ze (XO.sh (n:=0) (yB (N:=["_law_top","_law_tops"]) (om:=[.ow 0]) (cap:=[9]) (own:=1) (uk (n:=0) (za 9 0)) (λ_ _ _ _ _=>(pZ (show cU (["_law_top","_law_tops"]:List aK)from by decide +kernel))) (λ_ _ _ _ _=>uu) (λ_ _ _ _ _=>(XE.ow (yo (k:=0) BS BO (u3 (k:=0) (Rb rfl) Sk rfl T.b_max NY (ze (za 1 0) zj)) (za 0 0)))))) (ze (za 8 0) zj)))))
  (zf (vk (XW.t (t8 (yq (k:=0) tE jq (za 10 0) lW (bE _)) (wC (yq (k:=0) tE jq (za 11 0) lW (bE _))))) (zh (yc (XE.ow (BU (qq (k:=0) tE jq (za 10 0) lW (bE _)) (zO (k:=0) (qq (k:=0) tE jq (za 11 0) lW (bE _))))))) yp)
  (zf (qj (uc (n:=0) T.b_range (ze (za 1 0) zj)) (nD jb.nd) (zh (qj (uc (n:=0) T.b_range (ze (za 1 0) zj)) (nD jb.nd) (zh (vk (yq (k:=0) (JU hr.u64) u0 (XO.sh (n:=0) (cQ T.law_spared kT hr (ze (za 10 0) (ze (za 12 0) (ze (za 13 0) zj))))) (XO.sh (n:=0) (cQ T.law_spared kT hr (ze (za 11 0) (ze (za 13 0) (ze (za 12 0) zj))))) (bE _)) (zh (yc (XE.ow (tD (n:=0))))) yp)) bV.never rfl)) bV.never rfl)
  (zh (yc (XE.ow (tD (n:=0))))))))))))))))))))
end
local macro_rules| `(tactic|walk_at "mir")=>`(tactic|simp -implicitDefEqProofs [mOf,startD,sSeq,sIf,sSet,sRet,sRetN,sDrop,sPar,sAsg,sApp,sFor,lsD,zk8,sSkip,eV,eC,e1,e2,eN,aNil,aCons,pNo,pInt,zad,tb,zo3,bNot,bAnd,bOr,eB,eIf,gV,gT,gsCons,gsNil,zh8,zh9,zk4,zk5,zeh,zk6,jh,zib,zia,zic,zk7,zo2,D.isN,D.isB,zei,zo4,zfu,jz,zan,zdl,zh6,zh7,zeg,zad,zfv,zfw,sFz,zig,zih, *])
local macro_rules| `(tactic|walk_at "mix")=>`(tactic|simp -implicitDefEqProofs [mOfX,sSeqX,sDropX,sForX,sIfX,sRaise,sTry,thD,hitL,isiX,fldX,xOf,sRetX,sSetX,mOf,startD,sSeq,sIf,sSet,sRet,sRetN,sDrop,sPar,sAsg,sApp,sFor,lsD,zk8,sSkip,eV,eC,e1,e2,eN,aNil,aCons,pNo,pInt,zad,tb,zo3,bNot,bAnd,bOr,eB,eIf,gV,gT,gsCons,gsNil,zh8,zh9,zk4,zk5,zeh,zk6,jh,zib,zia,zic,zk7,zo2,D.isN,D.isB,zei,zo4,zfu,jz,zan,zdl,zh6,zh7,zeg,zad,zfv,zfw,sFz,zig,zih, *])
def cO (n:Nat)(f:Nat->Int):List D:=(ba n).map λg=>D.int (f g)
theorem zrl (n:Nat)(f:Nat->Int):(cO n f).length=n:=by simp[cO]
theorem xZ {n:Nat}(f:Nat->Int){g:Nat}(h:g<n):atI (cO n f) (g:Int)=some (.int (f g)):=by
 refine qo ?_
 simp[cO,h]
theorem NA {n:Nat}(f:Nat->Int){g:Nat}(h:g<n)(v:Int):m9 (cO n f) (g:Int) (.int v)=some (cO n λx=>if x=g then v else f x):=by
 unfold m9
 have hx:ixN (cO n f).length (g:Int)=some g:=by
  unfold ixN
  rw[zrl]
  rw[if_pos (by omega),if_pos (by omega)]
  simp
 rw[hx]
 simp only[ck,Option.some.injEq]
 apply t9
 ·simp[cO]
 ·intro i h1 h2
  simp[cO,uA]
  by_cases hi:g=i
  ·subst hi;simp
  ·rw[if_neg hi,if_neg (λz=>hi z.symm)]
theorem Si {i:Nat}{fj f:EF}{gi:Int->Int->Int}{ρ:L3.Env}{n g:Nat}{w:Nat->Int}{y:Int}(h1:(ρ[i]?).join=some (.lst (cO n w)))(h2:fj ρ=some (.int (g:Int)))(h3:f ρ=some (.int y))(hg:g<n) :
  pX i fj gi f ρ=some (.nx (ρ.set i (some (.lst (cO n λx=>if x=g then gi (w g) y else w x))))):=by
 unfold pX
 have:eV i ρ=some (.lst (cO n w)):=h1
 rw[this,h2,h3]
 simp only[ck,xZ w hg,NA w hg]
def aW (p:List Nat):List D:=p.map λ(x:Nat)=>D.int (x:Int)
theorem N4 {f:EF}{r:L3.Env}{n:Nat}(h:f r=some (.int (n:Int)))(hn:n<=1000000):((aCons f aNil) r).bind i8=some ((ba n).map λ(t:Nat)=>D.int (t:Int)):=by
 have e:(aCons f aNil) r=some [.int (n:Int)]:=by unfold aCons;rw[h];rfl
 rw[e,ck,Co (by omega) (by omega)]
 unfold fR
 simp
theorem NL {α:Type}{fi:L3.Env->Option (List D)}{own:Nat}{cap:List Nat}{g:D->L3.Env->Option L3.Env}{p:BF}{f:EF}{r:L3.Env}(enc:α->D)(q:α->Bool)(h:α->D)(xs:List α)(hi:fi r=some (xs.map enc))(hl:xs.length<=16777216)
  (st:∀x∈xs,∃ρ1,g (enc x) (ax own none++gH r cap)=some ρ1/\p ρ1=some (q x)/\(q x=true->f ρ1=some (h x))):fI fi own cap g p f r=some (.lst ((xs.filter q).map h)):=by
 unfold fI
 rw[hi]
 simp only[ck,aq]
 rw[if_pos hl,Ra enc q h xs st]
 rfl
theorem Sj {n i:Nat}(h:i<n):ixN n (i:Int)=some i:=by
 unfold ixN
 rw[if_pos (by omega),if_pos (by omega)]
 simp
theorem u7 {α:Type}{fi:L3.Env->Option (List D)}{own:Nat}{cap:List Nat}{g:D->L3.Env->Option L3.Env}{f:EF}{r:L3.Env}(enc:α->D)(h:α->D)(xs:List α)(hi:fi r=some (xs.map enc))(hl:xs.length<=16777216)
  (st:∀x∈xs,∃ρ1,g (enc x) (ax own none++gH r cap)=some ρ1/\f ρ1=some (h x)):fI fi own cap g gQ f r=some (.lst (xs.map h)):=by
 have:=NL (p:=gQ) enc (λ_=>true) h xs hi hl λx hx=>by
  obtain⟨ρ1,h1,h2⟩:=st x hx
  exact⟨ρ1,h1,rfl,λ_=>h2⟩
 rw[this,List.filter_eq_self.mpr λ_ _=>rfl]
inductive Kd where
 |ride|wait|back
deriving DecidableEq
structure cK where
 c:Kd
 s:Nat
 g:Nat
 t:Int
 b:Nat
deriving DecidableEq
namespace Kahn
def cnt (W:List cK)(P:List Nat)(g:Nat):Nat:=W.countP λa=>decide (a.g=g/\a.s∉P)
structure Ok (W:List cK)(many:Nat)(p:List Nat):Prop where
 nd:p.Nodup
 lt:∀x∈p,x<many
 ord:∀(i x:Nat),p[i]?=some x->∀a∈W,a.g=x->a.s∈p.take i
theorem Ok.snoc {W:List cK}{many:Nat}{p:List Nat}{x:Nat}(h:Ok W many p)(hx:x∉p)(hl:x<many)(ho:∀a∈W,a.g=x->a.s∈p):Ok W many (p++[x]) where
 nd:=by
  rw[br]
  exact⟨h.nd,by simp,λa ha b hb e=>by simp at hb;subst hb;subst e;exact hx ha⟩
 lt:=λy hy=>by
  rcases aZ.mp hy with hy|hy
  ·exact h.lt y hy
  ·simp at hy;subst hy;exact hl
 ord:=λi y hy a ha e=>by
  by_cases hi:i<p.length
  ·rw[dZ hi]at hy
   rw[mz (by omega)]
   exact h.ord i y hy a ha e
  ·rw[iu (by omega)]at hy
   have LX:i-p.length=0:=by
    cases hq:i-p.length with
    |zero=>rfl
    |succ k=>rw[hq]at hy;simp at hy
   rw[LX]at hy
   simp at hy
   subst hy
   have:i=p.length:=by omega
   rw[this,List.take_left']
   ·exact ho a ha e
   ·rfl
def stp (here:Nat)(S:(Nat->Int)×List Nat)(a:cK):(Nat->Int)×List Nat :=
 if a.s=here then
  let f':Nat->Int:=λx=>if x=a.g then S.1 a.g-1 else S.1 x
  (f',if f' a.g=0 then S.2++[a.g]else S.2)
 else S
structure In (W:List cK)(many:Nat)(P:List Nat)(here:Nat)(pre:List cK)(S:(Nat->Int)×List Nat):Prop where
 ok:Ok W many S.2
 f:∀g,S.1 g=(cnt W P g:Int)-(pre.countP λa=>decide (a.g=g/\a.s=here):Nat)
 z:∀g,g<many->(g∈S.2↔S.1 g=0)
 sub:∀x,(x∈P\/x=here)->x∈S.2
theorem zt3 {W pre post:List cK}{P:List Nat}{here:Nat}{a:cK}(e:W=pre++a::post)(hP:here∉P)(ha:a.s=here):(pre.countP λx=>decide (x.g=a.g/\x.s=here))+1<=cnt W P a.g:=by
 unfold cnt
 rw[e,ir,eu]
 have h1:(pre.countP λx=>decide (x.g=a.g/\x.s=here))<=pre.countP λx=>decide (x.g=a.g/\x.s∉P):=by
  apply jM
  intro x _ hx
  simp at hx ⊢
  exact⟨hx.1,by rw[hx.2];exact hP⟩
 have h2:(decide (a.g=a.g/\a.s∉P))=true:=by simp[ha,hP]
 rw[h2]
 simp only[if_true]
 omega
theorem In.step {W pre post:List cK}{many:Nat}{P:List Nat}{here:Nat}{a:cK}{S:(Nat->Int)×List Nat}(h:In W many P here pre S)(e:W=pre++a::post)(hP:here∉P)(hl:a.g<many):In W many P here (pre++[a]) (stp here S a):=by
 by_cases ha:a.s=here
 ·have VB:=zt3 e hP ha
  have hf:∀g,(if g=a.g then S.1 a.g-1 else S.1 g)=(cnt W P g:Int)-((pre++[a]).countP λx=>decide (x.g=g/\x.s=here):Nat):=λg=>by
   rw[ir,p4]
   by_cases hg:g=a.g
   ·subst hg
    rw[if_pos rfl,h.f]
    have:decide (a.g=a.g/\a.s=here)=true:=by simp[ha]
    rw[this]
    simp only[if_true]
    omega
   ·rw[if_neg hg,h.f]
    have:decide (a.g=g/\a.s=here)=false:=by simp;intro z;exact absurd z.symm hg
    rw[this]
    simp
  have kD:S.1 a.g≠0:=by rw[h.f];omega
  have sS:a.g∉S.2:=λz=>kD ((h.z a.g hl).mp z)
  by_cases h0:S.1 a.g-1=0
  ·have es:stp here S a=(λx=>if x=a.g then S.1 a.g-1 else S.1 x,S.2++[a.g]):=by unfold stp;simp[ha,h0]
   rw[es]
   refine⟨h.ok.snoc sS hl λb hb eb=>?_,hf,λg hg=>?_,λx hx=>bq _ (h.sub x hx)⟩
   ·
    refine h.sub _ (Classical.byContradiction λhc=>?_)
    have LF:b.s∉P:=λz=>hc (.inl z)
    have yO:b.s≠here:=λz=>hc (.inr z)
    have h1:cnt W P a.g=(pre.countP λx=>decide (x.g=a.g/\x.s=here))+1:=by
     have:=h.f a.g
     omega
    have h2:(W.countP λx=>decide (x.g=a.g/\x.s=here))+(W.countP λx=>decide (x.g=a.g/\x.s∉P/\x.s≠here))<=cnt W P a.g:=by
     have:cnt W P a.g=(W.countP λx=>decide (x.g=a.g/\x.s=here))+(W.countP λx=>decide (x.g=a.g/\x.s∉P/\x.s≠here)):=by
      unfold cnt
      clear h1 hc LF yO eb hb h0 hf VB e h
      induction W with
      |nil=>rfl
      |cons x W ih=>
       simp only[eu]
       rw[ih]
       by_cases q1:x.g=a.g<;>by_cases q2:x.s=here<;>by_cases q3:x.s∈P<;>simp_all<;>omega
     omega
    have h3:(pre.countP λx=>decide (x.g=a.g/\x.s=here))+1<=W.countP λx=>decide (x.g=a.g/\x.s=here):=by
     rw[e,ir,eu]
     have:decide (a.g=a.g/\a.s=here)=true:=by simp[ha]
     rw[this]
     simp only[if_true]
     omega
    have h4:0<W.countP λx=>decide (x.g=a.g/\x.s∉P/\x.s≠here):=by
     rw[List.countP_pos_iff]
     exact⟨b,hb,by simp[eb,LF,yO]⟩
    omega
   ·rw[aZ,aB]
    by_cases pz:g=a.g
    ·subst pz;simp[h0]
    ·dsimp only;rw[if_neg pz,h.z g hg];simp[pz]
  ·have es:stp here S a=(λx=>if x=a.g then S.1 a.g-1 else S.1 x,S.2):=by unfold stp;simp[ha,h0]
   rw[es]
   refine⟨h.ok,hf,λg hg=>?_,h.sub⟩
   by_cases pz:g=a.g
   ·subst pz
    dsimp only
    rw[if_pos rfl]
    exact⟨λz=>absurd z sS,λz=>absurd z h0⟩
   ·dsimp only;rw[if_neg pz];exact h.z g hg
 ·have:stp here S a=S:=by unfold stp;rw[if_neg ha]
  rw[this]
  refine⟨h.ok,λg=>?_,h.z,h.sub⟩
  rw[ir,p4]
  have:decide (a.g=g/\a.s=here)=false:=by simp[ha]
  rw[this,h.f]
  simp
theorem In.fold {W:List cK}{many:Nat}{P:List Nat}{here:Nat}(hP:here∉P)(hl:∀a∈W,a.g<many):∀(post pre:List cK) (S:(Nat->Int)×List Nat),W=pre++post->In W many P here pre S->In W many P here W (post.foldl (stp here) S)
 |[],pre,S,e,h=>by rw[e] ;simpa using(by rw[bO]at e;subst e;exact h)
 |a::post,pre,S,e,h=>by
  have:=In.fold hP hl post (pre++[a]) (stp here S a) (by rw[e];simp) (h.step e hP (hl a (by rw[e];simp)))
  exact this
theorem zn7 {W:List cK}{P:List Nat}{here g:Nat}(hP:here∉P):(cnt W P g:Int)-(W.countP λa=>decide (a.g=g/\a.s=here):Nat)=cnt W (P++[here]) g:=by
 have:cnt W P g=(W.countP λa=>decide (a.g=g/\a.s=here))+cnt W (P++[here]) g:=by
  unfold cnt
  induction W with
  |nil=>rfl
  |cons x W ih=>
   simp only[eu]
   rw[ih]
   by_cases q1:x.g=g<;>by_cases q2:x.s=here<;>by_cases q3:x.s∈P<;>simp_all<;>omega
 omega
structure Wh (W:List cK)(many:Nat)(f:Nat->Int)(p:List Nat)(d:Nat):Prop where
 ok:Ok W many p
 dl:d<=p.length
 fe:∀g,f g=cnt W (p.take d) g
 z:∀g,g<many->(g∈p↔f g=0)
theorem Wh.step {W:List cK}{many:Nat}{f:Nat->Int}{p:List Nat}{d here:Nat}(h:Wh W many f p d)(hl:∀a∈W,a.g<many)(hh:p[d]?=some here) :
  Wh W many (W.foldl (stp here) (f,p)).1 (W.foldl (stp here) (f,p)).2 (d+1)/\∃q,(W.foldl (stp here) (f,p)).2=p++q:=by
 have hd:d<p.length:=(bg.mp hh).1
 have hP:here∉p.take d:=λz=>by
  obtain⟨i,hi,e⟩:=fC.mp z
  have LX:i<d:=by rw[fJ]at hi;omega
  rw[tK]at e
  have e2:p[d]=here:=by have:=bg.mp hh;exact this.2
  have:=(lZ (xs:=p) (h₀:=by omega) (h₁:=hd) h.ok.nd).mp (e.trans e2.symm)
  omega
 have LR:∀(l:List cK) (S:(Nat->Int)×List Nat),∃q,(l.foldl (stp here) S).2=S.2++q:=by
  intro l
  induction l with
  |nil=>exactλS=>⟨[],by simp⟩
  |cons a l ih=>
   intro S
   obtain⟨q,hq⟩:=ih (stp here S a)
   have:∃r,(stp here S a).2=S.2++r:=by
    by_cases ha:a.s=here
    ·by_cases h0:S.1 a.g-1=0
     ·exact⟨[a.g],by unfold stp;simp[ha,h0]⟩
     ·exact⟨[],by unfold stp;simp[ha,h0]⟩
    ·exact⟨[],by unfold stp;simp[ha]⟩
   obtain⟨r,hr⟩:=this
   exact⟨r++q,by rw[mQ,hq,hr,ed]⟩
 obtain⟨q,hq⟩:=LR W (f,p)
 have I:=In.fold hP hl W [] (f,p) rfl ⟨h.ok,λg=>by show f g=_;rw[h.fe];simp,h.z,λx hx=>by
  rcases hx with hx|rfl
  ·exact qU hx
  ·exact cN.mpr ⟨d,hh⟩⟩
 have Fw:(W.foldl (stp here) (f,p)).2.take (d+1)=p.take d++[here]:=by
  rw[hq]
  show(p++q).take (d+1)=_
  rw[mz (by omega),List.take_succ,hh]
  rfl
 refine⟨⟨I.ok,?_,λg=>?_,I.z⟩,q,hq⟩
 ·rw[hq]
  show d+1<=(p++q).length
  rw[aX];omega
 ·rw[I.f,Fw]
  exact zn7 hP
theorem cnt_zero {W:List cK}{P:List Nat}{g:Nat}:cnt W P g=0↔∀a∈W,a.g=g->a.s∈P:=by
 unfold cnt
 rw[List.countP_eq_zero]
 constructor
 ·intro h a ha e
  have:=h a ha
  simp at this
  exact Classical.byContradiction λz=>z (this e)
 ·intro h a ha
  simp
  exact h a ha
theorem Wh.all {W:List cK}{many:Nat}{f:Nat->Int}{p:List Nat}(h:Wh W many f p p.length)(rank:Nat->Nat)(hr:∀a∈W,rank a.s<rank a.g)(hs:∀a∈W,a.s<many):∀g,g<many->g∈p:=by
 have:∀n g,rank g<n->g<many->g∈p:=by
  intro n
  induction n with
  |zero=>intro g h;omega
  |succ n ih=>
   intro g hg hl
   rw[h.z g hl,h.fe,List.take_length]
   have:cnt W p g=0:=cnt_zero.mpr λa ha e=>ih a.s (by have:=hr a ha;rw[e]at this;omega) (hs a ha)
   rw[this];rfl
 exactλg hl=>this (rank g+1) g (by omega) hl
theorem len_of {many:Nat}{p:List Nat}(nd:p.Nodup)(lt:∀x∈p,x<many)(all:∀g,g<many->g∈p):p.length=many:=by
 have h1:p.Perm (ba many):=by
  rw[nE nd iZ]
  intro a
  rw[bU]
  exact⟨lt a,all a⟩
 simpa using h1.length_eq
theorem len_le {many:Nat}{p:List Nat}(nd:p.Nodup)(lt:∀x∈p,x<many):p.length<=many:=by
 have h1:(p++(ba many).filter λx=>decide (x∉p)).Perm (ba many):=by
  rw[nE (by
   rw[br]
   refine⟨nd,iZ.filter _,λa ha b hb e=>?_⟩
   subst e
   simp at hb
   exact hb.2 ha) iZ]
  intro a
  rw[aZ,dN,bU]
  constructor
  ·rintro(h|h)
   ·exact lt a h
   ·exact h.1
  ·intro h
   by_cases ha:a∈p
   ·exact .inl ha
   ·exact .inr ⟨h,by simpa using ha⟩
 have:=h1.length_eq
 rw[aX,bF]at this
 omega
end Kahn
def Kd.n:Kd->Nat
 |.ride=>1|.wait=>2|.back=>3
def bv (a:cK):D:=.obj a.c.n ["start","goal","time","behind"] [.int a.s,.int a.g,.int a.t,.int a.b]
theorem fs (a:cK):cn [0,1,2,3] "start" (bv a)=some (.int a.s):=by obtain⟨c,_,_,_,_⟩:=a;cases c<;>rfl
theorem fg (a:cK):cn [0,1,2,3] "goal" (bv a)=some (.int a.g):=by obtain⟨c,_,_,_,_⟩:=a;cases c<;>rfl
theorem ft (a:cK):cn [0,1,2,3] "time" (bv a)=some (.int a.t):=by obtain⟨c,_,_,_,_⟩:=a;cases c<;>rfl
theorem fb (a:cK):cn [0,1,2,3] "behind" (bv a)=some (.int a.b):=by obtain⟨c,_,_,_,_⟩:=a;cases c<;>rfl
structure Right (many:Nat)(a:cK):Prop where
 s:a.s<many
 g:a.g<many
 t0:0<=a.t
 t1:a.t<=1000000000
 b:a.b<=4
 r:a.c=.ride->a.b=0
 k:a.c=.back->1<=a.b
theorem Cr {n l m:Int}(h1:l<=n)(h2:n<=m):ym [.int n,.int l,.int m]=some (.bl true):=by
 unfold ym
 have q1 (i:Int):rJ "int" (.int i)=some (.bl true):=rfl
 have q2 (i:Int):rJ "bool" (.int i)=some (.bl false):=rfl
 walk_at "mir"
theorem isA (all sub:List Nat)(a:cK):uP all sub (bv a)=if all.contains a.c.n=true then some (.bl (sub.contains a.c.n))else none:=rfl
theorem zrm {many:Nat}{a:cK}(h:Right many a):Jm [bv a,.int (many:Int)]=some (.bl true):=by
 have w1:ym [.int (a.s:Int),.int 0,.int ((many:Int)-1)]=some (.bl true):=Cr (by omega) (by have:=h.s;omega)
 have w2:ym [.int (a.g:Int),.int 0,.int ((many:Int)-1)]=some (.bl true):=Cr (by omega) (by have:=h.g;omega)
 have w3:ym [.int a.t,.int 0,.int 1000000000]=some (.bl true):=Cr h.t0 h.t1
 have f1:=fs a
 have f2:=fg a
 have f3:=ft a
 have f4:=fb a
 have hi:=λall sub=>isA all sub a
 have hb:=h.b
 have hr:=h.r
 have hk:=h.k
 clear h
 unfold Jm
 cases hc:a.c with
 |ride=>
  have w4:ym [.int (a.b:Int),.int 0,.int 0]=some (.bl true):=Cr (by omega) (by have:=hr hc;omega)
  rw[hc]at hi
  clear hr hk hb
  have hn:Kd.ride.n=1:=rfl
  walk_at "mir"
 |wait=>
  have w4:ym [.int (a.b:Int),.int 0,.int 4]=some (.bl true):=Cr (by omega) (by omega)
  rw[hc]at hi
  clear hr hk hb
  have hn:Kd.wait.n=2:=rfl
  walk_at "mir"
 |back=>
  have w4:ym [.int (a.b:Int),.int 1,.int 4]=some (.bl true):=Cr (by have:=hk hc;omega) (by omega)
  rw[hc]at hi
  clear hr hk hb
  have hn:Kd.back.n=3:=rfl
  walk_at "mir"
def W0 (as:List cK):List cK:=as.filter λa=>decide (a.b=0)
theorem Y4 (as:List cK)(l:as.length<=16777216)(r:L3.Env)(h:r[1]?.join=some (.lst (as.map bv))) :
  ju r=some (.lst ((W0 as).map bv)):=by
 have e:lsD (eV 1) r=some (as.map bv):=by unfold lsD;have:eV 1 r=some (.lst (as.map bv)):=h;rw[this];rfl
 refine NL bv (λa=>decide (a.b=0)) bv as e l λa _=>⟨_,rfl,?_,λ_=>rfl⟩
 have:=fb a
 walk_at "mir"
def DA (s:(Nat->Int)×Option D)(a:cK):(Nat->Int)×Option D:=(λx=>if x=a.g then s.1 a.g+1 else s.1 x,some (bv a))
theorem RL:∀(W:List cK) (s:(Nat->Int)×Option D) (g:Nat),(W.foldl DA s).1 g=s.1 g+(W.countP λa=>decide (a.g=g):Nat)
 |[],s,g=>by simp
 |a::W,s,g=>by
  rw[mQ,RL W,eu]
  by_cases hg:g=a.g
  ·subst hg;simp[DA];omega
  ·have:decide (a.g=g)=false:=by simp;exactλz=>hg z.symm
   simp[DA,hg,this]
theorem RM (p:List Nat)(x:Nat):aW p++[D.int (x:Int)]=aW (p++[x]):=by simp[aW]
theorem zrn {many:Nat}{as:List cK}{f:Nat->Int}{p:List Nat}{here d:Nat}{x4:Option D}(hm:many<=1000)(hW:∀a∈W0 as,a.s<many/\a.g<many)(h:Kahn.Wh (W0 as) many f p d)(hh:p[d]?=some here) :
  ∃x,iy (gV 4) wx ((W0 as).map bv) [some (.int (many:Int)),some (.lst (as.map bv)),some (.lst ((W0 as).map bv)),some (.lst (cO many f)),x4,some (.lst (aW p)),some (.int (d:Int)),some (.int (here:Int))] =
   some (.nx [some (.int (many:Int)),some (.lst (as.map bv)),some (.lst ((W0 as).map bv)),some (.lst (cO many ((W0 as).foldl (Kahn.stp here) (f,p)).1)),x,some (.lst (aW ((W0 as).foldl (Kahn.stp here) (f,p)).2)),some (.int (d:Int)),some (.int (here:Int))]):=by
 have hd:d<p.length:=(bg.mp hh).1
 have hP:here∉p.take d:=λz=>by
  obtain⟨i,hi,e⟩:=fC.mp z
  have LX:i<d:=by rw[fJ]at hi;omega
  rw[tK]at e
  have e2:p[d]=here:=(bg.mp hh).2
  have:=(lZ (xs:=p) (h₀:=by omega) (h₁:=hd) h.ok.nd).mp (e.trans e2.symm)
  omega
 obtain⟨ρ',h1,x,pre,e1,e2⟩:=Nr (g:=gV 4) (b:=wx) (ds:=(W0 as).map bv) (ρ:=[some (.int (many:Int)),some (.lst (as.map bv)),some (.lst ((W0 as).map bv)),some (.lst (cO many f)),x4,some (.lst (aW p)),some (.int (d:Int)),some (.int (here:Int))])
  (λds ρ=>∃x pre,ds=pre.map bv/\(∃post,W0 as=pre++post)/\Kahn.In (W0 as) many (p.take d) here pre (pre.foldl (Kahn.stp here) (f,p))/\ρ=[some (.int (many:Int)),some (.lst (as.map bv)),some (.lst ((W0 as).map bv)),some (.lst (cO many (pre.foldl (Kahn.stp here) (f,p)).1)),x,some (.lst (aW (pre.foldl (Kahn.stp here) (f,p)).2)),some (.int (d:Int)),some (.int (here:Int))])
  ⟨x4,[],rfl,⟨_,rfl⟩,⟨h.ok,λg=>by show f g=_;rw[h.fe];simp,h.z,λx hx=>by
   rcases hx with hx|rfl
   ·exact qU hx
   ·exact cN.mpr ⟨d,hh⟩⟩,rfl⟩ (by
  rintro ds dd post ρ e ⟨x,pre,rfl,⟨uY,e'⟩,I,rfl⟩
  rw[e',d8]at e
  have e3:=List.append_cancel_left e
  cases uY with
  |nil=>cases e3
  |cons a uY=>
   rw[aV]at e3
   cases e3
   have ha:a∈W0 as:=by rw[e'];simp
   have hl:=Kahn.len_le I.ok.nd I.ok.lt
   have I2:=I.step e' hP (hW a ha).2
   refine⟨_,_,rfl,.inl ?_,some (bv a),pre++[a],by simp,⟨uY,by rw[e'];simp⟩,by rw[tH];exact I2,rfl⟩
   rw[tH]
   generalize pre.foldl (Kahn.stp here) (f,p)=S at hl
   show wx _=some (.nx [_,_,_,some (.lst (cO many (Kahn.stp here S a).1)),_,some (.lst (aW (Kahn.stp here S a).2)),_,_])
   have f1:=fs a
   have f2:=fg a
   have gC:(aW S.2).length<16777216:=by simp[aW];omega
   unfold wx
   by_cases hs:a.s=here
   ·have IL:((a.s:Nat):Int)=(here:Int):=by rw[hs]
    have au:=Si (i:=3) (fj:=e1 (cn [0,1,2,3] "goal") (eV 4)) (f:=eC (.int 1)) (gi:=λi j=>i-j) (ρ:=[some (.int (many:Int)),some (.lst (as.map bv)),some (.lst ((W0 as).map bv)),some (.lst (cO many S.1)),some (bv a),some (.lst (aW S.2)),some (.int (d:Int)),some (.int (here:Int))]) (n:=many) (g:=a.g) (w:=S.1) (y:=1) rfl (by walk_at "mir") rfl (hW a ha).2
    have va:eh (.lst (cO many λx=>if x=a.g then S.1 a.g-1 else S.1 x)) (.int (a.g:Int))=some (.int (S.1 a.g-1)):=by
     have:=xZ (λx=>if x=a.g then S.1 a.g-1 else S.1 x) (hW a ha).2
     rw[if_pos rfl]at this
     exact this
    by_cases h0:S.1 a.g-1=0
    ·have es:Kahn.stp here S a=(λx=>if x=a.g then S.1 a.g-1 else S.1 x,S.2++[a.g]):=by unfold Kahn.stp;simp[hs,h0]
     rw[es,←RM]
     rw[h0]at va
     clear I I2 e' es
     walk_at "mir"
    ·have es:Kahn.stp here S a=(λx=>if x=a.g then S.1 a.g-1 else S.1 x,S.2):=by unfold Kahn.stp;simp[hs,h0]
     rw[es]
     clear I I2 e' es
     walk_at "mir"
   ·have es:Kahn.stp here S a=S:=by unfold Kahn.stp;rw[if_neg hs]
    rw[es]
    have IL:¬((a.s:Nat):Int)=(here:Int):=by omega
    clear I I2 e' es
    walk_at "mir")
 obtain⟨⟨post,e2⟩,I,rfl⟩:=e2
 have:pre=W0 as:=by
  have:=congrArg qT e1
  rw[aq,aq]at this
  rw[e2,aX]at this
  have hp:post=[]:=my (by omega)
  rw[e2,hp,bO]
 rw[this]at h1
 exact⟨x,h1⟩
theorem zn8 {many:Nat}(as:List cK)(l:as.length<=1000)(hm:many<=1000)(hs:∀a∈as,a.s<many/\a.g<many) :
  ∃(f:Nat->Int) (p:List Nat),ve [.int (many:Int),.lst (as.map bv)]=some (.lst (aW p))/\Kahn.Wh (W0 as) many f p p.length:=by
 have hW:∀a∈W0 as,a.s<many/\a.g<many:=λa ha=>hs a (dN.mp ha).1
 obtain⟨c1,_⟩:=Q8 (g:=gV 4) (b:=ui) bv (λs:(Nat->Int)×Option D=>[some (.int (many:Int)),some (.lst (as.map bv)),some (.lst ((W0 as).map bv)),some (.lst (cO many s.1)),s.2,none,none,none])
  DA (λ_=>True) (W0 as) (λ_=>0,none) trivial (λs a ha _=>by
   refine⟨_,rfl,.inl ?_,trivial⟩
   unfold ui
   have f2:=fg a
   rw[Si (n:=many) (g:=a.g) (w:=s.1) (y:=1) rfl (by walk_at "mir") rfl (hW a ha).2]
   rfl)
 have c2:=RL (W0 as) (λ_=>0,none)
 generalize Vn:(W0 as).foldl DA (λ_=>0,none)=S0 at c1 c2
 obtain⟨f0,y4⟩:=S0
 dsimp only at c1 c2
 have VM:∀r:L3.Env,r[0]?.join=some (.int (many:Int))->r[3]?.join=some (.lst (cO many f0))->jt r=some (.lst (aW ((ba many).filter λg=>decide (f0 g=0)))):=by
  intro r h0 h3
  refine NL (λ(t:Nat)=>D.int (t:Int)) (λg=>decide (f0 g=0)) (λ(t:Nat)=>D.int (t:Int)) (ba many) (N4 h0 (by omega)) (by rw[bF];omega) ?_
  ·intro g hg
   refine⟨_,rfl,?_,λ_=>rfl⟩
   have hg:g<many:=bU.mp hg
   have hv:eh (.lst (cO many f0)) (.int (g:Int))=some (.int (f0 g)):=xZ f0 hg
   have hc:gH r [3]=[some (.lst (cO many f0))]:=by unfold gH;simp[h3]
   rw[hc]
   walk_at "mir"
 generalize hq:((ba many).filter λg=>decide (f0 g=0))=p0 at VM
 have w0:Kahn.Wh (W0 as) many f0 p0 0:=by
  have hf:∀g,f0 g=Kahn.cnt (W0 as) [] g:=λg=>by
   rw[c2 g]
   unfold Kahn.cnt
   simp
  refine⟨⟨by rw[←hq];exact iZ.filter _,λx hx=>by rw[←hq,dN,bU]at hx;exact hx.1,λi x hx a ha e=>?_⟩,by omega,hf,λg hg=>by rw[←hq,dN,bU];simp[hg]⟩
  have yY:x∈p0:=cN.mpr ⟨i,hx⟩
  rw[←hq,dN]at yY
  have h0:f0 x=0:=by simpa using yY.2
  rw[hf]at h0
  have:=Kahn.cnt_zero.mp (by exact_mod_cast h0) a ha e
  cases this
 obtain⟨ρ',h1,⟨f,p,d,x4,x7,rfl,wh⟩,h3⟩:=QH (c:=tb (e2 rK (eV 6) (eN eU (aCons (eV 5) aNil)))) (b:=uh)
  (λρ=>∃f p d x4 x7,ρ=[some (.int (many:Int)),some (.lst (as.map bv)),some (.lst ((W0 as).map bv)),some (.lst (cO many f)),x4,some (.lst (aW p)),some (.int ((d:Nat):Int)),x7]/\Kahn.Wh (W0 as) many f p d)
  (λρ:L3.Env=>match ρ[6]? with|some (some (D.int i))=>(1001-i).toNat|_=>0) (by
   rintro ρ ⟨f,p,d,x4,x7,rfl,wh⟩
   have hl:(aW p).length=p.length:=by simp[aW]
   refine⟨decide ((d:Int)<(p.length:Int)),by walk_at "mir",λht=>?_⟩
   have hd:d<p.length:=by simpa using ht
   have hh:p[d]?=some p[d]:=by simp[hd]
   obtain⟨x,IE⟩:=zrn (x4:=x4) hm hW wh hh
   obtain⟨HI,q,_⟩:=wh.step (λa ha=>(hW a ha).2) hh
   have se:=Kahn.len_le HI.ok.nd HI.ok.lt
   have hdl:=HI.dl
   refine⟨_,.inl ?_,⟨_,_,d+1,x,some (.int (p[d]:Int)),rfl,HI⟩,?_⟩
   ·have hix:eh (.lst (aW p)) (.int (d:Int))=some (.int (p[d]:Int)):=qo (by simp[aW,hd])
    have hau:i2 (λi j=>D.int (i+j)) (.int (d:Int)) (.int 1)=some (.int ((d+1:Nat):Int)):=by simp[i2]
    unfold uh BB
    clear wh HI se hdl
    walk_at "mir"
   ·show(1001-((d+1:Nat):Int)).toNat<(1001-(d:Int)).toNat
    omega) kA [some (.int (many:Int)),some (.lst (as.map bv)),some (.lst ((W0 as).map bv)),some (.lst (cO many f0)),y4,some (.lst (aW p0)),some (.int ((0:Nat):Int)),none] ⟨f0,p0,0,y4,none,rfl,w0⟩ (by
   show(1001-((0:Nat):Int)).toNat<kA
   have:(1001:Nat)<kA:=JL (by decide)
   omega)
 have hd:d=p.length:=by
  have hl:(aW p).length=p.length:=by simp[aW]
  have h4:(tb (e2 rK (eV 6) (eN eU (aCons (eV 5) aNil)))) [some (.int (many:Int)),some (.lst (as.map bv)),some (.lst ((W0 as).map bv)),some (.lst (cO many f)),x4,some (.lst (aW p)),some (.int (d:Int)),x7]=some (decide ((d:Int)<(p.length:Int))):=by walk_at "mir"
  rw[h4]at h3
  have:=wh.dl
  simp at h3
  omega
 subst hd
 refine⟨f,p,?_,wh⟩
 have r1:=Y4 as (by omega)
 have rp:nO (.lst [.int 0]) (.int (many:Int))=some (.lst (cO many λ_=>0)):=by
  unfold nO
  dsimp only
  rw[if_pos ⟨by omega,by omega,by simp⟩]
  congr 2
  unfold cO
  rw[mP,bF]
  simp
 rw[show(((0:Nat):Int))=0 from rfl]at h1
 unfold ve ig
 clear hs hW c2 Vn hq w0 wh h3 l hm
 walk_at "mir"
def aY (ns:List D)(as:List cK):D:=.obj 4 ["names","arrows"] [.lst ns,.lst (as.map bv)]
structure jN (many:Nat)(as:List cK):Prop where
 pos:1<=many
 le:many<=40
 len:as.length<=120
 right:∀a∈as,Right many a
 rank:∃rank:Nat->Nat,∀a∈as,a.b=0->rank a.s<rank a.g
theorem jN.placed {many:Nat}{as:List cK}(h:jN many as):∃p:List Nat,ve [.int (many:Int),.lst (as.map bv)]=some (.lst (aW p))/\Kahn.Ok (W0 as) many p/\p.length=many/\∀g,g<many->g∈p:=by
 obtain⟨f,p,h1,h2⟩:=zn8 (many:=many) as (by have:=h.len;omega) (by have:=h.le;omega) (λa ha=>⟨(h.right a ha).s,(h.right a ha).g⟩)
 obtain⟨rank,hr⟩:=h.rank
 have all:=h2.all rank (λa ha=>by
  have:=dN.mp ha
  exact hr a this.1 (by simpa using this.2)) (λa ha=>(h.right a (dN.mp ha).1).s)
 exact⟨p,h1,h2.ok,Kahn.len_of h2.ok.nd h2.ok.lt all,all⟩
theorem zve {many:Nat}{as:List cK}{ns:List D}(h:jN many as)(hn:ns.length=many)(rG:j8 [.lst ns]=some (.bl true)):jj 4 [.lst ns,.lst (as.map bv)]=some (aY ns as):=by
 obtain⟨p,hp,_,hl,_⟩:=h.placed
 have gC:=h.len
 obtain⟨ρ',h1,x3,x4,rfl⟩:=Nr (g:=gT (gsCons (gV 3) (gsCons (gV 4) gsNil))) (b:=jm) (ds:=hV 0 (as.map bv)) (ρ:=[some (.obj 4 [] []),some (.lst ns),some (.lst (as.map bv)),none,none,none])
  (λ_ ρ=>∃x3 x4,ρ=[some (.obj 4 [] []),some (.lst ns),some (.lst (as.map bv)),x3,x4,none]) ⟨none,none,rfl⟩ (by
   rintro pre d post ρ e ⟨x3,x4,rfl⟩
   obtain⟨x,hx,rfl⟩:=M8 (ztt e)
   rw[bw]at hx
   obtain⟨a,ha,rfl⟩:=bY.mp hx
   have hr:=zrm (h.right a (cN.mpr ⟨_,ha⟩))
   refine⟨_,_,rfl,.inl ?_,some (.int (0+pre.length:Nat)),some (bv a),rfl⟩
   unfold jm
   rw[←hn]at hr
   clear hp hl hn gC h
   walk_at "mir")
 have hz:(aW p).length=many:=by simp[aW,hl]
 have hgt:¬((as.length:Int) > 120):=by omega
 rw[←hn]at hp hz
 have l1:∀ds:List D,lU [.lst ds]=some (.lst ds):=λ_=>rfl
 have s1:ie [4] "names" (eN lU (aCons (eV 1) aNil)) [some (D.obj 4 [] []),some (.lst ns),some (.lst (as.map bv)),x3,x4,some (.lst (aW p))]=some (.nx [some (D.obj 4 ["names"] [.lst ns]),some (.lst ns),some (.lst (as.map bv)),x3,x4,some (.lst (aW p))]):=rfl
 have s2:ie [4] "arrows" (eN lU (aCons (eV 2) aNil)) [some (D.obj 4 ["names"] [.lst ns]),some (.lst ns),some (.lst (as.map bv)),x3,x4,some (.lst (aW p))]=some (.nx [some (aY ns as),some (.lst ns),some (.lst (as.map bv)),x3,x4,some (.lst (aW p))]):=rfl
 clear h gC hl hn
 unfold jj Bn
 walk_at "mir"
theorem N5 (ns:List Int)(i:Int)(hi:0<=i):∃c,xp [.lst (ns.map .int),.int i]=some (.int c):=by
 obtain⟨k,rfl⟩:∃k:Nat,i=k:=⟨i.toNat,by omega⟩
 unfold xp
 by_cases h:k<ns.length
 ·refine⟨ns[k],?_⟩
  have:eh (.lst (ns.map .int)) (.int (k:Int))=some (.int ns[k]):=zq2 D.int (.inl rfl) (by simp[h])
  walk_at "mir"
 ·refine⟨0,?_⟩
  walk_at "mir"
def pL (c:Int):Bool:=decide (1237940039285380274899124224<=c)&&decide (c%2=1)
theorem NM (c:Int):ua [.int c]=some (.bl (pL c)):=by
 unfold ua pL
 by_cases h1:(1237940039285380274899124224:Int)<=c<;>by_cases h2:c%2=1<;>walk_at "mir"
theorem zro (c:Int){k:Int}(h0:0<=k)(h1:k<=1000000):∃r:Nat,wj [.int c,.int k]=some (.int (r:Int))/\r<2147483648:=by
 have m0:eD (.int 31) (.int k)=some (.int (31*k)):=zan (by decide) (by decide)
 have s0:sY (.int c) (.int (1+31*k))=some (.int (c/2 ^ (1+31*k).toNat)):=zeg (by omega)
 have r0:=NM c
 have fin:∀z:Int,∀m:Int,0<m->m<=2147483648->∃r:Nat,(some (D.int (z%m)):Option D)=some (.int (r:Int))/\r<2147483648:=λz m hm oP=>by
  have a1:=wF z (by omega:m≠0)
  have a2:=Int.emod_lt_of_pos z hm
  exact⟨(z%m).toNat,by rw[sr a1],by omega⟩
 generalize hn:(c+7919*k+1)*48271%2147483647=n1
 have b1:0<=n1/\n1<2147483647:=by omega
 have m1:eD (.int 7919) (.int k)=some (.int (7919*k)):=zan (by decide) (by decide)
 have m2:eD (.int (c+7919*k+1)) (.int 48271)=some (.int ((c+7919*k+1)*48271)):=zdl (by decide) (by decide)
 have m3:eD (.int n1) (.int (n1/1009+69621))=some (.int (n1*(n1/1009+69621))):=zan (by omega) (by omega)
 generalize yU:n1*(n1/1009+69621)%2147483647=n2
 have b2:0<=n2/\n2<2147483647:=by omega
 have m4:eD (.int n2) (.int (n2/2003+39373+k))=some (.int (n2*(n2/2003+39373+k))):=zan (by omega) (by omega)
 unfold wj
 by_cases hr:pL c=true
 ·by_cases hs:c/2 ^ (1+31*k).toNat > 0
  ·obtain⟨r,e1,e2⟩:=fin (c/2 ^ (1+31*k).toNat) 2147483648 (by decide) (by decide)
   refine⟨r,?_,e2⟩
   rw[←e1]
   generalize c/2 ^ (1+31*k).toNat=q at s0 hs
   clear e1 e2 fin hn yU b1 b2 h0 h1
   walk_at "mir"
  ·obtain⟨r,e1,e2⟩:=fin (n2*(n2/2003+39373+k)) 2147483629 (by decide) (by decide)
   refine⟨r,?_,e2⟩
   rw[←e1]
   generalize c/2 ^ (1+31*k).toNat=q at s0 hs
   clear e1 e2 fin b1 b2 h0 h1
   walk_at "mir"
 ·obtain⟨r,e1,e2⟩:=fin (n2*(n2/2003+39373+k)) 2147483629 (by decide) (by decide)
  refine⟨r,?_,e2⟩
  rw[←e1]
  clear e1 e2 fin b1 b2 h0 h1 s0
  walk_at "mir"
theorem RN (g:Nat):∀O:List Nat,g∈O->∃j:Nat,(aW O).findIdx? (λy=>vR y (.int (g:Int)))=some j
 |[],h=>by cases h
 |x::O,h=>by
  have hc:aW (x::O)=.int (x:Int)::aW O:=rfl
  rw[hc,kN]
  by_cases hx:x=g
  ·refine⟨0,?_⟩
   have:vR (.int (x:Int)) (.int (g:Int))=true:=by simp[vR,hx]
   rw[this];rfl
  ·have:vR (.int (x:Int)) (.int (g:Int))=false:=by simp[vR];omega
   rw[this]
   obtain⟨j,hj⟩:=RN g O (by
    rcases aE.mp h with e|e
    ·exact absurd e.symm hx
    ·exact e)
   exact⟨j+1,by rw[hj];rfl⟩
theorem zrp (O:List Nat):(aW O).all D.sc=true:=by
 rw[lY]
 intro d hd
 obtain⟨t,_,rfl⟩:=bK.mp hd
 rfl
def Mj (O:List Nat)(g:Nat):Nat:=((aW O).findIdx? (λy=>vR y (.int (g:Int)))).getD 0
theorem zn9 {g:Nat}{O:List Nat}(h:g∈O):uO (.lst (aW O)) (.int (g:Int))=some (.int (Mj O g:Int)):=by
 obtain⟨j,hj⟩:=RN g O h
 unfold uO Mj
 dsimp only
 rw[if_pos ⟨rfl,zrp O⟩,hj]
 rfl
def iO (c k:Int):Nat:=match wj [.int c,.int k]with
 |some (.int r)=>r.toNat
 |_=>0
theorem JH (c:Int){k:Int}(h0:0<=k)(h1:k<=1000000):wj [.int c,.int k]=some (.int (iO c k:Int))/\iO c k<2147483648:=by
 obtain⟨r,h,hr⟩:=zro c h0 h1
 unfold iO
 rw[h]
 simpa using hr
def m5 (cy:Int)(many:Nat):Nat->List Nat×List Nat
 |0=>([],ba many)
 |k+1=>
  let S:=m5 cy many k
  let i:=iO cy (k:Int)%S.2.length
  (S.1++[S.2.getD i 0],S.2.eraseIdx i)
theorem QL {α:Type}:∀(l:List α) (i:Nat) (h:i<l.length),(l[i]::l.eraseIdx i).Perm l
 |[],_,h=>by simp at h
 |x::l,0,_=>by simp
 |x::l,i+1,h=>by
  have ih:=QL l i (by simpa using h)
  simp only[List.getElem_cons_succ,List.eraseIdx_cons_succ]
  exact(List.Perm.swap x _ _).trans (ih.cons x)
theorem N6 (cy:Int)(many:Nat):∀k,k<=many->(m5 cy many k).2.length=many-k/\((m5 cy many k).1++(m5 cy many k).2).Perm (ba many)
 |0,_=>by simp[m5]
 |k+1,h=>by
  obtain⟨h1,h2⟩:=N6 cy many k (by omega)
  unfold m5
  dsimp only
  generalize m5 cy many k=S at h1 h2
  have hi:iO cy (k:Int)%S.2.length<S.2.length:=nS _ (by omega)
  generalize iO cy (k:Int)%S.2.length=i at hi
  refine⟨by rw[List.length_eraseIdx_of_lt hi];omega,?_⟩
  have e:=QL S.2 i hi
  have hg:S.2.getD i 0=S.2[i]:=by simp[hi]
  rw[hg,ed]
  exact(List.Perm.append_left S.1 e).trans h2
theorem QM:∀(L:List Nat) (i:Nat),(aW L).eraseIdx i=aW (L.eraseIdx i)
 |[],_=>rfl
 |_::_,0=>rfl
 |x::L,i+1=>by
  have ih:=QM L i
  show D.int (x:Int)::(aW L).eraseIdx i=D.int (x:Int)::aW (L.eraseIdx i)
  rw[ih]
theorem zoa (cy:Int){many:Nat}(h2:many<=1000)(g:Nat):∃x5:Option D,iy (gV 5) ut (fR 0 many) [some (.int cy),some (.int (many:Int)),some (.int (g:Int)),some (.lst []),some (.lst (fR 0 many)),none] =
  some (.nx [some (.int cy),some (.int (many:Int)),some (.int (g:Int)),some (.lst (aW (m5 cy many many).1)),some (.lst (aW (m5 cy many many).2)),x5]):=by
 have hu:fR 0 many=aW (ba many):=by simp[fR,aW]
 obtain⟨ρ',h1,x5,rfl⟩:=Jl (g:=gV 5) (b:=ut) (lo:=0) (n:=many) (ρ:=[some (.int cy),some (.int (many:Int)),some (.int (g:Int)),some (.lst []),some (.lst (fR 0 many)),none])
  (λk ρ=>∃x5,ρ=[some (.int cy),some (.int (many:Int)),some (.int (g:Int)),some (.lst (aW (m5 cy many k).1)),some (.lst (aW (m5 cy many k).2)),x5]) ⟨none,by rw[hu];rfl⟩ (by
   rintro k ρ hk ⟨x5,rfl⟩
   obtain⟨o1,o2⟩:=N6 cy many k (by omega)
   have o3:=o2.length_eq
   rw[aX,bF]at o3
   obtain⟨mx,mb⟩:=JH cy (k:=0+(k:Int)) (by omega) (by omega)
   refine⟨_,_,rfl,.inl ?_,some (.int (0+(k:Int))),rfl⟩
   have e0:(0:Int)+(k:Int)=(k:Int):=by omega
   rw[e0]at mx ⊢
   show ut [some (.int cy),some (.int (many:Int)),some (.int (g:Int)),some (.lst (aW (m5 cy many k).1)),some (.lst (aW (m5 cy many k).2)),some (.int (k:Int))]=some (.nx [some (.int cy),some (.int (many:Int)),some (.int (g:Int)),some (.lst (aW ((m5 cy many k).1++[(m5 cy many k).2.getD (iO cy (k:Int)%(m5 cy many k).2.length) 0]))),some (.lst (aW ((m5 cy many k).2.eraseIdx (iO cy (k:Int)%(m5 cy many k).2.length)))),some (.int (k:Int))])
   generalize m5 cy many k=S at o1 o3
   have hi:iO cy (k:Int)%S.2.length<S.2.length:=nS _ (by omega)
   have md:e6 (.int (iO cy (k:Int):Int)) (.int ((aW S.2).length:Int))=some (.int ((iO cy (k:Int)%S.2.length:Nat):Int)):=by
    rw[jz (by simp[aW];omega)]
    simp[aW]
   generalize iO cy (k:Int)%S.2.length=i at hi md
   have hg:S.2.getD i 0=S.2[i]:=by simp[hi]
   have l1:(aW S.1).length<16777216:=by simp[aW];omega
   have l2:(aW S.2).length<=16777216:=by simp[aW];omega
   have ix:ixN (aW S.2).length (i:Int)=some i:=Sj (by simp[aW];exact hi)
   have gt:(aW S.2)[i]?=some (.int (S.2[i]:Int)):=by simp[aW,hi]
   have ev:eN eU (aCons (eV 4) aNil) [some (.int cy),some (.int (many:Int)),some (.int (g:Int)),some (.lst (aW S.1)),some (.lst (aW S.2)),some (.int (k:Int))]=some (.int ((aW S.2).length:Int)):=rfl
   have em:(aCons (eV 0) (aCons (eV 5) aNil) [some (.int cy),some (.int (many:Int)),some (.int (g:Int)),some (.lst (aW S.1)),some (.lst (aW S.2)),some (.int (k:Int))]).bind (λds=>wj (ds++[]))=some (.int (iO cy (k:Int):Int)):=mx
   have ee:e2 e6 (λρ=>((aCons (eV 0) (aCons (eV 5) aNil)) ρ).bind λds=>wj (ds++[])) (eN eU (aCons (eV 4) aNil)) [some (.int cy),some (.int (many:Int)),some (.int (g:Int)),some (.lst (aW S.1)),some (.lst (aW S.2)),some (.int (k:Int))]=some (.int (i:Int)):=by
    unfold e2
    dsimp only
    rw[em,ev]
    exact md
   unfold ut oX
   rw[ee]
   show(if(aW S.1).length<16777216/\(aW S.2).length<=16777216 then _ else _)=_
   rw[if_pos ⟨l1,l2⟩,ix]
   show((aW S.2)[i]?).bind _=_
   rw[gt,hg,←RM,←QM]
   rfl)
 exact⟨x5,h1⟩
theorem zt4 (cy:Int){many:Nat}(h1:1<=many)(h2:many<=1000):∃rk:Nat->Nat,∀g,g<many->uj [.int cy,.int (many:Int),.int (g:Int)]=some (.int (rk g:Int)):=by
 have hr:=NM cy
 cases VO:pL cy with
 |false=>
  refine⟨λg=>(((g:Int)+cy)%(many:Int)).toNat,λg hg=>?_⟩
  have a1:=wF ((g:Int)+cy) (by omega:(many:Int)≠0)
  have a2:e6 (.int ((g:Int)+cy)) (.int (many:Int))=some (.int (((g:Int)+cy)%(many:Int))):=jz (by omega)
  rw[sr a1]
  unfold uj
  clear a1
  walk_at "mir"
 |true=>
  obtain⟨o1,o2⟩:=N6 cy many many (aF _)
  rw[Nat.sub_self]at o1
  have o3:(m5 cy many many).2=[]:=my o1
  rw[o3,bO]at o2
  refine⟨Mj (m5 cy many many).1,λg hg=>?_⟩
  obtain⟨x5,lp⟩:=zoa cy h2 g
  have ix:=zn9 (g:=g) (O:=(m5 cy many many).1) (o2.mem_iff.mpr (bU.mpr hg))
  have lr:lV [.int (many:Int)]=some (.lst (fR 0 many)):=by
   unfold lV
   dsimp only
   rw[if_pos ⟨by omega,by omega⟩]
   simp
  have r1:i8 [.int (many:Int)]=some (fR 0 many):=by
   rw[Co (by omega) (by omega)]
   simp
  unfold uj
  generalize m5 cy many many=S at lp ix
  clear o1 o2 o3
  walk_at "mir"
def d6 (a:cK):D:=.tup [.int a.s,.int a.g,.int a.t,.int a.b]
theorem Zw (c many cy n s g b:Int):∃t:Int,0<=t/\t<=1000000/\u6 [some (.int c),some (.int many),some (.int cy),some (.int n),some (.int s),some (.int g),some (.int b),none]=some (.rt (.tup [.int s,.int g,.int t,.int b])):=by
 obtain⟨m2,_⟩:=JH c (k:=30) (by decide) (by decide)
 generalize iO c 30=u at m2
 have row:=NM c
 unfold u6
 by_cases hr:pL c=true
 ·refine⟨(u:Int)%1000001,by omega,by omega,?_⟩
  by_cases h3:c%3=2<;>walk_at "mir"
 ·by_cases h3:c%3=2
  ·refine⟨c/3%1000001,by omega,by omega,?_⟩
   walk_at "mir"
  ·refine⟨n/1000%10,by omega,by omega,?_⟩
   walk_at "mir"
theorem zrq (c cy:Int){many:Nat}(h1:1<=many)(h2:many<=1000)(rk:Nat->Nat)(vX:∀g,g<many->uj [.int cy,.int (many:Int),.int (g:Int)]=some (.int (rk g:Int))) :
  ∃a:cK,wu [.int c,.int (many:Int),.int cy]=some (d6 a)/\a.s<many/\a.g<many/\0<=a.t/\a.t<=1000000/\a.b<=4/\(a.b=0->rk a.s<rk a.g):=by
 obtain⟨m1,_⟩:=JH c (k:=1) (by decide) (by decide)
 generalize iO c 1=n at m1
 have hs:n%many<many:=nS _ (by omega)
 have hg:n/8%many<many:=nS _ (by omega)
 have e1:e6 (.int (n:Int)) (.int (many:Int))=some (.int ((n%many:Nat):Int)):=by rw[jz (by omega)];simp
 have e2:e6 (.int ((n:Int)/8)) (.int (many:Int))=some (.int ((n/8%many:Nat):Int)):=by rw[jz (by omega)];simp
 have k1:=vX _ hs
 have k2:=vX _ hg
 generalize n%many=s0,n/8%many=g0 at *
 have fin:∀b:Nat,b<=4->(b=0->rk s0<rk g0)->(∀t:Int,u6 [some (.int c),some (.int (many:Int)),some (.int cy),some (.int (n:Int)),some (.int (s0:Int)),some (.int (g0:Int)),some (.int (b:Int)),none]=some (.rt (.tup [.int s0,.int g0,.int t,.int b]))->wu [.int c,.int (many:Int),.int cy]=some (.tup [.int s0,.int g0,.int t,.int b])) ->
   ∃a:cK,wu [.int c,.int (many:Int),.int cy]=some (d6 a)/\a.s<many/\a.g<many/\0<=a.t/\a.t<=1000000/\a.b<=4/\(a.b=0->rk a.s<rk a.g):=by
  intro b hb E4 h
  obtain⟨t,t0,t1,ht⟩:=Zw c many cy n s0 g0 b
  exact⟨⟨.wait,s0,g0,t,b⟩,h t ht,hs,hg,t0,t1,hb,E4⟩
 have eb:((n:Int)/64)%5=((n/64%5:Nat):Int):=by omega
 have Im:(1:Int)+(n:Int)/320%2=((1+n/320%2:Nat):Int):=by omega
 by_cases q:n/64%5=0
 ·have q':((n:Int)/64)%5=0:=by omega
  by_cases q2:rk g0<=rk s0
  ·have Xu:((rk g0:Nat):Int)<=(rk s0:Int):=by omega
   refine fin (1+n/320%2) (by omega) (by omega) λt ht=>?_
   rw[←Im]at ht ⊢
   unfold wu
   clear eb Im q hs hg q2 vX fin
   walk_at "mir"
  ·have Xu:¬((rk g0:Nat):Int)<=(rk s0:Int):=by omega
   refine fin 0 (by omega) (by omega) λt ht=>?_
   rw[show((0:Nat):Int)=0 from rfl]at ht ⊢
   unfold wu
   clear eb Im q hs hg q2 vX fin
   walk_at "mir"
 ·have q':¬((n:Int)/64)%5=0:=by omega
  refine fin (n/64%5) (by omega) (by omega) λt ht=>?_
  rw[←eb]at ht ⊢
  unfold wu
  clear eb Im q hs hg vX fin
  walk_at "mir"
def lG (b:Nat)(kind:Int):Kd:=if b=0/\kind%2=0 then .ride else if 0<b/\kind%2=0 then .back else .wait
def fZ (a:cK)(kind:Int):cK:={ a with c:=lG a.b kind }
theorem zt5 (s g t:Int):j5 1 [.int s,.int g,.int t]=some (.obj 1 ["start","goal","time","behind"] [.int s,.int g,.int t,.int 0]):=rfl
theorem zt6 (s g t b:Int):j6 2 [.int s,.int g,.int t,.int b]=some (.obj 2 ["start","goal","time","behind"] [.int s,.int g,.int t,.int b]):=rfl
theorem zt7 (s g t b:Int):j7 3 [.int s,.int g,.int t,.int b]=some (.obj 3 ["start","goal","time","behind"] [.int s,.int g,.int t,.int b]):=rfl
theorem zt8 (a:cK)(kind:Int):Jo [d6 a,.int kind]=some (bv (fZ a kind)):=by
 obtain⟨c,s,g,t,b⟩:=a
 have r1:=zt5
 have r2:=zt6
 have r3:=zt7
 unfold Jo d6 fZ bv
 dsimp only
 by_cases hb:b=0
 ·by_cases hk:kind%2=0
  ·subst hb
   have:lG 0 kind=.ride:=by unfold lG;rw[if_pos ⟨rfl,hk⟩]
   rw[this]
   have e:(((0:Nat)):Int)=0:=rfl
   have hn:Kd.ride.n=1:=rfl
   walk_at "mir"
  ·have:lG b kind=.wait:=by unfold lG;rw[if_neg (λz=>hk z.2),if_neg (λz=>hk z.2)]
   rw[this]
   have hn:Kd.wait.n=2:=rfl
   have sQ:(b:Int)=0:=by omega
   walk_at "mir"
 ·have sQ:¬(b:Int)=0:=by omega
  have wX:0<b:=by omega
  by_cases hk:kind%2=0
  ·have:lG b kind=.back:=by unfold lG;rw[if_neg (λz=>hb z.1),if_pos ⟨by omega,hk⟩]
   rw[this]
   have hn:Kd.back.n=3:=rfl
   clear sQ
   walk_at "mir"
  ·have:lG b kind=.wait:=by unfold lG;rw[if_neg (λz=>hk z.2),if_neg (λz=>hk z.2)]
   rw[this]
   have hn:Kd.wait.n=2:=rfl
   clear sQ
   walk_at "mir"
def nm (n:Nat):List D:=(ba n).map λ(k:Nat)=>D.str ("a"++yZ (k:Int))
def Po:Option D->Bool
 |some (.bl true)=>true
 |_=>false
theorem zt9 {x:Option D}(h:Po x=true):x=some (.bl true):=by
 unfold Po at h
 split at h
 ·rfl
 ·cases h
theorem zrr {n:Nat}(h1:1<=n)(h2:n<=8):j8 [.lst (nm n)]=some (.bl true):=by
 have:n=1\/n=2\/n=3\/n=4\/n=5\/n=6\/n=7\/n=8:=by omega
 rcases this with rfl|rfl|rfl|rfl|rfl|rfl|rfl|rfl<;>exact zt9 (by decide +kernel)
structure Drawn (many:Nat)(rk:Nat->Nat)(a:cK):Prop where
 s:a.s<many
 g:a.g<many
 t0:0<=a.t
 t1:a.t<=1000000000
 b:a.b<=4
 r:a.b=0->rk a.s<rk a.g
theorem Drawn.right {many:Nat}{rk:Nat->Nat}{a:cK}(h:Drawn many rk a)(kind:Int):Right many (fZ a kind):=by
 refine⟨h.s,h.g,h.t0,h.t1,h.b,λz=>?_,λz=>?_⟩
 ·change lG a.b kind=.ride at z
  unfold lG at z
  split at z
  ·next q=>exact q.1
  ·split at z<;>cases z
 ·change lG a.b kind=.back at z
  unfold lG at z
  split at z
  ·cases z
  ·split at z
   ·next q=>exact q.1
   ·cases z
theorem N7 {many:Nat}{rk:Nat->Nat}{as:List cK}(k:cK->Int)(h1:1<=many)(h2:many<=8)(h3:as.length<=120)(h:∀a∈as,Drawn many rk a):jN many (as.map λa=>fZ a (k a)):=by
 refine⟨h1,by omega,by rw[aq];exact h3,λb hb=>?_,rk,λb hb E4=>?_⟩
 ·obtain⟨a,ha,rfl⟩:=bK.mp hb
  exact(h a ha).right _
 ·obtain⟨a,ha,rfl⟩:=bK.mp hb
  exact(h a ha).r E4
theorem Re {κ:Type}(h:κ×D->D):∀(ks:List κ) (ds:List D),ks.zip ((ks.zip ds).map h)=(ks.zip ds).map λp=>(p.1,h p)
 |[],_=>rfl
 |_::_,[]=>rfl
 |k::ks,d::ds=>by
  show(k,h (k,d))::ks.zip ((ks.zip ds).map h)=(k,h (k,d))::(ks.zip ds).map _
  rw[Re h ks ds]
theorem RP {κ:Type}[DecidableEq κ]{ks:List κ}{ds:List D}(hl:ks.length=ds.length)(k k':κ)(d:D):jE (d7 ks ds k d).1 (d7 ks ds k d).2 k'=if k'=k then some d else jE ks ds k':=by
 unfold d7
 by_cases hc:ks.contains k=true
 ·rw[if_pos hc]
  unfold jE
  dsimp only
  rw[Re,List.find?_map]
  by_cases hk:k'=k
  ·subst hk
   rw[if_pos rfl]
   have hm:k'∈ks:=by simpa using hc
   have:∃p∈ks.zip ds,p.1=k':=by
    obtain⟨i,hi,e⟩:=fC.mp hm
    refine⟨(ks[i],ds[i]),?_,e⟩
    rw[fC]
    exact⟨i,by rw[eQ];omega,by simp⟩
   obtain⟨p,hp,he⟩:=this
   cases hf:(ks.zip ds).find? ((λp:κ×D=>decide (p.1=k')) ∘ λp:κ×D=>(p.1,if p.1=k' then d else p.2))with
   |none=>
    rw[su]at hf
    have:=hf p hp
    simp[he]at this
   |some q=>
    have hq:=vI hf
    simp at hq
    simp[hq]
  ·rw[if_neg hk]
   have:((λp:κ×D=>decide (p.1=k')) ∘ λp:κ×D=>(p.1,if p.1=k then d else p.2))=λp:κ×D=>decide (p.1=k'):=rfl
   rw[this]
   cases hf:(ks.zip ds).find? λp=>decide (p.1=k')with
   |none=>rfl
   |some q=>
    have hq:=vI hf
    simp at hq
    have kD:¬q.1=k:=λz=>hk (hq▸z)
    simp[kD]
 ·rw[if_neg hc]
  unfold jE
  dsimp only
  have hz:(ks++[k]).zip (ds++[d])=ks.zip ds++[(k,d)]:=by
   rw[vL hl];rfl
  rw[hz,List.find?_append]
  by_cases hk:k'=k
  ·subst hk
   rw[if_pos rfl]
   have hn:(ks.zip ds).find? (λp=>decide (p.1=k'))=none:=by
    rw[su]
    intro p hp
    have hm:=(gR (a:=p.1) (b:=p.2) hp).1
    have oP:¬k'∈ks:=by simpa using hc
    simp
    intro z
    exact oP (z▸hm)
   rw[hn]
   simp
  ·rw[if_neg hk]
   have:¬k=k':=λz=>hk z.symm
   cases hf:(ks.zip ds).find? (λp=>decide (p.1=k'))<;>simp[this]
theorem NN {κ:Type}[DecidableEq κ]{ks:List κ}{ds:List D}(hl:ks.length=ds.length)(k:κ)(d:D):(d7 ks ds k d).1.length=(d7 ks ds k d).2.length/\(d7 ks ds k d).1.length<=ks.length+1:=by
 unfold d7
 by_cases hc:ks.contains k=true
 ·rw[if_pos hc];simp;omega
 ·rw[if_neg hc];simp[hl]
theorem Nm (ns:List D)(as:List cK):cn [4] "names" (aY ns as)=some (.lst ns):=rfl
theorem jw (ns:List D)(as:List cK):cn [4] "arrows" (aY ns as)=some (.lst (as.map bv)):=rfl
theorem zob {ns:List Int}{r:L3.Env}(i a b:Nat)(h:r[i]?.join=some (.lst (ns.map .int))):lsD (λρ=>((eV i) ρ).bind λd=>((pInt (eC (.int a))) ρ).bind λl=>((pInt (eC (.int b))) ρ).bind λh=>nc d l h) r=some (((ns.drop a).take (b-a)).map .int):=by
 have e:eV i r=some (.lst (ns.map .int)):=h
 unfold lsD
 show(((eV i) r).bind _).bind _=_
 rw[e]
 show some (cutD (ns.map .int) (some (a:Int)) (some (b:Int)))=_
 rw[znh,List.map_take,oz]
theorem zrs (g:Nat)(hg:g<=1000000):tu [.int (g:Int)]=some (.str (yZ (g:Int)))/\fN (.str "a") (.str (yZ (g:Int)))=some (.str ("a"++yZ (g:Int))):=by
 have h:Sz 1900 (g:Int):=by
  show(g:Int).natAbs<2 ^ 1900
  have:(2:Nat) ^ 20<=2 ^ 1900:=dG (by decide) (by decide)
  omega
 have h2:=zq7 h
 have h3:("a":aK).length=1:=by decide
 exact⟨znm h,zng (by omega)⟩
def fr (q:Int×Int):D:=.tup [.int q.1,.int q.2]
theorem ET (q:Int×Int):eh (fr q) (.int 0)=some (.int q.1):=rfl
theorem qJ (q:Int×Int):eh (fr q) (.int 1)=some (.int q.2):=rfl
def Fz (n:Nat)(q:Int×Int):Prop:=Sz n q.1/\Sz n q.2
theorem Fz.mono {n m:Nat}{q:Int×Int}(h:Fz n q)(hm:n<=m):Fz m q:=⟨h.1.mono hm,h.2.mono hm⟩
theorem vF {n:Nat}{i w:Int}(h1:-w<=i)(h2:i<=w)(hw:w<2 ^ n):Sz n i:=by
 unfold Sz
 have:(i.natAbs:Int)<2 ^ n:=by omega
 exact_mod_cast this
theorem MT {x y:Int}(hy:Sz 8000 y):v6 [.int x,.int y]=some (.int ((eK x y:Nat):Int)):=by
 obtain⟨s',h1,h2,h3,r,h5⟩:=QB (c:=tb (e2 (jL true) (eV 1) (eC (D.int 0)))) (b:=ue) (λs:Int×Int×Option D=>[some (.int s.1),some (.int s.2.1),s.2.2]) (λs=>!decide (s.2.1=0)) (λs=>(s.2.1,s.1.fmod s.2.1,some (.int (s.1.fmod s.2.1)))) (λs=>s.2.1.natAbs) (λs=>eK s.1 s.2.1=eK x y)
  (λs hp=>by walk_at "mir") (λs hp ht=>by
   have hs:s.2.1≠0:=by simpa using ht
   refine⟨.inl ?_,(Fq.gcd_step s.1 s.2.1).trans hp,Fq.fmod_less s.1 hs⟩
   unfold ue
   have:=zq1 (i:=s.1) hs
   walk_at "mir") kA (x,y,none) rfl (NI hy (by decide))
 have h3:s'.2.1=0:=by simpa using h3
 have h4:=Fq.gcd_end s'.1
 rw[h3]at h2
 rw[h2]at h4
 clear h5
 unfold v6 ig
 walk_at "mir"
theorem Cy {t b:Int}(hb:b≠0)(hz:Sz 8000 b):j9 [.int t,.int b]=some (fr (Fq.mk t b)):=by
 have e:=MT (x:=t) hz
 have hg:=Fq.gcd_pos (t:=t) (b:=b) hb
 have hd:Fq.dv t b≠0:=by unfold Fq.dv;split<;>omega
 have tY:Sz 9000 (Fq.dv t b):=(hz.le (Fq.dv_le hb)).mono (by decide)
 have e1:=Rp (i:=t) hd tY
 have e2:=Rp (i:=b) hd tY
 unfold j9 fr Fq.mk
 by_cases hn:b<0
 ·have hd:Fq.dv t b = -((eK t b:Nat):Int):=by unfold Fq.dv;rw[if_pos hn]
  rw[hd]at e1 e2 ⊢
  walk_at "mir"
 ·have hd:Fq.dv t b=((eK t b:Nat):Int):=by unfold Fq.dv;rw[if_neg hn]
  rw[hd]at e1 e2 ⊢
  walk_at "mir"
theorem J6 {n:Nat}{t b:Int}(hb:b≠0)(ht:Sz n t)(hz:Sz n b):Fz n (Fq.mk t b):=⟨ht.le (Fq.mk_le_one hb),hz.le (Fq.mk_le_two hb)⟩
def kW (S G:Nat->Nat):Nat->List Nat->Nat->Prop
 |a,[],b=>a=b
 |a,n::l,b=>S n=a/\kW S G (G n) l b
theorem kW.app {S G:Nat->Nat}{b c:Nat}{m:List Nat}(h2:kW S G b m c):∀{a:Nat} {l:List Nat},kW S G a l b->kW S G a (l++m) c
 |a,[],h=>by
  have h:a=b:=h
  rw[h];exact h2
 |a,n::l,h=>⟨h.1,kW.app h2 h.2⟩
theorem kW.one (S G:Nat->Nat)(n:Nat):kW S G (S n) [n] (G n):=⟨rfl,rfl⟩
inductive Bk (S:Nat->Nat)(ch:Nat->Option Nat)(going:Nat):Nat->List Nat->Prop
 |nil:Bk S ch going going []
 |cons {x n:Nat} {w:List Nat}:x≠going->ch x=some n->Bk S ch going (S n) w->Bk S ch going x (w++[n])
structure Om (ts:List Nat)(S G:Nat->Nat)(going:Nat)(re:List Nat)(ch:Nat->Option Nat)(done:Nat):Prop where
 nd:re.Nodup
 hd:going∈re
 le:done<=re.length
 way:∀x∈re,x≠going->∃n,ch x=some n/\n∈ts/\G n=x/\∃j,re[j]?=some x/\S n∈re.take j
 cl:∀i,i<done->∀x,re[i]?=some x->∀n∈ts,S n=x->G n≠going/\G n∈re
section
variable {ts:List Nat}{S G:Nat->Nat}{going:Nat}{re:List Nat}{ch:Nat->Option Nat}{done:Nat}
theorem Om.start:Om ts S G going [going] (λ_=>none) 0 :=
 ⟨by simp,by simp,dh _,λx hx h=>absurd (aB.mp hx) h,λi hi=>absurd hi (by omega)⟩
end
theorem Rf {g:D->L3.Env->Option L3.Env}{b:SF}{n:Nat}(I:Nat->L3.Env->Prop)(R:D->Prop)(st:∀i ρ,i<n->I i ρ->∃ρ1,g (.int (i:Int)) ρ=some ρ1/\((∃ρ2,b ρ1=some (.nx ρ2)/\I (i+1) ρ2)\/∃w,b ρ1=some (.rt w)/\R w)) :
  ∀(m k:Nat) (ρ:L3.Env),k+m=n->I k ρ->(∃ρ',iy g b ((eE k m).map λ(i:Nat)=>D.int (i:Int)) ρ=some (.nx ρ')/\I n ρ')\/∃w,iy g b ((eE k m).map λ(i:Nat)=>D.int (i:Int)) ρ=some (.rt w)/\R w
 |0,k,ρ,hk,hI=>by
  have:k=n:=by omega
  subst this
  exact .inl ⟨ρ,rfl,hI⟩
 |m+1,k,ρ,hk,hI=>by
  obtain⟨ρ1,h1,h2⟩:=st k ρ (by omega) hI
  have Cm:iy g b ((eE k (m+1)).map λ(i:Nat)=>D.int (i:Int)) ρ=(g (.int (k:Int)) ρ).bind λρ1=>(b ρ1).bind λo=>match o with
    |.nx ρ'=>iy g b ((eE (k+1) m).map λ(i:Nat)=>D.int (i:Int)) ρ'
    |.ct ρ'=>iy g b ((eE (k+1) m).map λ(i:Nat)=>D.int (i:Int)) ρ'
    |.bk ρ'=>some (.nx ρ')
    |.rt d=>some (.rt d):=rfl
  rw[Cm,h1,ck]
  rcases h2 with⟨ρ2,h2,h3⟩|⟨w,h2,h3⟩
  ·rw[h2]
   exact Rf I R st m (k+1) ρ2 (by omega) h3
  ·rw[h2]
   exact .inr ⟨w,rfl,h3⟩
def aN (as:List cK)(n:Nat):cK:=(as[n]?).getD ⟨.wait,0,0,0,0⟩
theorem t7 {as:List cK}{n:Nat}(h:n<as.length):as[n]?=some (aN as n):=by
 unfold aN
 rw[dA h]
 rfl
theorem zua {as:List cK}{i:Int}(h0:0<=i)(h1:i<(as.length:Int)):eh (.lst (as.map bv)) (.int i)=some (bv (aN as i.toNat)):=by
 obtain⟨n,rfl⟩:∃n:Nat,i=(n:Int):=⟨i.toNat,by omega⟩
 rw[gk]
 exact qo (by rw[bw,t7 (by omega)];rfl)
theorem Oc {ns:List D}{as:List cK}{is:List Int}{fld:aK}{f:cK->Int}{q:EF}(hq:q=fI (lsD (eV 1)) 1 [0] (gV 0) gQ (e1 (cn [0,1,2,3] fld) (e2 eh (e1 (cn [4] "arrows") (eV 1)) (eV 0))))(hf:∀a,cn [0,1,2,3] fld (bv a)=some (.int (f a)))(hl:is.length<=1000)(hr:∀i∈is,0<=i/\i<(as.length:Int))(r:L3.Env)(h0:r[0]?.join=some (aY ns as))(h1:r[1]?.join=some (.lst (is.map .int))) :
  q r=some (.lst ((is.map λi=>f (aN as i.toNat)).map .int)):=by
 rw[hq,dR]
 refine u7 D.int (λi=>D.int (f (aN as i.toNat))) is (by unfold lsD;have:eV 1 r=_:=h1;rw[this];rfl) (by omega) λi hi=>⟨_,rfl,?_⟩
 have iH:gH r [0]=[some (aY ns as)]:=by unfold gH;simp[h0]
 rw[iH]
 have i1:=zua (hr i hi).1 (hr i hi).2
 have f1:=hf (aN as i.toNat)
 have f4:=jw ns as
 generalize f (aN as i.toNat)=v,bv (aN as i.toNat)=ea,as.map bv=al,aY ns as=net at *
 clear iH h0 h1 hr hi hl hf hq
 walk_at "mir"
theorem Od (xs:List Int):vC [.lst (xs.map .int)]=some (.int xs.sum):=by
 show(hX (xs.map .int)).bind _=_
 rw[Nb]
 rfl
def tI (as:List cK)(i:Int):Int:=(aN as i.toNat).t
def bI (as:List cK)(i:Int):Int:=((aN as i.toNat).b:Int)
theorem SV {f:Int->Int}{m:Int}(hm:0<=m):∀is:List Int,(∀i∈is,0<=f i/\f i<=m)->0<=(is.map f).sum/\(is.map f).sum<=m*(is.length:Int)
 |[],_=>by simp
 |i::is,h=>by
  obtain⟨h1,h2⟩:=SV hm is λj hj=>h j (ak _ hj)
  obtain⟨h3,h4⟩:=h i af
  rw[aV,ce,aC]
  refine⟨by omega,?_⟩
  rw[show((is.length+1:Nat):Int)=(is.length:Int)+1 by omega,Int.mul_add,mK]
  omega
theorem zub {ns:List D}{as:List cK}{is:List Int}(hl:is.length<=1000)(hb:∀a∈as,a.b<=4)(hr:∀i∈is,0<=i/\i<(as.length:Int))(h0:(is.map (bI as)).sum≠0):xY [aY ns as,.lst (is.map .int)]=some (fr (Fq.mk (is.map (tI as)).sum (is.map (bI as)).sum)):=by
 have k1:=Oc (ns:=ns) (as:=as) (is:=is) (fld:="time") (f:=λa=>a.t) (q:=zev) rfl ft hl hr [some (aY ns as),some (.lst (is.map .int)),none,none] rfl rfl
 have k2:=Oc (ns:=ns) (as:=as) (is:=is) (fld:="behind") (f:=λa=>(a.b:Int)) (q:=Nv) rfl fb hl hr [some (aY ns as),some (.lst (is.map .int)),some (.int (is.map (tI as)).sum),none] rfl rfl
 have s1:=Od (is.map (tI as))
 have s2:=Od (is.map (bI as))
 have bd:=SV (f:=bI as) (m:=4) (by decide) is λi hi=>by
  have:=hb (aN as i.toNat) (cN.mpr ⟨i.toNat,t7 (by have:=hr i hi;omega)⟩)
  unfold bI
  omega
 have ra:=Cy (t:=(is.map (tI as)).sum) h0 (vF (w:=4000) (by omega) (by omega) (by decide))
 replace k1:zev _=some (.lst ((is.map (tI as)).map .int)):=k1
 replace k2:Nv _=some (.lst ((is.map (bI as)).map .int)):=k2
 generalize fr (Fq.mk (is.map (tI as)).sum (is.map (bI as)).sum)=F,(is.map (tI as)).map D.int=tl,(is.map (bI as)).map D.int=bl at *
 generalize (is.map (tI as)).sum=T,(is.map (bI as)).sum=Bh,aY ns as=net,is.map D.int=il at *
 unfold xY
 clear bd hl hb hr h0
 walk_at "mir"
structure ei (d:D)(ch:Nat->Option Nat)(m:Nat):Prop where
 is:∃ks ds,d=.dK ks ds/\ks.length=ds.length/\ks.length<=m/\∀x:Nat,jE ks ds (.inl (x:Int))=(ch x).map λ(n:Nat)=>D.int (n:Int)
theorem ei.get {d:D}{ch:Nat->Option Nat}{m:Nat}(h:ei d ch m){x n:Nat}(e:ch x=some n):(hU d (.int (x:Int))).join=some (.int (n:Int)):=by
 obtain⟨ks,ds,rfl,_,_,h3⟩:=h.is
 show jE ks ds (.inl (x:Int))=_
 rw[h3,e]
 rfl
theorem ei.put {d:D}{ch:Nat->Option Nat}{m:Nat}(h:ei d ch m)(hm:m<16777216)(x n:Nat):∃d',(∀(ρ:L3.Env) (i:Nat) (fj f:EF),f ρ=some (.int (n:Int))->eV i ρ=some d->fj ρ=some (.int (x:Int))->iP i fj f ρ=some (.nx (ρ.set i (some d'))))/\ei d' (λy=>if y=x then some n else ch y) (m+1):=by
 obtain⟨ks,ds,rfl,h1,h2,h3⟩:=h.is
 refine⟨.dK (d7 ks ds (.inl (x:Int)) (.int (n:Int))).1 (d7 ks ds (.inl (x:Int)) (.int (n:Int))).2,λρ i fj f e1 e2 e3=>?_,⟨_,_,rfl,(NN h1 _ _).1,by have:=(NN h1 (.inl (x:Int)) (.int (n:Int))).2;omega,λy=>?_⟩⟩
 ·unfold iP
  rw[e1]
  show(eV i ρ).bind _=_
  rw[e2]
  show(fj ρ).bind _=_
  rw[e3]
  show(if ks.length<16777216 then some (Out.nx (ρ.set i (some (.dK (d7 ks ds (.inl (x:Int)) (.int (n:Int))).1 (d7 ks ds (.inl (x:Int)) (.int (n:Int))).2))))else none)=_
  rw[if_pos (by omega)]
 ·rw[RP h1]
  by_cases e:y=x
  ·subst e
   rw[if_pos rfl,if_pos rfl]
   rfl
  ·rw[if_neg (λz=>e (by have:=Sum.inl.inj z;omega)),if_neg e]
   exact h3 y
theorem Rg {c:BF}{b:SF}(I:L3.Env->Prop)(μ:L3.Env->Nat)(R:D->Prop)(st:∀ρ,I ρ->∃t,c ρ=some t/\(t=true->(∃ρ',b ρ=some (.nx ρ')/\I ρ'/\μ ρ' < μ ρ)\/∃d,b ρ=some (.rt d)/\R d)) :
  ∀(n:Nat) (ρ:L3.Env),I ρ->μ ρ<n->(∃ρ',gO c b n ρ=some (.nx ρ')/\I ρ'/\c ρ'=some false)\/∃d,gO c b n ρ=some (.rt d)/\R d
 |0,_,_,h=>absurd h (by omega)
 |n+1,ρ,hI,h=>by
  obtain⟨t,h1,h2⟩:=st ρ hI
  cases t with
  |false=>exact .inl ⟨ρ,by show(c ρ).bind _=_;rw[h1];rfl,hI,h1⟩
  |true=>
   rcases h2 rfl with⟨ρ',h3,h4,h5⟩|⟨d,h3,h4⟩
   ·rcases Rg I μ R st n ρ' h4 (by omega)with⟨ρ2,h6,h7,h8⟩|⟨d,h6,h7⟩
    ·refine .inl ⟨ρ2,?_,h7,h8⟩
     show(c ρ).bind _=_
     rw[h1]
     show(b ρ).bind _=_
     rw[h3];exact h6
    ·refine .inr ⟨d,?_,h7⟩
     show(c ρ).bind _=_
     rw[h1]
     show(b ρ).bind _=_
     rw[h3];exact h6
   ·refine .inr ⟨d,?_,h4⟩
    show(c ρ).bind _=_
    rw[h1]
    show(b ρ).bind _=_
    rw[h3];rfl
theorem zrt {p q:Int×Int}(h1:Fz 9000 p)(h2:Fz 9000 q):Cw [fr p,fr q]=some (.bl (Fq.under p q)):=by
 have e1:=Cu h1.1 h2.2 (by decide) (by decide)
 have e2:=Cu h2.1 h1.2 (by decide) (by decide)
 unfold Cw
 have f0:=ET
 have f1:=qJ
 walk_at "mir"
 rfl
theorem Sy {n:Nat}{x y:Int×Int}(lx:Fq.Low x)(ly:Fq.Low y)(hx:Fz n x)(hy:Fz n y):Fz (n+n+1) (Fq.plus x y) :=
 J6 (lx.mul_ne ly) (Sz.add (hx.1.mul hy.2) (hy.1.mul hx.2)) ((hx.2.mul hy.2).mono (by omega))
theorem Rh {n m:Nat}{x:Int×Int}{k:Int}(lx:Fq.Low x)(hx:Fz n x)(hk:Sz m k):Fz (n+m) (Fq.scaled x k):=J6 lx.ne (hx.1.mul hk) (hx.2.mono (Nat.le_add_right _ _))
theorem S8 {n:Nat}{p q:Int×Int}(hn:n<=2000)(lp:Fq.Low p)(lq:Fq.Low q)(h1:Fz n p)(h2:Fz n q):HP [fr p,fr q]=some (fr (Fq.plus p q)):=by
 have e1:=Cu h1.1 h2.2 (by omega) (by omega)
 have e2:=Cu h2.1 h1.2 (by omega) (by omega)
 have e3:=Cu h1.2 h2.2 (by omega) (by omega)
 have r:=Cy (t:=p.1*q.2+q.1*p.2) (lp.mul_ne lq) ((h1.2.mul h2.2).mono (by omega))
 have f0:=ET
 have f1:=qJ
 unfold HP Fq.plus
 clear h1 h2 lp lq hn
 generalize fr (Fq.mk (p.1*q.2+q.1*p.2) (p.2*q.2))=rr at *
 walk_at "mir"
theorem zod {n m:Nat}{p:Int×Int}{k:Int}(hn:n<=2000)(hm:m<=2000)(lp:Fq.Low p)(h1:Fz n p)(hk:Sz m k):Jv [fr p,.int k]=some (fr (Fq.scaled p k)):=by
 have e1:=Cu h1.1 hk (by omega) (by omega)
 have r:=Cy (t:=p.1*k) lp.ne (h1.2.mono (by omega))
 have f0:=ET
 have f1:=qJ
 unfold Jv Fq.scaled
 clear h1 hk lp hn hm
 generalize fr (Fq.mk (p.1*k) p.2)=rr at *
 walk_at "mir"
theorem Oe:Sz 1 (-1):=by unfold Sz;decide
theorem zru {n:Nat}{p q:Int×Int}(hn:n<=1000)(lp:Fq.Low p)(lq:Fq.Low q)(h1:Fz n p)(h2:Fz n q):Cv [fr p,fr q]=some (fr (Fq.minus p q)):=by
 have e1:=zod (by omega) (by decide) lq h2 Oe
 have e2:=S8 (n:=n+1) (by omega) lp (Fq.scaled_low lq (-1)) (h1.mono (by omega)) (Rh lq h2 Oe)
 unfold Cv Fq.minus
 clear h1 h2 lp lq hn
 generalize fr (Fq.plus p (Fq.scaled q (-1)))=rr,fr (Fq.scaled q (-1))=sq at *
 walk_at "mir"
theorem zoe {n:Nat}{x y:Int×Int}(lx:Fq.Low x)(ly:Fq.Low y)(hx:Fz n x)(hy:Fz n y):Fz (n+1+(n+1)+1) (Fq.minus x y) :=
 Sy lx (Fq.scaled_low ly (-1)) (hx.mono (by omega)) (Rh ly hy Oe)
theorem zrv (t:Int):Fq.Low (t,1):=⟨fV 1,by show eK t 1=1;simp⟩
theorem ei.has {d:D}{ch:Nat->Option Nat}{m:Nat}(h:ei d ch m)(x:Nat):hU d (.int (x:Int))=some ((ch x).map λ(n:Nat)=>D.int (n:Int)):=by
 obtain⟨ks,ds,rfl,_,_,h3⟩:=h.is
 show some (jE ks ds (.inl (x:Int)))=_
 rw[h3]
def d5 (as:List cK)(p:Int×Int)(n:Nat):Int:=(aN as n).t*p.2-((aN as n).b:Int)*p.1
def aS (as:List cK)(n:Nat):Nat:=(aN as n).s
def aG (as:List cK)(n:Nat):Nat:=(aN as n).g
structure CG (many:Nat)(a:cK):Prop where
 s:a.s<many
 g:a.g<many
 t0:0<=a.t
 t1:a.t<=1000000000
 b:a.b<=4
theorem jx {as:List cK}{n:Nat}(hn:n<as.length):aN as n∈as:=cN.mpr ⟨n,t7 hn⟩
def kK (T:Nat->Int)(x:Nat)(v:Int):Nat->Int:=λy=>if y=x then v else T y
def MW (T:Nat->Option Nat)(x v:Nat):Nat->Option Nat:=λy=>if y=x then some v else T y
def lI (T:Nat->Nat)(x v:Nat):Nat->Nat:=λy=>if y=x then v else T y
structure nY (aP:List Nat)(S G:Nat->Nat)(c:Nat->Int)(r:Nat)(dn:List Nat)(T:Nat->Int)(ch:Nat->Option Nat)(lr ts:Nat->Nat)(k:Nat):Prop where
 le:∀x,lr x<=r
 st:∀x,ts x<k
 ch:∀x,0<lr x->∃n,ch x=some n/\n∈aP/\G n=x/\lr x<=lr (S n)+1/\T x<=T (S n)+c n/\(T x<T (S n)+c n\/ts (S n)<ts x)
 old:∀n∈aP,lr (S n)+1<r->T (S n)+c n<=T (G n)
 dn:∀n∈dn,lr (S n)<r->T (S n)+c n<=T (G n)
 pos:∀x,0<=T x
section
variable {aP:List Nat}{S G:Nat->Nat}{c:Nat->Int}{r:Nat}{dn:List Nat}{T:Nat->Int}{ch:Nat->Option Nat}{lr ts:Nat->Nat}{k:Nat}
theorem nY.start:nY aP S G c 1 [] (λ_=>0) (λ_=>none) (λ_=>0) (λ_=>0) 1 where
 le:=λ_=>dh _
 st:=λ_=>Nat.zero_lt_one
 ch:=λ_ h=>absurd h (er 0)
 old:=λ_ _ h=>absurd h (by omega)
 dn:=λ_ h=>by cases h
 pos:=λ_=>fV 0
theorem nY.next (h:nY aP S G c r aP T ch lr ts k):nY aP S G c (r+1) [] T ch lr ts k where
 le:=λx=>Nat.le_succ_of_le (h.le x)
 st:=h.st
 ch:=h.ch
 old:=λn hn h1=>h.dn n hn (by omega)
 dn:=λ_ h=>by cases h
 pos:=h.pos
theorem nY.stay (h:nY aP S G c r dn T ch lr ts k){n:Nat}(hn:T (S n)+c n<=T (G n)):nY aP S G c r (dn++[n]) T ch lr ts k where
 le:=h.le
 st:=h.st
 ch:=h.ch
 old:=h.old
 dn:=λm hm h1=>by
  rcases aZ.mp hm with hm|hm
  ·exact h.dn m hm h1
  ·rw[aB.mp hm];exact hn
 pos:=h.pos
theorem nY.push (h:nY aP S G c r dn T ch lr ts k){n:Nat}(hn:n∈aP)(hp:T (G n)<T (S n)+c n) :
  nY aP S G c r (dn++[n]) (kK T (G n) (T (S n)+c n)) (MW ch (G n) n) (lI lr (G n) r) (lI ts (G n) k) (k+1) where
 le:=λx=>by
  unfold lI
  split
  ·exact aF _
  ·exact h.le x
 st:=λx=>by
  unfold lI
  have:=h.st x
  split<;>omega
 ch:=λx hx=>by
  have up:∀y,T y<=kK T (G n) (T (S n)+c n) y:=λy=>by
   unfold kK
   split
   ·rename_i e;rw[e];omega
   ·exact fV _
  have ul:∀y,lr y<=lI lr (G n) r y:=λy=>by
   unfold lI
   split
   ·exact h.le y
   ·exact aF _
  by_cases e:x=G n
  ·subst e
   refine⟨n,by simp[MW],hn,rfl,?_,?_,?_⟩
   ·have h1:¬lr (S n)+1<r:=λz=>by have:=h.old n hn z;omega
    have h2:=ul (S n)
    have h3:lI lr (G n) r (G n)=r:=by simp[lI]
    omega
   ·have h2:=up (S n)
    have h3:kK T (G n) (T (S n)+c n) (G n)=T (S n)+c n:=by simp[kK]
    omega
   ·have h3:kK T (G n) (T (S n)+c n) (G n)=T (S n)+c n:=by simp[kK]
    by_cases e2:S n=G n
    ·left
     rw[e2]at hp h3 ⊢
     omega
    ·right
     have h4:lI ts (G n) k (G n)=k:=by simp[lI]
     have h5:lI ts (G n) k (S n)=ts (S n):=by simp[lI,e2]
     have:=h.st (S n)
     omega
  ·have yY:lI lr (G n) r x=lr x:=by simp[lI,e]
   have ht:kK T (G n) (T (S n)+c n) x=T x:=by simp[kK,e]
   rw[yY]at hx
   obtain⟨m,h1,h2,h3,h4,h5,h6⟩:=h.ch x hx
   refine⟨m,by simp[MW,e,h1],h2,h3,?_,?_,?_⟩
   ·have:=ul (S m);omega
   ·have:=up (S m);omega
   ·by_cases e2:S m=G n
    ·left
     have h7:kK T (G n) (T (S n)+c n) (S m)=T (S n)+c n:=by simp[kK,e2]
     rw[e2]at h5
     omega
    ·have h7:kK T (G n) (T (S n)+c n) (S m)=T (S m):=by simp[kK,e2]
     have h8:lI ts (G n) k (S m)=ts (S m):=by simp[lI,e2]
     have h9:lI ts (G n) k x=ts x:=by simp[lI,e]
     rw[h7,h8,h9,ht]
     exact h6
 old:=λm hm h1=>by
  have e2:S m≠G n:=λe=>by
   have:lI lr (G n) r (S m)=r:=by simp[lI,e]
   omega
  have h7:kK T (G n) (T (S n)+c n) (S m)=T (S m):=by simp[kK,e2]
  have h8:lI lr (G n) r (S m)=lr (S m):=by simp[lI,e2]
  rw[h8]at h1
  have h9:=h.old m hm h1
  have:T (G m)<=kK T (G n) (T (S n)+c n) (G m):=by
   unfold kK
   split
   ·rename_i e;rw[e];omega
   ·exact fV _
  omega
 dn:=λm hm h1=>by
  have e2:S m≠G n:=λe=>by
   have:lI lr (G n) r (S m)=r:=by simp[lI,e]
   omega
  have h7:kK T (G n) (T (S n)+c n) (S m)=T (S m):=by simp[kK,e2]
  have h8:lI lr (G n) r (S m)=lr (S m):=by simp[lI,e2]
  rw[h8]at h1
  rcases aZ.mp hm with hm|hm
  ·have h9:=h.dn m hm h1
   have:T (G m)<=kK T (G n) (T (S n)+c n) (G m):=by
    unfold kK
    split
    ·rename_i e;rw[e];omega
    ·exact fV _
   omega
  ·have hm:=aB.mp hm
   subst hm
   have h3:kK T (G m) (T (S m)+c m) (G m)=T (S m)+c m:=by simp[kK]
   omega
 pos:=λx=>by
  unfold kK
  split
  ·have:=h.pos (G n);omega
  ·exact h.pos x
theorem nY.cost {Q:Nat->Prop}(h:∀n,Q n->T (G n)<=T (S n)+c n/\(T (G n)<T (S n)+c n\/ts (S n)<ts (G n))):∀{w:List Nat} {a b:Nat},kW S G a w b->(∀n∈w,Q n)->T b<=T a+(w.map c).sum/\(w=[]\/T b<T a+(w.map c).sum\/ts a<ts b)
 |[],a,b,hw,_=>by
  have hw:a=b:=hw
  subst hw
  simp
 |n::w,a,b,hw,hq=>by
  obtain⟨h1,h2⟩:=hw
  obtain⟨i1,i2⟩:=nY.cost h h2 λm hm=>hq m (ak _ hm)
  obtain⟨j1,j2⟩:=h n (hq n af)
  rw[aV,ce]
  rw[←h1]
  refine⟨by omega,.inr ?_⟩
  rcases i2 with i2|i2|i2
  ·subst i2
   have h2:G n=b:=h2
   subst h2
   simp at i1 ⊢
   rcases j2 with j2|j2
   ·left;omega
   ·right;exact j2
  ·left;omega
  ·rcases j2 with j2|j2
   ·left;omega
   ·right;omega
end
def rW (S G:Nat->Nat):Nat->List Nat->Nat->Prop
 |a,[],b=>a=b
 |a,n::l,b=>G n=a/\rW S G (S n) l b
theorem rW.snoc {S G:Nat->Nat}{n:Nat}:∀{w:List Nat} {a b:Nat},rW S G a w b->G n=b->rW S G a (w++[n]) (S n)
 |[],a,b,h,e=>by
  have h:a=b:=h
  exact⟨by rw[e,h],rfl⟩
 |m::w,a,b,h,e=>⟨h.1,rW.snoc h.2 e⟩
theorem rW.wlk {S G:Nat->Nat}:∀{w:List Nat} {a b:Nat},rW S G a w b->kW S G b w.reverse a
 |[],a,b,h=>by
  have h:a=b:=h
  exact h.symm
 |n::w,a,b,h=>by
  rw[iK]
  exact kW.app (h.1▸kW.one S G n) (rW.wlk h.2)
theorem rW.drop {S G:Nat->Nat}:∀{w:List Nat} {a b:Nat} {j n:Nat},rW S G a w b->w[j]?=some n->rW S G (G n) (w.drop j) b
 |[],a,b,j,n,h,e=>by simp at e
 |m::w,a,b,0,n,h,e=>by
  have e:m=n:=by simpa using e
  subst e
  exact⟨rfl,h.2⟩
 |m::w,a,b,j+1,n,h,e=>by
  rw[List.drop_succ_cons]
  exact rW.drop h.2 (by simpa using e)
structure Wk (ch:Nat->Option Nat)(S G:Nat->Nat)(lr:Nat->Nat)(v here:Nat)(ws:List Nat):Prop where
 ch:∀n∈ws,ch (G n)=some n/\0<lr (G n)
 way:rW S G v ws here
 nd:(ws.map G).Nodup
 lr:lr v<=lr here+ws.length
def Pu (many:Nat)(lr:Nat->Nat)(r:Nat)(pu:D):Prop:=(pu=.non/\∀x,lr x<r)\/∃v:Nat,pu=.int (v:Int)/\v<many/\lr v=r
theorem NO {many:Nat}{as:List cK}{ns:List D}{p:Int×Int}{aP:List Nat}{r:Nat}{M:Int}(i6:∀a∈as,CG many a)(hM:∀n,n<as.length->d5 as p n<=M)(oN:0<=M)(hr:0<r)(hn:∀n∈aP,n<as.length){e2:Option D} :
  ∀(post pre:List Nat) (T:Nat->Int) (d:D) (ch:Nat->Option Nat) (lr ts:Nat->Nat) (k m:Nat) (C:Int) (pu:D) (y6 y7 y8:Option D),aP=pre++post->nY aP (aS as) (aG as) (d5 as p) r pre T ch lr ts k->ei d ch m->m+post.length<=1000000->(∀x,T x<=C)->Pu many lr r pu ->
  ∃(T':Nat->Int) (d':D) (jW:Nat->Option Nat) (sU vE:Nat->Nat) (k':Nat) (sg:D) (z6 z7 z8:Option D),iy (gV 6) xo (aW post) [some (aY ns as),some (fr p),e2,some (.lst (cO many T)),some d,some pu,y6,y7,y8]=some (.nx [some (aY ns as),some (fr p),e2,some (.lst (cO many T')),some d',some sg,z6,z7,z8]) /\
   nY aP (aS as) (aG as) (d5 as p) r aP T' jW sU vE k'/\ei d' jW (m+post.length)/\(∀x,T' x<=C+(post.length:Int)*M)/\Pu many sU r sg
 |[],pre,T,d,ch,lr,ts,k,m,C,pu,y6,y7,y8,e,hP,hD,_,hC,hu=>by
  rw[bO]at e
  subst e
  exact⟨T,d,ch,lr,ts,k,pu,y6,y7,y8,rfl,hP,hD,λx=>by have:=hC x;simp;omega,hu⟩
 |n::post,pre,T,d,ch,lr,ts,k,m,C,pu,y6,y7,y8,e,hP,hD,hm,hC,hu=>by
  rw[aC]at hm
  have IH:n∈aP:=by rw[e];simp
  have Fm:=hn n IH
  have ok:=i6 _ (jx Fm)
  have f4:=jw ns as
  have i1:eh (.lst (as.map bv)) (.int (n:Int))=some (bv (aN as n)):=qo (by rw[bw,t7 Fm];rfl)
  have f1:=fs (aN as n)
  have f2:=fg (aN as n)
  have f3:=ft (aN as n)
  have f5:=fb (aN as n)
  have v1:eh (.lst (cO many T)) (.int ((aN as n).s:Int))=some (.int (T (aN as n).s)):=xZ T ok.s
  have v2:eh (.lst (cO many T)) (.int ((aN as n).g:Int))=some (.int (T (aN as n).g)):=xZ T ok.g
  have m1:eD (.int (aN as n).t) (.int p.2)=some (.int ((aN as n).t*p.2)):=zan (by have:=ok.t0;omega) (by have:=ok.t1;omega)
  have m2:eD (.int ((aN as n).b:Int)) (.int p.1)=some (.int (((aN as n).b:Int)*p.1)):=zan (by omega) (by have:=ok.b;omega)
  have e8:T (aN as n).s+(aN as n).t*p.2-((aN as n).b:Int)*p.1=T (aS as n)+d5 as p n:=by unfold d5 aS;omega
  have eg:(aN as n).g=aG as n:=rfl
  have p0:=ET p
  have p1:=qJ p
  have Cm:iy (gV 6) xo (aW (n::post)) [some (aY ns as),some (fr p),e2,some (.lst (cO many T)),some d,some pu,y6,y7,y8]=(xo [some (aY ns as),some (fr p),e2,some (.lst (cO many T)),some d,some pu,some (.int (n:Int)),y7,y8]).bind λo=>match o with
    |.nx ρ'=>iy (gV 6) xo (aW post) ρ'
    |.ct ρ'=>iy (gV 6) xo (aW post) ρ'
    |.bk ρ'=>some (.nx ρ')
    |.rt d=>some (.rt d):=rfl
  have pe:aP=(pre++[n])++post:=by rw[e];simp
  by_cases hg:T (aG as n)<T (aS as n)+d5 as p n
  ·obtain⟨d2,put,hd2⟩:=hD.put (by omega) (aG as n) n
   have gt:vS (.int (T (aS as n)+d5 as p n)) (.int (T (aN as n).g))=some (.bl true):=(zeh _ _).trans (by rw[decide_eq_true (by rw[eg];omega)])
   have ps:m9 (cO many T) ((aN as n).g:Int) (.int (T (aS as n)+d5 as p n))=some (cO many (kK T (aG as n) (T (aS as n)+d5 as p n))):=NA T ok.g _
   have st:xo [some (aY ns as),some (fr p),e2,some (.lst (cO many T)),some d,some pu,some (.int (n:Int)),y7,y8]=some (.nx [some (aY ns as),some (fr p),e2,some (.lst (cO many (kK T (aG as n) (T (aS as n)+d5 as p n)))),some d2,some (.int ((aG as n:Nat):Int)),some (.int (n:Int)),some (bv (aN as n)),some (.int (T (aS as n)+d5 as p n))]):=by
    have put:=put [some (aY ns as),some (fr p),e2,some (.lst (cO many (kK T (aG as n) (T (aS as n)+d5 as p n)))),some d,some pu,some (.int (n:Int)),some (bv (aN as n)),some (.int (T (aS as n)+d5 as p n))] 4 (e1 (cn [0,1,2,3] "goal") (eV 7)) (eV 6) rfl rfl f2
    have pl:iQ 3 (e1 (cn [0,1,2,3] "goal") (eV 7)) (eV 8) [some (aY ns as),some (fr p),e2,some (.lst (cO many T)),some d,some pu,some (.int (n:Int)),some (bv (aN as n)),some (.int (T (aS as n)+d5 as p n))]=some (.nx [some (aY ns as),some (fr p),e2,some (.lst (cO many (kK T (aG as n) (T (aS as n)+d5 as p n)))),some d,some pu,some (.int (n:Int)),some (bv (aN as n)),some (.int (T (aS as n)+d5 as p n))]):=by
     unfold iQ e1 eV
     generalize bv (aN as n)=ea at *
     simp[f2,ps]
    have lz:T (aN as n).g<T (aS as n)+d5 as p n:=hg
    generalize T (aS as n)+d5 as p n=w at *
    generalize cO many (kK T (aG as n) w)=v',T (aN as n).g=tg at *
    rw[←eg]
    generalize cO many T=v0,fr p=F,as.map bv=al,aY ns as=net,bv (aN as n)=ea at *
    unfold xo
    generalize iQ 3 (e1 (cn [0,1,2,3] "goal") (eV 7)) (eV 8)=PL,iP 4 (e1 (cn [0,1,2,3] "goal") (eV 7)) (eV 6)=PD at *
    clear Cm pe hP hD hm hC hu e IH Fm ok hg hd2 eg i6 hM oN hn ps
    walk_at "mir"
   obtain⟨T',d',jW,sU,vE,k',sg,z6,z7,z8,h1,h2,h3,h4,h5⟩:=NO (ns:=ns) i6 hM oN hr hn (e2:=e2) post (pre++[n]) _ d2 _ _ _ _ (m+1) (C+M) (.int ((aG as n:Nat):Int)) (some (.int (n:Int))) (some (bv (aN as n))) (some (.int (T (aS as n)+d5 as p n))) pe (hP.push IH hg) hd2 (by omega) (λx=>by
     unfold kK
     have h1:=hC x
     have h2:=hC (aS as n)
     have h3:=hM n Fm
     split<;>omega) (.inr ⟨aG as n,rfl,ok.g,by simp[lI]⟩)
   refine⟨T',d',jW,sU,vE,k',sg,z6,z7,z8,?_,h2,?_,λx=>?_,h5⟩
   ·rw[Cm,st]
    exact h1
   ·rw[aC,show m+(post.length+1)=m+1+post.length by omega];exact h3
   ·have:=h4 x
    rw[aC,show((post.length+1:Nat):Int)=(post.length:Int)+1 by omega,mJ,mM]
    omega
  ·have gt:vS (.int (T (aS as n)+d5 as p n)) (.int (T (aN as n).g))=some (.bl false):=(zeh _ _).trans (by rw[decide_eq_false (by rw[eg];omega)])
   have st:xo [some (aY ns as),some (fr p),e2,some (.lst (cO many T)),some d,some pu,some (.int (n:Int)),y7,y8]=some (.nx [some (aY ns as),some (fr p),e2,some (.lst (cO many T)),some d,some pu,some (.int (n:Int)),some (bv (aN as n)),some (.int (T (aS as n)+d5 as p n))]):=by
    have lz:¬T (aN as n).g<T (aS as n)+d5 as p n:=hg
    generalize T (aS as n)+d5 as p n=w,T (aN as n).g=tg,cO many T=v0,fr p=F,as.map bv=al,aY ns as=net,bv (aN as n)=ea at *
    unfold xo
    clear Cm pe hP hD hm hC hu e IH Fm ok hg eg i6 hM oN hn
    walk_at "mir"
   obtain⟨T',d',jW,sU,vE,k',sg,z6,z7,z8,h1,h2,h3,h4,h5⟩:=NO (ns:=ns) i6 hM oN hr hn (e2:=e2) post (pre++[n]) T d ch lr ts k m C pu (some (.int (n:Int))) (some (bv (aN as n))) (some (.int (T (aS as n)+d5 as p n))) pe (hP.stay (by omega)) hD (by omega) hC hu
   refine⟨T',d',jW,sU,vE,k',sg,z6,z7,z8,?_,h2,?_,λx=>?_,h5⟩
   ·rw[Cm,st]
    exact h1
   ·obtain⟨ks,ds,q1,q2,q3,q4⟩:=h3.is
    exact⟨ks,ds,q1,q2,by rw[aC];omega,q4⟩
   ·have:=h4 x
    rw[aC,show((post.length+1:Nat):Int)=(post.length:Int)+1 by omega,mJ,mM]
    omega
theorem zuc {many:Nat}{as:List cK}{ns:List D}{p:Int×Int}{aP:List Nat}{r:Nat}{M:Int}(i6:∀a∈as,CG many a)(hM:∀n,n<as.length->d5 as p n<=M)(oN:0<=M)(hr:0<r)(hn:∀n∈aP,n<as.length){T:Nat->Int}{d:D}{ch:Nat->Option Nat}{lr ts:Nat->Nat}{k m:Nat}{C:Int}(hP:nY aP (aS as) (aG as) (d5 as p) r [] T ch lr ts k)(hD:ei d ch m)(hm:m+aP.length<=1000000)(hC:∀x,T x<=C)(hl:∀x,lr x<r) :
  ∃(T':Nat->Int) (d':D) (jW:Nat->Option Nat) (sU vE:Nat->Nat) (k':Nat) (sg:D),vf [aY ns as,fr p,.lst (aW aP),.lst (cO many T),d]=some (.tup [sg,.lst (cO many T'),d']) /\
   nY aP (aS as) (aG as) (d5 as p) r aP T' jW sU vE k'/\ei d' jW (m+aP.length)/\(∀x,T' x<=C+(aP.length:Int)*M)/\Pu many sU r sg:=by
 obtain⟨T',d',jW,sU,vE,k',sg,z6,z7,z8,h1,h2,h3,h4,h5⟩:=NO (ns:=ns) i6 hM oN hr hn (e2:=some (.lst (aW aP))) aP [] T d ch lr ts k m C .non none none none rfl hP hD hm hC (.inl ⟨rfl,hl⟩)
 refine⟨T',d',jW,sU,vE,k',sg,?_,h2,h3,h4,h5⟩
 unfold vf uR rM uS
 generalize cO many T=v0 at *
 generalize cO many T'=v1,fr p=F,aY ns as=net,aW aP=nl at *
 clear hP hD hm hC hl i6 hM oN hn h2 h3 h4 h5
 walk_at "mir"
theorem ei.congr {d:D}{ch jW:Nat->Option Nat}{m:Nat}(h:ei d ch m)(e:∀x,ch x=jW x):ei d jW m:=by
 have:ch=jW:=funext e
 rw[←this];exact h
theorem ei.mono {d:D}{ch:Nat->Option Nat}{m m':Nat}(h:ei d ch m)(e:m<=m'):ei d ch m':=by
 obtain⟨ks,ds,q1,q2,q3,q4⟩:=h.is
 exact⟨ks,ds,q1,q2,by omega,q4⟩
theorem ei.nil:ei (.dK [] []) (λ_=>none) 0:=⟨[],[],rfl,rfl,by simp,λ_=>rfl⟩
def uQ (us:List Nat)(y:Nat):Option Nat:=if y∈us then some (us.idxOf y)else none
theorem zrw (us:List Nat){x:Nat}(h:x∉us)(y:Nat):(if y=x then some us.length else uQ us y)=uQ (us++[x]) y:=by
 unfold uQ
 by_cases e:y=x
 ·subst e
  rw[if_pos rfl,if_pos (by simp),tL,if_neg h]
  simp
 ·rw[if_neg e]
  by_cases hy:y∈us
  ·rw[if_pos hy,if_pos (by simp[hy]),tL,if_pos hy]
  ·rw[if_neg hy,if_neg (by simp[hy,e])]
def Wb (ρ:L3.Env):Nat:=match ρ[5]?.join with
 |some (D.lst ds)=>1000-ds.length
 |_=>0
def cR:BF:=tb (λρ=>((eV 3) ρ).bind λx=>((eV 4) ρ).bind λy=>(hU y x).bind λr=>some (.bl (!r.isSome)))
theorem zvf {as:List cK}{many m v:Nat}{d:D}{ch:Nat->Option Nat}{lr:Nat->Nat}(hD:ei d ch m)(kX:∀x,0<lr x->∃n,ch x=some n/\n<as.length/\aG as n=x/\lr x<=lr (aS as n)+1)(i6:∀a∈as,CG many a)(hv:v<many)(Pf:many<=lr v)(hm:many<=900) :
  ∃(R:List Nat) (x:Nat),vz [.lst (as.map bv),d,.int (v:Int)]=some (.lst (aW R))/\R≠[]/\kW (aS as) (aG as) x R x/\(R.map (aG as)).Nodup/\∀n∈R,ch (aG as n)=some n/\0<lr (aG as n):=by
 have vP:∀(here:Nat) (us:List Nat) (d2:D) (k:Nat) (y0 y1 y2 y5:Option D),ei d2 (uQ us) k->cR [y0,y1,y2,some (.int (here:Int)),some d2,y5]=some (!decide (here∈us)):=by
  intro here us d2 k y0 y1 y2 y5 h
  have g1:=h.has here
  have OX:((uQ us here).map λ(n:Nat)=>D.int (n:Int)).isSome=decide (here∈us):=by
   unfold uQ
   by_cases hh:here∈us
   ·rw[if_pos hh,decide_eq_true hh];rfl
   ·rw[if_neg hh,decide_eq_false hh];rfl
  rw[←OX]
  generalize (uQ us here).map (λ(n:Nat)=>D.int (n:Int))=o at *
  unfold cR
  clear h OX kX i6 hD
  walk_at "mir"
 have lp:=Rg (c:=cR) (b:=ud)
  (λρ=>∃(ws:List Nat) (here:Nat) (d2:D),ρ=[some (.lst (as.map bv)),some d,some (.int (v:Int)),some (.int (here:Int)),some d2,some (.lst (aW ws))]/\Wk ch (aS as) (aG as) lr v here ws/\here<many/\(∀n∈ws,n<as.length)/\ei d2 (uQ (ws.map (aG as))) ws.length) Wb
  (λ_=>False) (by
   rintro ρ ⟨ws,here,d2,rfl,hw,hh,hn,h2⟩
   have yX:ws.length<=many:=by
    rw[←aq (f:=aG as)]
    refine Kahn.len_le hw.nd λx hx=>?_
    obtain⟨n,h1,rfl⟩:=bK.mp hx
    exact(i6 _ (jx (hn n h1))).g
   refine⟨_,vP here _ d2 _ _ _ _ _ h2,λht=>.inl ?_⟩
   have sS:here∉ws.map (aG as):=by simpa using ht
   have Bs:(ws.map (aG as)++[here]).Nodup:=br.mpr ⟨hw.nd,by simp,λa ha b hb e=>sS (by rw[←aB.mp hb,←e];exact ha)⟩
   have A7:=Kahn.len_le (many:=many) Bs λx hx=>by
    rcases aZ.mp hx with hx|hx
    ·obtain⟨n,h1,rfl⟩:=bK.mp hx
     exact(i6 _ (jx (hn n h1))).g
    ·rw[aB.mp hx];exact hh
   rw[aX,aq,cB]at A7
   have hl:=hw.lr
   obtain⟨n,c1,c2,c3,c4⟩:=kX here (by omega)
   obtain⟨d3,put,Pa⟩:=h2.put (by omega) here ws.length
   have put:=put [some (.lst (as.map bv)),some d,some (.int (v:Int)),some (.int (here:Int)),some d2,some (.lst (aW ws))] 4 (eV 3) (eN eU (aCons (eV 5) aNil)) (by
    show eU [.lst (aW ws)]=_
    rw[jh];unfold aW;rw[aq]) rfl rfl
   have g1:=hD.get c1
   have f1:=fs (aN as n)
   have i1:eh (.lst (as.map bv)) (.int (n:Int))=some (bv (aN as n)):=qo (by rw[bw,t7 c2];rfl)
   refine⟨[some (.lst (as.map bv)),some d,some (.int (v:Int)),some (.int ((aN as n).s:Int)),some d3,some (.lst (aW (ws++[n])))],?_,⟨ws++[n],(aN as n).s,d3,rfl,⟨λk hk=>?_,hw.way.snoc c3,?_,?_⟩,(i6 _ (jx c2)).s,λk hk=>?_,?_⟩,?_⟩
   ·have e3:aW (ws++[n])=aW ws++[.int (n:Int)]:=by unfold aW;rw[d8];rfl
    have hz:(aW ws).length<16777216:=by unfold aW;rw[aq];omega
    rw[e3]
    generalize as.map bv=al,aW ws=wl,bv (aN as n)=ea at *
    unfold ud
    generalize iP 4 (eV 3) (eN eU (aCons (eV 5) aNil))=PP at *
    clear e3 Pa c1 c2 c3 c4 hl A7 Bs sS ht yX h2 hn hh hw vP hD kX i6 hv Pf hm
    walk_at "mir"
   ·rcases aZ.mp hk with hk|hk
    ·exact hw.ch k hk
    ·rw[aB.mp hk,c3];exact⟨c1,by omega⟩
   ·rw[d8,sy,c3];exact Bs
   ·rw[aX,cB]
    have:(aN as n).s=aS as n:=rfl
    rw[this]
    omega
   ·rcases aZ.mp hk with hk|hk
    ·exact hn k hk
    ·rw[aB.mp hk];exact c2
   ·rw[aX,cB,d8,sy,c3]
    refine Pa.congr λy=>?_
    have:=zrw (ws.map (aG as)) sS y
    rw[aq]at this
    exact this
   ·show 1000-(aW (ws++[n])).length<1000-(aW ws).length
    unfold aW
    rw[aq,aq,aX,cB]
    omega) kA [some (.lst (as.map bv)),some d,some (.int (v:Int)),some (.int (v:Int)),some (.dK [] []),some (.lst (aW []))]
  ⟨[],v,.dK [] [],rfl,⟨λn hn=>(by cases hn),rfl,by simp,by simp⟩,hv,λn hn=>(by cases hn),ei.nil.congr λ_=>by simp[uQ]⟩ (JL (by show 1000-(aW []).length<1048576;omega))
 have n0:aW []=[]:=rfl
 rw[n0]at lp
 rcases lp with⟨ρ',l1,⟨ws,here,d2,rfl,hw,hh,hn,h2⟩,hc⟩|⟨_,_,f⟩
 ·rw[vP here _ d2 _ _ _ _ _ h2]at hc
  have IE:here∈ws.map (aG as):=by simpa using hc
  have hj:uQ (ws.map (aG as)) here=some ((ws.map (aG as)).idxOf here):=by unfold uQ;rw[if_pos IE]
  have yS:=List.idxOf_lt_length_iff.mpr IE
  have Ff:(ws.map (aG as))[(ws.map (aG as)).idxOf here]?=some here:=by
   rw[dA yS,List.getElem_idxOf]
  generalize (ws.map (aG as)).idxOf here=j at *
  rw[aq]at yS
  rw[bw,dA yS]at Ff
  replace Ff:aG as ws[j]=here:=by simpa using Ff
  have wlk:rW (aS as) (aG as) here (ws.drop j) here:=by
   have:=hw.way.drop (j:=j) (n:=ws[j]) (dA yS)
   rw[Ff]at this
   exact this
  refine⟨(ws.drop j).reverse,here,?_,?_,wlk.wlk,?_,λn yT=>?_⟩
  ·have gv:=h2.get hj
   have ct:cutD (aW ws) (some (j:Int)) none=aW (ws.drop j):=by
    rw[Z8]
    unfold aW
    rw[oz]
   have lv:pT (.lst (aW (ws.drop j)))=some (.lst (aW (ws.drop j).reverse)):=by
    show some (D.lst (aW (ws.drop j)).reverse)=_
    unfold aW
    rw[←iY]
   unfold cR at l1
   generalize aW (ws.drop j).reverse=wr at *
   generalize aW (ws.drop j)=wd,as.map bv=al,aW ws=wl at *
   unfold vz ig
   generalize (tb (λρ=>((eV 3) ρ).bind λx=>((eV 4) ρ).bind λy=>(hU y x).bind λr=>some (.bl (!r.isSome))))=cc at *
   clear wlk Ff yS hj IE hc h2 hn hh hw vP hD kX i6 hv Pf hm
   walk_at "mir"
  ·intro e
   have:=congrArg qT e
   rw[gU,gG]at this
   simp at this
   omega
  ·rw[iY,oz]
   exact List.pairwise_reverse.mpr ((ou.sublist (List.drop_sublist _ _) hw.nd).imp λh e=>h e.symm)
  ·exact hw.ch n (List.mem_of_mem_drop (ma.mp yT))
 ·exact f.elim
def xS (many:Nat)(p:Int×Int)(T:Nat->Int):D:=.lst ((ba many).map λg=>fr (Fq.mk (T g) p.2))
def Ou (many:Nat)(as:List cK)(p:Int×Int)(aP:List Nat)(B:Int)(d:D):Prop :=
 (∃T:Nat->Int,d=.tup [.str "times",xS many p T]/\(∀n∈aP,T (aS as n)+d5 as p n<=T (aG as n))/\∀x,0<=T x/\T x<=B) \/
 ∃(R:List Nat) (x:Nat),d=.tup [.str "ring",.lst (aW R)]/\R≠[]/\kW (aS as) (aG as) x R x/\(R.map (aG as)).Nodup/\(∀n∈R,n∈aP)/\0<(R.map (d5 as p)).sum
theorem zrx (many:Nat):(ax many [D.int 0]).flatten=cO many λ_=>0:=by
 unfold cO
 rw[mP,bF]
 induction many with
 |zero=>rfl
 |succ n ih=>rw[cj,dL,ih,cj];rfl
theorem zof {many:Nat}{p:Int×Int}{T:Nat->Int}(hm:many<=1000)(hp:p.2≠0)(tY:Sz 8000 p.2)(r:L3.Env)(h1:r[1]?.join=some (fr p))(h3:r[3]?.join=some (.lst (cO many T))):uf r=some (xS many p T):=by
 unfold xS
 refine u7 (λ(g:Nat)=>D.int (T g)) (λg=>fr (Fq.mk (T g) p.2)) (ba many) (by unfold lsD;have:eV 3 r=_:=h3;rw[this];rfl) (by rw[bF];omega) λg _=>⟨_,rfl,?_⟩
 have iH:gH r [1]=[some (fr p)]:=by unfold gH;simp[h1]
 rw[iH]
 have p1:=qJ p
 have ra:=Cy (t:=T g) hp tY
 generalize fr (Fq.mk (T g) p.2)=F,fr p=fp at *
 clear iH h1 h3 hm tY
 walk_at "mir"
theorem RQ {many:Nat}{as:List cK}{ns:List D}{p:Int×Int}{aP:List Nat}{M:Int}(jP:ns.length=many)(nw:1<=many)(hm:many<=900)(Fs:aP.length<=1000)(i6:∀a∈as,CG many a)(hp:p.2≠0)(tY:Sz 8000 p.2)(hM:∀n,n<as.length->d5 as p n<=M)(oN:0<=M)(hn:∀n∈aP,n<as.length) :
  ∃d,xg [aY ns as,fr p,.lst (aW aP)]=some d/\Ou many as p aP ((many:Int)*((aP.length:Int)*M)) d:=by
 have ln:eU [.lst ns]=some (.int (many:Int)):=(jh _).trans (by rw[jP])
 have Lj:=Nm ns as
 have Iv:=jw ns as
 have B5:0<=(aP.length:Int)*M:=gj (by omega) oN
 have lp:=Rf (g:=gV 6) (b:=wc) (n:=many)
  (λi ρ=>∃(T:Nat->Int) (d:D) (ch:Nat->Option Nat) (lr ts:Nat->Nat) (k:Nat) (pu:D) (y6:Option D),ρ=[some (aY ns as),some (fr p),some (.lst (aW aP)),some (.lst (cO many T)),some d,some pu,y6]/\nY aP (aS as) (aG as) (d5 as p) (i+1) [] T ch lr ts k/\ei d ch (i*aP.length)/\(∀x,T x<=(i:Int)*((aP.length:Int)*M))/\(∀x,lr x<=i)/\(i=0\/∃v:Nat,pu=.int (v:Int)/\v<many/\lr v=i))
  (Ou many as p aP ((many:Int)*((aP.length:Int)*M))) (by
   rintro i ρ hi ⟨T,d,ch,lr,ts,k,pu,y6,rfl,hP,hD,hC,hl,_⟩
   have A6:i*aP.length+aP.length<=1000000:=by
    have:i*aP.length<=900*1000:=yE (by omega) Fs
    omega
   obtain⟨T',d',jW,sU,vE,k',sg,h1,h2,h3,h4,h5⟩:=zuc (ns:=ns) (aP:=aP) i6 hM oN (Nat.succ_pos i) hn hP hD A6 hC (λx=>by have:=hl x;omega)
   have AZ:hZ d=true/\hZ (.lst (cO many T))=true:=by
    obtain⟨ks,ds,rfl,_⟩:=hD.is
    exact⟨rfl,rfl⟩
   have hB:∀x,T' x<=((i+1:Nat):Int)*((aP.length:Int)*M):=λx=>by
    have:=h4 x
    rw[show((i+1:Nat):Int)=(i:Int)+1 by omega,mJ,mM]
    omega
   have LK:iB 3 4 (aCons (eV 0) (aCons (eV 1) (aCons (eV 2) aNil))) vf [some (aY ns as),some (fr p),some (.lst (aW aP)),some (.lst (cO many T)),some d,some pu,some (.int (i:Int))]=some (sg,[some (aY ns as),some (fr p),some (.lst (aW aP)),some (.lst (cO many T')),some d',some pu,some (.int (i:Int))]):=by
    obtain⟨c1,c2⟩:=AZ
    generalize cO many T=v0 at *
    generalize cO many T'=v1,fr p=F,aY ns as=net,aW aP=nl at *
    unfold iB
    clear hP hD hC hl A6 h2 h3 h4 h5 hB i6 tY hM oN hn B5 ln Lj Iv
    walk_at "mir"
   have ss:oh 5 (iB 3 4 (aCons (eV 0) (aCons (eV 1) (aCons (eV 2) aNil))) vf) [some (aY ns as),some (fr p),some (.lst (aW aP)),some (.lst (cO many T)),some d,some pu,some (.int (i:Int))]=some (.nx [some (aY ns as),some (fr p),some (.lst (aW aP)),some (.lst (cO many T')),some d',some sg,some (.int (i:Int))]):=by
    unfold oh
    rw[LK]
    rfl
   refine⟨[some (aY ns as),some (fr p),some (.lst (aW aP)),some (.lst (cO many T)),some d,some pu,some (.int (i:Int))],rfl,?_⟩
   rcases h5 with⟨rfl,II⟩|⟨v,rfl,hv,IF⟩
   ·refine .inr ⟨.tup [.str "times",xS many p T'],?_,.inl ⟨T',rfl,λn hn=>h2.dn n hn (II _),λx=>⟨h2.pos x,?_⟩⟩⟩
    ·have q:=zof (T:=T') (p:=p) (many:=many) (by omega) hp tY [some (aY ns as),some (fr p),some (.lst (aW aP)),some (.lst (cO many T')),some d',some .non,some (.int (i:Int))] rfl rfl
     have sc:(D.str "times").sc=true:=rfl
     generalize cO many T=v0 at *
     generalize cO many T'=v1,fr p=F,aY ns as=net,aW aP=nl,xS many p T'=TM at *
     unfold wc vQ
     generalize oh 5 (iB 3 4 (aCons (eV 0) (aCons (eV 1) (aCons (eV 2) aNil))) vf)=SM at *
     clear hP hD hC hl A6 h1 h2 h3 h4 II hB i6 tY hM oN hn B5 ln Lj Iv AZ LK
     walk_at "mir"
    ·have h6:=hB x
     have h7:((i+1:Nat):Int)*((aP.length:Int)*M)<=(many:Int)*((aP.length:Int)*M):=aR (by omega) B5
     omega
   ·refine .inl ⟨[some (aY ns as),some (fr p),some (.lst (aW aP)),some (.lst (cO many T')),some d',some (.int (v:Int)),some (.int (i:Int))],?_,⟨T',d',jW,sU,vE,k',_,_,rfl,h2.next,?_,hB,h2.le,.inr ⟨v,rfl,hv,IF⟩⟩⟩
    ·generalize cO many T=v0 at *
     generalize cO many T'=v1,fr p=F,aY ns as=net,aW aP=nl at *
     unfold wc
     generalize oh 5 (iB 3 4 (aCons (eV 0) (aCons (eV 1) (aCons (eV 2) aNil))) vf)=SM at *
     clear hP hD hC hl A6 h1 h2 h3 h4 IF hB i6 tY hM oN hn B5 ln Lj Iv AZ LK hv
     walk_at "mir"
    ·rw[Nat.add_mul,Nat.one_mul];exact h3)
  many 0 [some (aY ns as),some (fr p),some (.lst (aW aP)),some (.lst (cO many λ_=>0)),some (.dK [] []),some .non,none] (by omega)
  ⟨λ_=>0,.dK [] [],λ_=>none,λ_=>0,λ_=>0,1,.non,none,rfl,nY.start,ei.nil.mono (by omega),λx=>by simp,λx=>aF 0,.inl rfl⟩
 have hrg:i8 [.int (many:Int)]=some ((ba many).map λ(t:Nat)=>D.int (t:Int)):=by
  rw[Co (by omega) (by omega)]
  unfold fR
  simp
 have rp:nO (.lst [.int 0]) (.int (many:Int))=some (.lst (cO many λ_=>0)):=by
  show(if -1000000<(many:Int)/\(many:Int)<1000000/\[D.int 0].length<=16 then some (D.lst (ax (many:Int).toNat [D.int 0]).flatten)else none)=_
  rw[if_pos ⟨by omega,by omega,by simp⟩,gk,zrx many]
 rw[←qR]at lp
 rcases lp with⟨ρ',l1,⟨T,d,ch,lr,ts,k,pu,y6,rfl,hP,hD,hC,hl,hv⟩⟩|⟨w,l1,hw⟩
 ·rcases hv with hv|⟨v,rfl,hv,IF⟩
  ·omega
  obtain⟨R,x,r1,r2,r3,r4,r5⟩:=zvf (as:=as) (many:=many) (v:=v) hD (λx hx=>by
   obtain⟨n,c1,c2,c3,c4,_⟩:=hP.ch x hx
   exact⟨n,c1,hn n c2,c3,c4⟩) i6 hv (by omega) hm
  have key:∀n∈R,n∈aP/\T (aG as n)<=T (aS as n)+d5 as p n/\(T (aG as n)<T (aS as n)+d5 as p n\/ts (aS as n)<ts (aG as n)):=λn VG=>by
   obtain⟨q1,q2⟩:=r5 n VG
   obtain⟨n',c1,c2,c3,c4,c5,c6⟩:=hP.ch _ q2
   rw[q1]at c1
   have:=Option.some.inj c1
   subst this
   exact⟨c2,c5,c6⟩
  obtain⟨_,k2⟩:=nY.cost (T:=T) (ts:=ts) (S:=aS as) (G:=aG as) (c:=d5 as p) (Q:=λn=>n∈R) (λn h=>(key n h).2) r3 (λn h=>h)
  refine⟨.tup [.str "ring",.lst (aW R)],?_,.inr ⟨R,x,rfl,r2,r3,r4,λn h=>(key n h).1,?_⟩⟩
  ·have sc:(D.str "ring").sc=true:=rfl
   clear hP hD hC hl IF hv key k2 r2 r3 r4 r5 i6 tY hM oN hn B5
   generalize cO many T=v0,(cO many λ_=>0)=v1,fr p=F,as.map bv=al,aY ns as=net,aW aP=nl,aW R=rl,(ba many).map (λ(t:Nat)=>D.int (t:Int))=Xv at *
   unfold xg vQ
   walk_at "mir"
  ·rcases k2 with k2|k2|k2
   ·exact absurd k2 r2
   ·omega
   ·omega
 ·refine⟨w,?_,hw⟩
  clear hw i6 tY hM oN hn B5
  generalize (cO many λ_=>0)=v1,fr p=F,as.map bv=al,aY ns as=net,aW aP=nl,(ba many).map (λ(t:Nat)=>D.int (t:Int))=Xv at *
  unfold xg vQ
  walk_at "mir"
theorem BW (as:List cK)(f:cK->Int)(n:Nat):(aN (as.map λa=>fZ a (f a)) n).s=(aN as n).s/\(aN (as.map λa=>fZ a (f a)) n).g=(aN as n).g/\(aN (as.map λa=>fZ a (f a)) n).t=(aN as n).t/\(aN (as.map λa=>fZ a (f a)) n).b=(aN as n).b:=by
 unfold aN
 rw[bw]
 cases as[n]?<;>exact⟨rfl,rfl,rfl,rfl⟩
theorem zvg (as:List cK)(f:cK->Int):aS (as.map λa=>fZ a (f a))=aS as:=funext λn=>(BW as f n).1
theorem zvh (as:List cK)(f:cK->Int):aG (as.map λa=>fZ a (f a))=aG as:=funext λn=>(BW as f n).2.1
def tN (as:List cK)(n:Nat):Int:=(aN as n).t
def bN (as:List cK)(n:Nat):Int:=((aN as n).b:Int)
theorem JI {as:List cK}{p:Int×Int}:∀w:List Nat,(w.map (d5 as p)).sum=(w.map (tN as)).sum*p.2-(w.map (bN as)).sum*p.1
 |[]=>by simp
 |n::w=>by
  rw[aV,aV,aV,ce,ce,ce,JI w]
  unfold d5 tN bN
  grind
theorem JJ {f:Nat->Int}{m:Int}(hm:0<=m):∀is:List Nat,(∀i∈is,0<=f i/\f i<=m)->0<=(is.map f).sum/\(is.map f).sum<=m*(is.length:Int)
 |[],_=>by simp
 |i::is,h=>by
  obtain⟨h1,h2⟩:=JJ hm is λj hj=>h j (ak _ hj)
  obtain⟨h3,h4⟩:=h i af
  rw[aV,ce,aC]
  refine⟨by omega,?_⟩
  rw[show((is.length+1:Nat):Int)=(is.length:Int)+1 by omega,Int.mul_add,mK]
  omega
theorem RR {as:List cK}{rank:Nat->Nat}(vX:∀a∈as,a.b=0->rank a.s<rank a.g):∀{w:List Nat} {a b:Nat},kW (aS as) (aG as) a w b->(∀n∈w,n<as.length)->0<=(w.map (bN as)).sum/\((w.map (bN as)).sum=0->rank a+w.length<=rank b)
 |[],a,b,h,_=>by
  have h:a=b:=h
  subst h
  simp
 |n::w,a,b,h,hn=>by
  obtain⟨i1,i2⟩:=RR vX h.2 λm hm=>hn m (ak _ hm)
  rw[aV,ce,aC]
  have h0:0<=bN as n:=by unfold bN;omega
  refine⟨by omega,λe=>?_⟩
  have h1:bN as n=0:=by omega
  have h2:=vX _ (jx (hn n af)) (by unfold bN at h1;omega)
  have h3:=i2 (by omega)
  have e1:a=(aN as n).s:=h.1.symm
  have e2:aG as n=(aN as n).g:=rfl
  rw[e2]at h3
  rw[e1]
  omega
theorem zry {T B c1 c2 m1 m2 S P:Int}(hc:0<c2)(hm:0<m2)(v:m1*(2*B*c2)=(T*c2+c1*B)*m2)(h:(c1*B-T*c2)*P<=S*c2*B):(m1*B-T*m2)*(2*P)<=S*m2*B:=by
 have e:(m1*B-T*m2)*(2*P)*c2=(c1*B-T*c2)*P*m2:=by
  have:(m1*B-T*m2)*(2*P)*c2=(m1*(2*B*c2)-2*T*c2*m2)*P:=by grind
  rw[this,v];grind
 have h1:=aR h (cS hm)
 rw[←e]at h1
 have e2:S*c2*B*m2=S*m2*B*c2:=by grind
 rw[e2]at h1
 exact fG h1 hc
theorem zvi {T B T2 B2 c1 c2 m1 m2 S P:Int}(hc:0<c2)(hm:0<m2)(hB:0<B)(Vj:0<B2)(hP:0<P)(v:m1*(2*B*c2)=(T*c2+c1*B)*m2)(ha:m1*B2<T2*m2)(h:(c1*B-T*c2)*P<=S*c2*B):(c1*B2-T2*c2)*(2*P)<=S*c2*B2:=by
 have k1:(c1*B2-T2*c2)*m2<=B2*(c1*m2-m1*c2):=by
  have:=aR (cS ha) (cS hc)
  grind
 have k2:(c1*m2-m1*c2)*(2*B)=m2*(c1*B-T*c2):=by grind
 have k3:(c1*B2-T2*c2)*m2*(2*B)<=B2*(m2*(c1*B-T*c2)):=by
  have:=aR k1 (show(0:Int)<=2*B by omega)
  rw[iS B2,k2]at this
  exact this
 have k4:=aR k3 (cS hP)
 have k5:=cw h (cS (dF Vj hm))
 have k6:(c1*B2-T2*c2)*(2*P)*(m2*B)<=S*c2*B2*(m2*B):=by
  have e1:(c1*B2-T2*c2)*(2*P)*(m2*B)=(c1*B2-T2*c2)*m2*(2*B)*P:=by grind
  have e2:B2*(m2*(c1*B-T*c2))*P=B2*m2*((c1*B-T*c2)*P):=by grind
  have e3:B2*m2*(S*c2*B)=S*c2*B2*(m2*B):=by grind
  rw[e1]
  rw[e2]at k4
  rw[e3]at k5
  exact lK k4 k5
 exact fG k6 (dF hm hB)
theorem zud {T B T' B' c1 c2 D:Int}(hc:0<c2)(hB:0<B)(Vk:B<=D)(Lv:0<B')(Lw:B'<=D)(h:(c1*B-T*c2)*(D*D)<c2*B)(hu:T' * c2<=c1*B'):T' * B<=T*B':=by
 apply Int.not_lt.mp
 intro hn
 have k1:c2<=B' * (c1*B-T*c2):=by
  have a1:c2<=(T' * B-T*B')*c2:=by
   have:1*c2<=(T' * B-T*B')*c2:=aR (by omega) (cS hc)
   omega
  have a2:=cw hu (cS hB)
  grind
 have hx:0<=c1*B-T*c2:=by
  apply Int.not_lt.mp
  intro z
  have:=Int.mul_lt_mul_of_pos_left z Lv
  omega
 generalize c1*B-T*c2=x at *
 have k2:=aR k1 (cS hB)
 have k3:B' * x*B<=x*(D*D):=by
  have b1:B' * B<=D*D:=dE Lw Vk (cS hB) (by omega)
  have b2:=cw b1 hx
  have e:B' * x*B=x*(B' * B):=by grind
  rw[e];exact b2
 omega
theorem zrz {T B c1 c2 S P D:Int}(hx:c2*B<=(c1*B-T*c2)*(D*D))(hc:0<c2)(hB:0<B)(hS:0<=S)(hP:0<P)(h:(c1*B-T*c2)*P<=S*c2*B):P<=S*(D*D):=by
 have pos:0<c2*B:=dF hc hB
 have V0:0<c1*B-T*c2:=by
  apply Int.not_le.mp
  intro z
  have hD:0<=D*D:=by
   rcases Int.le_total 0 D with h|h
   ·exact gj h h
   ·exact lh h h
  have:(c1*B-T*c2)*(D*D)<=0:=Int.mul_nonpos_of_nonpos_of_nonneg z hD
  omega
 generalize c1*B-T*c2=x at *
 have k1:=cw hx hS
 have e1:S*(c2*B)=S*c2*B:=by grind
 rw[e1]at k1
 have k2:x*P<=x*(S*(D*D)):=by
  have e2:S*(x*(D*D))=x*(S*(D*D)):=by grind
  rw[e2]at k1
  exact lK h k1
 exact ot k2 V0
theorem zue {T B c1 c2 m1 m2 S:Int}(hc:0<c2)(hB:0<B)(hm:0<m2)(hT:T<=S*B)(h:c1<=S*c2)(v:m1*(2*B*c2)=(T*c2+c1*B)*m2):m1<=S*m2:=by
 have k1:=aR hT (cS hc)
 have k2:=aR h (cS hB)
 have k3:T*c2+c1*B<=S*(2*B*c2):=by grind
 have k4:=aR k3 (cS hm)
 rw[←v]at k4
 have e:S*(2*B*c2)*m2=S*m2*(2*B*c2):=by grind
 rw[e]at k4
 have pos:0<2*B*c2:=dF (by omega) hc
 exact fG k4 pos
theorem zuf {T B T' B' q1 q2:Int}(hB:0<B)(hq:0<q2)(e:q1*B=T*q2)(h:T' * B<=T*B'):T' * q2<=q1*B':=by
 have k:=aR h (cS hq)
 have e1:T' * B*q2=T' * q2*B:=by grind
 have e2:T*B' * q2=q1*B' * B:=by
  have:T*B' * q2=T*q2*B':=by grind
  rw[this,←e];grind
 rw[e1,e2]at k
 exact fG k hB
def sT (as:List cK)(R:List Nat):Int:=(R.map (tN as)).sum
def sB (as:List cK)(R:List Nat):Int:=(R.map (bN as)).sum
structure RG (as:List cK)(aP:List Nat)(R:List Nat):Prop where
 ne:R≠[]
 w:∃x,kW (aS as) (aG as) x R x
 nd:(R.map (aG as)).Nodup
 m:∀n∈R,n∈aP
structure GN (many:Nat)(as:List cK)(aP:List Nat)(rk:Nat->Nat)(mb:Nat):Prop where
 m1:1<=many
 m:many<=40
 al:as.length<=120
 ok:∀a∈as,CG many a
 n:∀n∈aP,n<as.length
 nl:aP.length<=120
 r:∀a∈as,a.b=0->rk a.s<rk a.g
 b1:1<=mb
 b4:mb<=4
 b:∀a∈as,a.b<=mb
theorem S9 {f:Nat->Int}:∀aP:List Nat,(∀n∈aP,0<=f n)->0<=(aP.map f).sum
 |[],_=>by simp
 |n::aP,h0=>by
  rw[aV,ce]
  have:=S9 aP λm hm=>h0 m (ak _ hm)
  have:=h0 n af
  omega
theorem Jx {l1 l2:List Int}(p:l1.Perm l2):l1.sum=l2.sum:=by
 induction p with
 |nil=>rfl
 |cons x _ ih=>rw[ce,ce,ih]
 |swap x y l=>rw[ce,ce,ce,ce];omega
 |trans _ _ V5 V6=>exact V5.trans V6
theorem RT {f:Nat->Int}:∀(R aP:List Nat),(∀n∈aP,0<=f n)->R.Nodup->(∀n∈R,n∈aP)->(R.map f).sum<=(aP.map f).sum
 |[],aP,h0,_,_=>by
  have:=S9 aP h0
  simpa using this
 |n::R,aP,h0,nd,hs=>by
  have hn:=hs n af
  have p:=List.perm_cons_erase hn
  have e:(aP.map f).sum=f n+((aP.erase n).map f).sum:=by
   have p2:=p.map f
   rw[aV]at p2
   rw[Jx p2,ce]
  obtain⟨n1,n2⟩:=bJ.mp nd
  have ih:=RT R (aP.erase n) (λm hm=>h0 m (List.mem_of_mem_erase hm)) n2 λm hm=>(List.mem_erase_of_ne (λ(z:m=n)=>n1 (by rw[←z];exact hm))).mpr (hs m (ak _ hm))
  rw[aV,ce,e]
  omega
section
variable {many:Nat}{as:List cK}{aP:List Nat}{rk:Nat->Nat}{mb:Nat}
theorem RG.lt (h:RG as aP R)(g:GN many as aP rk mb):∀n∈R,n<as.length:=λn hn=>g.n n (h.m n hn)
theorem RG.len {R:List Nat}(h:RG as aP R)(g:GN many as aP rk mb):R.length<=many:=by
 rw[←aq (f:=aG as)]
 refine Kahn.len_le h.nd λy hy=>?_
 obtain⟨n,q1,rfl⟩:=bK.mp hy
 exact(g.ok _ (jx (h.lt g n q1))).g
theorem RG.bds {R:List Nat}(h:RG as aP R)(g:GN many as aP rk mb):(0<=sT as R/\sT as R<=sT as aP)/\1<=sB as R/\sB as R<=(many:Int)*(mb:Int):=by
 have hn:=h.lt g
 have hl:=h.len g
 obtain⟨x,hx⟩:=h.w
 obtain⟨r1,r2⟩:=RR (rank:=rk) g.r hx hn
 have hwp:=rS.mpr h.ne
 have bt:=JJ (f:=tN as) (m:=1000000000) (by decide) R λn h=>⟨(g.ok _ (jx (hn n h))).t0,(g.ok _ (jx (hn n h))).t1⟩
 have bb:=JJ (f:=bN as) (m:=(mb:Int)) (by omega) R λn h=>by
  have:=g.b _ (jx (hn n h))
  unfold bN
  omega
 have E4:1<=(R.map (bN as)).sum:=by
  by_cases e:(R.map (bN as)).sum=0
  ·have:=r2 e;omega
  ·omega
 have nd:R.Nodup:=ou.of_map (S:=(·≠·)) (aG as) (λa b h e=>h (by rw[e])) h.nd
 refine⟨⟨bt.1,?_⟩,E4,?_⟩
 ·exact RT R aP (λn hn=>(g.ok _ (jx (g.n n hn))).t0) nd h.m
 ·have:(mb:Int)*(R.length:Int)<=(mb:Int)*(many:Int):=cw (by omega) (by omega)
  have e:(mb:Int)*(many:Int)=(many:Int)*(mb:Int):=eL _ _
  have:=bb.2
  unfold sB
  omega
theorem GN.st (g:GN many as aP rk mb):0<=sT as aP/\sT as aP<=120000000000:=by
 have bt:=JJ (f:=tN as) (m:=1000000000) (by decide) aP λn h=>⟨(g.ok _ (jx (g.n n h))).t0,(g.ok _ (jx (g.n n h))).t1⟩
 have:=g.nl
 exact⟨bt.1,by have:=bt.2;unfold sT;omega⟩
theorem GN.D (g:GN many as aP rk mb):1<=(many:Int)*(mb:Int)/\(many:Int)*(mb:Int)<=160:=by
 have h1:=g.m1
 have h2:=g.b1
 have a:(1:Int)*1<=(many:Int)*(mb:Int):=dE (by omega) (by omega) (by decide) (by omega)
 have b:(many:Int)*(mb:Int)<=40*4:=dE (by have:=g.m;omega) (by have:=g.b4;omega) (by omega) (by decide)
 omega
theorem Ri {p:Int×Int}{T:Nat->Int}(hk:∀n∈aP,T (aS as n)+d5 as p n<=T (aG as n)):∀{w:List Nat} {a b:Nat},kW (aS as) (aG as) a w b->(∀n∈w,n∈aP)->T a+(w.map (d5 as p)).sum<=T b
 |[],a,b,h,_=>by
  have h:a=b:=h
  subst h
  simp
 |n::w,a,b,h,hn=>by
  have i1:=Ri hk h.2 λm hm=>hn m (ak _ hm)
  have i2:=hk n (hn n af)
  rw[h.1]at i2
  rw[aV,ce]
  omega
def Kp (as:List cK)(aP:List Nat)(p:Int×Int):Prop:=∃T:Nat->Int,∀n∈aP,T (aS as n)+d5 as p n<=T (aG as n)
theorem Kp.le {p:Int×Int}(h:Kp as aP p){R:List Nat}(hR:RG as aP R):sT as R*p.2<=p.1*sB as R:=by
 obtain⟨T,hT⟩:=h
 obtain⟨x,hx⟩:=hR.w
 have:=Ri hT hx hR.m
 rw[JI]at this
 unfold sT sB
 rw[eL p.1]
 omega
theorem SA (as:List cK)(p:Int×Int):∀k:Nat,∃M:Int,0<=M/\∀n,n<k->d5 as p n<=M
 |0=>⟨0,fV 0,λn h=>absurd h (by omega)⟩
 |k+1=>by
  obtain⟨M,h1,h2⟩:=SA as p k
  refine⟨max M (d5 as p k),by omega,λn hn=>?_⟩
  by_cases e:n=k
  ·rw[e];omega
  ·have:=h2 n (by omega);omega
theorem SC {ns:List D}{p:Int×Int}(g:GN many as aP rk mb)(jP:ns.length=many)(hp:0<p.2)(hz:Sz 8000 p.2) :
  ∃d,vg [aY ns as,fr p,.lst (aW aP)]=some d/\((d=.non/\Kp as aP p)\/∃R,d=.lst (aW R)/\RG as aP R/\p.1*sB as R<sT as R*p.2):=by
 obtain⟨M,oN,hM⟩:=SA as p as.length
 obtain⟨d,h1,h2⟩:=RQ (ns:=ns) (aP:=aP) (p:=p) jP g.m1 (by have:=g.m;omega) (by have:=g.nl;omega) g.ok (by omega) hz hM oN g.n
 have i0:∀(a b:D),eh (.tup [a,b]) (.int 0)=some a:=λ_ _=>rfl
 have i1:∀(a b:D),eh (.tup [a,b]) (.int 1)=some b:=λ_ _=>rfl
 rcases h2 with⟨T,rfl,h3,_⟩|⟨R,x,rfl,r1,r2,r3,r4,r5⟩
 ·refine⟨.non,?_,.inl ⟨rfl,T,h3⟩⟩
  have e1:jL false (.str "times") (.str "ring")=some (.bl false):=by with_unfolding_all rfl
  generalize xS many p T=TM at *
  clear h3 hM oN hz hp g
  generalize fr p=F,aY ns as=net,aW aP=nl at *
  unfold vg
  walk_at "mir"
 ·refine⟨.lst (aW R),?_,.inr ⟨R,rfl,⟨r1,⟨x,r2⟩,r3,r4⟩,?_⟩⟩
  ·have e1:jL false (.str "ring") (.str "ring")=some (.bl true):=by with_unfolding_all rfl
   generalize aW R=rl at *
   clear r1 r2 r3 r4 r5 hM oN hz hp g
   generalize fr p=F,aY ns as=net,aW aP=nl at *
   unfold vg
   walk_at "mir"
  ·rw[JI]at r5
   unfold sT sB
   rw[eL p.1]
   omega
theorem NP {ns:List D}{R:List Nat}(g:GN many as aP rk mb)(h:RG as aP R):xY [aY ns as,.lst (aW R)]=some (fr (Fq.mk (sT as R) (sB as R))):=by
 have hb:=h.bds g
 have e1:((R.map λ(n:Nat)=>(n:Int)).map (tI as))=R.map (tN as):=by rw[dR];exact ky λn _=>by simp[tI,tN]
 have e2:((R.map λ(n:Nat)=>(n:Int)).map (bI as))=R.map (bN as):=by rw[dR];exact ky λn _=>by simp[bI,bN]
 have en:(R.map λ(n:Nat)=>(n:Int)).map D.int=aW R:=by rw[dR];rfl
 have m:=zub (ns:=ns) (as:=as) (is:=R.map λ(n:Nat)=>(n:Int)) (by rw[aq];have:=h.len g;have:=g.m;omega) (λa ha=>(g.ok a ha).b) (λi hi=>by
  obtain⟨n,h1,rfl⟩:=bK.mp hi
  have:=h.lt g n h1
  omega) (by rw[e2];have:=hb.2.1;unfold sB at this;omega)
 rw[e1,e2,en]at m
 exact m
theorem zr0 {ns:List D}(hl:as.length<=120):∃mb:Nat,kY 4 "most_behind" yn (aY ns as) []=some (.int (mb:Int))/\1<=mb/\(∀a∈as,a.b<=mb)/\∀k:Nat,1<=k->(∀a∈as,a.b<=k)->mb<=k:=by
 have q:jd [some (aY ns as)]=some (.lst ((as.map λa=>(a.b:Int)).map .int)):=by
  rw[dR]
  refine u7 (own:=1) (cap:=[]) (g:=gV 0) bv (λa=>D.int (a.b:Int)) as (by rfl) (by omega) λa _=>⟨_,rfl,?_⟩
  exact fb a
 have ad:fN (.lst [.int 1]) (.lst ((as.map λa=>(a.b:Int)).map .int))=some (.lst ((1::as.map λa=>(a.b:Int)).map .int)):=by rw[znf (by simp;omega)];rfl
 have mx:∃v:Int,rN [.lst ((1::as.map λa=>(a.b:Int)).map .int)]=some (.int v)/\v∈(1::as.map λa=>(a.b:Int))/\∀z∈(1::as.map λa=>(a.b:Int)),z<=v:=by
  refine⟨_,?_,RC (ns:=1::as.map λa=>(a.b:Int)) rfl⟩
  show(hX ((1::as.map λa=>(a.b:Int)).map .int)).bind _=_
  rw[Nb]
  rfl
 obtain⟨v,v1,v2,v3⟩:=mx
 have VW:=v3 1 af
 refine⟨v.toNat,?_,by omega,λa ha=>?_,λk hk VC=>?_⟩
 ·have e:((v.toNat:Nat):Int)=v:=by omega
  rw[e]
  show yn [aY ns as]=_
  generalize (1::as.map λa=>(a.b:Int)).map D.int=l1 at *
  generalize (as.map λa=>(a.b:Int)).map D.int=l2,aY ns as=net at *
  clear hl v2 v3 VW e
  unfold yn
  walk_at "mir"
 ·have:=v3 (a.b:Int) (ak _ (bK.mpr ⟨a,ha,rfl⟩))
  omega
 ·rcases aE.mp v2 with h|h
  ·omega
  ·obtain⟨a,ha,e⟩:=bK.mp h
   have:=VC a ha
   omega
theorem zvj {ns:List D}(jP:ns.length=many){mb:Nat}(sR:kY 4 "most_behind" yn (aY ns as) []=some (.int (mb:Int)))(h1:1<=(many:Int)*(mb:Int))(h2:(many:Int)*(mb:Int)<=160)(h3:mb<=4):qc [aY ns as]=some (fr (Fq.mk 1 ((many:Int)*(mb:Int)*((many:Int)*(mb:Int))))):=by
 have ln:eU [.lst ns]=some (.int (many:Int)):=(jh _).trans (by rw[jP])
 have f5:=Nm ns as
 have m1:eD (.int (many:Int)) (.int (mb:Int))=some (.int ((many:Int)*(mb:Int))):=zdl (by omega) (by omega)
 have hD:0<(many:Int)*(mb:Int)*((many:Int)*(mb:Int))/\(many:Int)*(mb:Int)*((many:Int)*(mb:Int))<=160*160:=⟨dF (by omega) (by omega),dE h2 h2 (by omega) (by decide)⟩
 generalize (many:Int)*(mb:Int)=D0 at *
 have m2:eD (.int D0) (.int D0)=some (.int (D0*D0)):=zdl (by omega) (by omega)
 have ra:=Cy (t:=1) (b:=D0*D0) (by omega) (vF (w:=25600) (by omega) (by omega) (by decide))
 generalize fr (Fq.mk 1 (D0*D0))=F,aY ns as=net at *
 clear hD h1 h2 h3
 unfold qc
 walk_at "mir"
theorem zug {p q:Int×Int}{a b c d:Int}(lp:Fq.Low p)(lq:Fq.Low q)(h1:p.1*b=a*p.2)(h2:q.1*d=c*q.2):(Fq.plus p q).1*(b*d)=(a*d+c*b)*(Fq.plus p q).2:=by
 have v:=Fq.plus_v p q
 generalize Fq.plus p q=s at *
 have kD:p.2*q.2≠0:=lp.mul_ne lq
 obtain⟨p1,p2⟩:=p
 obtain⟨q1,q2⟩:=q
 obtain⟨s1,s2⟩:=s
 dsimp only at *
 apply fF kD
 have e:(a*d+c*b)*s2*(p2*q2)=(a*p2*(d*q2)+c*q2*(b*p2))*s2:=by grind
 rw[e,←h1,←h2]
 have e2:(p1*b*(d*q2)+q1*d*(b*p2))*s2=(p1*q2+q1*p2)*s2*(b*d):=by grind
 rw[e2,←v]
 grind
def oS (p q:Int×Int):Int×Int:=Fq.mk (Fq.plus p q).1 ((Fq.plus p q).2*2)
theorem zog {p q:Int×Int}{n:Nat}(hn:n<=2000)(lp:Fq.Low p)(lq:Fq.Low q)(zp:Fz n p)(zq:Fz n q):Jw [fr p,fr q]=some (fr (oS p q)):=by
 have pl:=S8 hn lp lq zp zq
 have zz:=Sy lp lq zp zq
 have ll:=Fq.plus_low lp lq
 unfold oS
 generalize Fq.plus p q=s at *
 have f0:=ET s
 have f1:=qJ s
 have m1:eD (.int s.2) (.int 2)=some (.int (s.2*2)):=zdl (by decide) (by decide)
 have two:Sz 2 (2:Int):=vF (w:=2) (by decide) (by decide) (by decide)
 have ra:=Cy (t:=s.1) (b:=s.2*2) (by have:=ll.gt;omega) ((zz.2.mul two).mono (by omega))
 generalize fr (Fq.mk s.1 (s.2*2))=F,fr s=S,fr p=Fp,fr q=Fq' at *
 clear zz ll lp lq zp zq two hn
 unfold Jw
 walk_at "mir"
theorem zuh {p q:Int×Int}{a b c d:Int}(lp:Fq.Low p)(lq:Fq.Low q)(h1:p.1*b=a*p.2)(h2:q.1*d=c*q.2):(oS p q).1*(2*b*d)=(a*d+c*b)*(oS p q).2:=by
 have v:=zug lp lq h1 h2
 have m:=Fq.mk_cross (Fq.plus p q).1 ((Fq.plus p q).2*2)
 have g:=(Fq.plus_low lp lq).gt
 unfold oS
 generalize Fq.mk (Fq.plus p q).1 ((Fq.plus p q).2*2)=m' at *
 generalize Fq.plus p q=s at *
 obtain⟨m1,m2⟩:=m'
 obtain⟨s1,s2⟩:=s
 dsimp only at *
 apply fF (show s2≠0 by omega)
 have e1:m1*(2*b*d)*s2=m1*(s2*2)*(b*d):=by grind
 have e2:(a*d+c*b)*m2*s2=(a*d+c*b)*s2*m2:=by grind
 rw[e1,e2,←v,m]
 grind
theorem RU {p q:Int×Int}(lp:Fq.Low p)(lq:Fq.Low q):Fq.Low (oS p q):=Fq.mk_low (by have:=(Fq.plus_low lp lq).gt;omega)
theorem zr1 {p q:Int×Int}(lp:Fq.Low p)(lq:Fq.Low q):(oS p q).2<=p.2*q.2*2:=by
 have h1:=Fq.mk_le_two (t:=(Fq.plus p q).1) (b:=(Fq.plus p q).2*2) (by have:=(Fq.plus_low lp lq).gt;omega)
 have h2:=Fq.mk_le_two (t:=p.1*q.2+q.1*p.2) (b:=p.2*q.2) (lp.mul_ne lq)
 have g1:=(Fq.plus_low lp lq).gt
 have g2:=(RU lp lq).gt
 have g3:=dF lp.gt lq.gt
 have e:(Fq.mk (p.1*q.2+q.1*p.2) (p.2*q.2))=Fq.plus p q:=rfl
 rw[e]at h2
 have e2:Fq.mk (Fq.plus p q).1 ((Fq.plus p q).2*2)=oS p q:=rfl
 rw[e2]at h1
 omega
end
theorem QN {c:BF}{b:SF}(N:Nat)(I:Nat->L3.Env->Prop)(st:∀i ρ,I i ρ->∃t,c ρ=some t/\(t=true->i<N/\∃ρ',b ρ=some (.nx ρ')/\I (i+1) ρ')) :
  ∀(k i:Nat) (ρ:L3.Env),I i ρ->i<=N->N<i+k->∃i' ρ',gO c b k ρ=some (.nx ρ')/\I i' ρ'/\c ρ'=some false
 |0,i,ρ,_,h1,h2=>absurd h2 (by omega)
 |k+1,i,ρ,hI,hi,h=>by
  obtain⟨t,h1,h2⟩:=st i ρ hI
  cases t with
  |false=>exact⟨i,ρ,by show(c ρ).bind _=_;rw[h1];rfl,hI,h1⟩
  |true=>
   obtain⟨yQ,ρ',h3,h4⟩:=h2 rfl
   obtain⟨i',ρ2,h6,h7,h8⟩:=QN N I st k (i+1) ρ' h4 (by omega) (by omega)
   refine⟨i',ρ2,?_,h7,h8⟩
   show(c ρ).bind _=_
   rw[h1]
   show(b ρ).bind _=_
   rw[h3]
   exact h6
def cG:BF:=bNot (tb (λρ=>((aCons (λρ=>((aCons (eV 3) (aCons (λρ=>((aCons (eV 0) (aCons (eV 2) aNil)) ρ).bind λds=>xY (ds++[])) aNil)) ρ).bind λds=>Cv (ds++[])) (aCons (eV 4) aNil)) ρ).bind λds=>Cw (ds++[])))
section
variable {many:Nat}{as:List cK}{aP:List Nat}{rk:Nat->Nat}{mb:Nat}
structure GI (as:List cK)(aP:List Nat)(i:Nat)(R:List Nat)(c:Int×Int):Prop where
 r:RG as aP R
 low:Fq.Low c
 up:∀R',RG as aP R'->sT as R' * c.2<=c.1*sB as R'
 le:c.1<=sT as aP*c.2
 sz:c.2<=((320 ^ i:Nat):Int)
 d:(c.1*sB as R-sT as R*c.2)*((2 ^ i:Nat):Int)<=sT as aP*c.2*sB as R
theorem GI.pos {i:Nat}{R:List Nat}{c:Int×Int}(h:GI as aP i R c)(g:GN many as aP rk mb):0<=c.1:=by
 have hb:=h.r.bds g
 have h1:=h.up R h.r
 have h2:0<=sT as R*c.2:=gj hb.1.1 (by have:=h.low.gt;omega)
 exact mL (b:=sB as R) (by omega) (by omega)
theorem uZ {i:Nat}(h:i<=60):((320 ^ i:Nat):Int)<=((320 ^ 60:Nat):Int):=by
 have:=dG (n:=320) (by decide) h
 exact Int.ofNat_le.mpr this
theorem sf:120000000000*((320 ^ 60:Nat):Int)<2 ^ 700:=by decide +kernel
theorem GI.fz {i:Nat}{R:List Nat}{c:Int×Int}(h:GI as aP i R c)(g:GN many as aP rk mb)(hi:i<=60):Fz 700 c:=by
 have h0:=h.pos g
 have h1:=h.low.gt
 have h2:=h.sz
 have h3:=uZ hi
 have h4:=sf
 have h5:=h.le
 have h6:sT as aP*c.2<=120000000000*((320 ^ 60:Nat):Int):=dE g.st.2 (by omega) (by omega) (by decide)
 generalize ((320 ^ 60:Nat):Int)=K at *
 exact⟨vF (w:=120000000000*K) (by omega) (by omega) h4,vF (w:=120000000000*K) (by omega) (by omega) h4⟩
theorem NQ {R:List Nat}(h:RG as aP R)(g:GN many as aP rk mb):Fq.Low (Fq.mk (sT as R) (sB as R))/\Fz 700 (Fq.mk (sT as R) (sB as R))/\(Fq.mk (sT as R) (sB as R)).2<=160/\(0<=(Fq.mk (sT as R) (sB as R)).1/\(Fq.mk (sT as R) (sB as R)).1<=120000000000):=by
 obtain⟨⟨t1,t2⟩,b1,b2⟩:=h.bds g
 have hD:=g.D
 have hS:=g.st
 have l:=Fq.mk_low (t:=sT as R) (b:=sB as R) (by omega)
 have k1:=Fq.mk_le_one (t:=sT as R) (b:=sB as R) (by omega)
 have k2:=Fq.mk_le_two (t:=sT as R) (b:=sB as R) (by omega)
 have c:=Fq.mk_cross (sT as R) (sB as R)
 have gg:=l.gt
 have n0:0<=(Fq.mk (sT as R) (sB as R)).1:=by
  refine mL (b:=sB as R) ?_ (by omega)
  rw[c]
  exact gj t1 (by omega)
 exact⟨l,J6 (by omega) (vF (w:=120000000000) (by omega) (by omega) (by decide)) (vF (w:=160) (by omega) (by omega) (by decide)),by omega,n0,by omega⟩
theorem zui {T B D0:Int}{c:Int×Int}(lc:Fq.Low c)(hB:0<B)(hD:0<D0):Fq.under (Fq.minus c (Fq.mk T B)) (Fq.mk 1 (D0*D0))=decide ((c.1*B-T*c.2)*(D0*D0)<c.2*B):=by
 have lm:=Fq.mk_low (t:=T) (b:=B) (by omega)
 have AU:0<D0*D0:=dF hD hD
 have lg:=Fq.mk_low (t:=1) (b:=D0*D0) (by omega)
 have cm:=Fq.mk_cross T B
 have cg:=Fq.mk_cross 1 (D0*D0)
 have v:=Fq.minus_v (p:=c) (q:=Fq.mk T B) lm
 have ll:=Fq.minus_low lc lm
 generalize Fq.mk T B=m,Fq.mk 1 (D0*D0)=gp at *
 generalize Fq.minus c m=d at *
 have hm:=lm.gt
 have hc:=lc.gt
 have v2:d.1*(c.2*B)=(c.1*B-T*c.2)*d.2:=by
  obtain⟨d1,d2⟩:=d
  obtain⟨m1,m2⟩:=m
  obtain⟨c1,c2⟩:=c
  dsimp only at *
  apply fF (show m2≠0 by omega)
  have e1:d1*(c2*B)*m2=d1*(c2*m2)*B:=by grind
  have e2:(c1*B-T*c2)*d2*m2=(c1*m2*B-T*m2*c2)*d2:=by grind
  rw[e1,v,e2,←cm]
  grind
 have e:=Fq.lt_congr (n:=d.1) (d:=d.2) (m:=c.1*B-T*c.2) (e:=c.2*B) (n':=gp.1) (d':=gp.2) (m':=1) (e':=D0*D0) ll.gt (dF hc hB) lg.gt AU v2 cg
 unfold Fq.under
 refine decide_eq_decide.mpr (e.trans ?_)
 rw[mM]
theorem zr2 {ns:List D}(g:GN many as aP rk mb)(jP:ns.length=many)(sR:kY 4 "most_behind" yn (aY ns as) []=some (.int (mb:Int))) :
  ∃d,vh [aY ns as,.lst (aW aP)]=some d/\((d=.non/\∀R,¬RG as aP R)\/∃R,d=.lst (aW R)/\RG as aP R/\∀R',RG as aP R'->sT as R' * sB as R<=sT as R*sB as R'):=by
 obtain⟨d0,a1,a2⟩:=SC (ns:=ns) (p:=(-1,1)) g jP (by decide) (vF (w:=1) (by decide) (by decide) (by decide))
 replace a1:vg [aY ns as,.tup [.int (-1),.int 1],.lst (aW aP)]=some d0:=a1
 have hD:=g.D
 have hS:=g.st
 rcases a2 with⟨rfl,hK⟩|⟨R0,rfl,B6,_⟩
 ·refine⟨.non,?_,.inl ⟨rfl,λR hR=>?_⟩⟩
  ·generalize aY ns as=net at *
   generalize aW aP=nl at *
   clear g hK hD hS jP sR
   unfold vh
   walk_at "mir"
  ·have h1:=hK.le hR
   have h2:=hR.bds g
   dsimp only at h1
   omega
 ·have gp:=zvj (as:=as) jP sR hD.1 hD.2 g.b4
  obtain⟨D0,EY⟩:∃D0:Int,D0=(many:Int)*(mb:Int):=⟨_,rfl⟩
  rw[←EY]at gp hD
  have AU:0<D0*D0/\D0*D0<=160*160:=⟨dF (by omega) (by omega),dE hD.2 hD.2 (by omega) (by decide)⟩
  have zg:Fz 700 (Fq.mk 1 (D0*D0)):=J6 (by omega) (vF (w:=1) (by decide) (by decide) (by decide)) (vF (w:=25600) (by omega) (by omega) (by decide))
  have vP:∀(i:Nat) (R:List Nat) (c:Int×Int) (y1 y5 y6:Option D),GI as aP i R c->i<=60->cG [some (aY ns as),y1,some (.lst (aW R)),some (fr c),some (fr (Fq.mk 1 (D0*D0))),y5,y6]=some (!decide ((c.1*sB as R-sT as R*c.2)*(D0*D0)<c.2*sB as R)):=by
   intro i R c y1 y5 y6 h hi
   have hb:=h.r.bds g
   obtain⟨lm,zm,_⟩:=NQ h.r g
   have me:=NP (ns:=ns) g h.r
   have zc:=h.fz g hi
   have mi:=zru (n:=700) (by decide) h.low lm zc zm
   have SE:=zoe h.low lm zc zm
   have un:=zrt (p:=Fq.minus c (Fq.mk (sT as R) (sB as R))) (q:=Fq.mk 1 (D0*D0)) (SE.mono (by decide)) (zg.mono (by decide))
   rw[zui h.low (by omega) (by omega)]at un
   generalize decide ((c.1*sB as R-sT as R*c.2)*(D0*D0)<c.2*sB as R)=bb,fr (Fq.minus c (Fq.mk (sT as R) (sB as R)))=F1,fr (Fq.mk (sT as R) (sB as R))=F2,fr (Fq.mk 1 (D0*D0))=F3,fr c=F4,aW R=rl,aY ns as=net at *
   clear SE zc zm lm hb h hi gp zg AU hD EY B6 a1 hS g sR jP
   unfold cG
   walk_at "mir"
  have lp:=QN (c:=cG) (b:=vo) 55
   (λi ρ=>i<=55/\∃(R:List Nat) (c:Int×Int) (y5 y6:Option D),ρ=[some (aY ns as),some (.lst (aW aP)),some (.lst (aW R)),some (fr c),some (fr (Fq.mk 1 (D0*D0))),y5,y6]/\GI as aP i R c) (by
    rintro i ρ ⟨hi,R,c,y5,y6,rfl,h⟩
    refine⟨_,vP i R c _ y5 y6 h (by omega),λht=>?_⟩
    obtain⟨⟨t1,t2⟩,b1,b2⟩:=h.r.bds g
    have hc:=h.low.gt
    have PR:¬(c.1*sB as R-sT as R*c.2)*(D0*D0)<c.2*sB as R:=by simpa using ht
    have stop:=zrz (D:=D0) (P:=((2 ^ i:Nat):Int)) (by omega) hc (by omega) hS.1 (by have:=Nat.pow_pos (n:=i) (show 0<2 by decide);omega) h.d
    have yQ:i<55:=by
     apply Nat.not_le.mp
     intro z
     have h1:=dG (n:=2) (by decide) z
     have h2:sT as aP*(D0*D0)<=120000000000*(160*160):=dE hS.2 AU.2 (by omega) (by decide)
     have h3:(2:Nat) ^ 55=36028797018963968:=by decide
     omega
    refine⟨yQ,?_⟩
    obtain⟨lm,zm,rL,_⟩:=NQ h.r g
    have me:=NP (ns:=ns) g h.r
    have zc:=h.fz g (by omega)
    have md:=zog (n:=700) (by decide) lm h.low zm zc
    have cm:=Fq.mk_cross (sT as R) (sB as R)
    have v:=zuh (a:=sT as R) (b:=sB as R) (c:=c.1) (d:=c.2) lm h.low cm rfl
    have lw:=RU lm h.low
    have Qg:=zr1 lm h.low
    have Pz:=lm.gt
    generalize Fq.mk (sT as R) (sB as R)=m at *
    generalize oS m c=w at *
    have hw:=lw.gt
    have BM:w.2<=((320 ^ (i+1):Nat):Int):=by
     have e1:m.2*c.2*2<=160*c.2*2:=by
      have:=aR rL (cS hc)
      omega
     have e2:=h.sz
     rw[lO]
     omega
    have Ad:c.2<=((320 ^ (i+1):Nat):Int):=by
     have e2:=h.sz
     rw[lO]
     omega
    have p2:((2 ^ (i+1):Nat):Int)=2*((2 ^ i:Nat):Int):=by rw[lO];omega
    have Mf:Sz 8000 w.2:=by
     have h3:=uZ (i:=i+1) (by omega)
     have h4:=sf
     generalize ((320 ^ 60:Nat):Int)=K at *
     exact(vF (n:=700) (w:=120000000000*K) (by omega) (by omega) h4).mono (by decide)
    obtain⟨d,ab,wW⟩:=SC (ns:=ns) (p:=w) g jP hw Mf
    rcases wW with⟨rfl,hK⟩|⟨R2,rfl,LA,uK⟩
    ·refine⟨[some (aY ns as),some (.lst (aW aP)),some (.lst (aW R)),some (fr w),some (fr (Fq.mk 1 (D0*D0))),some (fr w),some .non],?_,by omega,R,w,_,_,rfl,⟨h.r,lw,λR' vT=>hK.le vT,?_,BM,?_⟩⟩
     ·generalize fr (Fq.mk 1 (D0*D0))=F3 at *
      generalize fr c=F4,fr w=F5,fr m=F6,aW R=rl,aW aP=nl,aY ns as=net at *
      clear Mf p2 Ad BM hw Qg lw v cm Pz zc rL zm lm yQ stop PR hc t1 t2 b1 b2 ht h hi vP zg AU EY gp B6 a1 hS g sR jP hD hK
      unfold vo
      walk_at "mir"
     ·refine zue (T:=sT as R) (B:=sB as R) hc (by omega) hw ?_ h.le v
      have:sT as aP*1<=sT as aP*sB as R:=cw (by omega) hS.1
      omega
     ·rw[p2]
      exact zry hc hw v h.d
    ·refine⟨[some (aY ns as),some (.lst (aW aP)),some (.lst (aW R2)),some (fr c),some (fr (Fq.mk 1 (D0*D0))),some (fr w),some (.lst (aW R2))],?_,by omega,R2,c,_,_,rfl,⟨LA,h.low,h.up,h.le,Ad,?_⟩⟩
     ·generalize fr (Fq.mk 1 (D0*D0))=F3 at *
      generalize fr c=F4,fr w=F5,fr m=F6,aW R=rl at *
      generalize aW R2=rl2,aW aP=nl,aY ns as=net at *
      clear Mf p2 Ad BM hw Qg lw v cm Pz zc rL zm lm yQ stop PR hc t1 t2 b1 b2 ht h hi vP zg AU EY gp B6 a1 hS g sR jP hD uK LA
      unfold vo
      walk_at "mir"
     ·rw[p2]
      have wX:=LA.bds g
      exact zvi hc hw (by omega) (by omega) (by have:=Nat.pow_pos (n:=i) (show 0<2 by decide);omega) v uK h.d) kA 0 [some (aY ns as),some (.lst (aW aP)),some (.lst (aW R0)),some (fr (sT as aP,1)),some (fr (Fq.mk 1 (D0*D0))),none,none]
   ⟨by omega,R0,(sT as aP,1),none,none,rfl,⟨B6,zrv _,λR' vT=>by
    have hb:=vT.bds g
    have:sT as aP*1<=sT as aP*sB as R':=cw (by omega) hS.1
    dsimp only
    omega,by dsimp only;omega,by simp,by
    have hb:=B6.bds g
    dsimp only
    simp
    omega⟩⟩ (by omega) (by have:=JL (n:=60) (by omega);omega)
  obtain⟨i,ρ',l1,⟨hi,R,c,y5,y6,rfl,h⟩,hc⟩:=lp
  rw[vP i R c _ y5 y6 h (by omega)]at hc
  have lt:(c.1*sB as R-sT as R*c.2)*(D0*D0)<c.2*sB as R:=by simpa using hc
  have hb:=h.r.bds g
  refine⟨.lst (aW R),?_,.inr ⟨R,rfl,h.r,λR' vT=>?_⟩⟩
  ·have sm:=Od (aP.map (tN as))
   have en:(aP.map λ(n:Nat)=>(n:Int)).map D.int=aW aP:=by rw[dR];rfl
   have e1:((aP.map λ(n:Nat)=>(n:Int)).map λi=>(aN as i.toNat).t)=aP.map (tN as):=by rw[dR];exact ky λn _=>by simp[tN]
   have q1:=Oc (ns:=ns) (as:=as) (is:=aP.map λ(n:Nat)=>(n:Int)) (fld:="time") (f:=λa=>a.t) (q:=jv) rfl ft (by rw[aq];have:=g.nl;omega) (λi hi=>by
    obtain⟨n,h1,rfl⟩:=bK.mp hi
    have:=g.n n h1
    omega) [some (aY ns as),some (.lst (aW aP)),some (.lst (aW R0)),none,none,none,none] rfl (by rw[en];rfl)
   rw[e1]at q1
   have es:(aP.map (tN as)).sum=sT as aP:=rfl
   rw[es]at sm
   have ef:fr (sT as aP,1)=.tup [.int (sT as aP),.int 1]:=rfl
   rw[ef]at l1
   unfold cG at l1
   clear e1 en es ef hb lt hc h hi vP zg AU EY B6 hS g sR jP hD
   generalize fr (Fq.mk 1 (D0*D0))=F3,fr c=F4,sT as aP=S,(aP.map (tN as)).map D.int=tl,aW R=rl at *
   generalize aW R0=rl0,aW aP=nl,aY ns as=net at *
   unfold vh ig
   generalize (bNot (tb (λρ=>((aCons (λρ=>((aCons (eV 3) (aCons (λρ=>((aCons (eV 0) (aCons (eV 2) aNil)) ρ).bind λds=>xY (ds++[])) aNil)) ρ).bind λds=>Cv (ds++[])) (aCons (eV 4) aNil)) ρ).bind λds=>Cw (ds++[]))))=cc at *
   walk_at "mir"
  ·have sQ:=vT.bds g
   exact zud (D:=D0) h.low.gt (by omega) (by omega) (by omega) (by omega) lt (h.up R' vT)
theorem zr3 {ns:List D}(g:GN many as aP rk mb)(jP:ns.length=many)(sR:kY 4 "most_behind" yn (aY ns as) []=some (.int (mb:Int))) :
  ∃d,vp [aY ns as,.lst (aW aP)]=some d/\((d=.non/\∀R,¬RG as aP R)\/∃(R:List Nat) (q:Int×Int) (T:Nat->Int),d=.tup [fr q,.lst (aW R),xS many q T]/\RG as aP R/\q=Fq.mk (sT as R) (sB as R)/\(∀R',RG as aP R'->sT as R' * q.2<=q.1*sB as R')/\(∀n∈aP,T (aS as n)+d5 as q n<=T (aG as n))/\∀x,0<=T x/\T x<=1000000000000000):=by
 obtain⟨d0,a1,a2⟩:=zr2 g jP sR
 rcases a2 with⟨rfl,hN⟩|⟨R,rfl,hR,Fj⟩
 ·refine⟨.non,?_,.inl ⟨rfl,hN⟩⟩
  generalize aY ns as=net,aW aP=nl at *
  clear g hN jP sR
  unfold vp
  walk_at "mir"
 ·have me:=NP (ns:=ns) g hR
  obtain⟨lm,zm,rL,n0,n1⟩:=NQ hR g
  have cm:=Fq.mk_cross (sT as R) (sB as R)
  have hb:=hR.bds g
  obtain⟨q,hq⟩:∃q,q=Fq.mk (sT as R) (sB as R):=⟨_,rfl⟩
  rw[←hq]at me lm zm rL n0 n1 cm
  have lg:=lm.gt
  have hM:∀n,n<as.length->d5 as q n<=160000000000:=λn hn=>by
   have o:=g.ok _ (jx hn)
   unfold d5
   have g1:(aN as n).t*q.2<=1000000000*160:=dE o.t1 rL (by omega) (by decide)
   have g2:0<=((aN as n).b:Int)*q.1:=gj (by omega) n0
   omega
  obtain⟨d,t1,t2⟩:=RQ (ns:=ns) (aP:=aP) (p:=q) jP g.m1 (by have:=g.m;omega) (by have:=g.nl;omega) g.ok (by omega) (zm.2.mono (by decide)) hM (by decide) g.n
  have se:∀R',RG as aP R'->sT as R' * q.2<=q.1*sB as R':=λR' vT=>zuf (by omega) lg cm (Fj R' vT)
  rcases t2 with⟨T,rfl,k1,k2⟩|⟨R2,x,rfl,r1,r2,r3,r4,r5⟩
  ·refine⟨.tup [fr q,.lst (aW R),xS many q T],?_,.inr ⟨R,q,T,rfl,hR,hq,se,k1,λx=>⟨(k2 x).1,?_⟩⟩⟩
   ·have i1:∀(a b:D),eh (.tup [a,b]) (.int 1)=some b:=λ_ _=>rfl
    generalize xS many q T=TM,fr q=F,aW R=rl,aW aP=nl,aY ns as=net at *
    clear k1 k2 se hM lg hb cm n0 n1 rL zm lm Fj hR hq g sR jP
    unfold vp
    walk_at "mir"
   ·have:=(k2 x).2
    have b1:(aP.length:Int)*160000000000<=120*160000000000:=by have:=g.nl;omega
    have b2:(many:Int)*((aP.length:Int)*160000000000)<=40*(120*160000000000):=dE (by have:=g.m;omega) b1 (by omega) (by decide)
    omega
  ·exfalso
   rw[JI]at r5
   have:=se R2 ⟨r1,⟨x,r2⟩,r3,r4⟩
   unfold sT sB at this
   rw[eL q.1]at this
   omega
theorem zr4 {ns:List D}{as:List cK}(g:GN many as (ba as.length) rk mb)(jP:ns.length=many){d:D}(h:vp [aY ns as,.lst (aW (ba as.length))]=some d):vb [aY ns as]=some d:=by
 have la:eU [.lst (as.map bv)]=some (.int (as.length:Int)):=(jh _).trans (by rw[aq])
 have Iv:=jw ns as
 have lr:lV [.int (as.length:Int)]=some (.lst (aW (ba as.length))):=by
  show(if 0<=(as.length:Int)/\(as.length:Int)<=16777216 then some (D.lst (fR 0 (as.length:Int).toNat))else none)=_
  rw[if_pos ⟨by omega,by have:=g.al;omega⟩]
  unfold fR aW
  simp
 generalize as.map bv=al,aY ns as=net,aW (ba as.length)=nl at *
 clear g
 unfold vb
 walk_at "mir"
end
theorem zvk {many:Nat}{rk:Nat->Nat}{as:List cK}{ns:List D}(h1:1<=many)(h2:many<=40)(h3:as.length<=120)(gN:∀a∈as,Drawn many rk a):∃mb:Nat,kY 4 "most_behind" yn (aY ns (as.map λa=>fZ a (a.s:Int))) []=some (.int (mb:Int))/\(∀aP:List Nat,(∀n∈aP,n<as.length)->aP.length<=120->GN many (as.map λa=>fZ a (a.s:Int)) aP rk mb)/\∀aP:List Nat,(∀n∈aP,n<as.length)->aP.length<=120->GN many as aP rk mb:=by
 obtain⟨mb,m1,m2,m3,m4⟩:=zr0 (ns:=ns) (as:=as.map λa=>fZ a (a.s:Int)) (by rw[aq];exact h3)
 have O5:mb<=4:=m4 4 (by decide) λa ha=>by
  obtain⟨a',h,rfl⟩:=bK.mp ha
  exact(gN a' h).b
 refine⟨mb,m1,λaP hn hl=>⟨h1,h2,by rw[aq];exact h3,λa ha=>?_,λn hx=>by rw[aq];exact hn n hx,hl,λa ha=>?_,m2,O5,m3⟩,λaP hn hl=>⟨h1,h2,h3,λa ha=>⟨(gN a ha).s,(gN a ha).g,(gN a ha).t0,(gN a ha).t1,(gN a ha).b⟩,hn,hl,λa ha=>(gN a ha).r,m2,O5,λa ha=>m3 (fZ a (a.s:Int)) (bK.mpr ⟨a,ha,rfl⟩)⟩⟩
 ·obtain⟨a',h,rfl⟩:=bK.mp ha
  exact⟨(gN a' h).s,(gN a' h).g,(gN a' h).t0,(gN a' h).t1,(gN a' h).b⟩
 ·obtain⟨a',h,rfl⟩:=bK.mp ha
  exact(gN a' h).r
structure zR (S:Int->Int->Prop)(o:Option (Int×Int)):Prop where
 pos:∀t b,S t b->1<=b
 is:(o=none/\∀t b,¬S t b)\/∃(t b:Int) (q:Int×Int),o=some q/\S t b/\q=Fq.mk t b/\∀t' b',S t' b'->t' * q.2<=q.1*b'
theorem RV {t b:Int}(hb:1<=b){q:Int×Int}(hq:0<q.2){p:Int×Int}(hp:p=Fq.mk t b)(h:t*q.2<=q.1*b):p.1*q.2<=q.1*p.2:=by
 have cr:=Fq.mk_cross t b
 rw[←hp]at cr
 have lo:Fq.Low p:=by rw[hp];exact Fq.mk_low (by omega)
 have hg:=lo.gt
 have h1:b*(p.1*q.2)<=b*(q.1*p.2):=by
  have e1:b*(p.1*q.2)=t*q.2*p.2:=by
   rw[←iS,eL b p.1,cr,iS,iS,eL p.2 q.2]
  have e2:b*(q.1*p.2)=q.1*b*p.2:=by
   rw[←iS,eL b q.1]
  rw[e1,e2]
  exact aR h (by omega)
 exact ot h1 (by omega)
theorem zR.uniq {S:Int->Int->Prop}{o o':Option (Int×Int)}(h:zR S o)(h':zR S o'):o=o':=by
 rcases h.is with⟨rfl,hn⟩|⟨t,b,q,rfl,hS,hq,hm⟩
 ·rcases h'.is with⟨rfl,_⟩|⟨t,b,q,rfl,hS,_,_⟩
  ·rfl
  ·exact absurd hS (hn t b)
 ·rcases h'.is with⟨rfl,hn⟩|⟨t',b',q',rfl,B7,qL,xA⟩
  ·exact absurd hS (hn t b)
  ·have hb:=h.pos t b hS
   have sQ:=h.pos t' b' B7
   have lo:Fq.Low q:=by rw[hq];exact Fq.mk_low (by omega)
   have PB:Fq.Low q':=by rw[qL];exact Fq.mk_low (by omega)
   have h1:=RV hb PB.gt hq (xA t b hS)
   have h2:=RV sQ lo.gt qL (hm t' b' B7)
   exact congrArg some (Fq.uniq lo PB (by omega))
theorem zR.congr {S S':Int->Int->Prop}{o:Option (Int×Int)}(h:zR S o)(e:∀t b,S t b↔S' t b):zR S' o:=by
 have:S=S':=funext λt=>funext λb=>propext (e t b)
 rw[←this]
 exact h
def dD (net:D)(many:Nat)(pl:Nat->Int)(B:Nat):D:=.obj 5 ["net","times","beat"] [net,.lst (cO many pl),.int (B:Int)]
theorem Of (net:D)(many:Nat)(pl:Nat->Int)(B:Nat):cn [5] "net" (dD net many pl B)=some net:=rfl
theorem zoh (net:D)(many:Nat)(pl:Nat->Int)(B:Nat):cn [5] "times" (dD net many pl B)=some (.lst (cO many pl)):=rfl
theorem zr5 (net:D)(many:Nat)(pl:Nat->Int)(B:Nat):cn [5] "beat" (dD net many pl B)=some (.int (B:Int)):=rfl
def gL (pl:Nat->Int)(B:Nat)(a:cK):Int:=pl a.g+(B:Int)*(a.b:Int)-pl a.s-a.t
theorem SD {ns:List D}{as:List cK}{many B i:Nat}{pl:Nat->Int}{a:cK}(hB:B<=150000000)(hs:a.s<many)(hg:a.g<many)(hi:as[i]?=some a):wq [dD (aY ns as) many pl B,.int (i:Int)]=some (.int (gL pl B a)):=by
 have f1:=Of (aY ns as) many pl B
 have f2:=zoh (aY ns as) many pl B
 have f3:=zr5 (aY ns as) many pl B
 have f4:cn [4] "arrows" (aY ns as)=some (.lst (as.map bv)):=rfl
 have i1:eh (.lst (as.map bv)) (.int (i:Int))=some (bv a):=qo (by rw[bw,hi];rfl)
 have g1:=fs a
 have g2:=fg a
 have g3:=ft a
 have g4:=fb a
 have i2:eh (.lst (cO many pl)) (.int (a.g:Int))=some (.int (pl a.g)):=xZ pl hg
 have i3:eh (.lst (cO many pl)) (.int (a.s:Int))=some (.int (pl a.s)):=xZ pl hs
 have u1:eD (.int (B:Int)) (.int (a.b:Int))=some (.int ((B:Int)*(a.b:Int))):=zan (by omega) (by omega)
 generalize dD (aY ns as) many pl B=tb at *
 unfold wq gL
 clear hi hs hg hB
 walk_at "mir"
theorem SG {m:aK}{f:List D->Option D}{net:D}{many B:Nat}{pl:Nat->Int}{ds:List D}(h:(["net","times","beat"]:List aK).contains m=false):kY 5 m f (dD net many pl B) ds=f (dD net many pl B::ds):=by
 show(if 5=5/\(["net","times","beat"]:List aK).contains m=false then f (dD net many pl B::ds)else none)=_
 rw[if_pos ⟨rfl,h⟩]
theorem Rj {α:Type}{p q:α->Bool}:∀{l:List α},(∀x∈l,p x=true->q x=true)->(∃y∈l,q y=true/\p y=false)->l.countP p<l.countP q
 |[],_,⟨y,hy,_⟩=>by cases hy
 |x::l,h,⟨y,hy,h1,h2⟩=>by
  rw[eu,eu]
  have le:l.countP p<=l.countP q:=jM λz hz=>h z (ak _ hz)
  rcases aE.mp hy with rfl|hy
  ·rw[h1,h2];simp;omega
  ·have lt:=Rj (λz hz=>h z (ak _ hz)) ⟨y,hy,h1,h2⟩
   have hx:=h x af
   cases hp:p x with
   |true=>rw[hx hp];simp;omega
   |false=>cases q x<;>simp<;>omega
def cnt (many:Nat)(P:Nat->Option Int):Nat:=(ba many).countP λx=>(P x).isSome
def ki:Nat->(Nat->Nat)->Nat
 |0,_=>0
 |n+1,f=>ki n f+f n
theorem SH {f g:Nat->Nat}:∀n:Nat,(∀x,x<n->f x<=g x)->ki n f<=ki n g
 |0,_=>aF _
 |n+1,h=>yD (SH n λx hx=>h x (by omega)) (h n (by omega))
theorem SI {f g:Nat->Nat}{y:Nat}(hf:f y<g y):∀n:Nat,y<n->(∀x,x<n->f x<=g x)->ki n f<ki n g
 |0,h,_=>absurd h (by omega)
 |n+1,h,k=>by
  by_cases e:y=n
  ·subst e
   exact Nat.add_lt_add_of_le_of_lt (SH y λx hx=>k x (by omega)) hf
  ·exact Nat.add_lt_add_of_lt_of_le (SI hf n (by omega) λx hx=>k x (by omega)) (k n (by omega))
theorem QO (c:Nat){f:Nat->Nat}:∀n:Nat,(∀x,x<n->f x<=c)->ki n f<=n*c
 |0,_=>by rw[Nat.zero_mul];exact aF _
 |n+1,h=>by
  rw[Nat.succ_mul]
  exact yD (QO c n λx hx=>h x (by omega)) (h n (by omega))
def UP:Nat:=1000000000000000
def rO (P:Nat->Option Int)(x:Nat):Nat:=match P x with
 |none=>UP
 |some p=>p.toNat
def nz (P:Nat->Option Int)(g:Nat)(z:Int):Nat->Option Int:=λx=>if x=g then some z else P x
def xU (ch:Nat->Option Nat)(g n:Nat):Nat->Option Nat:=λx=>if x=g then some n else ch x
structure rn (m many:Nat)(S G:Nat->Nat)(sl:Nat->Int)(one:Nat)(P:Nat->Option Int)(ch:Nat->Option Nat):Prop where
 p0:P one=some 0
 nn:∀x p,P x=some p->x<many/\0<=p/\p<=(cnt many P:Int)*10000000000000
 cho:∀x n,ch x=some n->n<m/\G n=x/\∃p q,P x=some p/\P (S n)=some q/\q+sl n<=p
 bk:∀x p,P x=some p->∃w,Bk S ch one x w
section
variable {m many one:Nat}{S G:Nat->Nat}{sl:Nat->Int}{P:Nat->Option Int}{ch:Nat->Option Nat}
theorem zuj (many:Nat)(P:Nat->Option Int):cnt many P<=many:=by
 unfold cnt
 exact bZ List.countP_le_length (by rw[bF];exact aF _)
theorem rn.start (h:one<many):rn m many S G sl one (nz (λ_=>none) one 0) (λ_=>none):=by
 refine⟨by unfold nz;rw[if_pos rfl],λx p e=>?_,λx n e=>by simp at e,λx p e=>?_⟩
 ·unfold nz at e
  by_cases hx:x=one
  ·rw[if_pos hx]at e
   cases e
   exact⟨by omega,by omega,by omega⟩
  ·rw[if_neg hx]at e;cases e
 ·unfold nz at e
  by_cases hx:x=one
  ·subst hx;exact⟨[],.nil⟩
  ·rw[if_neg hx]at e;cases e
theorem rn.avoid (h:rn m many S G sl one P ch)(ny:∀n,n<m->0<=sl n){g n:Nat}{x:Nat}{w:List Nat}(hb:Bk S ch one x w):∀p,P x=some p->(∀v,P g=some v->p<v)->Bk S (xU ch g n) one x w:=by
 induction hb with
 |nil=>intro p _ _;exact .nil
 |@cons x k w hx hc AW ih=>
  intro p hp hv
  obtain⟨h1,h2,p',q,h3,h4,h5⟩:=h.cho x k hc
  have ep:p'=p:=Option.some.inj (h3.symm.trans hp)
  subst ep
  have kD:x≠g:=λe=>by
   subst e
   have:=hv _ hp
   omega
  refine .cons hx (by unfold xU;rw[if_neg kD];exact hc) (ih q h4 λv vY=>?_)
  have a1:=ny k h1
  have a2:=hv v vY
  omega
theorem rn.step (h:rn m many S G sl one P ch)(hm:many<=40)(ny:∀n,n<m->0<=sl n/\sl n<=10000000000000){n:Nat}(hn:n<m)(hg:G n<many){p:Int}(hp:P (S n)=some p)(hv:∀v,P (G n)=some v->p+sl n<v) :
  rn m many S G sl one (nz P (G n) (p+sl n)) (xU ch (G n) n)/\ki many (rO (nz P (G n) (p+sl n)))<ki many (rO P):=by
 obtain⟨s1,s2⟩:=ny n hn
 obtain⟨a1,a2,a3⟩:=h.nn _ _ hp
 have kD:S n≠G n:=λe=>by
  rw[e]at hp
  have:=hv p hp
  omega
 have h1:G n≠one:=λe=>by
  have:=hv 0 (by rw[e];exact h.p0)
  omega
 have vU:nz P (G n) (p+sl n) (G n)=some (p+sl n):=if_pos rfl
 have vW:∀{x},x≠G n->nz P (G n) (p+sl n) x=P x:=λe=>if_neg e
 have hcn:cnt many P<=cnt many (nz P (G n) (p+sl n)):=by
  unfold cnt
  refine jM λx hx hs=>?_
  by_cases e:x=G n
  ·subst e;rw[vU];rfl
  ·rw[vW e];exact hs
 have LL:P (G n)=none->cnt many P+1<=cnt many (nz P (G n) (p+sl n)):=λII=>by
  unfold cnt
  refine Rj (λx hx hs=>?_) ⟨G n,bU.mpr hg,by rw[vU];rfl,by rw[II];rfl⟩
  by_cases e:x=G n
  ·subst e;rw[vU];rfl
  ·rw[vW e];exact hs
 have E5:∀z:Int,z<=(cnt many P:Int)*10000000000000->z<=(cnt many (nz P (G n) (p+sl n)):Int)*10000000000000:=λz hz=>
  lK hz (aR (by omega) (by decide))
 have O7:∃w,Bk S (xU ch (G n) n) one (G n) w:=by
  obtain⟨w0,VZ⟩:=h.bk _ _ hp
  have:=h.avoid (λn hn=>(ny n hn).1) (g:=G n) (n:=n) VZ p hp λv vY=>by have:=hv v vY;omega
  exact⟨_,.cons h1 (if_pos rfl) this⟩
 refine⟨⟨?_,λx q e=>?_,λx k e=>?_,λx q e=>?_⟩,?_⟩
 ·rw[vW (λe=>h1 e.symm)];exact h.p0
 ·by_cases ex:x=G n
  ·subst ex
   rw[vU]at e
   cases e
   refine⟨hg,by omega,?_⟩
   cases hq:P (G n)with
   |some v=>
    have b1:=hv v hq
    exact E5 _ (by have:=(h.nn _ _ hq).2.2;omega)
   |none=>
    have b1:=LL hq
    have b2:((cnt many P:Int)+1)*10000000000000<=(cnt many (nz P (G n) (p+sl n)):Int)*10000000000000:=aR (by omega) (by decide)
    rw[mJ]at b2
    omega
  ·rw[vW ex]at e
   obtain⟨b1,b2,b3⟩:=h.nn _ _ e
   exact⟨b1,b2,E5 _ b3⟩
 ·unfold xU at e
  by_cases ex:x=G n
  ·rw[if_pos ex]at e
   cases e
   exact⟨hn,ex.symm,p+sl n,p,by rw[ex];exact vU,by rw[vW kD];exact hp,fV _⟩
  ·rw[if_neg ex]at e
   obtain⟨b1,b2,p',q,b3,b4,b5⟩:=h.cho x k e
   by_cases es:S k=G n
   ·refine⟨b1,b2,p',p+sl n,by rw[vW ex];exact b3,by rw[es];exact vU,?_⟩
    have:=hv q (by rw[←es];exact b4)
    omega
   ·exact⟨b1,b2,p',q,by rw[vW ex];exact b3,by rw[vW es];exact b4,b5⟩
 ·by_cases ex:x=G n
  ·rw[ex];exact O7
  ·rw[vW ex]at e
   obtain⟨w,hw⟩:=h.bk x q e
   clear e
   induction hw with
   |nil=>exact⟨[],.nil⟩
   |@cons x k w hx hc AW ih=>
    by_cases ek:S k=G n
    ·obtain⟨w',FA⟩:=O7
     exact⟨_,.cons hx (by unfold xU;rw[if_neg ex];exact hc) (by rw[ek];exact FA)⟩
    ·obtain⟨w',FA⟩:=ih ek
     exact⟨_,.cons hx (by unfold xU;rw[if_neg ex];exact hc) FA⟩
 ·have lz:rO (nz P (G n) (p+sl n)) (G n)<rO P (G n):=by
   unfold rO
   rw[vU]
   cases hq:P (G n)with
   |none=>
    have b3:=zuj many P
    have:(cnt many P:Int)*10000000000000<=40*10000000000000:=aR (by omega) (by decide)
    show(p+sl n).toNat<UP
    unfold UP
    omega
   |some v=>
    have:=hv v hq
    show(p+sl n).toNat<v.toNat
    omega
  refine SI lz many hg λx hx=>?_
  by_cases ex:x=G n
  ·subst ex;omega
  ·unfold rO;rw[vW ex];exact aF _
theorem Bk.det {x:Nat}{w:List Nat}(h:Bk S ch one x w):∀{w'},Bk S ch one x w'->w=w':=by
 induction h with
 |nil=>
  intro w' h'
  cases h' with
  |nil=>rfl
  |cons hx _ _=>exact absurd rfl hx
 |cons hx hc _ ih=>
  intro w' h'
  cases h' with
  |nil=>exact absurd rfl hx
  |cons _ qK sQ=>
   have e:=Option.some.inj (hc.symm.trans qK)
   subst e
   rw[ih sQ]
theorem Bk.sub {x:Nat}{w:List Nat}(h:Bk S ch one x w):∀n∈w,∃w',Bk S ch one (S n) w'/\w'.length<w.length:=by
 induction h with
 |nil=>intro n hn;cases hn
 |cons hx hc hb ih=>
  intro n hn
  rw[aX,cB]
  rcases aZ.mp hn with hn|hn
  ·obtain⟨w',h1,h2⟩:=ih n hn
   exact⟨w',h1,by omega⟩
  ·rw[aB.mp hn]
   exact⟨_,hb,by omega⟩
theorem Bk.nd {x:Nat}{w:List Nat}(h:Bk S ch one x w):(w.map S).Nodup:=by
 induction h with
 |nil=>simp
 |@cons x n w hx hc hb ih=>
  rw[d8]
  refine br.mpr ⟨ih,by simp,λa ha b sQ e=>?_⟩
  obtain⟨k,hk,rfl⟩:=bK.mp ha
  simp at sQ
  subst sQ
  obtain⟨w',h1,h2⟩:=hb.sub k hk
  rw[e]at h1
  have:=hb.det h1
  subst this
  omega
def Cls (m:Nat)(S G:Nat->Nat)(sl:Nat->Int)(P:Nat->Option Int):Prop:=∀n p,n<m->P (S n)=some p->∃q,P (G n)=some q/\q<=p+sl n
theorem rn.way (h:rn m many S G sl one P ch)(hc:My.Cls m S G sl P){x:Nat}{w:List Nat}(hb:Bk S ch one x w):(∀n∈w,n<m)/\kW S G one w x/\P x=some (w.map sl).sum:=by
 induction hb with
 |nil=>exact⟨λn hn=>(by cases hn),rfl,h.p0⟩
 |@cons x n w hx Vv AW ih=>
  obtain⟨h1,h2,p,q,h3,h4,h5⟩:=h.cho x n Vv
  obtain⟨i1,i2,i3⟩:=ih
  have eq:q=(w.map sl).sum:=Option.some.inj (h4.symm.trans i3)
  obtain⟨p',c1,c2⟩:=hc n q h1 h4
  have ep:p'=p:=Option.some.inj (c1.symm.trans (by rw[h2];exact h3))
  refine⟨λk hk=>?_,kW.app (h2▸kW.one S G n) i2,?_⟩
  ·rcases aZ.mp hk with hk|hk
   ·exact i1 k hk
   ·rw[aB.mp hk];exact h1
  ·rw[h3,d8,List.sum_append]
   simp
   omega
theorem Cls.le (hc:My.Cls m S G sl P):∀{w:List Nat} {x y:Nat} {p:Int},kW S G x w y->(∀n∈w,n<m)->P x=some p->∃q,P y=some q/\q<=p+(w.map sl).sum
 |[],x,y,p,hw,_,hp=>by
  have e:x=y:=hw
  subst e
  exact⟨p,hp,by simp⟩
 |n::w,x,y,p,hw,hn,hp=>by
  obtain⟨e,FA⟩:=hw
  subst e
  obtain⟨q,h1,h2⟩:=hc n p (hn n af) hp
  obtain⟨r,h3,h4⟩:=Cls.le hc FA (λk hk=>hn k (ak _ hk)) h1
  exact⟨r,h3,by simp;omega⟩
end
theorem MU {as:List cK}{d g0:D}{ch:Nat->Option Nat}{going m:Nat}(hd:ei d ch m){x:Nat}{w:List Nat}(hb:Bk (λn=>(aN as n).s) ch going x w):(∀n∈w,n<as.length)->∀(fv:List Nat) (fuel:Nat),w.length<fuel->fv.length+w.length<=10000 ->
  gO (tb (e2 (jL true) (eV 4) (eV 2))) ur fuel [some (.lst (as.map bv)),some d,some (.int (going:Int)),some g0,some (.int (x:Int)),some (.lst (aW fv))]=some (.nx [some (.lst (as.map bv)),some d,some (.int (going:Int)),some g0,some (.int (going:Int)),some (.lst (aW (fv++w.reverse)))]):=by
 induction hb with
 |nil=>
  intro _ fv fuel hf _
  cases fuel with
  |zero=>omega
  |succ fuel=>
   have q:jL true (.int (going:Int)) (.int (going:Int))=some (.bl false):=(zei _ _).trans (by simp)
   have c1:tb (e2 (jL true) (eV 4) (eV 2)) [some (.lst (as.map bv)),some d,some (.int (going:Int)),some g0,some (.int (going:Int)),some (.lst (aW fv))]=some false:=by
    show((jL true (.int (going:Int)) (.int (going:Int))).bind B4)=_
    rw[q];rfl
   show(tb (e2 (jL true) (eV 4) (eV 2)) _).bind _=_
   rw[c1,List.reverse_nil,bO]
   rfl
 |@cons x n w hx hc _ ih=>
  intro hl fv fuel hf ha
  rw[aX,cB]at hf ha
  cases fuel with
  |zero=>omega
  |succ fuel=>
   have hn:n<as.length:=hl n (by simp)
   have q:jL true (.int (x:Int)) (.int (going:Int))=some (.bl true):=(zei _ _).trans (by rw[if_pos rfl,decide_eq_false (by omega)];rfl)
   have c1:tb (e2 (jL true) (eV 4) (eV 2)) [some (.lst (as.map bv)),some d,some (.int (going:Int)),some g0,some (.int (x:Int)),some (.lst (aW fv))]=some true:=by
    show((jL true (.int (x:Int)) (.int (going:Int))).bind B4)=_
    rw[q];rfl
   have st:ur [some (.lst (as.map bv)),some d,some (.int (going:Int)),some g0,some (.int (x:Int)),some (.lst (aW fv))]=some (.nx [some (.lst (as.map bv)),some d,some (.int (going:Int)),some g0,some (.int ((aN as n).s:Int)),some (.lst (aW (fv++[n])))]):=by
    have g1:=hd.get hc
    have f1:=fs (aN as n)
    have i1:eh (.lst (as.map bv)) (.int (n:Int))=some (bv (aN as n)):=qo (by rw[bw,t7 hn];rfl)
    have e3:aW (fv++[n])=aW fv++[.int (n:Int)]:=by unfold aW;rw[d8];rfl
    have hz:(aW fv).length<16777216:=by unfold aW;rw[aq];omega
    rw[e3]
    generalize as.map bv=al,aW fv=ac at *
    unfold ur
    clear ih hd hc hx hl hn q c1 e3 hf ha
    walk_at "mir"
   show(tb (e2 (jL true) (eV 4) (eV 2)) _).bind _=_
   rw[c1]
   show(ur _).bind _=_
   rw[st]
   show gO _ _ fuel _=_
   rw[ih (λm hm=>hl m (bq _ hm)) (fv++[n]) fuel (by omega) (by rw[aX,cB];omega),List.reverse_append,List.reverse_singleton,ed]
theorem Z2 {as:List cK}{d:D}{ch:Nat->Option Nat}{going x m:Nat}{w:List Nat}(hd:ei d ch m)(hb:Bk (λn=>(aN as n).s) ch going x w)(hl:∀n∈w,n<as.length)(hw:w.length<=10000):Jn [.lst (as.map bv),d,.int (going:Int),.int (x:Int)]=some (.lst (aW w)):=by
 have lp:=MU (g0:=.int (x:Int)) hd hb hl [] kA (JL (by omega)) (by simpa using hw)
 rw[vK]at lp
 have lr:pT (.lst (aW w.reverse))=some (.lst (aW w)):=by
  show some (D.lst (aW w.reverse).reverse)=_
  unfold aW
  rw[←iY,List.reverse_reverse]
 have n0:aW []=[]:=rfl
 rw[n0]at lp
 unfold Jn ig
 generalize (tb (e2 (jL true) (eV 4) (eV 2)))=cc,as.map bv=al,aW w.reverse=wr at *
 clear hd hb hl hw
 walk_at "mir"
def pO:Option Int->D
 |some z=>.int z
 |none=>.non
def dJ (n:Nat)(P:Nat->Option Int):List D:=(ba n).map λg=>pO (P g)
theorem zoi (n:Nat)(P:Nat->Option Int):(dJ n P).length=n:=by simp[dJ]
theorem NR {n:Nat}(P:Nat->Option Int){g:Nat}(h:g<n):eh (.lst (dJ n P)) (.int (g:Int))=some (pO (P g)):=by
 refine qo ?_
 simp[dJ,h]
theorem RW {n:Nat}(P:Nat->Option Int){g:Nat}(h:g<n)(v:Int):m9 (dJ n P) (g:Int) (.int v)=some (dJ n (nz P g v)):=by
 unfold m9
 have hx:ixN (dJ n P).length (g:Int)=some g:=Sj (by rw[zoi];exact h)
 rw[hx]
 simp only[ck,Option.some.injEq]
 apply t9
 ·simp[dJ]
 ·intro i h1 h2
  simp[dJ,uA,nz]
  by_cases hi:g=i
  ·subst hi;simp[pO]
  ·rw[if_neg hi,if_neg (λz=>hi z.symm)]
def kI (x:Nat):fu:=.inl (x:Int)
theorem Ta {x y:Nat}(h:kI x=kI y):x=y:=by
 have:=Sum.inl.inj h
 omega
theorem zr6 {κ:Type}[DecidableEq κ]{ks:List κ}{ds:List D}{k:κ}{d:D}(h:k∈ks):(d7 ks ds k d).1=ks:=by
 unfold d7
 rw[if_pos (by simpa using h)]
theorem zoj {κ:Type}[DecidableEq κ]{ks:List κ}{ds:List D}{k:κ}{d:D}(h:k∉ks):(d7 ks ds k d).1=ks++[k]:=by
 unfold d7
 rw[if_neg (by simpa using h)]
structure hE (d:D)(ch:Nat->Option Nat)(many:Nat):Prop where
 is:∃(L:List Nat) (ds:List D),d=.dK (L.map kI) ds/\L.length=ds.length/\L.Nodup/\(∀x∈L,x<many)/\∀x:Nat,jE (L.map kI) ds (kI x)=(ch x).map λ(n:Nat)=>D.int (n:Int)
theorem hE.toI {d:D}{ch:Nat->Option Nat}{many:Nat}(h:hE d ch many):ei d ch many:=by
 obtain⟨L,ds,rfl,h1,h2,h3,h4⟩:=h.is
 exact⟨_,_,rfl,by rw[aq,h1],by rw[aq];exact Kahn.len_le h2 h3,h4⟩
theorem hE.start (many:Nat):hE (.dK [] []) (λ_=>none) many:=⟨[],[],rfl,rfl,by simp,λx hx=>(by cases hx),λx=>rfl⟩
theorem hE.put {d:D}{ch:Nat->Option Nat}{many:Nat}(h:hE d ch many)(hm:many<=1000){x:Nat}(hx:x<many)(n:Nat):∃d',(∀(ρ:L3.Env) (i:Nat) (fj f:EF),f ρ=some (.int (n:Int))->eV i ρ=some d->fj ρ=some (.int (x:Int))->iP i fj f ρ=some (.nx (ρ.set i (some d'))))/\hE d' (xU ch x n) many:=by
 obtain⟨L,ds,rfl,g1,g2,g3,g4⟩:=h.is
 have hl:(L.map kI).length=ds.length:=by rw[aq,g1]
 have gC:=Kahn.len_le g2 g3
 have hk:(d7 (L.map kI) ds (kI x) (.int (n:Int))).1=(if x∈L then L else L++[x]).map kI:=by
  by_cases e:x∈L
  ·rw[zr6 (bK.mpr ⟨x,e,rfl⟩),if_pos e]
  ·rw[zoj (λz=>by obtain⟨y,hy,ey⟩:=bK.mp z;exact e (Ta ey▸hy)),if_neg e,d8]
   rfl
 refine⟨.dK (d7 (L.map kI) ds (kI x) (.int (n:Int))).1 (d7 (L.map kI) ds (kI x) (.int (n:Int))).2,λρ i fj f e1 e2 e3=>?_,⟨if x∈L then L else L++[x],(d7 (L.map kI) ds (kI x) (.int (n:Int))).2,by rw[hk],?_,?_,?_,λy=>?_⟩⟩
 ·unfold iP
  rw[e1]
  show(eV i ρ).bind _=_
  rw[e2]
  show(fj ρ).bind _=_
  rw[e3]
  show(if(L.map kI).length<16777216 then some (Out.nx (ρ.set i (some (.dK (d7 (L.map kI) ds (kI x) (.int (n:Int))).1 (d7 (L.map kI) ds (kI x) (.int (n:Int))).2))))else none)=_
  rw[if_pos (by rw[aq];omega)]
 ·rw[←(NN hl (kI x) (.int (n:Int))).1,hk,aq]
 ·by_cases e:x∈L
  ·rw[if_pos e];exact g2
  ·rw[if_neg e]
   exact br.mpr ⟨g2,by simp,λa ha b hb z=>e (by rw[aB]at hb;rw[←hb,←z];exact ha)⟩
 ·intro y hy
  by_cases e:x∈L
  ·rw[if_pos e]at hy;exact g3 y hy
  ·rw[if_neg e]at hy
   rcases aZ.mp hy with hy|hy
   ·exact g3 y hy
   ·rw[aB.mp hy];exact hx
 ·rw[←hk,RP hl]
  unfold xU
  by_cases e:y=x
  ·subst e
   rw[if_pos rfl,if_pos rfl]
   rfl
  ·rw[if_neg (λz=>e (Ta z)),if_neg e]
   exact g4 y
theorem SJ {g:D->L3.Env->Option L3.Env}{b:SF}{n:Nat}(enc:Nat->D)(I:Nat->L3.Env->Prop)(st:∀i ρ,i<n->I i ρ->∃ρ1 ρ2,g (enc i) ρ=some ρ1/\b ρ1=some (.nx ρ2)/\I (i+1) ρ2):∀(k j:Nat) (ρ:L3.Env),j+k=n->I j ρ->∃ρ',iy g b ((eE j k).map enc) ρ=some (.nx ρ')/\I n ρ'
 |0,j,ρ,e,h=>⟨ρ,rfl,by rw[←e];exact h⟩
 |k+1,j,ρ,e,h=>by
  obtain⟨ρ1,ρ2,h1,h2,h3⟩:=st j ρ (by omega) h
  obtain⟨ρ',h4,h5⟩:=SJ enc I st k (j+1) ρ2 (by omega) h3
  refine⟨ρ',?_,h5⟩
  rw[lX,aV]
  show((g (enc j) ρ).bind λρ1=>(b ρ1).bind _)=_
  rw[h1]
  show(b ρ1).bind _=_
  rw[h2]
  exact h4
theorem zr7 (as:List cK):hV 0 (as.map bv)=(eE 0 as.length).map λ(i:Nat)=>D.tup [.int (i:Int),bv (aN as i)]:=by
 have:∀(k:Nat) (xs:List cK),(∀i,i<xs.length->xs[i]?=some (aN as (k+i)))->hV k (xs.map bv)=(eE k xs.length).map λ(i:Nat)=>D.tup [.int (i:Int),bv (aN as i)]:=by
  intro k xs
  induction xs generalizing k with
  |nil=>intro _;rfl
  |cons x xs ih=>
   intro h
   have h0:=h 0 (by simp)
   simp at h0
   rw[aV,aC,lX,aV,←h0]
   show D.tup [.int (k:Int),bv x]::hV (k+1) (xs.map bv)=_
   rw[ih (k+1) λi hi=>by
    have:=h (i+1) (by simp;omega)
    simp at this
    rw[show k+1+i=k+(i+1)by omega]
    simpa using this]
 have:=this 0 as λi hi=>by rw[p9];exact t7 hi
 exact this
section
variable {ns:List D}{as:List cK}{many B one:Nat}{pl:Nat->Int}
abbrev oJ (as:List cK)(pl:Nat->Int)(B many one:Nat)(P:Nat->Option Int)(ch:Nat->Option Nat):Prop:=rn as.length many (λn=>(aN as n).s) (λn=>(aN as n).g) (λn=>gL pl B (aN as n)) one P ch
theorem zok (h:jN many as)(hm:many<=40)(hB:B<=150000000)(ny:∀n,n<as.length->0<=gL pl B (aN as n)/\gL pl B (aN as n)<=10000000000000){P:Nat->Option Int}{ch:Nat->Option Nat}{d:D}{b:Bool}{n:Nat}{y6:Option D}
  (hS:oJ as pl B many one P ch) (hd:hE d ch many) (hn:n<as.length):∃(P':Nat->Option Int) (jW:Nat->Option Nat) (d':D) (b':Bool) (z6:Option D),
   wt [some (dD (aY ns as) many pl B),some (.lst (dJ many P)),some d,some (.bl b),some (.int (n:Int)),some (bv (aN as n)),y6]=some (.nx [some (dD (aY ns as) many pl B),some (.lst (dJ many P')),some d',some (.bl b'),some (.int (n:Int)),some (bv (aN as n)),z6]) /\
   oJ as pl B many one P' jW/\hE d' jW many/\((b'=true/\ki many (rO P')<ki many (rO P))\/(b'=b/\P'=P/\∀p,P (aN as n).s=some p->∃q,P (aN as n).g=some q/\q<=p+gL pl B (aN as n))):=by
 have B9:aN as n∈as:=cN.mpr ⟨n,t7 hn⟩
 have hr:=h.right _ B9
 have f1:=fs (aN as n)
 have f2:=fg (aN as n)
 have i1:=NR P hr.s
 have i2:=NR P hr.g
 have sl:=SD (ns:=ns) (as:=as) (many:=many) (pl:=pl) hB hr.s hr.g (t7 hn)
 have met:kY 5 "slack" wq (dD (aY ns as) many pl B) [.int (n:Int)]=wq [dD (aY ns as) many pl B,.int (n:Int)]:=SG (by decide)
 rw[sl]at met
 have put:=λz=>RW P hr.g z
 cases hs:P (aN as n).s with
 |none=>
  refine⟨P,ch,d,b,y6,?_,hS,hd,.inr ⟨rfl,rfl,λp hp=>by cases hp⟩⟩
  rw[hs]at i1
  replace i1:eh (.lst (dJ many P)) (.int ((aN as n).s:Int))=some .non:=i1
  clear sl hs put i2 met
  generalize dD (aY ns as) many pl B=tt,dJ many P=pv at *
  unfold wt
  clear hS hd hn B9 hr h hm hB ny
  walk_at "mir"
 |some p=>
  rw[hs]at i1
  replace i1:eh (.lst (dJ many P)) (.int ((aN as n).s:Int))=some (.int p):=i1
  obtain⟨d',E8,hd2⟩:=hd.put (by omega) hr.g n
  have lowered:(∀v,P (aN as n).g=some v->p+gL pl B (aN as n)<v)->(bOr (tb (e2 (mH false) (e2 eh (eV 1) (e1 (cn [0,1,2,3] "goal") (eV 5))) (eC .non))) (tb (e2 rK (eV 6) (e2 eh (eV 1) (e1 (cn [0,1,2,3] "goal") (eV 5)))))) [some (dD (aY ns as) many pl B),some (.lst (dJ many P)),some d,some (.bl b),some (.int (n:Int)),some (bv (aN as n)),some (.int (p+gL pl B (aN as n)))]=some true ->
    wt [some (dD (aY ns as) many pl B),some (.lst (dJ many P)),some d,some (.bl b),some (.int (n:Int)),some (bv (aN as n)),y6]=some (.nx [some (dD (aY ns as) many pl B),some (.lst (dJ many (nz P (aN as n).g (p+gL pl B (aN as n))))),some d',some (.bl true),some (.int (n:Int)),some (bv (aN as n)),some (.int (p+gL pl B (aN as n)))]):=by
   intro _ ht
   have pd:=E8 [some (dD (aY ns as) many pl B),some (.lst (dJ many (nz P (aN as n).g (p+gL pl B (aN as n))))),some d,some (.bl b),some (.int (n:Int)),some (bv (aN as n)),some (.int (p+gL pl B (aN as n)))] 2 (e1 (cn [0,1,2,3] "goal") (eV 5)) (eV 4) rfl rfl f2
   have pp:=put (p+gL pl B (aN as n))
   clear sl hs put i2 E8 hd2
   generalize gL pl B (aN as n)=sv,dD (aY ns as) many pl B=tt at *
   generalize dJ many (nz P (aN as n).g (p+sv))=pv2,dJ many P=pv at *
   unfold wt iQ
   generalize (bOr (tb (e2 (mH false) (e2 eh (eV 1) (e1 (cn [0,1,2,3] "goal") (eV 5))) (eC .non))) (tb (e2 rK (eV 6) (e2 eh (eV 1) (e1 (cn [0,1,2,3] "goal") (eV 5))))))=cc,(iP 2 (e1 (cn [0,1,2,3] "goal") (eV 5)) (eV 4))=SP at *
   clear hS hd hn B9 hr h hm hB ny
   walk_at "mir"
  cases hq:P (aN as n).g with
  |none=>
   obtain⟨s1,s2⟩:=hS.step hm ny hn hr.g hs (λv hv=>by rw[hq]at hv;cases hv)
   refine⟨_,_,_,_,_,lowered (λv hv=>by rw[hq]at hv;cases hv) ?_,s1,hd2,.inl ⟨rfl,s2⟩⟩
   rw[hq]at i2
   replace i2:eh (.lst (dJ many P)) (.int ((aN as n).g:Int))=some .non:=i2
   clear lowered s1 s2 sl hs put i1 E8 hd2 met hq
   generalize gL pl B (aN as n)=sv,dD (aY ns as) many pl B=tt,dJ many P=pv at *
   clear hS hd hn B9 hr h hm hB ny
   walk_at "mir"
  |some v=>
   rw[hq]at i2
   replace i2:eh (.lst (dJ many P)) (.int ((aN as n).g:Int))=some (.int v):=i2
   by_cases lz:p+gL pl B (aN as n)<v
   ·have hv:∀v',P (aN as n).g=some v'->p+gL pl B (aN as n)<v':=λv' vY=>by rw[hq]at vY;cases vY;exact lz
    obtain⟨s1,s2⟩:=hS.step hm ny hn hr.g hs hv
    refine⟨_,_,_,_,_,lowered hv ?_,s1,hd2,.inl ⟨rfl,s2⟩⟩
    clear lowered s1 s2 sl hs put i1 E8 hd2 met hq hv
    generalize gL pl B (aN as n)=sv,dD (aY ns as) many pl B=tt,dJ many P=pv at *
    clear hS hd hn B9 hr h hm hB ny
    walk_at "mir"
   ·refine⟨P,ch,d,b,some (.int (p+gL pl B (aN as n))),?_,hS,hd,.inr ⟨rfl,rfl,λp' VL=>?_⟩⟩
    ·clear lowered sl hs put E8 hd2 hq
     generalize gL pl B (aN as n)=sv,dD (aY ns as) many pl B=tt,dJ many P=pv at *
     unfold wt
     clear hS hd hn B9 hr h hm hB ny
     walk_at "mir"
    ·cases VL
     exact⟨v,rfl,by omega⟩
theorem zr8 (h:jN many as)(hm:many<=40)(hB:B<=150000000)(ny:∀n,n<as.length->0<=gL pl B (aN as n)/\gL pl B (aN as n)<=10000000000000){P:Nat->Option Int}{ch:Nat->Option Nat}{d:D}
  (hS:oJ as pl B many one P ch) (hd:hE d ch many):∃(P':Nat->Option Int) (jW:Nat->Option Nat) (d':D) (b':Bool),xt [dD (aY ns as) many pl B,.lst (dJ many P),d]=some (.tup [.bl b',.lst (dJ many P'),d']) /\
   oJ as pl B many one P' jW/\hE d' jW many/\((b'=true/\ki many (rO P')<ki many (rO P))\/(b'=false/\P'=P/\My.Cls as.length (λn=>(aN as n).s) (λn=>(aN as n).g) (λn=>gL pl B (aN as n)) P)):=by
 have lp:=SJ (g:=gT (gsCons (gV 4) (gsCons (gV 5) gsNil))) (b:=wt) (n:=as.length) (λ(i:Nat)=>D.tup [.int (i:Int),bv (aN as i)])
  (λi ρ=>∃(P':Nat->Option Int) (jW:Nat->Option Nat) (d':D) (b':Bool) (y4 y5 y6:Option D),ρ=[some (dD (aY ns as) many pl B),some (.lst (dJ many P')),some d',some (.bl b'),y4,y5,y6]/\oJ as pl B many one P' jW/\hE d' jW many/\((b'=true/\ki many (rO P')<ki many (rO P))\/(b'=false/\P'=P/\∀n,n<i->∀p,P (aN as n).s=some p->∃q,P (aN as n).g=some q/\q<=p+gL pl B (aN as n)))) (by
   rintro i ρ hi ⟨P1,Dz,d1,b1,y4,y5,y6,rfl,a1,a2,a3⟩
   obtain⟨P2,Ku,d2,b2,z6,c1,c2,c3,c4⟩:=zok (ns:=ns) (b:=b1) (y6:=y6) h hm hB ny a1 a2 hi
   refine⟨_,_,rfl,c1,P2,Ku,d2,b2,_,_,z6,rfl,c2,c3,?_⟩
   rcases c4 with⟨e1,e2⟩|⟨e1,e2,e3⟩
   ·left
    refine⟨e1,?_⟩
    rcases a3 with⟨_,g2⟩|⟨_,g2,_⟩
    ·omega
    ·rw[g2]at e2;exact e2
   ·rcases a3 with⟨g1,g2⟩|⟨g1,g2,g3⟩
    ·left
     exact⟨e1.trans g1,by rw[e2];exact g2⟩
    ·right
     refine⟨e1.trans g1,e2.trans g2,λn hn p hp=>?_⟩
     by_cases en:n=i
     ·subst en;rw[g2]at e3;exact e3 p hp
     ·exact g3 n (by omega) p hp) as.length 0 [some (dD (aY ns as) many pl B),some (.lst (dJ many P)),some d,some (.bl false),none,none,none] (by omega) ⟨P,ch,d,false,none,none,none,rfl,hS,hd,.inr ⟨rfl,rfl,λn hn=>absurd hn (by omega)⟩⟩
 obtain⟨ρ',l1,P1,Dz,d1,b1,y4,y5,y6,rfl,a1,a2,a3⟩:=lp
 refine⟨P1,Dz,d1,b1,?_,a1,a2,a3.imp id λx=>⟨x.1,x.2.1,λn p hn hp=>x.2.2 n hn p hp⟩⟩
 have fT:=Of (aY ns as) many pl B
 have f4:=jw ns as
 have en:=zr7 as
 clear a3 a1 a2 hS hd ny
 generalize ((eE 0 as.length).map λ(i:Nat)=>D.tup [.int (i:Int),bv (aN as i)])=el,dD (aY ns as) many pl B=tt at *
 generalize aY ns as=net,as.map bv=al,dJ many P1=P7 at *
 generalize dJ many P=pv at *
 unfold xt uR rM uS
 clear h hm hB
 walk_at "mir"
theorem Tb (h:jN many as)(hm:many<=40)(hB:B<=150000000)(ny:∀n,n<as.length->0<=gL pl B (aN as n)/\gL pl B (aN as n)<=10000000000000):∀(k:Nat) (P:Nat->Option Int) (ch:Nat->Option Nat) (d:D),oJ as pl B many one P ch->hE d ch many->ki many (rO P)<k ->
  ∃(P':Nat->Option Int) (jW:Nat->Option Nat) (d':D),oJ as pl B many one P' jW/\hE d' jW many/\My.Cls as.length (λn=>(aN as n).s) (λn=>(aN as n).g) (λn=>gL pl B (aN as n)) P' /\
   ∀o1 o2:Option D,jY (iB 3 4 (aCons (eV 0) aNil) xt) sSkip k [some (dD (aY ns as) many pl B),o1,o2,some (.lst (dJ many P)),some d]=some (.nx [some (dD (aY ns as) many pl B),o1,o2,some (.lst (dJ many P')),some d'])
 |0,_,_,_,_,_,hk=>absurd hk (by omega)
 |k+1,P,ch,d,hS,hd,hk=>by
  obtain⟨P1,Dz,d1,b1,e1,a1,a2,a3⟩:=zr8 (ns:=ns) h hm hB ny hS hd
  have OF:∀o1 o2:Option D,iB 3 4 (aCons (eV 0) aNil) xt [some (dD (aY ns as) many pl B),o1,o2,some (.lst (dJ many P)),some d]=some (.bl b1,[some (dD (aY ns as) many pl B),o1,o2,some (.lst (dJ many P1)),some d1]):=λo1 o2=>by
   obtain⟨L,ds,rfl,_⟩:=hd.is
   show(if hZ (.lst (dJ many P))=true/\hZ (.dK (L.map kI) ds)=true then(xt [dD (aY ns as) many pl B,.lst (dJ many P),.dK (L.map kI) ds]).bind _ else none)=_
   rw[if_pos ⟨rfl,rfl⟩,e1]
   rfl
  rcases a3 with⟨rfl,b2⟩|⟨rfl,rfl,b3⟩
  ·obtain⟨P2,Ku,d2,c1,c2,c3,c4⟩:=Tb h hm hB ny k P1 Dz d1 a1 a2 (by omega)
   refine⟨P2,Ku,d2,c1,c2,c3,λo1 o2=>?_⟩
   show(iB 3 4 (aCons (eV 0) aNil) xt [some (dD (aY ns as) many pl B),o1,o2,some (.lst (dJ many P)),some d]).bind _=_
   rw[OF]
   exact c4 o1 o2
  ·refine⟨P1,Dz,d1,a1,a2,b3,λo1 o2=>?_⟩
   show(iB 3 4 (aCons (eV 0) aNil) xt [some (dD (aY ns as) many pl B),o1,o2,some (.lst (dJ many P1)),some d]).bind _=_
   rw[OF]
   rfl
theorem SK (h:jN many as)(Fs:ns.length=many)(hm:many<=40)(hB:B<=150000000)(ny:∀n,n<as.length->0<=gL pl B (aN as n)/\gL pl B (aN as n)<=10000000000000)(ho:one<many) :
  ∃(P:Nat->Option Int) (ch:Nat->Option Nat),oJ as pl B many one P ch/\My.Cls as.length (λn=>(aN as n).s) (λn=>(aN as n).g) (λn=>gL pl B (aN as n)) P /\
   ∀n9,n9<many->(P n9=none/\qy [dD (aY ns as) many pl B,.int (one:Int),.int (n9:Int)]=some .non) \/
    ∃p w,P n9=some p/\Bk (λn=>(aN as n).s) ch one n9 w/\w.length<=many/\qy [dD (aY ns as) many pl B,.int (one:Int),.int (n9:Int)]=some (.tup [.int p,.lst (aW w),.lst (dJ many P)]):=by
 have L8:ki many (rO (nz (λ_=>none) one 0))<kA:=by
  refine NI (k:=60) (fU (QO UP many λx _=>?_) ?_) (by decide)
  ·unfold rO nz
   by_cases e:x=one
   ·rw[if_pos e];decide
   ·rw[if_neg e];exact aF _
  ·exact fU (Nat.mul_le_mul_right UP hm) (by decide)
 obtain⟨P,ch,d,a1,a2,a3,a4⟩:=Tb (ns:=ns) h hm hB ny kA _ _ _ (rn.start ho) (hE.start many) L8
 refine⟨P,ch,a1,a3,λn9 Bg=>?_⟩
 have fT:=Of (aY ns as) many pl B
 have f4:=jw ns as
 have f5:=Nm ns as
 have ln:eU [.lst ns]=some (.int (many:Int)):=(jh _).trans (by rw[Fs])
 have rp:nO (.lst [.non]) (.int (many:Int))=some (.lst (dJ many λ_=>none)):=by
  have e:dJ many (λ_=>none)=ax many .non:=by
   unfold dJ
   rw[mP,bF]
   rfl
  rw[e]
  unfold nO
  dsimp only
  rw[if_pos ⟨by omega,by omega,by decide⟩,gk]
  have fl:∀k:Nat,(ax k [D.non]).flatten=ax k .non:=λk=>by
   induction k with
   |zero=>rfl
   |succ k ih=>rw[cj,dL,ih,cj];rfl
  rw[fl]
 have st:=RW (λ_=>none) ho 0
 have lp:=a4 (some (.int (one:Int))) (some (.int (n9:Int)))
 have ix:=NR P Bg
 have sc0:D.sc .non=true:=rfl
 have sc1:∀z,D.sc (.int z)=true:=λ_=>rfl
 cases hp:P n9 with
 |none=>
  left
  refine⟨rfl,?_⟩
  rw[hp]at ix
  replace ix:eh (.lst (dJ many P)) (.int (n9:Int))=some .non:=ix
  clear a4 a1 a2 a3 L8 ny hp
  generalize dD (aY ns as) many pl B=tt at *
  generalize aY ns as=net,dJ many (nz (λ_=>none) one 0)=P7,dJ many (λ_=>none)=Xt,dJ many P=pv at *
  unfold qy sFz mI iQ
  try unfold vQ
  generalize (iB 3 4 (aCons (eV 0) aNil) xt)=cm at *
  clear h hm hB Fs ho Bg
  walk_at "mir"
 |some p=>
  right
  obtain⟨w,hw⟩:=a1.bk n9 p hp
  obtain⟨w1,w2,w3⟩:=a1.way a3 hw
  have yX:w.length<=many:=by
   have:=Kahn.len_le (many:=many) hw.nd (λx hx=>by
    obtain⟨n,hn,rfl⟩:=bK.mp hx
    exact(h.right _ (cN.mpr ⟨n,t7 (w1 n hn)⟩)).s)
   rw[aq]at this
   exact this
  refine⟨p,w,rfl,hw,yX,?_⟩
  have wb:=Z2 (as:=as) a2.toI hw w1 (by omega)
  rw[hp]at ix
  replace ix:eh (.lst (dJ many P)) (.int (n9:Int))=some (.int p):=ix
  clear a4 a1 a2 a3 L8 ny hp hw w1 w2 w3 yX
  generalize dD (aY ns as) many pl B=tt at *
  generalize aY ns as=net,as.map bv=al,aW w=wl,dJ many (nz (λ_=>none) one 0)=P7,dJ many (λ_=>none)=Xt,dJ many P=pv at *
  unfold qy sFz mI iQ
  try unfold vQ
  generalize (iB 3 4 (aCons (eV 0) aNil) xt)=cm at *
  clear h hm hB Fs ho Bg
  walk_at "mir"
end
def swp (a:cK):cK:={ a with s:=a.g,g:=a.s }
theorem BR (as:List cK)(n:Nat):aN (as.map swp) n=swp (aN as n):=by
 unfold aN
 rw[bw]
 cases as[n]?<;>rfl
theorem zuk (as:List cK):aS (as.map swp)=aG as:=funext λn=>by unfold aS aG;rw[BR];rfl
theorem Tc (as:List cK):aG (as.map swp)=aS as:=funext λn=>by unfold aS aG;rw[BR];rfl
theorem zul (as:List cK):tN (as.map swp)=tN as:=funext λn=>by unfold tN;rw[BR];rfl
theorem zum (as:List cK):bN (as.map swp)=bN as:=funext λn=>by unfold bN;rw[BR];rfl
theorem kW.rev {S G:Nat->Nat}:∀{w:List Nat} {a b:Nat},kW S G a w b->kW G S b w.reverse a
 |[],a,b,h=>by
  have h:a=b:=h
  exact h.symm
 |n::w,a,b,h=>by
  have h1:=kW.rev h.2
  have h2:=kW.one G S n
  rw[h.1]at h2
  rw[iK]
  exact h2.app h1
theorem kW.ends {S G:Nat->Nat}:∀{w:List Nat} {a b:Nat},kW S G a w b->a::w.map G=w.map S++[b]
 |[],a,b,h=>by
  have h:a=b:=h
  rw[h];rfl
 |n::w,a,b,h=>by
  have h1:=kW.ends h.2
  rw[aV,aV,h1,h.1]
  rfl
theorem RG.swp {as:List cK}{aP R:List Nat}(h:RG as aP R):RG (as.map My.swp) aP R.reverse:=by
 obtain⟨x,hx⟩:=h.w
 refine⟨λz=>h.ne (List.reverse_eq_nil_iff.mp z),⟨x,?_⟩,?_,λn hn=>h.m n (ma.mp hn)⟩
 ·rw[zuk,Tc];exact hx.rev
 ·rw[Tc,iY]
  have e:=hx.ends
  have p:(x::R.map (aG as)).Perm (x::R.map (aS as)):=by
   rw[e];exact List.perm_append_singleton x _
  exact(iL _).nodup_iff.mpr (p.cons_inv.nodup_iff.mp h.nd)
theorem zun (as:List cK)(R:List Nat):sT (as.map swp) R.reverse=sT as R:=by
 unfold sT
 rw[zul]
 exact Jx ((iL R).map _)
theorem zuo (as:List cK)(R:List Nat):sB (as.map swp) R.reverse=sB as R:=by
 unfold sB
 rw[zum]
 exact Jx ((iL R).map _)
theorem zr9 (as:List cK):(as.map swp).map swp=as:=by
 rw[dR]
 exact List.map_id as
def Rs (as:List cK)(aP:List Nat)(t b:Int):Prop:=∃R,RG as aP R/\sT as R=t/\sB as R=b
theorem Rs.swp {as:List cK}{aP:List Nat}{t b:Int}(h:Rs as aP t b):Rs (as.map My.swp) aP t b:=by
 obtain⟨R,h1,h2,h3⟩:=h
 exact⟨R.reverse,h1.swp,by rw[zun];exact h2,by rw[zuo];exact h3⟩
theorem Rs.iff {as:List cK}{aP:List Nat}(t b:Int):Rs as aP t b↔Rs (as.map My.swp) aP t b :=
 ⟨Rs.swp,λh=>by have:=h.swp;rwa[zr9]at this⟩
theorem Td (rk:Nat->Nat):∀many:Nat,∃C:Nat,∀g,g<many->rk g<=C
 |0=>⟨0,λg h=>by omega⟩
 |n+1=>by
  obtain⟨C,h⟩:=Td rk n
  refine⟨max C (rk n),λg hg=>?_⟩
  by_cases e:g=n
  ·subst e;exact Nat.le_max_right _ _
  ·exact bZ (h g (by omega)) (Nat.le_max_left _ _)
theorem Drawn.swp {many:Nat}{rk:Nat->Nat}:∃Ck:Nat->Nat,∀a:cK,Drawn many rk a->Drawn many Ck (My.swp a):=by
 obtain⟨C,hC⟩:=Td rk many
 refine⟨λx=>C-rk x,λa h=>⟨h.g,h.s,h.t0,h.t1,h.b,λz=>?_⟩⟩
 have h1:=h.r z
 have h2:=hC _ h.g
 have h3:=hC _ h.s
 show C-rk a.g<C-rk a.s
 omega
theorem Te {many:Nat}{as:List cK}{aP:List Nat}{rk:Nat->Nat}{mb:Nat}(g:GN many as aP rk mb)(t b:Int)(h:Rs as aP t b):1<=b:=by
 obtain⟨R,hR,_,rfl⟩:=h
 exact(hR.bds g).2.1
theorem zsa {as Ki:List cK}(hS:aS Ki=aS as)(hG:aG Ki=aG as){aP R:List Nat}:RG Ki aP R↔RG as aP R:=by
 constructor
 ·intro h
  have w:=h.w
  have nd:=h.nd
  rw[hS,hG]at w
  rw[hG]at nd
  exact⟨h.ne,w,nd,h.m⟩
 ·intro h
  refine⟨h.ne,?_,?_,h.m⟩
  ·rw[hS,hG];exact h.w
  ·rw[hG];exact h.nd
theorem Tp (as:List cK)(f:cK->Int)(R:List Nat):sT (as.map λa=>fZ a (f a)) R=sT as R:=by
 unfold sT
 have:tN (as.map λa=>fZ a (f a))=tN as:=funext λn=>(BW as f n).2.2.1
 rw[this]
theorem Tq (as:List cK)(f:cK->Int)(R:List Nat):sB (as.map λa=>fZ a (f a)) R=sB as R:=by
 unfold sB
 have:bN (as.map λa=>fZ a (f a))=bN as:=funext λn=>by unfold bN;rw[(BW as f n).2.2.2]
 rw[this]
theorem HE {many:Nat}{rk:Nat->Nat}{as:List cK}(h1:1<=many)(h2:many<=8)(h3:as.length<=120)(gN:∀a∈as,Drawn many rk a):∃(o:Option (Int×Int)) (d:D),vb [aY (nm many) (as.map λa=>fZ a (a.s:Int))]=some d/\zR (Rs as (ba as.length)) o/\((o=none/\d=.non)\/∃q y z,o=some q/\d=.tup [fr q,y,z]):=by
 have rG:(nm many).length=many:=by unfold nm;rw[aq,bF]
 obtain⟨mb,sR,gn,Vd⟩:=zvk (ns:=nm many) h1 (by omega) h3 gN
 have O6:(as.map λa=>fZ a (a.s:Int)).length=as.length:=aq ..
 have ga:=gn (ba as.length) (λn hn=>bU.mp hn) (by rw[bF];exact h3)
 have gb:=Vd (ba as.length) (λn hn=>bU.mp hn) (by rw[bF];exact h3)
 obtain⟨d1,p1,p2⟩:=zr3 ga rG sR
 have q1:vb [aY (nm many) (as.map λa=>fZ a (a.s:Int))]=some d1:=zr4 (by rw[O6];exact ga) rG (by rw[O6];exact p1)
 have eS:=zvg as (λa=>(a.s:Int))
 have eG:=zvh as (λa=>(a.s:Int))
 have MC:∀{aP R:List Nat},RG (as.map λa=>fZ a (a.s:Int)) aP R↔RG as aP R:=λ{aP R}=>zsa eS eG
 rcases p2 with⟨rfl,hN⟩|⟨R,q,T,rfl,hR,hq,hm,_⟩
 ·exact⟨none,_,q1,⟨Te gb,.inl ⟨rfl,λt b ⟨R,hR,_⟩=>hN R (MC.mpr hR)⟩⟩,.inl ⟨rfl,rfl⟩⟩
 ·refine⟨some q,_,q1,⟨Te gb,.inr ⟨sT as R,sB as R,q,rfl,⟨R,MC.mp hR,rfl,rfl⟩,?_,?_⟩⟩,.inr ⟨q,_,_,rfl,rfl⟩⟩
  ·rw[hq,Tp,Tq]
  ·rintro t' b' ⟨R',vT,rfl,rfl⟩
   have:=hm R' (MC.mpr vT)
   rw[Tp,Tq]at this
   exact this
theorem Tf {many:Nat}{rk:Nat->Nat}{as:List cK}(h1:1<=many)(h2:many<=8)(h3:as.length<=120)(gN:∀a∈as,Drawn many rk a):q0 [.lst (as.map d6),.int (many:Int)]=some (aY (nm many) (as.map λa=>fZ a (a.s:Int))):=by
 have ok:=N7 (rk:=rk) (λa=>(a.s:Int)) h1 h2 (as:=as) h3 gN
 have rG:(nm many).length=many:=by unfold nm;rw[aq,bF]
 have Fo:=zve ok rG (zrr h1 h2)
 have k1:QF [some (.lst (as.map d6)),some (.int (many:Int))]=some (.lst ((as.map λa=>fZ a (a.s:Int)).map bv)):=by
  rw[dR]
  refine u7 d6 (λa=>bv (fZ a (a.s:Int))) as rfl (by omega) λa _=>⟨_,rfl,?_⟩
  have i0:eh (d6 a) (.int 0)=some (.int (a.s:Int)):=rfl
  have:=zt8 a a.s
  clear ok rG Fo
  walk_at "mir"
 have k2:Qx [some (.lst (as.map d6)),some (.int (many:Int))]=some (.lst (nm many)):=by
  refine u7 (λ(t:Nat)=>D.int (t:Int)) (λ(k:Nat)=>D.str ("a"++yZ (k:Int))) (ba many) (N4 rfl (by omega)) (by rw[bF];omega) λg hg=>⟨_,rfl,?_⟩
  have hg:=bU.mp hg
  obtain⟨s1,s2⟩:=zrs g (by omega)
  clear hg ok rG Fo k1
  walk_at "mir"
 generalize (as.map λa=>fZ a (a.s:Int)).map bv=mks,aY (nm many) (as.map λa=>fZ a (a.s:Int))=net,as.map d6=ps at *
 generalize nm many=nml at *
 clear ok rG gN
 unfold q0
 walk_at "mir"
theorem Og {m many one two:Nat}{S G:Nat->Nat}{sl:Nat->Int}{P P':Nat->Option Int}{ch jW:Nat->Option Nat}(h:rn m many S G sl one P ch)(hc:My.Cls m S G sl P)(h':rn m many G S sl two P' jW)(qK:My.Cls m G S sl P'){p:Int}(e:P two=some p):∃q,P' one=some q/\q<=p:=by
 obtain⟨w,hw⟩:=h.bk two p e
 obtain⟨w1,w2,w3⟩:=h.way hc hw
 obtain⟨q,q1,q2⟩:=qK.le w2.rev (λn hn=>w1 n (ma.mp hn)) h'.p0
 refine⟨q,q1,?_⟩
 rw[e]at w3
 cases w3
 rw[Jx ((iL w).map sl)]at q2
 omega
theorem zol {m many one two:Nat}{S G:Nat->Nat}{sl:Nat->Int}{P P':Nat->Option Int}{ch jW:Nat->Option Nat}(h:rn m many S G sl one P ch)(hc:My.Cls m S G sl P)(h':rn m many G S sl two P' jW)(qK:My.Cls m G S sl P'):P two=P' one:=by
 cases e:P two with
 |some p=>
  obtain⟨q,q1,q2⟩:=Og h hc h' qK e
  obtain⟨p',p1,p2⟩:=Og h' qK h hc q1
  rw[e]at p1
  cases p1
  rw[q1,show q=p by omega]
 |none=>
  cases e':P' one with
  |none=>rfl
  |some q=>
   obtain⟨p',p1,_⟩:=Og h' qK h hc e'
   rw[e]at p1
   cases p1
theorem zmp {as:List cK}{many B:Nat}{rk:Nat->Nat}(hB:B<=10000000)(gN:∀a∈as,Drawn many rk a/\a.t<=1000000){x2 x3 x5:Option D}{f:Nat->Int}{K:Int}(hf:∀g,g<many->0<=f g/\f g<=K)(y6 y7 y8 y9:Option D) :
  ∃f' z6 z7 z8 z9,uo [some (.lst (as.map d6)),some (.int (B:Int)),x2,x3,some (.lst (cO many f)),x5,y6,y7,y8,y9]=some (.nx [some (.lst (as.map d6)),some (.int (B:Int)),x2,x3,some (.lst (cO many f')),x5,z6,z7,z8,z9])/\∀g,g<many->0<=f' g/\f' g<=K+1000000*(as.length:Int):=by
 obtain⟨ρ',h1,f',z6,z7,z8,z9,rfl,h2⟩:=Nr (g:=gT (gsCons (gV 6) (gsCons (gV 7) (gsCons (gV 8) (gsCons (gV 9) gsNil))))) (b:=jo) (ds:=as.map d6) (ρ:=[some (.lst (as.map d6)),some (.int (B:Int)),x2,x3,some (.lst (cO many f)),x5,y6,y7,y8,y9])
  (λpre ρ=>∃f' z6 z7 z8 z9,ρ=[some (.lst (as.map d6)),some (.int (B:Int)),x2,x3,some (.lst (cO many f')),x5,z6,z7,z8,z9]/\∀g,g<many->0<=f' g/\f' g<=K+1000000*(pre.length:Int))
  ⟨f,y6,y7,y8,y9,rfl,λg hg=>by have:=hf g hg;simp;omega⟩ (by
   rintro pre d post ρ hd ⟨f',z6,z7,z8,z9,rfl,hI⟩
   obtain⟨a,ha,rfl⟩:=bK.mp (show d∈as.map d6 by rw[hd];simp)
   obtain⟨dr,ht⟩:=gN a ha
   have i1:eh (.lst (cO many f')) (.int (a.g:Int))=some (.int (f' a.g)):=xZ f' dr.g
   have i2:eh (.lst (cO many f')) (.int (a.s:Int))=some (.int (f' a.s)):=xZ f' dr.s
   have m1:eD (.int (B:Int)) (.int (a.b:Int))=some (.int ((B:Int)*(a.b:Int))):=zan (by omega) (by omega)
   have st:=NA f' dr.g (max (f' a.g) (f' a.s+a.t-(B:Int)*(a.b:Int)))
   refine⟨[some (.lst (as.map d6)),some (.int (B:Int)),x2,x3,some (.lst (cO many f')),x5,some (.int (a.s:Int)),some (.int (a.g:Int)),some (.int a.t),some (.int (a.b:Int))],[some (.lst (as.map d6)),some (.int (B:Int)),x2,x3,some (.lst (cO many λx=>if x=a.g then max (f' a.g) (f' a.s+a.t-(B:Int)*(a.b:Int))else f' x)),x5,some (.int (a.s:Int)),some (.int (a.g:Int)),some (.int a.t),some (.int (a.b:Int))],rfl,.inl ?_,_,_,_,_,_,rfl,λg hg=>?_⟩
   ·generalize (cO many λx=>if x=a.g then max (f' a.g) (f' a.s+a.t-(B:Int)*(a.b:Int))else f' x)=v1 at *
    generalize cO many f'=v0,f' a.g=w1,f' a.s=w2,(B:Int)*(a.b:Int)=w3 at *
    have em:max w1 (w2+a.t-w3)=if w1<w2+a.t-w3 then w2+a.t-w3 else w1:=by split<;>omega
    rw[em]at st
    clear hI hd dr ht gN hB hf ha em
    unfold jo iQ
    walk_at "mir"
   ·have h1:=hI g hg
    have h2:=hI a.s dr.s
    have h3:=hI a.g dr.g
    have h4:0<=(B:Int)*(a.b:Int):=gj (by omega) (by omega)
    rw[aX]
    simp only[aC,mS]
    by_cases e:g=a.g
    ·rw[if_pos e];omega
    ·rw[if_neg e];omega)
 refine⟨f',z6,z7,z8,z9,?_,λg hg=>?_⟩
 ·unfold uo sFor
  rw[show lsD (eV 0) [some (.lst (as.map d6)),some (.int (B:Int)),x2,x3,some (.lst (cO many f)),x5,y6,y7,y8,y9]=some (as.map d6)from rfl]
  exact h1
 ·have:=h2 g hg
  rw[aq]at this
  exact this
theorem zom {as:List cK}{many B:Nat}{rk:Nat->Nat}{cell:Int}(hm:many<=8)(hl:as.length<=16)(hB:B<=10000000)(gN:∀a∈as,Drawn many rk a/\a.t<=1000000) :
  ∃f:Nat->Int,jk [.lst (as.map d6),.int (B:Int),.int (many:Int),.int cell]=some (.lst (cO many f))/\∀g,g<many->0<=f g/\f g<=1000000000:=by
 have q1:Qo [some (.lst (as.map d6)),some (.int (B:Int)),some (.int (many:Int)),some (.int cell),none,none,none,none,none,none]=some (.lst (cO many λg=>(iO cell (g:Int):Int)%20)):=by
  refine u7 (λ(g:Nat)=>D.int (g:Int)) (λg=>D.int ((iO cell (g:Int):Int)%20)) (ba many) (N4 rfl (by omega)) (by rw[bF];omega) λg hg=>⟨[some (.int (g:Int)),some (.int cell)],rfl,?_⟩
  have hg:=bU.mp hg
  obtain⟨m1,m2⟩:=JH cell (k:=(g:Int)) (by omega) (by omega)
  generalize iO cell (g:Int)=z at *
  have a3:e6 (.int (z:Int)) (.int 20)=some (.int ((z:Int)%20)):=jz (by decide)
  clear hg m2 hm hl hB gN
  walk_at "mir"
 obtain⟨ρ',h1,f,y5,y6,y7,y8,y9,rfl,h2⟩:=Jl (g:=gV 5) (b:=uo) (lo:=0) (n:=many) (ρ:=[some (.lst (as.map d6)),some (.int (B:Int)),some (.int (many:Int)),some (.int cell),some (.lst (cO many λg=>(iO cell (g:Int):Int)%20)),none,none,none,none,none])
  (λi ρ=>∃f y5 y6 y7 y8 y9,ρ=[some (.lst (as.map d6)),some (.int (B:Int)),some (.int (many:Int)),some (.int cell),some (.lst (cO many f)),y5,y6,y7,y8,y9]/\∀g,g<many->0<=f g/\f g<=20+16000000*(i:Int)) ⟨_,_,_,_,_,_,rfl,λg hg=>by omega⟩ (by
   rintro i ρ hi ⟨f,y5,y6,y7,y8,y9,rfl,hI⟩
   obtain⟨f',z6,z7,z8,z9,e1,e2⟩:=zmp (x2:=some (.int (many:Int))) (x3:=some (.int cell)) (x5:=some (.int (0+(i:Int)))) hB gN hI y6 y7 y8 y9
   refine⟨_,_,rfl,.inl e1,f',_,_,_,_,_,rfl,λg hg=>?_⟩
   have:=e2 g hg
   omega)
 refine⟨f,?_,λg hg=>by have:=h2 g hg;omega⟩
 have r1:i8 [.int (many:Int)]=some (fR 0 many):=by rw[Co (by omega) (by omega)];rfl
 generalize as.map d6=at1,(cO many λg=>(iO cell (g:Int):Int)%20)=v0 at *
 generalize cO many f=v1 at *
 unfold jk
 clear hm hl hB gN h2
 walk_at "mir"
theorem RX {α:Type}{g:D->L3.Env->Option L3.Env}{b:mw}(enc:α->D)(I:L3.Env->Prop)(d:D)(x:α)(post:List α)(hx:∀ρ,I ρ->∃ρ1 ρ2,g (enc x) ρ=some ρ1/\b ρ1=some (.xc ρ2 d)/\I ρ2):∀(pre:List α) (ρ:L3.Env),I ρ->(∀y∈pre,∀ρ,I ρ->∃ρ1 ρ2,g (enc y) ρ=some ρ1/\b ρ1=some (.ok (.nx ρ2))/\I ρ2)->∃ρ',rC g b ((pre++x::post).map enc) ρ=some (.xc ρ' d)/\I ρ'
 |[],ρ,h,_=>by
  obtain⟨ρ1,ρ2,h1,h2,h3⟩:=hx ρ h
  refine⟨ρ2,?_,h3⟩
  show(g (enc x) ρ).bind _=_
  rw[h1,ck,h2];rfl
 |y::pre,ρ,h,st=>by
  obtain⟨ρ1,ρ2,h1,h2,h3⟩:=st y af ρ h
  obtain⟨ρ',h4,h5⟩:=RX enc I d x post hx pre ρ2 h3 λz hz=>st z (ak _ hz)
  refine⟨ρ',?_,h5⟩
  show(g (enc y) ρ).bind _=_
  rw[h1,ck,h2]
  exact h4
theorem RY {α:Type}{g:D->L3.Env->Option L3.Env}{b:mw}(enc:α->D)(I:L3.Env->Prop):∀(xs:List α) (ρ:L3.Env),I ρ->(∀y∈xs,∀ρ,I ρ->∃ρ1 ρ2,g (enc y) ρ=some ρ1/\b ρ1=some (.ok (.nx ρ2))/\I ρ2)->∃ρ',rC g b (xs.map enc) ρ=some (.ok (.nx ρ'))/\I ρ'
 |[],ρ,h,_=>⟨ρ,rfl,h⟩
 |y::xs,ρ,h,st=>by
  obtain⟨ρ1,ρ2,h1,h2,h3⟩:=st y af ρ h
  obtain⟨ρ',h4,h5⟩:=RY enc I xs ρ2 h3 λz hz=>st z (ak _ hz)
  refine⟨ρ',?_,h5⟩
  show(g (enc y) ρ).bind _=_
  rw[h1,ck,h2]
  exact h4
theorem Rk {α:Type}(p:α->Bool):∀xs:List α,(∀x∈xs,p x=true)\/∃pre x post,xs=pre++x::post/\(∀y∈pre,p y=true)/\p x=false
 |[]=>.inl λx h=>(by cases h)
 |x::xs=>by
  cases e:p x with
  |false=>exact .inr ⟨[],x,xs,rfl,λy h=>(by cases h),e⟩
  |true=>
   rcases Rk p xs with h|⟨pre,z,post,h1,h2,h3⟩
   ·exact .inl λy hy=>by
     rcases aE.mp hy with rfl|hy
     ·exact e
     ·exact h y hy
   ·exact .inr ⟨x::pre,z,post,by rw[h1];rfl,λy hy=>by
     rcases aE.mp hy with rfl|hy
     ·exact e
     ·exact h2 y hy,h3⟩
theorem zsb {g:Nat}(h:g<=1000):rB (.int (g:Int))=some (.int (g:Int)):=by
 show(if _ then _ else _)=_
 rw[if_pos]
 have:=Nat.log2_le_self ((g:Int).natAbs)
 omega
def HV (ns:List D)(as:List cK)(many B:Nat)(pl:Nat->Int)(ρ:L3.Env):Prop:=∃x4,ρ=[some (dD (aY ns as) many pl B),some (aY ns as),some (.lst (cO many pl)),some (.int (B:Int)),x4]
theorem NS {ns:List D}{as:List cK}{many B n:Nat}{pl:Nat->Int}(h:jN many as)(hB:B<=150000000)(hn:n<as.length){ρ:L3.Env}(hI:HV ns as many B pl ρ):∃ρ1,gV 4 (.int (n:Int)) ρ=some ρ1/\HV ns as many B pl ρ1/\we ρ1=if gL pl B (aN as n)<0 then some (.xc ρ1 (.exc 9 ["arrow"] [.int (n:Int)]))else some (.ok (.nx ρ1)):=by
 obtain⟨x4,rfl⟩:=hI
 refine⟨[some (dD (aY ns as) many pl B),some (aY ns as),some (.lst (cO many pl)),some (.int (B:Int)),some (.int (n:Int))],rfl,⟨_,rfl⟩,?_⟩
 have hl:=h.len
 have ha:=t7 hn
 have hm:aN as n∈as:=jZ ha
 have s1:=SD (ns:=ns) (pl:=pl) hB (h.right _ hm).s (h.right _ hm).g ha
 have s2:=SG (m:="slack") (f:=wq) (net:=aY ns as) (many:=many) (B:=B) (pl:=pl) (ds:=[.int (n:Int)]) (by decide +kernel)
 rw[s1]at s2
 have fm:=zsb (g:=n) (by omega)
 by_cases hz:gL pl B (aN as n)<0
 ·rw[if_pos hz]
  generalize dD (aY ns as) many pl B=tb',gL pl B (aN as n)=v at *
  generalize aY ns as=net,cO many pl=vs at *
  unfold we
  clear s1 h hB ha hm hn hl
  walk_at "mix"
 ·rw[if_neg hz]
  generalize dD (aY ns as) many pl B=tb',gL pl B (aN as n)=v at *
  generalize aY ns as=net,cO many pl=vs at *
  unfold we
  clear s1 h hB ha hm hn hl
  walk_at "mix"
theorem zon {ns:List D}{as:List cK}{many B:Nat}{pl:Nat->Int}(h:jN many as)(hB:B<=150000000) :
  ((∀n,n<as.length->0<=gL pl B (aN as n))/\wy 5 [aY ns as,.lst (cO many pl),.int (B:Int)]=some (.ok (dD (aY ns as) many pl B)))\/((∃n,n<as.length/\gL pl B (aN as n)<0)/\∃n:Nat,wy 5 [aY ns as,.lst (cO many pl),.int (B:Int)]=some (.xc (.exc 9 ["arrow"] [.int (n:Int)]))):=by
 have gC:=h.len
 have r1:i8 [.int (as.length:Int)]=some ((ba as.length).map λ(n:Nat)=>D.int (n:Int)):=by
  rw[Co (by omega) (by omega),gk];simp[fR]
 have f4:cn [4] "arrows" (aY ns as)=some (.lst (as.map bv)):=rfl
 have l4:eU [.lst (as.map bv)]=some (.int (as.length:Int)):=(jh _).trans (by rw[aq])
 have s1:ie [5] "net" (eV 1) [some (D.obj 5 [] []),some (aY ns as),some (.lst (cO many pl)),some (.int (B:Int)),none]=some (.nx [some (D.obj 5 ["net"] [aY ns as]),some (aY ns as),some (.lst (cO many pl)),some (.int (B:Int)),none]):=rfl
 have s2:ie [5] "times" (eN lU (aCons (eV 2) aNil)) [some (D.obj 5 ["net"] [aY ns as]),some (aY ns as),some (.lst (cO many pl)),some (.int (B:Int)),none]=some (.nx [some (D.obj 5 ["net","times"] [aY ns as,.lst (cO many pl)]),some (aY ns as),some (.lst (cO many pl)),some (.int (B:Int)),none]):=rfl
 have s3:ie [5] "beat" (eV 3) [some (D.obj 5 ["net","times"] [aY ns as,.lst (cO many pl)]),some (aY ns as),some (.lst (cO many pl)),some (.int (B:Int)),none]=some (.nx [some (dD (aY ns as) many pl B),some (aY ns as),some (.lst (cO many pl)),some (.int (B:Int)),none]):=rfl
 rcases Rk (λn=>decide (¬gL pl B (aN as n)<0)) (ba as.length)with hg|⟨pre,n,post,e1,e2,e3⟩
 ·left
  refine⟨λn hn=>by have:=of_decide_eq_true (hg n (bU.mpr hn));omega,?_⟩
  obtain⟨ρ',lp,x4,rfl⟩:=RY (g:=gV 4) (b:=we) (λ(n:Nat)=>D.int (n:Int)) (HV ns as many B pl) (ba as.length) [some (dD (aY ns as) many pl B),some (aY ns as),some (.lst (cO many pl)),some (.int (B:Int)),none] ⟨_,rfl⟩ λn hn ρ hI=>by
   obtain⟨ρ1,a1,a2,a3⟩:=NS h hB (bU.mp hn) hI
   rw[if_neg (of_decide_eq_true (hg n hn))]at a3
   exact⟨ρ1,ρ1,a1,a3,a2⟩
  generalize ((ba as.length).map λ(n:Nat)=>D.int (n:Int))=rg,dD (aY ns as) many pl B=tb' at *
  generalize aY ns as=net,cO many pl=vs at *
  unfold wy xF
  clear h hB gC hg
  walk_at "mix"
 ·right
  have hn:n<as.length:=bU.mp (by rw[e1];simp)
  have hz:gL pl B (aN as n)<0:=by
   have:=of_decide_eq_false e3
   omega
  refine⟨⟨n,hn,hz⟩,n,?_⟩
  obtain⟨ρ',lp,x4,rfl⟩:=RX (g:=gV 4) (b:=we) (λ(n:Nat)=>D.int (n:Int)) (HV ns as many B pl) (.exc 9 ["arrow"] [.int (n:Int)]) n post (λρ hI=>by
   obtain⟨ρ1,a1,a2,a3⟩:=NS h hB hn hI
   rw[if_pos hz]at a3
   exact⟨ρ1,ρ1,a1,a3,a2⟩) pre [some (dD (aY ns as) many pl B),some (aY ns as),some (.lst (cO many pl)),some (.int (B:Int)),none] ⟨_,rfl⟩ (λm hm ρ hI=>by
   have oP:m<as.length:=bU.mp (by rw[e1];exact bq _ hm)
   obtain⟨ρ1,a1,a2,a3⟩:=NS h hB oP hI
   rw[if_neg (of_decide_eq_true (e2 m hm))]at a3
   exact⟨ρ1,ρ1,a1,a3,a2⟩)
  rw[←e1]at lp
  generalize ((ba as.length).map λ(n:Nat)=>D.int (n:Int))=rg,dD (aY ns as) many pl B=tb' at *
  generalize aY ns as=net,cO many pl=vs at *
  unfold wy xF
  clear h hB gC e1 e2 e3 hn hz
  walk_at "mix"
theorem Rz {ns:List D}{as:List cK}{many B:Nat}{pl:Nat->Int}(h:jN many as)(hB:B<=150000000) :
  ((∀n,n<as.length->0<=gL pl B (aN as n))/\vi [aY ns as,.lst (cO many pl),.int (B:Int)]=some (dD (aY ns as) many pl B))\/((∃n,n<as.length/\gL pl B (aN as n)<0)/\vi [aY ns as,.lst (cO many pl),.int (B:Int)]=some .non):=by
 rcases zon (ns:=ns) (pl:=pl) h hB with⟨h1,h2⟩|⟨h1,n,h2⟩
 ·refine .inl ⟨h1,?_⟩
  generalize dD (aY ns as) many pl B=tb' at *
  generalize aY ns as=net,cO many pl=vs at *
  unfold vi
  clear h hB h1
  walk_at "mix"
 ·refine .inr ⟨h1,?_⟩
  generalize aY ns as=net,cO many pl=vs at *
  unfold vi
  clear h hB h1
  walk_at "mix"
theorem RA {tb:D}{one n9:Nat}{o:Option Int}(h:(o=none/\qy [tb,.int (one:Int),.int (n9:Int)]=some .non)\/∃p y z,o=some p/\qy [tb,.int (one:Int),.int (n9:Int)]=some (.tup [.int p,y,z])):wz [tb,.int (one:Int),.int (n9:Int)]=some (nM o):=by
 rcases h with⟨rfl,h⟩|⟨p,y,z,rfl,h⟩
 ·unfold wz nM
  walk_at "mir"
 ·have i0:eh (.tup [.int p,y,z]) (.int 0)=some (.int p):=rfl
  have n0:mH false (.tup [.int p,y,z]) .non=some (.bl false):=rfl
  unfold wz nM
  walk_at "mir"
theorem zur {as:List cK}(hl:as.length<=1000)(r:L3.Env)(h2:r[2]?.join=some (.lst (as.map d6))):Sg r=some (.lst ((as.map swp).map d6)):=by
 rw[dR]
 refine u7 (own:=4) (cap:=[]) (g:=gT (gsCons (gV 0) (gsCons (gV 1) (gsCons (gV 2) (gsCons (gV 3) gsNil))))) d6 (λa=>d6 (swp a)) as (by unfold lsD;have:eV 2 r=_:=h2;rw[this];rfl) (by omega) λa _=>⟨[some (.int (a.s:Int)),some (.int (a.g:Int)),some (.int a.t),some (.int (a.b:Int))],rfl,rfl⟩
theorem zvl {ns:List Int}{c0:Int}{many:Nat}{mk:Int->cK}(O8:xp [.lst (ns.map .int),.int 0]=some (.int c0))(Cf:∀c,wu [.int c,.int (many:Int),.int (c0/8)]=some (d6 (mk c)))(r:L3.Env)(h0:r[0]?.join=some (.lst (ns.map .int)))(h1:r[1]?.join=some (.int (many:Int))):Sh r=some (.lst ((((ns.drop 4).take 16).map mk).map d6)):=by
 rw[dR]
 refine u7 D.int (λc=>d6 (mk c)) ((ns.drop 4).take 16) (zob 0 4 20 h0) (by rw[fJ];omega) λc _=>⟨_,rfl,?_⟩
 have iH:gH r [1,0]=[some (.int (many:Int)),some (.lst (ns.map .int))]:=by unfold gH;simp[h0,h1]
 rw[iH]
 have:=Cf c
 clear iH Cf h0 h1
 walk_at "mir"
theorem wV (cy:Int){many:Nat}(h1:1<=many)(h2:many<=1000):∃(mk:Int->cK) (rk:Nat->Nat),(∀c,wu [.int c,.int (many:Int),.int cy]=some (d6 (mk c)))/\∀c,Drawn many rk (mk c)/\(mk c).t<=1000000:=by
 obtain⟨rk,vX⟩:=zt4 cy h1 h2
 have:=λc=>zrq c cy h1 h2 rk vX
 refine⟨λc=>Classical.choose (this c),rk,λc=>(Classical.choose_spec (this c)).1,λc=>?_⟩
 obtain⟨_,a,b,c,d,e,f⟩:=Classical.choose_spec (this c)
 exact⟨⟨a,b,c,lK d (by decide),e,f⟩,d⟩
theorem RB {α:Type}(f:α->Int):∀xs:List α,hX (xs.map λx=>D.int (f x))=some (xs.map f)
 |[]=>rfl
 |x::xs=>by
  show(hX (xs.map λx=>D.int (f x))).bind _=_
  rw[RB f xs];rfl
theorem zsc {many:Nat}(h:1<=many)(f:Nat->Int):∃M:Int,rN [.lst (cO many f)]=some (.int M):=by
 obtain⟨n,rfl⟩:∃n,many=n+1:=⟨many-1,by omega⟩
 have:hX (cO (n+1) f)=some ((ba (n+1)).map f):=by unfold cO;exact RB f _
 unfold rN
 dsimp only
 rw[this,List.range_succ_eq_map]
 exact⟨_,rfl⟩
theorem zvm {many:Nat}{f:Nat->Int}{M:Int}(hm:many<=8)(hM:rN [.lst (cO many f)]=some (.int M))(r:L3.Env)(h9:r[9]?.join=some (.lst (cO many f))):Sf r=some (.lst (cO many λg=>M-f g)):=by
 refine u7 (λ(g:Nat)=>D.int (f g)) (λg=>D.int (M-f g)) (ba many) (by unfold lsD;have:eV 9 r=_:=h9;rw[this];rfl) (by rw[bF];omega) λg hg=>⟨_,rfl,?_⟩
 have iH:gH r [9]=[some (.lst (cO many f))]:=by unfold gH;simp[h9]
 rw[iH]
 generalize cO many f=v at *
 clear iH h9 hg hm
 walk_at "mir"
theorem zsd (pl:Nat->Int)(B:Nat)(M:Int)(a:cK):gL (λg=>M-pl g) B (swp a)=gL pl B a:=by
 unfold gL swp
 dsimp only
 omega
theorem J0 (as:List cK)(n:Nat):(aN (as.map λa=>fZ a (a.s:Int)) n).s=(aN as n).s/\(aN (as.map λa=>fZ a (a.s:Int)) n).g=(aN as n).g:=⟨(BW as (λa=>(a.s:Int)) n).1,(BW as (λa=>(a.s:Int)) n).2.1⟩
theorem Tg (pl:Nat->Int)(B:Nat)(as:List cK)(n:Nat):gL pl B (aN (as.map λa=>fZ a (a.s:Int)) n)=gL pl B (aN as n):=by
 obtain⟨h1,h2,h3,h4⟩:=BW as (λa=>(a.s:Int)) n
 unfold gL
 have h1:(aN (as.map λa=>fZ a (a.s:Int)) n).s=(aN as n).s:=h1
 have h2:(aN (as.map λa=>fZ a (a.s:Int)) n).g=(aN as n).g:=h2
 rw[h1,h2,h3,h4]
theorem Th {ns:List Int}{many B:Nat}{rk:Nat->Nat}{as:List cK}{x3 x6 x7:Option D}(nw:1<=many)(hm:many<=8)(i6:as.length<=16)(gN:∀a∈as,Drawn many rk a/\a.t<=1000000)(hB:B<=10000000) :
  JF [some (.lst (ns.map .int)),some (.int (many:Int)),some (.lst (as.map d6)),x3,some (aY (nm many) (as.map λa=>fZ a (a.s:Int))),some (aY (nm many) ((as.map swp).map λa=>fZ a (a.s:Int))),x6,x7,some (.int (B:Int)),none,none,none,none,none]=some (.rt (.bl true)):=by
 obtain⟨c2,yO⟩:=N5 ns 2 (by decide)
 obtain⟨Ck,oQ⟩:=Drawn.swp (many:=many) (rk:=rk)
 have nN:∀a∈as.map swp,Drawn many Ck a:=λa ha=>by
  obtain⟨b,hb,rfl⟩:=bK.mp ha
  exact oQ b (gN b hb).1
 have Cg:=N7 (rk:=rk) (λa=>(a.s:Int)) nw hm (as:=as) (by omega) λa ha=>(gN a ha).1
 have Ci:=N7 (rk:=Ck) (λa=>(a.s:Int)) nw hm (as:=as.map swp) (by rw[aq];omega) nN
 have rG:(nm many).length=many:=by unfold nm;rw[aq,bF]
 obtain⟨pl,Pj,gI⟩:=zom (cell:=c2) hm i6 hB gN
 obtain⟨M,hM⟩:=zsc nw pl
 have sZ:∀n,gL (λg=>M-pl g) B (aN ((as.map swp).map λa=>fZ a (a.s:Int)) n)=gL pl B (aN as n):=λn=>by rw[Tg,BR,zsd]
 have qO:∀n,gL pl B (aN (as.map λa=>fZ a (a.s:Int)) n)=gL pl B (aN as n):=λn=>Tg pl B as n
 have T1:=Rz (ns:=nm many) (pl:=pl) Cg (by omega:B<=150000000)
 have T2:=Rz (ns:=nm many) (pl:=λg=>M-pl g) Ci (by omega:B<=150000000)
 simp only[qO,sZ,aq]at T1 T2
 have kM:=zvm hm hM [some (.lst (ns.map .int)),some (.int (many:Int)),some (.lst (as.map d6)),x3,some (aY (nm many) (as.map λa=>fZ a (a.s:Int))),some (aY (nm many) ((as.map swp).map λa=>fZ a (a.s:Int))),x6,x7,some (.int (B:Int)),some (.lst (cO many pl))
  ,(vi [aY (nm many) (as.map λa=>fZ a (a.s:Int)),.lst (cO many pl),.int (B:Int)]),none,none,none] rfl
 rcases T1 with⟨g1,t1⟩|⟨⟨n,hn,hz⟩,t1⟩
 ·rcases T2 with⟨g2,t2⟩|⟨⟨n,hn,hz⟩,t2⟩
  ·have ub:∀n,n<as.length->gL pl B (aN as n)<=10000000000000:=λn hn=>by
    have VF:aN as n∈as:=jZ (t7 hn)
    obtain⟨dr,_⟩:=gN _ VF
    unfold gL
    have p1:=gI _ dr.g
    have p2:=gI _ dr.s
    have h3:(B:Int)*((aN as n).b:Int)<=10000000*4:=dE (by omega) (by have:=dr.b;omega) (by omega) (by decide)
    have:=dr.t0
    omega
   have inner:∀one,one<many->∀two,two<many->∃o,wz [dD (aY (nm many) (as.map λa=>fZ a (a.s:Int))) many pl B,.int (one:Int),.int (two:Int)]=some (nM o)/\wz [dD (aY (nm many) ((as.map swp).map λa=>fZ a (a.s:Int))) many (λg=>M-pl g) B,.int (two:Int),.int (one:Int)]=some (nM o):=by
    intro one h1 two h2
    obtain⟨P,ch,a1,a2,a3⟩:=SK (ns:=nm many) (pl:=pl) Cg rG (by omega) (by omega:B<=150000000) (λn hn=>by rw[aq]at hn;rw[qO];exact⟨g1 n hn,ub n hn⟩) h1
    obtain⟨P',jW,b1,b2,b3⟩:=SK (ns:=nm many) (pl:=λg=>M-pl g) Ci rG (by omega) (by omega:B<=150000000) (λn hn=>by rw[aq,aq]at hn;rw[sZ];exact⟨g1 n hn,ub n hn⟩) h2
    have U0:(λn=>(aN (as.map λa=>fZ a (a.s:Int)) n).s)=aS as:=funext λn=>(J0 as n).1
    have UY:(λn=>(aN (as.map λa=>fZ a (a.s:Int)) n).g)=aG as:=funext λn=>(J0 as n).2
    have U1:(λn=>(aN ((as.map swp).map λa=>fZ a (a.s:Int)) n).s)=aG as:=funext λn=>((J0 (as.map swp) n).1).trans (by rw[BR];rfl)
    have UZ:(λn=>(aN ((as.map swp).map λa=>fZ a (a.s:Int)) n).g)=aS as:=funext λn=>((J0 (as.map swp) n).2).trans (by rw[BR];rfl)
    unfold oJ at a1 b1
    rw[U0,UY,aq,funext qO]at a1 a2
    rw[U1,UZ,aq,aq,funext sZ]at b1 b2
    have e:=zol a1 a2 b1 b2
    refine⟨P two,RA ?_,?_⟩
    ·rcases a3 two h2 with h|⟨p,w,h,_,_,h'⟩
     ·exact .inl h
     ·exact .inr ⟨p,_,_,h,h'⟩
    ·rw[e]
     refine RA ?_
     rcases b3 one h1 with h|⟨p,w,h,_,_,h'⟩
     ·exact .inl h
     ·exact .inr ⟨p,_,_,h,h'⟩
   rw[t1]at kM
   obtain⟨IU,Il,Mb⟩:∃nn dd,dD (aY (nm many) (as.map λa=>fZ a (a.s:Int))) many pl B=.obj 5 nn dd:=⟨_,_,rfl⟩
   obtain⟨IV,wU,Mc⟩:∃nn dd,dD (aY (nm many) ((as.map swp).map λa=>fZ a (a.s:Int))) many (λg=>M-pl g) B=.obj 5 nn dd:=⟨_,_,rfl⟩
   rw[Mb]at t1 kM
   rw[Mc]at t2
   simp only[Mb,Mc]at inner
   clear Mb Mc
   generalize aY (nm many) (as.map λa=>fZ a (a.s:Int))=pU,aY (nm many) ((as.map swp).map λa=>fZ a (a.s:Int))=pV,as.map d6=at1,(cO many λg=>M-pl g)=v2,cO many pl=v1 at *
   have r1:i8 [.int (many:Int)]=some (fR 0 many):=by rw[Co (by omega) (by omega)];rfl
   obtain⟨ρ',lp,MZ,BN,rfl⟩:=Jl (g:=gV 12) (b:=Nz) (lo:=0) (n:=many) (ρ:=[some (.lst (ns.map .int)),some (.int (many:Int)),some (.lst at1),x3,some pU,some pV,x6,x7,some (.int (B:Int)),some (.lst v1),some (.obj 5 IU Il),some (.obj 5 IV wU),none,none])
    (λ_ ρ=>∃MZ BN,ρ=[some (.lst (ns.map .int)),some (.int (many:Int)),some (.lst at1),x3,some pU,some pV,x6,x7,some (.int (B:Int)),some (.lst v1),some (.obj 5 IU Il),some (.obj 5 IV wU),MZ,BN]) ⟨_,_,rfl⟩ (by
     rintro one ρ Bf ⟨MZ,BN,rfl⟩
     obtain⟨ρ',lp,M0,rfl⟩:=Jl (g:=gV 13) (b:=Ny) (lo:=0) (n:=many) (ρ:=[some (.lst (ns.map .int)),some (.int (many:Int)),some (.lst at1),x3,some pU,some pV,x6,x7,some (.int (B:Int)),some (.lst v1),some (.obj 5 IU Il),some (.obj 5 IV wU),some (.int (0+(one:Int))),BN])
      (λ_ ρ=>∃BN,ρ=[some (.lst (ns.map .int)),some (.int (many:Int)),some (.lst at1),x3,some pU,some pV,x6,x7,some (.int (B:Int)),some (.lst v1),some (.obj 5 IU Il),some (.obj 5 IV wU),some (.int (0+(one:Int))),BN]) ⟨_,rfl⟩ (by
       rintro two ρ Fx ⟨BN,rfl⟩
       refine⟨_,_,rfl,.inl ?_,some (.int (0+(two:Int))),rfl⟩
       obtain⟨o,o1,o2⟩:=inner one Bf two Fx
       have ev:=zq3 (neg:=true) o o
       rw[if_pos rfl,decide_eq_true rfl]at ev
       rw[show(0:Int)+(one:Int)=(one:Int)by omega,show(0:Int)+(two:Int)=(two:Int)by omega]
       generalize nM o=eo at *
       unfold Ny
       clear inner nw hm i6 gN hB yO oQ nN Cg Ci rG Pj gI hM sZ qO kM g1 t1 g2 t2 ub r1 Bf Fx
       walk_at "mir")
     refine⟨_,_,rfl,.inl ?_,some (.int (0+(one:Int))),M0,rfl⟩
     rw[Int.zero_add]at lp ⊢
     unfold Nz
     clear inner nw hm i6 gN hB yO oQ nN Cg Ci rG Pj gI hM sZ qO kM g1 t1 g2 t2 ub Bf
     walk_at "mir")
   unfold JF
   clear inner nw hm i6 gN hB oQ nN Cg Ci rG gI hM sZ qO g1 g2 ub
   walk_at "mir"
  ·exact absurd (g1 n hn) (by omega)
 ·rcases T2 with⟨g2,t2⟩|⟨_,t2⟩
  ·exact absurd (g2 n hn) (by omega)
  ·rw[t1]at kM
   have n1:mH false .non .non=some (.bl true):=rfl
   generalize aY (nm many) (as.map λa=>fZ a (a.s:Int))=pU,aY (nm many) ((as.map swp).map λa=>fZ a (a.s:Int))=pV,as.map d6=at1,(cO many λg=>M-pl g)=v2,cO many pl=v1 at *
   unfold JF
   clear nw hm i6 gN hB oQ nN Cg Ci rG gI hM sZ qO hn hz
   walk_at "mir"
theorem zvn {ns:List Int}{many:Nat}{rk:Nat->Nat}{as:List cK}{x3 x6 x7:Option D}(nw:1<=many)(hm:many<=8)(i6:as.length<=16)(gN:∀a∈as,Drawn many rk a/\a.t<=1000000) :
  JG [some (.lst (ns.map .int)),some (.int (many:Int)),some (.lst (as.map d6)),x3,some (aY (nm many) (as.map λa=>fZ a (a.s:Int))),some (aY (nm many) ((as.map swp).map λa=>fZ a (a.s:Int))),x6,x7,none,none,none,none,none,none]=some (.rt (.bl true)):=by
 obtain⟨c1,LF⟩:=N5 ns 1 (by decide)
 by_cases h3:c1/41%3=1
 ·obtain⟨B,hB,EW⟩:∃B:Nat,c1/123%10000001=(B:Int)/\B<=10000000:=⟨(c1/123%10000001).toNat,by omega,by omega⟩
  have tl:=Th (ns:=ns) (x3:=x3) (x6:=x6) (x7:=x7) nw hm i6 gN EW
  generalize aY (nm many) (as.map λa=>fZ a (a.s:Int))=pU,aY (nm many) ((as.map swp).map λa=>fZ a (a.s:Int))=pV,as.map d6=at1 at *
  unfold JG
  clear nw hm i6 gN EW
  walk_at "mir"
 ·obtain⟨B,hB,EW⟩:∃B:Nat,c1%41=(B:Int)/\B<=10000000:=⟨(c1%41).toNat,by omega,by omega⟩
  have tl:=Th (ns:=ns) (x3:=x3) (x6:=x6) (x7:=x7) nw hm i6 gN EW
  generalize aY (nm many) (as.map λa=>fZ a (a.s:Int))=pU,aY (nm many) ((as.map swp).map λa=>fZ a (a.s:Int))=pV,as.map d6=at1 at *
  unfold JG
  clear nw hm i6 gN EW
  walk_at "mir"
theorem zoo (ns:List Int)(hl:ns.length<=63):J3 [.lst (ns.map .int)]=some (.bl true):=by
 obtain⟨c0,O8⟩:=N5 ns 0 (by decide)
 obtain⟨many,Pg,nw,A9⟩:∃m:Nat,1+c0%8=(m:Int)/\1<=m/\m<=8:=⟨(1+c0%8).toNat,by omega,by omega,by omega⟩
 obtain⟨mk,rk,Cf,LN⟩:=wV (c0/8) nw (by omega:many<=1000)
 generalize has:((ns.drop 4).take 16).map mk=as
 have i6:as.length<=16:=by rw[←has,aq,fJ];omega
 have gN:∀a∈as,Drawn many rk a/\a.t<=1000000:=λa ha=>by
  rw[←has]at ha
  obtain⟨c,_,rfl⟩:=bK.mp ha
  exact LN c
 obtain⟨Ck,oQ⟩:=Drawn.swp (many:=many) (rk:=rk)
 have nN:∀a∈as.map swp,Drawn many Ck a:=λa ha=>by
  obtain⟨b,hb,rfl⟩:=bK.mp ha
  exact oQ b (gN b hb).1
 have E3:(as.map swp).length<=16:=by rw[aq];exact i6
 have k3:=zvl (ns:=ns) (many:=many) O8 Cf [some (.lst (ns.map .int)),some (.int (many:Int)),none,none,none,none,none,none,none,none,none,none,none,none] rfl rfl
 rw[has]at k3
 have k2:=zur (as:=as) (by omega) [some (.lst (ns.map .int)),some (.int (many:Int)),some (.lst (as.map d6)),none,none,none,none,none,none,none,none,none,none,none] rfl
 have n1:=Tf nw A9 (as:=as) (by omega) λa ha=>(gN a ha).1
 have n2:=Tf nw A9 (as:=as.map swp) (by omega) nN
 obtain⟨o1,d1,l1,i1,e1⟩:=HE nw A9 (as:=as) (by omega) λa ha=>(gN a ha).1
 obtain⟨o2,d2,l2,i2,e2⟩:=HE nw A9 (as:=as.map swp) (by omega) nN
 rw[aq]at i2
 have eo:o2=o1:=i2.uniq (i1.congr λt b=>Rs.iff t b)
 subst eo
 have tl:=λx6 x7=>zvn (ns:=ns) (x3:=some (.lst ((as.map swp).map d6))) (x6:=x6) (x7:=x7) nw A9 i6 gN
 generalize aY (nm many) (as.map λa=>fZ a (a.s:Int))=pU,aY (nm many) ((as.map swp).map λa=>fZ a (a.s:Int))=pV,(as.map swp).map d6=at2,as.map d6=at1 at *
 rcases e1 with⟨rfl,rfl⟩|⟨q,y,z,rfl,rfl⟩
 ·rcases e2 with⟨_,rfl⟩|⟨q,y,z,h,_⟩
  ·have tl:=tl (some .non) (some .non)
   unfold J3
   clear hl Cf LN has i6 gN oQ nN E3 nw A9 i1 i2
   walk_at "mir"
  ·cases h
 ·rcases e2 with⟨h,_⟩|⟨q',y',z',h,rfl⟩
  ·cases h
  ·cases h
   have tl:=tl (some (.tup [fr q,y,z])) (some (.tup [fr q,y',z']))
   have f1:eh (.tup [fr q,y,z]) (.int 0)=some (fr q):=rfl
   have f2:eh (.tup [fr q,y',z']) (.int 0)=some (fr q):=rfl
   have ev:=(E2 Ei Ei).eq (by decide) (neg:=true) q q
   rw[if_pos rfl,decide_eq_true rfl]at ev
   have ev:jL true (fr q) (fr q)=some (.bl false):=ev
   generalize fr q=fq at *
   unfold J3
   clear hl Cf LN has i6 gN oQ nN E3 nw A9 i1 i2
   walk_at "mir"
section
variable {P:bn}{w:bP}{K:ae}{mg:aK->Option aa}{base:aM}{a:CH}
theorem zus (T:Txt K mg a):cv P w K mg base eO 8 a.f_law a.d_law ["_law_script"] (oj K):=zts (zt2 T) zoo
end
abbrev cF (x q:aK)(s:bD):=gP x q (mG s) (fY s) (aQ s)
theorem all_mk {l:lP}{w:bP}{K:ae}{h:aM}{mg:aK->Option aa}(X:K.In h)(G:h.Ns av mg)(Vy:mg "law"=some (.ref fa))
  
  {pW si:aK} {pK mY oo:List aa} {n6 pJ:Bool} {pY:List aK} {nZ:Option Bool} {pM pN pP pQ pR:Option aa}
  (aC_Arrow:ay K av "Arrow"=some (some (.ref c_Arrow))) (pg_Arrow:cT K c_Arrow aK.empty=true) (hd_Arrow:bM K c_Arrow=true) (po_Arrow:dC K c_Arrow=true) (sa_Arrow:am K (.ref c_Arrow) "__setattr__"=some (some (.builtin "object.__setattr__"))) (mk_Arrow:dI K c_Arrow=true) (kc_Arrow:ao K (.ref c_Arrow)=true)
  (aC_Ride:ay K av "Ride"=some (some (.ref c_Ride))) (pg_Ride:cT K c_Ride aK.empty=true) (hd_Ride:bM K c_Ride=true) (po_Ride:dC K c_Ride=true) (sa_Ride:am K (.ref c_Ride) "__setattr__"=some (some (.builtin "object.__setattr__"))) (mk_Ride:dI K c_Ride=true) (kc_Ride:ao K (.ref c_Ride)=true)
  (aC_Wait:ay K av "Wait"=some (some (.ref c_Wait))) (pg_Wait:cT K c_Wait aK.empty=true) (hd_Wait:bM K c_Wait=true) (po_Wait:dC K c_Wait=true) (sa_Wait:am K (.ref c_Wait) "__setattr__"=some (some (.builtin "object.__setattr__"))) (mk_Wait:dI K c_Wait=true) (kc_Wait:ao K (.ref c_Wait)=true)
  (aC_Back:ay K av "Back"=some (some (.ref c_Back))) (pg_Back:cT K c_Back aK.empty=true) (hd_Back:bM K c_Back=true) (po_Back:dC K c_Back=true) (sa_Back:am K (.ref c_Back) "__setattr__"=some (some (.builtin "object.__setattr__"))) (mk_Back:dI K c_Back=true) (kc_Back:ao K (.ref c_Back)=true)
  (aC_Net:ay K av "Net"=some (some (.ref c_Net))) (pg_Net:cT K c_Net aK.empty=true) (hd_Net:bM K c_Net=true) (po_Net:dC K c_Net=true) (sa_Net:am K (.ref c_Net) "__setattr__"=some (some (.builtin "object.__setattr__"))) (mk_Net:dI K c_Net=true) (kc_Net:ao K (.ref c_Net)=true)
  (aC_Table:ay K av "Table"=some (some (.ref c_Table))) (pg_Table:cT K c_Table aK.empty=true) (hd_Table:bM K c_Table=true) (po_Table:dC K c_Table=true) (sa_Table:am K (.ref c_Table) "__setattr__"=some (some (.builtin "object.__setattr__"))) (mk_Table:dI K c_Table=true) (kc_Table:ao K (.ref c_Table)=true)
  (xC_BeatError:ay K av "BeatError"=some (some (.ref c_BeatError)))
  (xC_NoFit:ay K av "NoFit"=some (some (.ref c_NoFit)))
  (xo_NoFit:K.lookup c_NoFit=some (excClassObj pW si c_NoFit wL pK mY n6 pY oo pJ nZ uJ pM pN pP pQ pR "ValueError.__new__")) (xv_NoFit:gA mY)
  (xV_NoFit:bz K c_NoFit (.type "ValueError")=some true) (xB_NoFit:bz K c_NoFit (.type "BaseException")=some true) (xA_NoFit:bz K c_NoFit (.type "AttributeError")=some false) (xN_NoFit:bz K c_NoFit (.type "NameError")=some false) (xS_NoFit:bQ K (.ref c_NoFit) "__call__"=some (some (.builtin "type.__call__"))) (xT_NoFit:tR K (.ref c_NoFit) (.type "type")=some true) (xK_NoFit:ao K (.ref c_NoFit)=true)
  (xs1_NoFit:am K (.ref c_NoFit) "__setattr__"=some (some (.builtin "object.__setattr__"))) (xs2_NoFit:dY K c_NoFit "arrow"=some none)
  (xga_NoFit:am K (.ref c_NoFit) "__getattribute__"=some (some (.builtin "BaseException.__getattribute__"))) (xgn_NoFit:am K (.ref c_NoFit) "__getattr__"=some none) (xhd_NoFit:bM K c_NoFit=true) (xca_NoFit:am K (.ref c_NoFit) "__class__"=some (some (.builtin "object.__class__"))) (xmo_NoFit:bz K c_NoFit (.type "object")=some true)
  (xcg:bQ K (.builtin "object.__class__") "__get__"=some (some (.builtin "getset_descriptor.__get__"))) (xct:gK K (.builtin "object.__class__")=some true)
  (xq1:bQ K (.ref c_BeatError) "__getattribute__"=some (some (.builtin "type.__getattribute__"))) (xq2:eI K c_BeatError (.type "type")=true) (xq3:eF K (.ref c_BeatError) (.type "type") "__init__"=some (.val (.builtin "ValueError.__init__")))
  (hc_NoFit:lQ K c_NoFit=true) (ht_NoFit:mF K (.ref c_NoFit)=some (.type "type")) (hb_NoFit:kc K (.ref c_NoFit) (.type "BaseException")=some true)
  (hs_NoFit_NoFit:kc K (.ref c_NoFit) (.ref c_NoFit)=some true)
  (a0:am K (.ref c_Arrow) "__init__"=some (some (.ref f0))) (i0:cH K (.ref f0)=true)
  (l0:K.lookup f0=some ⟨oc0,od0,.func (cF "__init__" "Arrow.__init__" yi .none Pp OP PV Ov Kl OH),sl0⟩) (c0:az K Kl "Arrow.__init__"=true) (k0:ao K (.ref f0)=true)
  (a1:am K (.ref c_Ride) "__init__"=some (some (.ref f1))) (i1:cH K (.ref f1)=true)
  (l1:K.lookup f1=some ⟨oc1,od1,.func (cF "__init__" "Ride.__init__" yu .none Pq OQ PX Ox Km OI),qO⟩) (c1:az K Km "Ride.__init__"=true) (k1:ao K (.ref f1)=true)
  (a2:am K (.ref c_Wait) "__init__"=some (some (.ref f2))) (i2:cH K (.ref f2)=true)
  (l2:K.lookup f2=some ⟨oc2,od2,.func (cF "__init__" "Wait.__init__" ye (.ref Ja) Ml Kz Mx Kg Ii Kw),sZ⟩) (c2:az K Ii "Wait.__init__"=true) (k2:ao K (.ref f2)=true)
  (t2:K.lookup Ja=some ⟨tc2,Yw,.seq #[.int 0 HF] tn2,Yz⟩)
  (a3:am K (.ref c_Back) "__init__"=some (some (.ref f3))) (i3:cH K (.ref f3)=true)
  (l3:K.lookup f3=some ⟨oc3,od3,.func (cF "__init__" "Back.__init__" yf (.ref Jb) Mm KA Mz Kh Ij Kx),sl3⟩) (c3:az K Ij "Back.__init__"=true) (k3:ao K (.ref f3)=true)
  (t3:K.lookup Jb=some ⟨tc3,Yx,.seq #[.int 1 HG] Jd,YA⟩)
  (a4:ay K av "is_letter"=some (some (.ref f4)))
  (l4:K.lookup f4=some ⟨oc4,od4,.func (cF "is_letter" "is_letter" xu .none Ps OR PY Oy Kn OJ),sl4⟩) (c4:az K Kn "is_letter"=true) (k4:ao K (.ref f4)=true)
  (a5:ay K av "is_figure"=some (some (.ref f5)))
  (l5:K.lookup f5=some ⟨oc5,od5,.func (cF "is_figure" "is_figure" xv .none Pt OS PZ Oz Ko OK),sl5⟩) (c5:az K Ko "is_figure"=true) (k5:ao K (.ref f5)=true)
  (a6:ay K av "is_name"=some (some (.ref f6)))
  (l6:K.lookup f6=some ⟨oc6,od6,.func (cF "is_name" "is_name" vc .none Pv OT P0 OA Kq OL),sl6⟩) (c6:az K Kq "is_name"=true) (k6:ao K (.ref f6)=true)
  (a7:ay K av "are_names"=some (some (.ref f7)))
  (l7:K.lookup f7=some ⟨oc7,od7,.func (cF "are_names" "are_names" xw .none Pw OU P3 OB Kr OM),sl7⟩) (c7:az K Kr "are_names"=true) (k7:ao K (.ref f7)=true)
  (a8:ay K av "lies_within"=some (some (.ref f8)))
  (l8:K.lookup f8=some ⟨oc8,od8,.func (cF "lies_within" "lies_within" yw .none Px OV P4 OC Ks ON),sl8⟩) (c8:az K Ks "lies_within"=true) (k8:ao K (.ref f8)=true)
  (a9:ay K av "is_right"=some (some (.ref f9)))
  (l9:K.lookup f9=some ⟨oc9,od9,.func (cF "is_right" "is_right" wk .none Py OW P5 OD Kt OO),sl9⟩) (c9:az K Kt "is_right"=true) (k9:ao K (.ref f9)=true)
  (a10:ay K av "placed_goings"=some (some (.ref KI)))
  (l10:K.lookup KI=some ⟨We,WQ,.func (cF "placed_goings" "placed_goings" yg .none FH Ec GF CS Ae DB),XF⟩) (c10:az K Ae "placed_goings"=true) (k10:ao K (.ref KI)=true)
  (a11:ay K av "ring_back_from"=some (some (.ref KJ)))
  (l11:K.lookup KJ=some ⟨Wf,WR,.func (cF "ring_back_from" "ring_back_from" zy .none FI Ed GG CT Af DC),XH⟩) (c11:az K Af "ring_back_from"=true) (k11:ao K (.ref KJ)=true)
  (a12:ay K av "way_back"=some (some (.ref KL)))
  (l12:K.lookup KL=some ⟨Wg,WS,.func (cF "way_back" "way_back" wm .none FJ Ee GH CU Ag DD),XJ⟩) (c12:az K Ag "way_back"=true) (k12:ao K (.ref KL)=true)
  (a13:am K (.ref c_Net) "__init__"=some (some (.ref Io))) (i13:cH K (.ref Io)=true)
  (l13:K.lookup Io=some ⟨Wi,WT,.func (cF "__init__" "Net.__init__" xh .none FK Ef GJ CV Ah DE),XN⟩) (c13:az K Ah "Net.__init__"=true) (k13:ao K (.ref Io)=true)
  (a14:am K (.ref c_Net) "most_behind"=some (some (.ref Ip))) (i14:cH K (.ref Ip)=true)
  (l14:K.lookup Ip=some ⟨Wj,WU,.func (cF "most_behind" "Net.most_behind" zw .none FL Eg GL CW Ai DF),XQ⟩) (c14:az K Ai "Net.most_behind"=true) (k14:ao K (.ref Ip)=true)
  (a15:ay K av "common_divisor"=some (some (.ref KM)))
  (l15:K.lookup KM=some ⟨Wl,WV,.func (cF "common_divisor" "common_divisor" ya .none FM Eh GM CY Aj DG),XU⟩) (c15:az K Aj "common_divisor"=true) (k15:ao K (.ref KM)=true)
  (a16:ay K av "ratio"=some (some (.ref KN)))
  (l16:K.lookup KN=some ⟨Wm,WW,.func (cF "ratio" "ratio" uv .none FN Ej GO CZ Ak DH),XX⟩) (c16:az K Ak "ratio"=true) (k16:ao K (.ref KN)=true)
  (a17:ay K av "scaled"=some (some (.ref KO)))
  (l17:K.lookup KO=some ⟨Wn,WX,.func (cF "scaled" "scaled" vw .none FO Ek GP C0 Am DI),XY⟩) (c17:az K Am "scaled"=true) (k17:ao K (.ref KO)=true)
  (a18:ay K av "plus"=some (some (.ref KP)))
  (l18:K.lookup KP=some ⟨Wo,WY,.func (cF "plus" "plus" qk .none FP El GQ C1 An DJ),XZ⟩) (c18:az K An "plus"=true) (k18:ao K (.ref KP)=true)
  (a19:ay K av "minus"=some (some (.ref KQ)))
  (l19:K.lookup KQ=some ⟨Wp,WZ,.func (cF "minus" "minus" uw .none FQ Em GR C3 Ao DK),X0⟩) (c19:az K Ao "minus"=true) (k19:ao K (.ref KQ)=true)
  (a20:ay K av "under"=some (some (.ref KR)))
  (l20:K.lookup KR=some ⟨Wq,W1,.func (cF "under" "under" ux .none FR En GS C4 Ap DL),X1⟩) (c20:az K Ap "under"=true) (k20:ao K (.ref KR)=true)
  (a21:ay K av "mean"=some (some (.ref KS)))
  (l21:K.lookup KS=some ⟨Wr,W2,.func (cF "mean" "mean" ql .none FT Ep GU C5 Aq DM),X2⟩) (c21:az K Aq "mean"=true) (k21:ao K (.ref KS)=true)
  (a22:ay K av "push_once"=some (some (.ref KU)))
  (l22:K.lookup KU=some ⟨Ws,W3,.func (cF "push_once" "push_once" xx .none FU Er GV C6 Ar DN),X3⟩) (c22:az K Ar "push_once"=true) (k22:ao K (.ref KU)=true)
  (a23:ay K av "times_or_ring_along"=some (some (.ref KW)))
  (l23:K.lookup KW=some ⟨Wt,W4,.func (cF "times_or_ring_along" "times_or_ring_along" zo .none FV Es GW C7 As DO),X4⟩) (c23:az K As "times_or_ring_along"=true) (k23:ao K (.ref KW)=true)
  (a24:ay K av "ring_above"=some (some (.ref KY)))
  (l24:K.lookup KY=some ⟨Wu,W5,.func (cF "ring_above" "ring_above" xi .none FW Et GX C8 Au DP),X5⟩) (c24:az K Au "ring_above"=true) (k24:ao K (.ref KY)=true)
  (a25:ay K av "midway"=some (some (.ref KZ)))
  (l25:K.lookup KZ=some ⟨Wv,W6,.func (cF "midway" "midway" vx .none FX Eu GY C9 Av DQ),X6⟩) (c25:az K Av "midway"=true) (k25:ao K (.ref KZ)=true)
  (a26:ay K av "least_gap"=some (some (.ref K0)))
  (l26:K.lookup K0=some ⟨Ww,W7,.func (cF "least_gap" "least_gap" xy .none FY Ew GZ Dd Aw DR),X7⟩) (c26:az K Aw "least_gap"=true) (k26:ao K (.ref K0)=true)
  (a27:ay K av "greatest_ring"=some (some (.ref K1)))
  (l27:K.lookup K1=some ⟨Wx,W8,.func (cF "greatest_ring" "greatest_ring" yh .none FZ Ex G0 De Ax DS),X8⟩) (c27:az K Ax "greatest_ring"=true) (k27:ao K (.ref K1)=true)
  (a28:ay K av "paper_along"=some (some (.ref K2)))
  (l28:K.lookup K2=some ⟨Wy,W9,.func (cF "paper_along" "paper_along" yx .none Ga Ey G1 Df Ay DT),X9⟩) (c28:az K Ay "paper_along"=true) (k28:ao K (.ref K2)=true)
  (a29:ay K av "least_round"=some (some (.ref K3)))
  (l29:K.lookup K3=some ⟨Wz,Xa,.func (cF "least_round" "least_round" yy .none Gb Ez G2 Dg Az DU),Ya⟩) (c29:az K Az "least_round"=true) (k29:ao K (.ref K3)=true)
  (a30:am K (.ref c_Table) "slack"=some (some (.ref Iq))) (i30:cH K (.ref Iq)=true)
  (l30:K.lookup Iq=some ⟨WA,Xb,.func (cF "slack" "Table.slack" yz .none Gc EA G3 Dh AA DV),Yb⟩) (c30:az K AA "Table.slack"=true) (k30:ao K (.ref Iq)=true)
  (a31:am K (.ref c_NoFit) "__init__"=some (some (.ref Ir))) (i31:cH K (.ref Ir)=true)
  (l31:K.lookup Ir=some ⟨WB,Xc,.func (cF "__init__" "NoFit.__init__" yj .none Gd EB G4 Di AB DW),Yc⟩) (c31:az K AB "NoFit.__init__"=true) (k31:ao K (.ref Ir)=true)
  (a32:am K (.ref c_Table) "__init__"=some (some (.ref Iu))) (i32:cH K (.ref Iu)=true)
  (l32:K.lookup Iu=some ⟨WC,Xd,.func (cF "__init__" "Table.__init__" yk .none Ge EC G5 Dj AC DX),Yd⟩) (c32:az K AC "Table.__init__"=true) (k32:ao K (.ref Iu)=true)
  (a33:ay K av "lower_once"=some (some (.ref K4)))
  (l33:K.lookup K4=some ⟨WD,Xe,.func (cF "lower_once" "lower_once" xj .none Gf ED G6 Dk AD DY),Ye⟩) (c33:az K AD "lower_once"=true) (k33:ao K (.ref K4)=true)
  (a34:ay K av "spare"=some (some (.ref K5)))
  (l34:K.lookup K5=some ⟨WE,Xf,.func (cF "spare" "spare" uz .none Gg EE G7 Dl AE DZ),Yf⟩) (c34:az K AE "spare"=true) (k34:ao K (.ref K5)=true)
  (a35:ay K av "_law_cell_at"=some (some (.ref K6)))
  (l35:K.lookup K6=some ⟨WF,Xg,.func (cF "_law_cell_at" "_law_cell_at" y3 .none Gh EG G8 Dn AF D1),Yg⟩) (c35:az K AF "_law_cell_at"=true) (k35:ao K (.ref K6)=true)
  (a36:ay K av "_law_is_row"=some (some (.ref K7)))
  (l36:K.lookup K7=some ⟨WG,Xh,.func (cF "_law_is_row" "_law_is_row" xk .none Gi EH G9 Do AG D2),Yh⟩) (c36:az K AG "_law_is_row"=true) (k36:ao K (.ref K7)=true)
  (a37:ay K av "_law_mixed"=some (some (.ref K8)))
  (l37:K.lookup K8=some ⟨WH,Xi,.func (cF "_law_mixed" "_law_mixed" xz .none Gj EI Ha Dp AH D3),Yi⟩) (c37:az K AH "_law_mixed"=true) (k37:ao K (.ref K8)=true)
  (a38:ay K av "_law_rank"=some (some (.ref K9)))
  (l38:K.lookup K9=some ⟨WI,Xj,.func (cF "_law_rank" "_law_rank" wn .none Gk EJ Hb Dr AI D4),Yj⟩) (c38:az K AI "_law_rank"=true) (k38:ao K (.ref K9)=true)
  (a39:ay K av "_law_arrow"=some (some (.ref La)))
  (l39:K.lookup La=some ⟨WJ,Xk,.func (cF "_law_arrow" "_law_arrow" x8 .none Gm EK Hc Ds AJ D5),Yk⟩) (c39:az K AJ "_law_arrow"=true) (k39:ao K (.ref La)=true)
  (a40:ay K av "_law_made"=some (some (.ref Lb)))
  (l40:K.lookup Lb=some ⟨WK,Xl,.func (cF "_law_made" "_law_made" wo .none Gn EL Hd Du AK D6),Yl⟩) (c40:az K AK "_law_made"=true) (k40:ao K (.ref Lb)=true)
  (a41:ay K av "_law_net"=some (some (.ref Lc)))
  (l41:K.lookup Lc=some ⟨WL,Xm,.func (cF "_law_net" "_law_net" vd .none Gp EN He Dv AL D7),Ym⟩) (c41:az K AL "_law_net"=true) (k41:ao K (.ref Lc)=true)
  (a42:ay K av "_law_pushed"=some (some (.ref Ld)))
  (l42:K.lookup Ld=some ⟨WM,Xn,.func (cF "_law_pushed" "_law_pushed" xl .none Gq EO Hf Dw AM D8),Yn⟩) (c42:az K AM "_law_pushed"=true) (k42:ao K (.ref Ld)=true)
  (a43:ay K av "_law_table"=some (some (.ref Le)))
  (l43:K.lookup Le=some ⟨WN,Xo,.func (cF "_law_table" "_law_table" x9 .none Gr EQ Hg Dx AN D9),Yo⟩) (c43:az K AN "_law_table"=true) (k43:ao K (.ref Le)=true)
  (a44:ay K av "_law_spared"=some (some (.ref Lf)))
  (l44:K.lookup Lf=some ⟨WO,Xp,.func (cF "_law_spared" "_law_spared" xm .none Gs ER Hh Dy AO Ea),Yp⟩) (c44:az K AO "_law_spared"=true) (k44:ao K (.ref Lf)=true)
  (a45:ay K av "law"=some (some (.ref OY)))
  (l45:K.lookup OY=some ⟨WP,Xq,.func (cF "law" "law" BQ .none Bo AR Bu Ab wR AQ),Yq⟩) (c45:az K wR "law"=true) (k45:ao K (.ref OY)=true)
  (qs_Arrow:bQ K (.ref c_Arrow) "__getattribute__"=some (some (.builtin "type.__getattribute__"))) (qr_Arrow:eI K c_Arrow (.type "type")=true) (qf_Arrow:eF K (.ref c_Arrow) (.type "type") "__init__"=some (.val (.ref f0)))
  (n_Net_arrows:am K (.ref c_Net) "arrows"=some none)
  (n_Table_beat:am K (.ref c_Table) "beat"=some none)
  (n_Arrow_behind:am K (.ref c_Arrow) "behind"=some none)
  (n_Ride_behind:am K (.ref c_Ride) "behind"=some none)
  (n_Wait_behind:am K (.ref c_Wait) "behind"=some none)
  (n_Back_behind:am K (.ref c_Back) "behind"=some none)
  (n_Arrow_goal:am K (.ref c_Arrow) "goal"=some none)
  (n_Ride_goal:am K (.ref c_Ride) "goal"=some none)
  (n_Wait_goal:am K (.ref c_Wait) "goal"=some none)
  (n_Back_goal:am K (.ref c_Back) "goal"=some none)
  (n_Net_names:am K (.ref c_Net) "names"=some none)
  (n_Table_net:am K (.ref c_Table) "net"=some none)
  (n_Arrow_start:am K (.ref c_Arrow) "start"=some none)
  (n_Ride_start:am K (.ref c_Ride) "start"=some none)
  (n_Wait_start:am K (.ref c_Wait) "start"=some none)
  (n_Back_start:am K (.ref c_Back) "start"=some none)
  (n_Arrow_time:am K (.ref c_Arrow) "time"=some none)
  (n_Ride_time:am K (.ref c_Ride) "time"=some none)
  (n_Wait_time:am K (.ref c_Wait) "time"=some none)
  (n_Back_time:am K (.ref c_Back) "time"=some none)
  (n_Table_times:am K (.ref c_Table) "times"=some none)
  (ign:bQ K (.builtin "object.__class__") "__get__"=some (some (.builtin "getset_descriptor.__get__"))) (igt:gK K (.builtin "object.__class__")=some true)
  (iga_Arrow:am K (.ref c_Arrow) "__class__"=some (some (.builtin "object.__class__"))) (igm_Arrow:bz K c_Arrow (.type "object")=some true)
  (kit_Arrow_Back:bA K (.ref c_Arrow) (.ref c_Back)=some false)
  (kit_Arrow_Ride:bA K (.ref c_Arrow) (.ref c_Ride)=some false)
  (iga_Ride:am K (.ref c_Ride) "__class__"=some (some (.builtin "object.__class__"))) (igm_Ride:bz K c_Ride (.type "object")=some true)
  (kit_Ride_Back:bA K (.ref c_Ride) (.ref c_Back)=some false)
  (kit_Ride_Ride:bA K (.ref c_Ride) (.ref c_Ride)=some true)
  (iga_Wait:am K (.ref c_Wait) "__class__"=some (some (.builtin "object.__class__"))) (igm_Wait:bz K c_Wait (.type "object")=some true)
  (kit_Wait_Back:bA K (.ref c_Wait) (.ref c_Back)=some false)
  (kit_Wait_Ride:bA K (.ref c_Wait) (.ref c_Ride)=some false)
  (iga_Back:am K (.ref c_Back) "__class__"=some (some (.builtin "object.__class__"))) (igm_Back:bz K c_Back (.type "object")=some true)
  (kit_Back_Back:bA K (.ref c_Back) (.ref c_Back)=some true)
  (kit_Back_Ride:bA K (.ref c_Back) (.ref c_Ride)=some false)
  (iga_Net:am K (.ref c_Net) "__class__"=some (some (.builtin "object.__class__"))) (igm_Net:bz K c_Net (.type "object")=some true)
  (kit_Net_Back:bA K (.ref c_Net) (.ref c_Back)=some false)
  (kit_Net_Ride:bA K (.ref c_Net) (.ref c_Ride)=some false)
  (iga_Table:am K (.ref c_Table) "__class__"=some (some (.builtin "object.__class__"))) (igm_Table:bz K c_Table (.type "object")=some true)
  (kit_Table_Back:bA K (.ref c_Table) (.ref c_Back)=some false)
  (kit_Table_Ride:bA K (.ref c_Table) (.ref c_Ride)=some false)
  (z0:ay K av "abs"=some none)
  (z1:ay K av "all"=some none)
  (z2:ay K av "bool"=some none)
  (z3:ay K av "enumerate"=some none)
  (z4:ay K av "int"=some none)
  (z5:ay K av "isinstance"=some none)
  (z6:ay K av "len"=some none)
  (z7:ay K av "list"=some none)
  (z8:ay K av "max"=some none)
  (z9:ay K av "range"=some none)
  (z10:ay K av "reversed"=some none)
  (z11:ay K av "str"=some none)
  (z12:ay K av "sum"=some none)
  (gc0:ay K av "MOST_ARROWS"=some (some (.int 120 gt0)))
  (gc1:ay K av "MOST_BEHIND"=some (some (.int 4 gt1)))
  (gc2:ay K av "MOST_NAMES"=some (some (.int 40 gt2)))
  (gc3:ay K av "MOST_SIGNS"=some (some (.int 8 gt3)))
  (gc4:ay K av "MOST_TIME"=some (some (.int 1000000000 gt4))) :
  ∃fd:aH,(∀(s:aj) (v:aa),pC s fd ⟨[v],[]⟩ [("_law_script",v)])/\∀base:aM,K.In base->base.Ns av mg->cv l.prog w K mg base eO 8 fa fd ["_law_script"] (oj K):=by
 have e:=Vy.symm.trans (aA X G a45)
 cases e
 have F0:=zu (st:=yi) l0 c0 k0
 have b0:bB K (cF "__init__" "Arrow.__init__" yi .none Pp OP PV Ov Kl OH) ["self","start","goal","time","behind"] []:=.all (IS λ_ _ _ _ _=>rfl)
 have F1:=zu (st:=yu) l1 c1 k1
 have b1:bB K (cF "__init__" "Ride.__init__" yu .none Pq OQ PX Ox Km OI) ["self","start","goal","time"] []:=.all (Br λ_ _ _ _=>rfl)
 have F2:=zu (st:=ye) l2 c2 k2
 have b2:bB K (cF "__init__" "Wait.__init__" ye (.ref Ja) Ml Kz Mx Kg Ii Kw) ["self","start","goal","time","behind"] []:=JN 5 t2 (IS λ_ _ _ _ _=>⟨_,rfl,rfl⟩)
 have Kj:bB K (cF "__init__" "Wait.__init__" ye (.ref Ja) Ml Kz Mx Kg Ii Kw) ["self","start","goal","time","behind"] [.int 0 HF]:=JN 4 t2 (Br λ_ _ _ _=>⟨_,rfl,rfl⟩)
 have F3:=zu (st:=yf) l3 c3 k3
 have b3:bB K (cF "__init__" "Back.__init__" yf (.ref Jb) Mm KA Mz Kh Ij Kx) ["self","start","goal","time","behind"] []:=JN 5 t3 (IS λ_ _ _ _ _=>⟨_,rfl,rfl⟩)
 have Kk:bB K (cF "__init__" "Back.__init__" yf (.ref Jb) Mm KA Mz Kh Ij Kx) ["self","start","goal","time","behind"] [.int 1 HG]:=JN 4 t3 (Br λ_ _ _ _=>⟨_,rfl,rfl⟩)
 have F4:=zu (st:=xu) l4 c4 k4
 have b4:bB K (cF "is_letter" "is_letter" xu .none Ps OR PY Oy Kn OJ) ["sign"] []:=.all (wA λ_=>rfl)
 have F5:=zu (st:=xv) l5 c5 k5
 have b5:bB K (cF "is_figure" "is_figure" xv .none Pt OS PZ Oz Ko OK) ["sign"] []:=.all (wA λ_=>rfl)
 have F6:=zu (st:=vc) l6 c6 k6
 have b6:bB K (cF "is_name" "is_name" vc .none Pv OT P0 OA Kq OL) ["word"] []:=.all (wA λ_=>rfl)
 have F7:=zu (st:=xw) l7 c7 k7
 have b7:bB K (cF "are_names" "are_names" xw .none Pw OU P3 OB Kr OM) ["names"] []:=.all (wA λ_=>rfl)
 have F8:=zu (st:=yw) l8 c8 k8
 have b8:bB K (cF "lies_within" "lies_within" yw .none Px OV P4 OC Ks ON) ["number","least","most"] []:=.all (t5 λ_ _ _=>rfl)
 have F9:=zu (st:=wk) l9 c9 k9
 have b9:bB K (cF "is_right" "is_right" wk .none Py OW P5 OD Kt OO) ["arrow","many"] []:=.all (oR λ_ _=>rfl)
 have Tr:=zu (st:=yg) l10 c10 k10
 have Ul:bB K (cF "placed_goings" "placed_goings" yg .none FH Ec GF CS Ae DB) ["many","arrows"] []:=.all (oR λ_ _=>rfl)
 have Ts:=zu (st:=zy) l11 c11 k11
 have Um:bB K (cF "ring_back_from" "ring_back_from" zy .none FI Ed GG CT Af DC) ["arrows","chosen","going"] []:=.all (t5 λ_ _ _=>rfl)
 have Tt:=zu (st:=wm) l12 c12 k12
 have Uo:bB K (cF "way_back" "way_back" wm .none FJ Ee GH CU Ag DD) ["arrows","chosen","start","goal"] []:=.all (Br λ_ _ _ _=>rfl)
 have Tu:=zu (st:=xh) l13 c13 k13
 have Up:bB K (cF "__init__" "Net.__init__" xh .none FK Ef GJ CV Ah DE) ["self","names","arrows"] []:=.all (t5 λ_ _ _=>rfl)
 have Tv:=zu (st:=zw) l14 c14 k14
 have Uq:bB K (cF "most_behind" "Net.most_behind" zw .none FL Eg GL CW Ai DF) ["self"] []:=.all (wA λ_=>rfl)
 have Tw:=zu (st:=ya) l15 c15 k15
 have Ur:bB K (cF "common_divisor" "common_divisor" ya .none FM Eh GM CY Aj DG) ["one","other"] []:=.all (oR λ_ _=>rfl)
 have Tx:=zu (st:=uv) l16 c16 k16
 have Us:bB K (cF "ratio" "ratio" uv .none FN Ej GO CZ Ak DH) ["top","bottom"] []:=.all (oR λ_ _=>rfl)
 have Tz:=zu (st:=vw) l17 c17 k17
 have Ut:bB K (cF "scaled" "scaled" vw .none FO Ek GP C0 Am DI) ["one","whole"] []:=.all (oR λ_ _=>rfl)
 have TB:=zu (st:=qk) l18 c18 k18
 have Uu:bB K (cF "plus" "plus" qk .none FP El GQ C1 An DJ) ["one","other"] []:=.all (oR λ_ _=>rfl)
 have TC:=zu (st:=uw) l19 c19 k19
 have Uv:bB K (cF "minus" "minus" uw .none FQ Em GR C3 Ao DK) ["one","other"] []:=.all (oR λ_ _=>rfl)
 have TD:=zu (st:=ux) l20 c20 k20
 have Uw:bB K (cF "under" "under" ux .none FR En GS C4 Ap DL) ["one","other"] []:=.all (oR λ_ _=>rfl)
 have TJ:=zu (st:=ql) l21 c21 k21
 have Ux:bB K (cF "mean" "mean" ql .none FT Ep GU C5 Aq DM) ["net","ring"] []:=.all (oR λ_ _=>rfl)
 have TK:=zu (st:=xx) l22 c22 k22
 have Uy:bB K (cF "push_once" "push_once" xx .none FU Er GV C6 Ar DN) ["net","pace","numbers","times","chosen"] []:=.all (IS λ_ _ _ _ _=>rfl)
 have TL:=zu (st:=zo) l23 c23 k23
 have Uz:bB K (cF "times_or_ring_along" "times_or_ring_along" zo .none FV Es GW C7 As DO) ["net","pace","numbers"] []:=.all (t5 λ_ _ _=>rfl)
 have TN:=zu (st:=xi) l24 c24 k24
 have UA:bB K (cF "ring_above" "ring_above" xi .none FW Et GX C8 Au DP) ["net","pace","numbers"] []:=.all (t5 λ_ _ _=>rfl)
 have TQ:=zu (st:=vx) l25 c25 k25
 have UB:bB K (cF "midway" "midway" vx .none FX Eu GY C9 Av DQ) ["one","other"] []:=.all (oR λ_ _=>rfl)
 have TR:=zu (st:=xy) l26 c26 k26
 have UC:bB K (cF "least_gap" "least_gap" xy .none FY Ew GZ Dd Aw DR) ["net"] []:=.all (wA λ_=>rfl)
 have TU:=zu (st:=yh) l27 c27 k27
 have UD:bB K (cF "greatest_ring" "greatest_ring" yh .none FZ Ex G0 De Ax DS) ["net","numbers"] []:=.all (oR λ_ _=>rfl)
 have TV:=zu (st:=yx) l28 c28 k28
 have UE:bB K (cF "paper_along" "paper_along" yx .none Ga Ey G1 Df Ay DT) ["net","numbers"] []:=.all (oR λ_ _=>rfl)
 have TX:=zu (st:=yy) l29 c29 k29
 have UF:bB K (cF "least_round" "least_round" yy .none Gb Ez G2 Dg Az DU) ["net"] []:=.all (wA λ_=>rfl)
 have TY:=zu (st:=yz) l30 c30 k30
 have UG:bB K (cF "slack" "Table.slack" yz .none Gc EA G3 Dh AA DV) ["self","arrow"] []:=.all (oR λ_ _=>rfl)
 have TZ:=zu (st:=yj) l31 c31 k31
 have UH:bB K (cF "__init__" "NoFit.__init__" yj .none Gd EB G4 Di AB DW) ["self","arrow"] []:=.all (oR λ_ _=>rfl)
 have T3:=zu (st:=yk) l32 c32 k32
 have UI:bB K (cF "__init__" "Table.__init__" yk .none Ge EC G5 Dj AC DX) ["self","net","times","beat"] []:=.all (Br λ_ _ _ _=>rfl)
 have T4:=zu (st:=xj) l33 c33 k33
 have UJ:bB K (cF "lower_once" "lower_once" xj .none Gf ED G6 Dk AD DY) ["table","prices","chosen"] []:=.all (t5 λ_ _ _=>rfl)
 have T5:=zu (st:=uz) l34 c34 k34
 have UK:bB K (cF "spare" "spare" uz .none Gg EE G7 Dl AE DZ) ["table","one","other"] []:=.all (t5 λ_ _ _=>rfl)
 have T6:=zu (st:=y3) l35 c35 k35
 have UL:bB K (cF "_law_cell_at" "_law_cell_at" y3 .none Gh EG G8 Dn AF D1) ["_law_script","_law_k"] []:=.all (oR λ_ _=>rfl)
 have T7:=zu (st:=xk) l36 c36 k36
 have UM:bB K (cF "_law_is_row" "_law_is_row" xk .none Gi EH G9 Do AG D2) ["_law_cell"] []:=.all (wA λ_=>rfl)
 have T8:=zu (st:=xz) l37 c37 k37
 have UN:bB K (cF "_law_mixed" "_law_mixed" xz .none Gj EI Ha Dp AH D3) ["_law_cell","_law_k"] []:=.all (oR λ_ _=>rfl)
 have T9:=zu (st:=wn) l38 c38 k38
 have UO:bB K (cF "_law_rank" "_law_rank" wn .none Gk EJ Hb Dr AI D4) ["_law_turn","_law_many","_law_going"] []:=.all (t5 λ_ _ _=>rfl)
 have Ua:=zu (st:=x8) l39 c39 k39
 have UQ:bB K (cF "_law_arrow" "_law_arrow" x8 .none Gm EK Hc Ds AJ D5) ["_law_cell","_law_many","_law_turn"] []:=.all (t5 λ_ _ _=>rfl)
 have Ub:=zu (st:=wo) l40 c40 k40
 have UR:bB K (cF "_law_made" "_law_made" wo .none Gn EL Hd Du AK D6) ["_law_arrow_here","_law_kind"] []:=.all (oR λ_ _=>rfl)
 have Uc:=zu (st:=vd) l41 c41 k41
 have US:bB K (cF "_law_net" "_law_net" vd .none Gp EN He Dv AL D7) ["_law_arrows","_law_many"] []:=.all (oR λ_ _=>rfl)
 have Ud:=zu (st:=xl) l42 c42 k42
 have UT:bB K (cF "_law_pushed" "_law_pushed" xl .none Gq EO Hf Dw AM D8) ["_law_arrows","_law_beat","_law_many","_law_cell"] []:=.all (Br λ_ _ _ _=>rfl)
 have Ue:=zu (st:=x9) l43 c43 k43
 have UU:bB K (cF "_law_table" "_law_table" x9 .none Gr EQ Hg Dx AN D9) ["_law_net_here","_law_tops","_law_beat"] []:=.all (t5 λ_ _ _=>rfl)
 have Ug:=zu (st:=xm) l44 c44 k44
 have UV:bB K (cF "_law_spared" "_law_spared" xm .none Gs ER Hh Dy AO Ea) ["_law_table_here","_law_one","_law_other"] []:=.all (t5 λ_ _ _=>rfl)
 have Uh:=zu (st:=BQ) l45 c45 k45
 have UW:bB K (cF "law" "law" BQ .none Bo AR Bu Ab wR AQ) ["_law_script"] []:=.all (wA λ_=>rfl)
 have T:Txt K mg ⟨c_Arrow,c_Ride,c_Wait,c_Back,c_Net,c_Table,c_BeatError,c_NoFit,f0,cF "__init__" "Arrow.__init__" yi .none Pp OP PV Ov Kl OH,f1,cF "__init__" "Ride.__init__" yu .none Pq OQ PX Ox Km OI,f2,cF "__init__" "Wait.__init__" ye (.ref Ja) Ml Kz Mx Kg Ii Kw,f3,cF "__init__" "Back.__init__" yf (.ref Jb) Mm KA Mz Kh Ij Kx,f4,cF "is_letter" "is_letter" xu .none Ps OR PY Oy Kn OJ,f5,cF "is_figure" "is_figure" xv .none Pt OS PZ Oz Ko OK,f6,cF "is_name" "is_name" vc .none Pv OT P0 OA Kq OL,f7,cF "are_names" "are_names" xw .none Pw OU P3 OB Kr OM,f8,cF "lies_within" "lies_within" yw .none Px OV P4 OC Ks ON,f9,cF "is_right" "is_right" wk .none Py OW P5 OD Kt OO,KI,cF "placed_goings" "placed_goings" yg .none FH Ec GF CS Ae DB,KJ,cF "ring_back_from" "ring_back_from" zy .none FI Ed GG CT Af DC,KL,cF "way_back" "way_back" wm .none FJ Ee GH CU Ag DD,Io,cF "__init__" "Net.__init__" xh .none FK Ef GJ CV Ah DE,Ip,cF "most_behind" "Net.most_behind" zw .none FL Eg GL CW Ai DF,KM,cF "common_divisor" "common_divisor" ya .none FM Eh GM CY Aj DG,KN,cF "ratio" "ratio" uv .none FN Ej GO CZ Ak DH,KO,cF "scaled" "scaled" vw .none FO Ek GP C0 Am DI,KP,cF "plus" "plus" qk .none FP El GQ C1 An DJ,KQ,cF "minus" "minus" uw .none FQ Em GR C3 Ao DK,KR,cF "under" "under" ux .none FR En GS C4 Ap DL,KS,cF "mean" "mean" ql .none FT Ep GU C5 Aq DM,KU,cF "push_once" "push_once" xx .none FU Er GV C6 Ar DN,KW,cF "times_or_ring_along" "times_or_ring_along" zo .none FV Es GW C7 As DO,KY,cF "ring_above" "ring_above" xi .none FW Et GX C8 Au DP,KZ,cF "midway" "midway" vx .none FX Eu GY C9 Av DQ,K0,cF "least_gap" "least_gap" xy .none FY Ew GZ Dd Aw DR,K1,cF "greatest_ring" "greatest_ring" yh .none FZ Ex G0 De Ax DS,K2,cF "paper_along" "paper_along" yx .none Ga Ey G1 Df Ay DT,K3,cF "least_round" "least_round" yy .none Gb Ez G2 Dg Az DU,Iq,cF "slack" "Table.slack" yz .none Gc EA G3 Dh AA DV,Ir,cF "__init__" "NoFit.__init__" yj .none Gd EB G4 Di AB DW,Iu,cF "__init__" "Table.__init__" yk .none Ge EC G5 Dj AC DX,K4,cF "lower_once" "lower_once" xj .none Gf ED G6 Dk AD DY,K5,cF "spare" "spare" uz .none Gg EE G7 Dl AE DZ,K6,cF "_law_cell_at" "_law_cell_at" y3 .none Gh EG G8 Dn AF D1,K7,cF "_law_is_row" "_law_is_row" xk .none Gi EH G9 Do AG D2,K8,cF "_law_mixed" "_law_mixed" xz .none Gj EI Ha Dp AH D3,K9,cF "_law_rank" "_law_rank" wn .none Gk EJ Hb Dr AI D4,La,cF "_law_arrow" "_law_arrow" x8 .none Gm EK Hc Ds AJ D5,Lb,cF "_law_made" "_law_made" wo .none Gn EL Hd Du AK D6,Lc,cF "_law_net" "_law_net" vd .none Gp EN He Dv AL D7,Ld,cF "_law_pushed" "_law_pushed" xl .none Gq EO Hf Dw AM D8,Le,cF "_law_table" "_law_table" x9 .none Gr EQ Hg Dx AN D9,Lf,cF "_law_spared" "_law_spared" xm .none Gs ER Hh Dy AO Ea,fa,cF "law" "law" BQ .none Bo AR Bu Ab wR AQ⟩:=by
  constructor
  ·exact⟨⟨pg_Arrow,hd_Arrow,po_Arrow,sa_Arrow⟩,aA X G aC_Arrow,mk_Arrow,kc_Arrow⟩
  ·exact⟨⟨pg_Ride,hd_Ride,po_Ride,sa_Ride⟩,aA X G aC_Ride,mk_Ride,kc_Ride⟩
  ·exact⟨⟨pg_Wait,hd_Wait,po_Wait,sa_Wait⟩,aA X G aC_Wait,mk_Wait,kc_Wait⟩
  ·exact⟨⟨pg_Back,hd_Back,po_Back,sa_Back⟩,aA X G aC_Back,mk_Back,kc_Back⟩
  ·exact⟨⟨pg_Net,hd_Net,po_Net,sa_Net⟩,aA X G aC_Net,mk_Net,kc_Net⟩
  ·exact⟨⟨pg_Table,hd_Table,po_Table,sa_Table⟩,aA X G aC_Table,mk_Table,kc_Table⟩
  ·exact⟨F0,⟨a0,i0,k0⟩,b0⟩
  ·exact⟨F1,⟨a1,i1,k1⟩,b1⟩
  ·exact⟨F2,⟨a2,i2,k2⟩,b2⟩
  ·exact⟨_,trivial,(.cons ⟨_,rfl⟩ .nil),Kj⟩
  ·exact⟨F3,⟨a3,i3,k3⟩,b3⟩
  ·exact⟨_,trivial,(.cons ⟨_,rfl⟩ .nil),Kk⟩
  ·exact⟨F4,aA X G a4,b4⟩
  ·exact⟨F5,aA X G a5,b5⟩
  ·exact⟨F6,aA X G a6,b6⟩
  ·exact⟨F7,aA X G a7,b7⟩
  ·exact⟨F8,aA X G a8,b8⟩
  ·exact⟨F9,aA X G a9,b9⟩
  ·exact⟨Tr,aA X G a10,Ul⟩
  ·exact⟨Ts,aA X G a11,Um⟩
  ·exact⟨Tt,aA X G a12,Uo⟩
  ·exact⟨Tu,⟨a13,i13,k13⟩,Up⟩
  ·exact⟨Tv,⟨a14,i14,k14⟩,Uq⟩
  ·exact⟨Tw,aA X G a15,Ur⟩
  ·exact⟨Tx,aA X G a16,Us⟩
  ·exact⟨Tz,aA X G a17,Ut⟩
  ·exact⟨TB,aA X G a18,Uu⟩
  ·exact⟨TC,aA X G a19,Uv⟩
  ·exact⟨TD,aA X G a20,Uw⟩
  ·exact⟨TJ,aA X G a21,Ux⟩
  ·exact⟨TK,aA X G a22,Uy⟩
  ·exact⟨TL,aA X G a23,Uz⟩
  ·exact⟨TN,aA X G a24,UA⟩
  ·exact⟨TQ,aA X G a25,UB⟩
  ·exact⟨TR,aA X G a26,UC⟩
  ·exact⟨TU,aA X G a27,UD⟩
  ·exact⟨TV,aA X G a28,UE⟩
  ·exact⟨TX,aA X G a29,UF⟩
  ·exact⟨TY,⟨a30,i30,k30⟩,UG⟩
  ·exact⟨TZ,⟨a31,i31,k31⟩,UH⟩
  ·exact⟨T3,⟨a32,i32,k32⟩,UI⟩
  ·exact⟨T4,aA X G a33,UJ⟩
  ·exact⟨T5,aA X G a34,UK⟩
  ·exact⟨T6,aA X G a35,UL⟩
  ·exact⟨T7,aA X G a36,UM⟩
  ·exact⟨T8,aA X G a37,UN⟩
  ·exact⟨T9,aA X G a38,UO⟩
  ·exact⟨Ua,aA X G a39,UQ⟩
  ·exact⟨Ub,aA X G a40,UR⟩
  ·exact⟨Uc,aA X G a41,US⟩
  ·exact⟨Ud,aA X G a42,UT⟩
  ·exact⟨Ue,aA X G a43,UU⟩
  ·exact⟨Ug,aA X G a44,UV⟩
  ·exact⟨Uh,aA X G a45,UW⟩
  ·exact⟨qs_Arrow,qr_Arrow,qf_Arrow⟩
  ·exactλc hc=>by
    simp only[aE,cA,or_false]at hc
    rcases hc with rfl
    all_goals first|exact⟨⟨pg_Net,hd_Net,po_Net,sa_Net⟩,n_Net_arrows⟩
  ·exactλc hc=>by
    simp only[aE,cA,or_false]at hc
    rcases hc with rfl
    all_goals first|exact⟨⟨pg_Table,hd_Table,po_Table,sa_Table⟩,n_Table_beat⟩
  ·exactλc hc=>by
    simp only[aE,cA,or_false]at hc
    rcases hc with rfl|rfl|rfl|rfl
    all_goals first|exact⟨⟨pg_Arrow,hd_Arrow,po_Arrow,sa_Arrow⟩,n_Arrow_behind⟩|exact⟨⟨pg_Ride,hd_Ride,po_Ride,sa_Ride⟩,n_Ride_behind⟩|exact⟨⟨pg_Wait,hd_Wait,po_Wait,sa_Wait⟩,n_Wait_behind⟩|exact⟨⟨pg_Back,hd_Back,po_Back,sa_Back⟩,n_Back_behind⟩
  ·exactλc hc=>by
    simp only[aE,cA,or_false]at hc
    rcases hc with rfl|rfl|rfl|rfl
    all_goals first|exact⟨⟨pg_Arrow,hd_Arrow,po_Arrow,sa_Arrow⟩,n_Arrow_goal⟩|exact⟨⟨pg_Ride,hd_Ride,po_Ride,sa_Ride⟩,n_Ride_goal⟩|exact⟨⟨pg_Wait,hd_Wait,po_Wait,sa_Wait⟩,n_Wait_goal⟩|exact⟨⟨pg_Back,hd_Back,po_Back,sa_Back⟩,n_Back_goal⟩
  ·exactλc hc=>by
    simp only[aE,cA,or_false]at hc
    rcases hc with rfl
    all_goals first|exact⟨⟨pg_Net,hd_Net,po_Net,sa_Net⟩,n_Net_names⟩
  ·exactλc hc=>by
    simp only[aE,cA,or_false]at hc
    rcases hc with rfl
    all_goals first|exact⟨⟨pg_Table,hd_Table,po_Table,sa_Table⟩,n_Table_net⟩
  ·exactλc hc=>by
    simp only[aE,cA,or_false]at hc
    rcases hc with rfl|rfl|rfl|rfl
    all_goals first|exact⟨⟨pg_Arrow,hd_Arrow,po_Arrow,sa_Arrow⟩,n_Arrow_start⟩|exact⟨⟨pg_Ride,hd_Ride,po_Ride,sa_Ride⟩,n_Ride_start⟩|exact⟨⟨pg_Wait,hd_Wait,po_Wait,sa_Wait⟩,n_Wait_start⟩|exact⟨⟨pg_Back,hd_Back,po_Back,sa_Back⟩,n_Back_start⟩
  ·exactλc hc=>by
    simp only[aE,cA,or_false]at hc
    rcases hc with rfl|rfl|rfl|rfl
    all_goals first|exact⟨⟨pg_Arrow,hd_Arrow,po_Arrow,sa_Arrow⟩,n_Arrow_time⟩|exact⟨⟨pg_Ride,hd_Ride,po_Ride,sa_Ride⟩,n_Ride_time⟩|exact⟨⟨pg_Wait,hd_Wait,po_Wait,sa_Wait⟩,n_Wait_time⟩|exact⟨⟨pg_Back,hd_Back,po_Back,sa_Back⟩,n_Back_time⟩
  ·exactλc hc=>by
    simp only[aE,cA,or_false]at hc
    rcases hc with rfl
    all_goals first|exact⟨⟨pg_Table,hd_Table,po_Table,sa_Table⟩,n_Table_times⟩
  ·exactλc hc=>by
    simp only[aE,cA,or_false]at hc
    rcases hc with rfl|rfl|rfl|rfl|rfl|rfl
    all_goals first|exact⟨⟨⟨pg_Arrow,hd_Arrow,po_Arrow,sa_Arrow⟩,iga_Arrow,ign,igt,igm_Arrow⟩,kit_Arrow_Back⟩|exact⟨⟨⟨pg_Ride,hd_Ride,po_Ride,sa_Ride⟩,iga_Ride,ign,igt,igm_Ride⟩,kit_Ride_Back⟩|exact⟨⟨⟨pg_Wait,hd_Wait,po_Wait,sa_Wait⟩,iga_Wait,ign,igt,igm_Wait⟩,kit_Wait_Back⟩|exact⟨⟨⟨pg_Back,hd_Back,po_Back,sa_Back⟩,iga_Back,ign,igt,igm_Back⟩,kit_Back_Back⟩|exact⟨⟨⟨pg_Net,hd_Net,po_Net,sa_Net⟩,iga_Net,ign,igt,igm_Net⟩,kit_Net_Back⟩|exact⟨⟨⟨pg_Table,hd_Table,po_Table,sa_Table⟩,iga_Table,ign,igt,igm_Table⟩,kit_Table_Back⟩
  ·exactλc hc=>by
    simp only[aE,cA,or_false]at hc
    rcases hc with rfl|rfl|rfl|rfl|rfl|rfl
    all_goals first|exact⟨⟨⟨pg_Arrow,hd_Arrow,po_Arrow,sa_Arrow⟩,iga_Arrow,ign,igt,igm_Arrow⟩,kit_Arrow_Ride⟩|exact⟨⟨⟨pg_Ride,hd_Ride,po_Ride,sa_Ride⟩,iga_Ride,ign,igt,igm_Ride⟩,kit_Ride_Ride⟩|exact⟨⟨⟨pg_Wait,hd_Wait,po_Wait,sa_Wait⟩,iga_Wait,ign,igt,igm_Wait⟩,kit_Wait_Ride⟩|exact⟨⟨⟨pg_Back,hd_Back,po_Back,sa_Back⟩,iga_Back,ign,igt,igm_Back⟩,kit_Back_Ride⟩|exact⟨⟨⟨pg_Net,hd_Net,po_Net,sa_Net⟩,iga_Net,ign,igt,igm_Net⟩,kit_Net_Ride⟩|exact⟨⟨⟨pg_Table,hd_Table,po_Table,sa_Table⟩,iga_Table,ign,igt,igm_Table⟩,kit_Table_Ride⟩
  ·exact aA X G xC_BeatError
  ·exact aA X G xC_NoFit
  ·exact xK_NoFit
  ·exact⟨⟨pW,si,wL,pK,mY,n6,pY,oo,pJ,nZ,uJ,pM,pN,pP,pQ,pR,xo_NoFit,xv_NoFit⟩,xV_NoFit,xB_NoFit,xA_NoFit,xN_NoFit,xS_NoFit,xT_NoFit⟩
  ·exact⟨xhd_NoFit,xs1_NoFit,xs2_NoFit⟩
  ·exact⟨xq1,xq2,xq3⟩
  ·exactλc hc=>by
    rw[aB]at hc
    subst hc
    exact ztz hc_NoFit ht_NoFit hs_NoFit_NoFit hb_NoFit
  ·exact bT X G z0
  ·exact bT X G z1
  ·exact bT X G z2
  ·exact bT X G z3
  ·exact bT X G z4
  ·exact bT X G z5
  ·exact bT X G z6
  ·exact bT X G z7
  ·exact bT X G z8
  ·exact bT X G z9
  ·exact bT X G z10
  ·exact bT X G z11
  ·exact bT X G z12
  ·exact⟨_,aA X G gc0⟩
  ·exact⟨_,aA X G gc1⟩
  ·exact⟨_,aA X G gc2⟩
  ·exact⟨_,aA X G gc3⟩
  ·exact⟨_,aA X G gc4⟩
 exact⟨cF "law" "law" BQ .none Bo AR Bu Ab wR AQ,λs v=>.of_eq rfl,λbase _ _=>zus T⟩
theorem walk {l:lP}{q:bn}{loose:List aK}{XP:(aK->Option aa)->aM->Prop}{YP:bP->aM->Prop}{d:DefRec}{K:Params->ae}(hn:l.most=some 63)(E9:d.params.defaults=[])
  (hY:∀(w:bP) (h:aM),YP w h->(K w.params).In h)
  (F:∀(w:bP) (mg:aK->Option aa) (fa:ah) (h:aM),(K w.params).In h->h.Ns av mg->mg d.name=some (.ref fa) ->
   ∃fd:aH,(∀(s:aj) (u:aa),pC s fd ⟨[u],[]⟩ [("_law_script",u)])/\∀base:aM,(K w.params).In base->base.Ns av mg->cv l.prog w (K w.params) mg base eO 8 fa fd ["_law_script"] (oj (K w.params))) :
  uB q loose XP YP l.row.toRowW d [] (λf vs=>PySem.call f vs) :=
 L2.walk_of (n:=63) (k:=8) (x:="_law_script") (CX:=λ_=>eO) (sp:=λw=>oj (K w.params)) hn (by decide) E9 ⟨rfl,by decide,by decide⟩ hY F (λ_ _ a ns hl _ hS=>⟨a,ns,rfl,hS,hl,λ_=>rfl⟩) λ_ _ _ _ _ z=>z
end My
-- KEEP
namespace PySem.W.Fast
def tw7113139660175764480:=0
def tw15558751707651523208:=0
def tw17074880857024080289:=0
def tw2076569566068347537:=0
def tw9608841914963119959:=0
def tw1360959101165042818:=0
def tw903680892374345661:=0
def tw17761564118211090274:=0
def tw17742724830542460366:=0
def tw11934769582944846886:=0
def tw14023619008709562142:=0
def tw13822741610213512602:=0
def tw9321173537822130699:=0
def tw5831397764113964255:=0
def tw8612377822487878022:=0
def tw6056035022008785044:=0
def tw167950104741768792:=0
def tw4173323660265114200:=0
def tw12944057926913135847:=0
def tw11200214093069373161:=0
def tw15241465587392313632:=0
def tw15449304908032798760:=0
def tw2989489287778610489:=0
def tw6292925862192869409:=0
def tw5823840446925167268:=0
def tw18355490513012283766:=0
def tw11337499029664450113:=0
def tw1024582768115056298:=0
def tw9971747483627107126:=0
def tw15489442642264274202:=0
def tw6371189866586826637:=0
def tw5786132131352687495:=0
def tw8349745938898193582:=0
def tw5598645837226423758:=0
def tw4796332913467823462:=0
def tw14608014237232256631:=0
def tw6203871446144712828:=0
def tw9454145313109776928:=0
def tw13256535828991581238:=0
def tw17193067864769841456:=0
def tw15838144252722580888:=0
def tw13715942900668815840:=0
def tw18072330224025359451:=0
def tw13217899081787993038:=0
def tw12771269606172399742:=0
def tw783419622998431081:=0
def tw2640345842393865362:=0
def tw8904889284784690915:=0
def tw6115565238509496660:=0
def tw13931091970559827415:=0
def tw15087053790628635454:=0
def tw3620097336479500966:=0
def tw7948177426167086513:=0
def tw5290600287191925640:=0
def tw10481797707258447924:=0
def tw2058882166820461400:=0
def tw16273952796263587335:=0
def tw6194874042491686272:=0
def tw3335061053824167434:=0
def tw11866461733079160999:=0
def tw8009094497574970656:=0
def tw2005796182589777596:=0
def tw17582813759454672427:=0
def tw14018370904562088526:=0
def tw1634595562201668455:=0
def tw15924840887079509271:=0
def tw12972030233302184933:=0
def tw17587318190638795586:=0
def tw15001870265655891506:=0
def tw704086320001023710:=0
def tw9690635218474887066:=0
def tw9320629674035028443:=0
def tw3155845627060370493:=0
def tw7043758290877252406:=0
def tw7849162799453259075:=0
def tw7144458259769086011:=0
def tw16961302314838200098:=0
def tw13579548197192799576:=0
def tw15544652833269015887:=0
def tw5450509916434342233:=0
def tw1762097882176832571:=0
def tw18428767014697850008:=0
def tw7744384489669535127:=0
def tw2271935500575040238:=0
def tw1059947830067475224:=0
def tw6145423488889782649:=0
def tw6291788311569926982:=0
def tw2777371958492938870:=0
def tw16408617980918863419:=0
def tw1826395195683020533:=0
def tw14793202632193116182:=0
def tw5571679543311678291:=0
def tw9873491923076993264:=0
def tw10673018944662674687:=0
def tw14163974406201905436:=0
def tw17202405356413654091:=0
def tw3416824953289243407:=0
def tw6514785801371754350:=0
def tw4448448264657539919:=0
def tw18148995573317146022:=0
def tw4130394191137930055:=0
def tw5333041249786688260:=0
def tw4305305002876630820:=0
def tw1105961413441835671:=0
def tw11307734153006563783:=0
def tw9068958374195839410:=0
def tw12562805800132663485:=0
def tw17080419868959147423:=0
def tw6030208939493263473:=0
def tw3347026838225772443:=0
def tw5919128433705150947:=0
def tw1782167619029742176:=0
def tw11610947262935820766:=0
def tw14560360560897366038:=0
def tw9210608738667900777:=0
def tw14335589112214097839:=0
def tw12186238126908337258:=0
def tw8177676759222359219:=0
def tw11155934721399183968:=0
def tw16739383766234282343:=0
def tw14228047669590555782:=0
def tw2341563982398975216:=0
def tw10661978693337483398:=0
def tw8014654748693910601:=0
def tw13002126496905989076:=0
def tw13648477683124536915:=0
def tw15066590099194521764:=0
def tw15021965235288399618:=0
def tw17374080398356535200:=0
def tw6719460774844751742:=0
def tw7670374649055821156:=0
def tw6277426356177781553:=0
def tw11218244999386002749:=0
def tw18136831564765435107:=0
def tw7827312433909117927:=0
def tw9422372389143491996:=0
def tw2335718191966948389:=0
def tw1323911868728624006:=0
def tw11206022941195146061:=0
def tw18173777642331407754:=0
def tw5346072886569399098:=0
def tw7338014391710699580:=0
def tw8925258411245562359:=0
def tw12518880190665663767:=0
def tw10425708999558863280:=0
def tw12910508605110930373:=0
def tw8106389095063451464:=0
def tw4184458893508751294:=0
def tw17233805430998303853:=0
def tw1416196327663951739:=0
def tw13864891283930229129:=0
def tw8490933674325612248:=0
def tw9386626164643048835:=0
def tw16321718704851025382:=0
def tw2303866427127029864:=0
def tw17509324345196827190:=0
def tw11828177722017168810:=0
def tw3649393503736413047:=0
def tw12972014716198392678:=0
def tw14410252962123631315:=0
def tw511810115048657257:=0
def tw4170783402412533592:=0
def tw18311984993688242296:=0
def tw2898029858989800481:=0
def tw8947092733934806964:=0
def tw4682956996149940653:=0
def tw2479151360559214438:=0
def tw16550197798730204187:=0
def tw16605657868900120826:=0
def tw7335515535715043660:=0
def tw4020677263991562860:=0
def tw16694018289009604587:=0
def tw14619966430770843010:=0
def tw453167552967259147:=0
def tw1644035955664022827:=0
def tw12720697655068829928:=0
def tw6102913993589583352:=0
def tw18067151993540832210:=0
def tw5439728431222613464:=0
def tw8384445376900285584:=0
def tw18033761810914336835:=0
def tw1730438749018173891:=0
def tw7107078916918265796:=0
def tw2072394818441996087:=0
def tw16744151183344431169:=0
def tw3885834022216211082:=0
def tw14060788246697272565:=0
def tw5680317764059561963:=0
def tw3000210800883119090:=0
def tw8805451288366816742:=0
def tw64802314747390694:=0
def tw8164057660053977097:=0
def tw12874653829026497245:=0
def tw18307839859639451835:=0
def tw6326024673627048993:=0
def tw15441312748493295003:=0
def tw6319292162554089035:=0
def tw6745669807810082098:=0
def tw10349468320815818495:=0
def tw16639612709547001347:=0
def tw13441401848337708297:=0
def tw4152137993934005819:=0
def tw2335558732465876908:=0
def tw10632623804797420121:=0
def tw15345000904853295568:=0
def tw11719140075951455098:=0
def tw7024136187993160228:=0
def tw6481628192818371615:=0
def tw15061234686649820625:=0
def tw2344196983524858621:=0
def tw463350640657615501:=0
def tw13996895811619800501:=0
def tw14091730703030340049:=0
def tw9280700834870765520:=0
def tw8729959228896452817:=0
def tw7214012887642386502:=0
def tw15053782539487327534:=0
def tw4388377295345639003:=0
def tw15141688142670646083:=0
def tw14075922787806049501:=0
def tw6965263023590239951:=0
def tw6050351768835774731:=0
def tw1255436727636365485:=0
def tw15607070457086255389:=0
def tw10007527020687848000:=0
def tw8170035315504497382:=0
def tw5394256756524039126:=0
def tw10835561121535606884:=0
def tw5444497049821568112:=0
def tw15141534553260104697:=0
def tw10900496944275287240:=0
def tw8049774718563204237:=0
def tw13650978324755969474:=0
def tw11228738482105879301:=0
def tw6213293817656472441:=0
def tw4479402655910050168:=0
def tw17864626770543853323:=0
def tw14696282787802226670:=0
def tw929773028343779431:=0
def tw12609178961296397516:=0
def tw6298815897081961856:=0
def tw378576925300060652:=0
def tw3396713975778132660:=0
def tw14948065197353331001:=0
def tw12477981587742465088:=0
def tw4885615736495172587:=0
def tw13351287740988239979:=0
def tw4953170005317973075:=0
def tw2067487772992029982:=0
def tw3570945403003895659:=0
def tw9282465518963950078:=0
def tw235491360178930494:=0
def tw10616841213970714346:=0
def tw13867156035146202805:=0
def tw13941294818347523255:=0
def tw7690424251856504313:=0
def tw17060368292010787347:=0
def tw10310697515077354171:=0
def tw3681421328862533348:=0
def tw15969617551625950447:=0
def tw11317944532624574337:=0
def tw6004264556092966165:=0
def tw4675406345664630658:=0
def tw5087898705131027303:=0
def tw8710925451523838929:=0
def tw1550928724957381433:=0
def tw10208802645677094267:=0
def tw569011992613656516:=0
def tw363894473532013903:=0
def tw14831785327144657637:=0
def tw9459276836229541879:=0
def tw6753775799319548443:=0
def tw2912986520212443495:=0
def tw2802577876723917640:=0
def tw10061817791350359503:=0
def tw961225193502297262:=0
def tw8853866255998680728:=0
def tw9598074879526600831:=0
def tw11452435556988441768:=0
def tw18166591192800189364:=0
def tw8867576939187679174:=0
def tw15365863097132843748:=0
def tw18087371090595119207:=0
def tw1630681345096627492:=0
def tw5219246271475209345:=0
def tw9679254880000876707:=0
def tw16709132818380707181:=0
def tw3506305511646388635:=0
def tw7133414839427544318:=0
def tw16898734795067234526:=0
def tw785788785388691459:=0
def tw18083905056859716296:=0
def tw9448296096840392178:=0
def tw16205891480256940074:=0
def tw15397417094582808494:=0
def tw4041443234471598220:=0
def tw14115100909211808509:=0
def tw15781089901127159054:=0
def tw4996962550992864919:=0
def tw2150038930289664054:=0
def tw1466461485281886654:=0
def tw1777279016731308039:=0
def tw2240322769505474491:=0
end PySem.W.Fast
open PySem PySem.W PyProof.Rows
set_option maxRecDepth 100000 in
set_option maxHeartbeats 0 in
theorem PySem.Challenge.cw_ringbeat_k94_whole_turned_about_holds : PySem.Challenge.rw_ringbeat_k94_whole_turned_about.Holds := by
  w_on; o_law; k_head; (case hw => w_witness2)
  k_fill
  refine My.walk (l := PySem.Challenge.rw_ringbeat_k94_whole_turned_about) rfl rfl (fun w h Y => PySem.W.kIn_of Y) ?F
  case F =>
    intro w mg fa h KX G hmg
    refine' My.all_mk KX G hmg ?aC_Arrow ?pg_Arrow ?hd_Arrow ?po_Arrow ?sa_Arrow ?mk_Arrow ?kc_Arrow ?aC_Ride ?pg_Ride ?hd_Ride ?po_Ride ?sa_Ride ?mk_Ride ?kc_Ride ?aC_Wait ?pg_Wait ?hd_Wait ?po_Wait ?sa_Wait ?mk_Wait ?kc_Wait ?aC_Back ?pg_Back ?hd_Back ?po_Back ?sa_Back ?mk_Back ?kc_Back ?aC_Net ?pg_Net ?hd_Net ?po_Net ?sa_Net ?mk_Net ?kc_Net ?aC_Table ?pg_Table ?hd_Table ?po_Table ?sa_Table ?mk_Table ?kc_Table ?xC_BeatError ?xC_NoFit ?xo_NoFit ?xv_NoFit ?xV_NoFit ?xB_NoFit ?xA_NoFit ?xN_NoFit ?xS_NoFit ?xT_NoFit ?xK_NoFit ?xs1_NoFit ?xs2_NoFit ?xga_NoFit ?xgn_NoFit ?xhd_NoFit ?xca_NoFit ?xmo_NoFit ?xcg ?xct ?xq1 ?xq2 ?xq3 ?hc_NoFit ?ht_NoFit ?hb_NoFit ?hs_NoFit_NoFit ?a0 ?i0 ?l0 ?c0 ?k0 ?a1 ?i1 ?l1 ?c1 ?k1 ?a2 ?i2 ?l2 ?c2 ?k2 ?t2 ?a3 ?i3 ?l3 ?c3 ?k3 ?t3 ?a4 ?l4 ?c4 ?k4 ?a5 ?l5 ?c5 ?k5 ?a6 ?l6 ?c6 ?k6 ?a7 ?l7 ?c7 ?k7 ?a8 ?l8 ?c8 ?k8 ?a9 ?l9 ?c9 ?k9 ?a10 ?l10 ?c10 ?k10 ?a11 ?l11 ?c11 ?k11 ?a12 ?l12 ?c12 ?k12 ?a13 ?i13 ?l13 ?c13 ?k13 ?a14 ?i14 ?l14 ?c14 ?k14 ?a15 ?l15 ?c15 ?k15 ?a16 ?l16 ?c16 ?k16 ?a17 ?l17 ?c17 ?k17 ?a18 ?l18 ?c18 ?k18 ?a19 ?l19 ?c19 ?k19 ?a20 ?l20 ?c20 ?k20 ?a21 ?l21 ?c21 ?k21 ?a22 ?l22 ?c22 ?k22 ?a23 ?l23 ?c23 ?k23 ?a24 ?l24 ?c24 ?k24 ?a25 ?l25 ?c25 ?k25 ?a26 ?l26 ?c26 ?k26 ?a27 ?l27 ?c27 ?k27 ?a28 ?l28 ?c28 ?k28 ?a29 ?l29 ?c29 ?k29 ?a30 ?i30 ?l30 ?c30 ?k30 ?a31 ?i31 ?l31 ?c31 ?k31 ?a32 ?i32 ?l32 ?c32 ?k32 ?a33 ?l33 ?c33 ?k33 ?a34 ?l34 ?c34 ?k34 ?a35 ?l35 ?c35 ?k35 ?a36 ?l36 ?c36 ?k36 ?a37 ?l37 ?c37 ?k37 ?a38 ?l38 ?c38 ?k38 ?a39 ?l39 ?c39 ?k39 ?a40 ?l40 ?c40 ?k40 ?a41 ?l41 ?c41 ?k41 ?a42 ?l42 ?c42 ?k42 ?a43 ?l43 ?c43 ?k43 ?a44 ?l44 ?c44 ?k44 ?a45 ?l45 ?c45 ?k45 ?qs_Arrow ?qr_Arrow ?qf_Arrow ?n_Net_arrows ?n_Table_beat ?n_Arrow_behind ?n_Ride_behind ?n_Wait_behind ?n_Back_behind ?n_Arrow_goal ?n_Ride_goal ?n_Wait_goal ?n_Back_goal ?n_Net_names ?n_Table_net ?n_Arrow_start ?n_Ride_start ?n_Wait_start ?n_Back_start ?n_Arrow_time ?n_Ride_time ?n_Wait_time ?n_Back_time ?n_Table_times ?ign ?igt ?iga_Arrow ?igm_Arrow ?kit_Arrow_Back ?kit_Arrow_Ride ?iga_Ride ?igm_Ride ?kit_Ride_Back ?kit_Ride_Ride ?iga_Wait ?igm_Wait ?kit_Wait_Back ?kit_Wait_Ride ?iga_Back ?igm_Back ?kit_Back_Back ?kit_Back_Ride ?iga_Net ?igm_Net ?kit_Net_Back ?kit_Net_Ride ?iga_Table ?igm_Table ?kit_Table_Back ?kit_Table_Ride ?z0 ?z1 ?z2 ?z3 ?z4 ?z5 ?z6 ?z7 ?z8 ?z9 ?z10 ?z11 ?z12 ?gc0 ?gc1 ?gc2 ?gc3 ?gc4
    (case aC_Arrow => k_is)
    (case pg_Arrow => k_is)
    (case hd_Arrow => k_is)
    (case po_Arrow => k_is)
    (case sa_Arrow => k_is)
    (case mk_Arrow => k_is)
    (case kc_Arrow => k_is)
    (case aC_Ride => k_is)
    (case pg_Ride => k_is)
    (case hd_Ride => k_is)
    (case po_Ride => k_is)
    (case sa_Ride => k_is)
    (case mk_Ride => k_is)
    (case kc_Ride => k_is)
    (case aC_Wait => k_is)
    (case pg_Wait => k_is)
    (case hd_Wait => k_is)
    (case po_Wait => k_is)
    (case sa_Wait => k_is)
    (case mk_Wait => k_is)
    (case kc_Wait => k_is)
    (case aC_Back => k_is)
    (case pg_Back => k_is)
    (case hd_Back => k_is)
    (case po_Back => k_is)
    (case sa_Back => k_is)
    (case mk_Back => k_is)
    (case kc_Back => k_is)
    (case aC_Net => k_is)
    (case pg_Net => k_is)
    (case hd_Net => k_is)
    (case po_Net => k_is)
    (case sa_Net => k_is)
    (case mk_Net => k_is)
    (case kc_Net => k_is)
    (case aC_Table => k_is)
    (case pg_Table => k_is)
    (case hd_Table => k_is)
    (case po_Table => k_is)
    (case sa_Table => k_is)
    (case mk_Table => k_is)
    (case kc_Table => k_is)
    (case xC_BeatError => k_is)
    (case xC_NoFit => k_is)
    (case xo_NoFit => k_is)
    (case xv_NoFit => first | exact .base | exact .own .base)
    (case xV_NoFit => k_is)
    (case xB_NoFit => k_is)
    (case xA_NoFit => k_is)
    (case xN_NoFit => k_is)
    (case xS_NoFit => k_is)
    (case xT_NoFit => k_is)
    (case xK_NoFit => k_is)
    (case xs1_NoFit => k_is)
    (case xs2_NoFit => k_is)
    (case xga_NoFit => k_is)
    (case xgn_NoFit => k_is)
    (case xhd_NoFit => k_is)
    (case xca_NoFit => k_is)
    (case xmo_NoFit => k_is)
    (case xcg => k_is)
    (case xct => k_is)
    (case xq1 => k_is)
    (case xq2 => k_is)
    (case xq3 => k_is)
    (case hc_NoFit => k_is)
    (case ht_NoFit => k_is)
    (case hb_NoFit => k_is)
    (case hs_NoFit_NoFit => k_is)
    (case a0 => k_is)
    (case i0 => k_is)
    (case l0 => k_is)
    (case c0 => k_is)
    (case k0 => k_is)
    (case a1 => k_is)
    (case i1 => k_is)
    (case l1 => k_is)
    (case c1 => k_is)
    (case k1 => k_is)
    (case a2 => k_is)
    (case i2 => k_is)
    (case l2 => k_is)
    (case c2 => k_is)
    (case k2 => k_is)
    (case t2 => k_is)
    (case a3 => k_is)
    (case i3 => k_is)
    (case l3 => k_is)
    (case c3 => k_is)
    (case k3 => k_is)
    (case t3 => k_is)
    (case a4 => k_is)
    (case l4 => k_is)
    (case c4 => k_is)
    (case k4 => k_is)
    (case a5 => k_is)
    (case l5 => k_is)
    (case c5 => k_is)
    (case k5 => k_is)
    (case a6 => k_is)
    (case l6 => k_is)
    (case c6 => k_is)
    (case k6 => k_is)
    (case a7 => k_is)
    (case l7 => k_is)
    (case c7 => k_is)
    (case k7 => k_is)
    (case a8 => k_is)
    (case l8 => k_is)
    (case c8 => k_is)
    (case k8 => k_is)
    (case a9 => k_is)
    (case l9 => k_is)
    (case c9 => k_is)
    (case k9 => k_is)
    (case a10 => k_is)
    (case l10 => k_is)
    (case c10 => k_is)
    (case k10 => k_is)
    (case a11 => k_is)
    (case l11 => k_is)
    (case c11 => k_is)
    (case k11 => k_is)
    (case a12 => k_is)
    (case l12 => k_is)
    (case c12 => k_is)
    (case k12 => k_is)
    (case a13 => k_is)
    (case i13 => k_is)
    (case l13 => k_is)
    (case c13 => k_is)
    (case k13 => k_is)
    (case a14 => k_is)
    (case i14 => k_is)
    (case l14 => k_is)
    (case c14 => k_is)
    (case k14 => k_is)
    (case a15 => k_is)
    (case l15 => k_is)
    (case c15 => k_is)
    (case k15 => k_is)
    (case a16 => k_is)
    (case l16 => k_is)
    (case c16 => k_is)
    (case k16 => k_is)
    (case a17 => k_is)
    (case l17 => k_is)
    (case c17 => k_is)
    (case k17 => k_is)
    (case a18 => k_is)
    (case l18 => k_is)
    (case c18 => k_is)
    (case k18 => k_is)
    (case a19 => k_is)
    (case l19 => k_is)
    (case c19 => k_is)
    (case k19 => k_is)
    (case a20 => k_is)
    (case l20 => k_is)
    (case c20 => k_is)
    (case k20 => k_is)
    (case a21 => k_is)
    (case l21 => k_is)
    (case c21 => k_is)
    (case k21 => k_is)
    (case a22 => k_is)
    (case l22 => k_is)
    (case c22 => k_is)
    (case k22 => k_is)
    (case a23 => k_is)
    (case l23 => k_is)
    (case c23 => k_is)
    (case k23 => k_is)
    (case a24 => k_is)
    (case l24 => k_is)
    (case c24 => k_is)
    (case k24 => k_is)
    (case a25 => k_is)
    (case l25 => k_is)
    (case c25 => k_is)
    (case k25 => k_is)
    (case a26 => k_is)
    (case l26 => k_is)
    (case c26 => k_is)
    (case k26 => k_is)
    (case a27 => k_is)
    (case l27 => k_is)
    (case c27 => k_is)
    (case k27 => k_is)
    (case a28 => k_is)
    (case l28 => k_is)
    (case c28 => k_is)
    (case k28 => k_is)
    (case a29 => k_is)
    (case l29 => k_is)
    (case c29 => k_is)
    (case k29 => k_is)
    (case a30 => k_is)
    (case i30 => k_is)
    (case l30 => k_is)
    (case c30 => k_is)
    (case k30 => k_is)
    (case a31 => k_is)
    (case i31 => k_is)
    (case l31 => k_is)
    (case c31 => k_is)
    (case k31 => k_is)
    (case a32 => k_is)
    (case i32 => k_is)
    (case l32 => k_is)
    (case c32 => k_is)
    (case k32 => k_is)
    (case a33 => k_is)
    (case l33 => k_is)
    (case c33 => k_is)
    (case k33 => k_is)
    (case a34 => k_is)
    (case l34 => k_is)
    (case c34 => k_is)
    (case k34 => k_is)
    (case a35 => k_is)
    (case l35 => k_is)
    (case c35 => k_is)
    (case k35 => k_is)
    (case a36 => k_is)
    (case l36 => k_is)
    (case c36 => k_is)
    (case k36 => k_is)
    (case a37 => k_is)
    (case l37 => k_is)
    (case c37 => k_is)
    (case k37 => k_is)
    (case a38 => k_is)
    (case l38 => k_is)
    (case c38 => k_is)
    (case k38 => k_is)
    (case a39 => k_is)
    (case l39 => k_is)
    (case c39 => k_is)
    (case k39 => k_is)
    (case a40 => k_is)
    (case l40 => k_is)
    (case c40 => k_is)
    (case k40 => k_is)
    (case a41 => k_is)
    (case l41 => k_is)
    (case c41 => k_is)
    (case k41 => k_is)
    (case a42 => k_is)
    (case l42 => k_is)
    (case c42 => k_is)
    (case k42 => k_is)
    (case a43 => k_is)
    (case l43 => k_is)
    (case c43 => k_is)
    (case k43 => k_is)
    (case a44 => k_is)
    (case l44 => k_is)
    (case c44 => k_is)
    (case k44 => k_is)
    (case a45 => k_is)
    (case l45 => k_is)
    (case c45 => k_is)
    (case k45 => k_is)
    (case qs_Arrow => k_is)
    (case qr_Arrow => k_is)
    (case qf_Arrow => k_is)
    (case n_Net_arrows => k_is)
    (case n_Table_beat => k_is)
    (case n_Arrow_behind => k_is)
    (case n_Ride_behind => k_is)
    (case n_Wait_behind => k_is)
    (case n_Back_behind => k_is)
    (case n_Arrow_goal => k_is)
    (case n_Ride_goal => k_is)
    (case n_Wait_goal => k_is)
    (case n_Back_goal => k_is)
    (case n_Net_names => k_is)
    (case n_Table_net => k_is)
    (case n_Arrow_start => k_is)
    (case n_Ride_start => k_is)
    (case n_Wait_start => k_is)
    (case n_Back_start => k_is)
    (case n_Arrow_time => k_is)
    (case n_Ride_time => k_is)
    (case n_Wait_time => k_is)
    (case n_Back_time => k_is)
    (case n_Table_times => k_is)
    (case ign => k_is)
    (case igt => k_is)
    (case iga_Arrow => k_is)
    (case igm_Arrow => k_is)
    (case kit_Arrow_Back => kit_is)
    (case kit_Arrow_Ride => kit_is)
    (case iga_Ride => k_is)
    (case igm_Ride => k_is)
    (case kit_Ride_Back => kit_is)
    (case kit_Ride_Ride => kit_is)
    (case iga_Wait => k_is)
    (case igm_Wait => k_is)
    (case kit_Wait_Back => kit_is)
    (case kit_Wait_Ride => kit_is)
    (case iga_Back => k_is)
    (case igm_Back => k_is)
    (case kit_Back_Back => kit_is)
    (case kit_Back_Ride => kit_is)
    (case iga_Net => k_is)
    (case igm_Net => k_is)
    (case kit_Net_Back => kit_is)
    (case kit_Net_Ride => kit_is)
    (case iga_Table => k_is)
    (case igm_Table => k_is)
    (case kit_Table_Back => kit_is)
    (case kit_Table_Ride => kit_is)
    (case z0 => k_is)
    (case z1 => k_is)
    (case z2 => k_is)
    (case z3 => k_is)
    (case z4 => k_is)
    (case z5 => k_is)
    (case z6 => k_is)
    (case z7 => k_is)
    (case z8 => k_is)
    (case z9 => k_is)
    (case z10 => k_is)
    (case z11 => k_is)
    (case z12 => k_is)
    (case gc0 => k_is)
    (case gc1 => k_is)
    (case gc2 => k_is)
    (case gc3 => k_is)
    (case gc4 => k_is)
