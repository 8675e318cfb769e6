import PyProof.Rows.All
import Wide.All
import OpenK.AllK
import Wide.FinOn
import Lean
import PyProof.EqAt
import PyProof.EqKinds
import PyProof.TupleCall
import PySem.Challenge.RW_ringbeat_k37_whole_rates
set_option Elab.async false
set_option linter.all false
set_option maxRecDepth 100000
open Array renaming length_toList→cN
open Bool renaming false_ne_true→aQ,and_eq_true→bG,false_eq_true→dD,or_eq_false_iff→qJ,or_false→xV
open Int renaming mul_le_mul_of_nonneg_right→ba,mul_le_mul_of_nonneg_left→cD,le_of_lt→cS,mul_pos→dg,eq_of_mul_eq_mul_right→d5,le_of_mul_le_mul_right→d6,mul_le_mul→d7,gcd→eF,toNat_natCast→eG,le_refl→eS,mul_comm→ij,fdiv_eq_ediv_of_nonneg→iw,mul_nonneg→iy,emod_nonneg→jO,natAbs_dvd_natAbs→jY,mul_nonneg_of_nonpos_of_nonpos→lE,gcd_dvd_right→lZ,mul_one→mV,nonneg_of_mul_nonneg_left→mW,one_mul→mX,mul_ne_zero→nH,fmod_eq_emod_of_nonneg→oh,natAbs_mul→oj,pos_of_mul_pos_right→pf,fdiv_eq_ediv_of_dvd→pB,fmod_nonneg_of_pos→pW,le_total→pX,le_trans→pY,mul_ediv_cancel'→rF,add_mul→rG,toNat_of_nonneg→se,emod_lt_of_pos→tq,fmod_lt_of_pos→tu,gcd_dvd_left→vG,le_antisymm→wG
open List renaming mem_cons_self→aa,length_map→ah,mem_cons_of_mem→aj,range→aw,mem_singleton→az,replicate→aC,getElem?_map→aD,mem_cons→aF,mem_append_right→aH,length_cons→aI,size_toArray→aL,map_cons→aP,getElem?_eq_getElem→aT,getElem?_eq_some_iff→aW,length_append→aZ,mem_append→bg,mem_map→bm,mem_iff_getElem?→bo,nodup_append→br,lookup_cons→bv,mem_append_left→bx,mem_filter→bB,length_range→bD,map_map→bH,mem_range→bM,nodup_cons→bP,nodup_nil→bQ,Nodup→bS,sum_cons→cj,append_nil→cA,getElem?_append_left→cE,map_append→cL,length_singleton→cO,length_drop→cU,replicate_succ→cW,getElem?_eq_none→cY,length_replicate→cZ,range_eq_range'→de,getElem?_set_ne→df,length_pos_iff→dm,find?_cons→dq,not_mem_nil→dE,all_cons→dG,any_cons→dH,mem_iff_getElem→dI,append_assoc→dN,flatten_cons→eE,getElem?_range→eM,all_eq_true→eO,getElem?_replicate→eP,length_take→eQ,take_of_length_le→eT,length_zip→eX,length_filter_le→eZ,ext_getElem?→fk,range'→fD,getD_eq_getElem?_getD→fE,getElem?_append_right→fF,length_reverse→fN,map_congr_left→fO,Pairwise→fS,pairwise_cons→ga,zip_cons_cons→gb,drop_of_length_le→gx,countP_cons→gO,nodup_range→gP,map_drop→gQ,eq_nil_of_length_eq_zero→gU,lookup→gW,of_mem_zip→gZ,countP_append→iq,exists_mem_of_ne_nil→iG,filter_congr→iL,filter_cons→iX,getElem_map→iY,getElem?_set_self→jD,map_nil→jE,foldl_cons→jI,filterMap_cons→ku,findIdx?_cons→kM,length_zipIdx→kN,map_singleton→kO,all_map→lN,pairwise_map→lO,reverse_cons→lP,any_eq_true→mE,cons_append→mF,getElem_inj→mG,map_reverse→mH,length→mO,take_append_of_le_length→mP,map_const'→mY,dropLast_concat_getLast→mZ,forIn_cons→m9,mem_zipIdx_iff_getElem?→nc,nil_append→nh,perm_ext_iff_of_nodup→nQ,drop_eq_getElem_cons→oo,pairwise_iff_getElem→oq,idxOf_lt_length_iff→oK,map_take→oM,filter_cons_of_neg→pj,filter_cons_of_pos→pq,length_eq_zero_iff→pv,drop_eq_nil_of_le→pC,countP_singleton→pZ,pairwise_reverse→p4,singleton_append→p5,getElem_toArray→qK,mem_of_mem_drop→qM,mem_of_mem_take→qN,perm_cons_erase→qO,filter_eq_self→rH,contains_cons→sf,find?_eq_none→sg,foldl→si,getElem_idxOf→sj,map_inj_right→sk,mem_filterMap→sn,drop_sublist→tw,foldl_append→tD,getElem?_set→tE,getElem_take→tF,idxOf_append→tG,append_inj'→tV,range'_succ→tW,ext_getElem→tX,getElem_mem→tY,mem_reverse→tZ,zipIdx_cons→t4,find?_some→vH,length_nil→vI,length_set→vJ,zip_append→vK,forIn_nil→wH,contains→xW
open Nat renaming le_refl→aM,lt_of_lt_of_le→bp,ne_of_lt→bE,le_trans→cB,zero_le→dr,pow_le_pow_right→dL,lt_irrefl→eJ,lt_succ_of_lt→fu,min_self→ik,mod_lt→iz,le_succ→iO,lt_succ_self→jB,pow_succ→jJ,lt_of_le_of_lt→lF,le_of_lt→ma,le_of_succ_le→mh,min_eq_right→mQ,log2_lt→ni,min_eq_left→nI,le_total→p6,zero_add→p7,le_add_right→vL,mul_le_mul→xX
open Option renaming bind_some→cz,map_eq_some_iff→dS,isSome_map→kP,isSome_iff_exists→nR,getD_none→sr,map_some→tH
open PyProof.Rows renaming callWith_type1→cK,step_dedup→mj
open PySem renaming Value→af,Addr→ai,Shared→ap,mainGlobals→ar,starEach→ay,FuncData→aK,wpAny_bind→aV,Str→aX,Heap→bc,model→bi,wpAny→bj,NameKind→bw,Program→bJ,PyData→bK,bootBuiltins→bO,Stmt→bT,Around→bX,eval→bY,wpAny_pure→bZ,PassesOwn→cn,compareOp→cu,World→cw,backTo→cQ,sizeLine_eq→cV,strIterType→dc,assignEach→dw,wpAny_truthy_bool→dz,Pos→dF,wpAny_Call_Name_kw→dM,behindInMarks→dO,keywordEach→dR,foldedSetIterable→dX,wpAny_mono→dZ,Obj→d8,swapsWith→eh,binaryOp→eD,holding→fq,wpAny_passesOwn→fC,attributeBase→fG,backToKw→fR,Builtin→fV,sysModules→gC,Scope→gH,cLine→gR,codeAny→gS,getMethod→hU,Keyword→hZ,sliceBounds→ip,letOwnedTupleGo→iA,standAt→iM,assign→iS,tupleKind_room_in1→iT,swappedStores→jK,swapsWithSole→jL,Operator→jZ,callWith→ka,CmpOp→kx,wpAny_execs_nil→ky,Data→kG,newFunctionEnv→lG,wpAny_holding→mI,wpAny_standAt→mJ,call_meets→mR,callerA→nJ,codeAny_mono→nK,getItem→nL,seqIndex_neg→nM,valueAt→nN,wpAny_newObj_type→nO,tupleKind→ot,seqIndex_of→oN,subscripted→oO,wpAny_specialOf→pw,BindsTo→pD,Sem→pE,setItem→pF,atKey→p9,closureFor→qA,compEnvC→qB,compPost→qC,typeLookup→qD,Code→rJ,nums_intItems→rK,bindC→su,bindL→sv,concat_meets→tJ,isTrue→tK,builtinsNs→xY,revObj→xZ,typeIs_int→yA,wpAny_Name→yB
open PySem.Heap renaming get?_push_of_some→aJ,lt_size→aR,get?_push_size→bW,size_push→gw,SameBut→hX,get?_update_other→jC,get?_update_self→pV
open PySem.W renaming Frag→ae,keepIn→aq,nsIn→av,codeIn→aA,mg_of→aB,findIn→aE,mg_none_of→bF,kitOne→bU,kia_one→cT,emptyDict→di,plainGet→dA,hasDictIn→dJ,instObj→d9,makesIn→ed,isFn→ej,plainOver→el,specialIn→eo,mroIn→fM,methodCall_KW→gz,fnOf→gY,callWith_K→hV,cellsFrom_some→iU,findCls→iZ,readsIn→i6,lookIn→jM,plainGet_of→kb,kitx_list→kI,methodObj→kJ,OpenLaw→ml,takerIn→mm,takesIn→mq,kitx_dict→qP,handedIn→rL,WalkO→t5
namespace L2
open PySem PySem.Spec PyProof.Rows
abbrev fH:=Sum Int aX
def oF:fH->af->Bool
 |.inl k,v=>af.isInt k v
 |.inr x,v=>af.isStrOf x v
def Nh (w:cw):fH->Int
 |.inl k=>hashInt k
 |.inr x=>hashStr w x
theorem vi:∀{k:fH} {v:af},oF k v=true->(∃i t,k=Sum.inl i/\v=af.int i t)\/(∃x t,k=Sum.inr x/\v=af.str x t)
 |.inl i,v,h=>by
  obtain⟨t,e⟩:=af.isInt_shape (k:=i) (v:=v) h
  exact .inl ⟨i,t,rfl,e⟩
 |.inr x,v,h=>by
  obtain⟨t,e⟩:=af.isStrOf_shape (x:=x) (v:=v) h
  exact .inr ⟨x,t,rfl,e⟩
theorem zlm (i:Int)(t:Tok):oF (.inl i) (.int i t)=true:=by simp[oF,af.isInt]
theorem zln (x:aX)(t:Tok):oF (.inr x) (.str x t)=true:=by simp[oF,af.isStrOf]
theorem zt5 (a b:Int):decide ((Sum.inl a:fH)=Sum.inl b)=(a==b):=by
 by_cases e:a=b
 ·subst e;simp
 ·have h:¬(Sum.inl a:fH)=Sum.inl b:=λq=>e (Sum.inl.inj q)
  rw[decide_eq_false h]
  exact(beq_eq_false_iff_ne.mpr e).symm
theorem zt6 (a b:aX):decide ((Sum.inr a:fH)=Sum.inr b)=decide (a=b):=by
 by_cases e:a=b
 ·subst e;simp
 ·have h:¬(Sum.inr a:fH)=Sum.inr b:=λq=>e (Sum.inr.inj q)
  rw[decide_eq_false h,decide_eq_false e]
theorem zt7 (a:Int)(b:aX):decide ((Sum.inl a:fH)=Sum.inr b)=false:=decide_eq_false (λq=>nomatch q)
theorem zt8 (a:aX)(b:Int):decide ((Sum.inr a:fH)=Sum.inl b)=false:=decide_eq_false (λq=>nomatch q)
def fI (prog:bJ)(w:cw):PySem.KeyKind prog w fH where
 is:=oF
 hash:=Nh w
 inj:=λv a b ha hb=>by
  rcases vi ha with⟨i,t,rfl,rfl⟩|⟨x,t,rfl,rfl⟩
  ·rcases vi hb with⟨j,u,rfl,e⟩|⟨y,u,rfl,e⟩
   ·injection e with e1 _;rw[e1]
   ·exact nomatch e
  ·rcases vi hb with⟨j,u,rfl,e⟩|⟨y,u,rfl,e⟩
   ·exact nomatch e
   ·injection e with e1 _;rw[e1]
 byValue:=λk v h=>by
  rcases vi h with⟨i,t,rfl,rfl⟩|⟨x,t,rfl,rfl⟩<;>rfl
 pyHash:=λhv h=>by
  rcases vi hv with⟨i,t,rfl,rfl⟩|⟨x,t,rfl,rfl⟩
  ·exact wpAny_pyHash_int h
  ·exact wpAny_pyHash_str h
 eqBool:=λhu hv h=>by
  rcases vi hu with⟨i,t,rfl,rfl⟩|⟨x,t,rfl,rfl⟩
  ·rcases vi hv with⟨j,u,rfl,rfl⟩|⟨y,u,rfl,rfl⟩
   ·rw[zt5]at h;exact wpAny_eqBool_int h
   ·rw[zt7]at h;exact SeqAt.EqAt.int_str i t y u _ _ _ _ h
  ·rcases vi hv with⟨j,u,rfl,rfl⟩|⟨y,u,rfl,rfl⟩
   ·rw[zt8]at h;exact SeqAt.EqAt.str_int x t j u _ _ _ _ h
   ·rw[zt6]at h;exact wpAny_eqBool_str h
 «strs»:=λk x t v h=>by
  rcases vi h with⟨i,u,rfl,e⟩|⟨y,u,rfl,e⟩
  ·exact nomatch e
  ·injection e with e1 _
   subst e1
   cases v<;>rfl
theorem zin (prog:bJ)(w:cw)(i:Int)(t:Tok):(fI prog w).is (.inl i) (.int i t)=true:=zlm i t
theorem zio (prog:bJ)(w:cw)(x:aX)(t:Tok):(fI prog w).is (.inr x) (.str x t)=true:=zln x t
end L2
namespace L2
open PySem PySem.Spec PyProof.Rows
inductive V where
 |non|bl (b:Bool)|int (i:Int)|str (x:aX)|byt (b:Array UInt8)|flt (b:UInt64)|ref (a:ai)|ty (n:String)
 deriving DecidableEq
def RelV:V->af->Prop
 |.non,u=>u=af.none
 |.bl b,u=>u=af.bool b
 |.int i,u=>∃t,u=af.int i t
 |.str x,u=>∃t,u=af.str x t
 |.byt b,u=>∃t,u=af.bytes b t
 |.flt b,u=>∃t,u=af.float b t
 |.ref a,u=>u=af.ref a
 |.ty n,u=>u=af.type n
abbrev ck:List V->List af->Prop:=Paired RelV
theorem ck.length {xs:List V}{us:List af}(r:ck xs us):xs.length=us.length:=Paired.length r
theorem ck.get:∀{xs:List V} {us:List af} {i:Nat} {x:V},ck xs us->xs[i]?=some x->∃u,us[i]?=some u/\RelV x u
 |_,_,_,_,.nil,e=>by simp at e
 |_,_,0,_,.cons r _,e=>by simp at e;subst e;exact⟨_,rfl,r⟩
 |_,_,i+1,x,.cons _ t,e=>by
  obtain⟨u,h1,h2⟩:=ck.get (i:=i) (x:=x) t (by simpa using e)
  exact⟨u,by simpa using h1,h2⟩
theorem ck.set {x:V}{u:af}(r:RelV x u):∀{xs:List V} {us:List af} (i:Nat),ck xs us->ck (xs.set i x) (us.set i u)
 |_,_,_,.nil=>.nil
 |_,_,0,.cons _ t=>.cons r t
 |_,_,i+1,.cons q t=>.cons q (ck.set r i t)
theorem ck.append:∀{xs ys:List V} {us ws:List af},ck xs us->ck ys ws->ck (xs++ys) (us++ws)
 |_,_,_,_,.nil,s=>s
 |_,_,_,_,.cons r t,s=>.cons r (ck.append t s)
theorem ck.take:∀{xs:List V} {us:List af} (n:Nat),ck xs us->ck (xs.take n) (us.take n)
 |_,_,0,_=>.nil
 |_,_,_+1,.nil=>.nil
 |_,_,n+1,.cons r t=>.cons r (ck.take n t)
theorem ck.drop:∀{xs:List V} {us:List af} (n:Nat),ck xs us->ck (xs.drop n) (us.drop n)
 |_,_,0,r=>r
 |_,_,_+1,.nil=>.nil
 |_,_,n+1,.cons _ t=>ck.drop n t
def ke:Option V->Option af->Prop
 |some v,some u=>RelV v u
 |none,none=>True
 |_,_=>False
def KV {κ:Type}:List (κ×V)->List (κ×af)->Prop:=Paired λ(p:κ×V) (q:κ×af)=>p.1=q.1/\RelV p.2 q.2
def kV:fH->V
 |.inl i=>.int i
 |.inr x=>.str x
inductive HO where
 |lst (xs:List V)
 |tup (xs:List V)
 |dK (cP:List (fH×V))|dT (cP:List (List fH×V))
 |set (S:Int->Bool) (n:Nat)
 |ins (C dx:ai) (fs:List (aX×V))
 |own (x:ai)
 |xd (fs:List (aX×V))
 |met (f x:ai)
 |rng (lo hi:Int)
 |frz (o:d8) (u:HO)
 |tbl (ps:Array af)
 |ext (φ:bc->Prop)
abbrev Hp:=ai->Option HO
def d4 (H:Hp)(a:ai)(o:HO):Hp:=λb=>if b=a then some o else H b
theorem yt {H:Hp}{a:ai}{o:HO}:d4 H a o a=some o:=by unfold d4;rw[if_pos rfl]
theorem yo {H:Hp}{a b:ai}{o:HO}(h:b≠a):d4 H a o b=H b:=by unfold d4;rw[if_neg h]
theorem zwd {H:Hp}{a b:ai}{o u:HO}(h:H a=some o)(h':H b=some u)(d:o≠u):a≠b:=by
 intro e;subst e;rw[h]at h';exact d (Option.some.inj h')
theorem xr {H:Hp}{a b:ai}{o:HO}(h:H a=some o)(h':H b=none):a≠b:=by
 intro e;subst e;rw[h]at h';cases h'
section
variable (P:bJ)(w:cw)
def eu (H:Hp)(h:bc)(a:ai):HO->Prop
  |.lst xs=>xs.length<=sizeLine/\∃(cv:List af) (n:Nat),ck xs cv/\h.get? a=some { cls:=.type "list",data:=.seq cv.toArray n }
  |.tup xs=>xs.length<=sizeLine/\∃cv:List af,ck xs cv/\IsTup h a cv.toArray
  |.dK cP=>cP.length<=sizeLine/\(a==gC)=false/\∃vs,KV cP vs/\h.DictOf (fI P w) a vs
  |.dT cP=>cP.length<=sizeLine/\(a==gC)=false/\∃xs:List (List fH×ai×af),
      Paired (λ(p:List fH×V) (q:List fH×ai×af)=>p.1=q.1/\H q.2.1=some (.tup (p.1.map kV))/\RelV p.2 q.2.2) cP xs /\
      ∃o es ep,h.get? a=some o/\o.ExactDict/\o.data=.dict es ep/\es.toList=xs.map (entryOfKey (ot (fI P w)))/\(xs.map (·.1)).Nodup
  |.set S n=>h.SetOf (intKind P w) a S n
  |.ins C dx fs=>H dx=some (.own a)/\fs.length<=1000/\dx≠a/\h.get? a=some (d9 C dx) /\
      ∃mA,h.Ns1 dx mA/\(∀f,ke (fs.lookup f) (mA f))/\PySem.Within mA (fs.map (·.1))
  |.own _=>∃o,h.get? a=some o
  |.xd fs=>∃mA,h.Ns1 a mA/\∀f,ke (fs.lookup f) (mA f)
  |.rng lo hi=>∃t u v,h.get? a=some { cls:=.type "range",data:=.fields #[.int lo t,.int hi u,.int 1 v] }
  |.frz o u=>h.get? a=some o/\eu H h a u
  |.tbl ps=>h.get? a=some { cls:=.none,data:=.fields ps }
  |.met f x=>h.get? a=some (kJ (.ref f) (.ref x))
  |.ext φ=>φ h/\(∃o,h.get? a=some o)/\∀h1 h2:bc,φ h1->(∀o,h1.get? a=some o->h2.get? a=some o)->φ h2
def kK (H:Hp)(h:bc):Prop:=∀a o,H a=some o->eu P w H h a o
end
section
variable {P:bJ}{w:cw}{H H':Hp}{h h':bc}{a:ai}{o:HO}
theorem eu.lt (x:eu P w H h a o):a<h.objs.size:=by
 cases o with
 |lst xs=>obtain⟨_,_,_,_,e⟩:=x;exact aR e
 |tup xs=>obtain⟨_,_,_,p⟩:=x;exact p.lt
 |dK cP=>obtain⟨_,_,_,_,o,_,_,e,_⟩:=x;exact aR e
 |dT cP=>obtain⟨_,_,_,_,o,_,_,e,_⟩:=x;exact aR e
 |set S n=>obtain⟨o,_,_,_,e,_⟩:=x;exact aR e
 |ins C dx fs=>obtain⟨_,_,_,e,_⟩:=x;exact aR e
 |own y=>obtain⟨_,e⟩:=x;exact aR e
 |xd fs=>obtain⟨_,⟨_,_,_,e,_⟩,_⟩:=x;exact aR e
 |rng lo hi=>obtain⟨_,_,_,e⟩:=x;exact aR e
 |frz ob u=>obtain⟨e,_⟩:=x;exact aR e
 |tbl ps=>exact aR (show h.get? a=some _ from x)
 |met f y=>exact aR (show h.get? a=some _ from x)
 |ext φ=>obtain⟨_,⟨_,e⟩,_⟩:=x;exact aR e
theorem Paired.mapP {α β:Type}{F G:α->β->Prop}:∀{l₁:List α} {l₂:List β},Paired F l₁ l₂->(∀a b,F a b->G a b)->Paired G l₁ l₂
 |_,_,.nil,_=>.nil
 |_,_,.cons r t,f=>.cons (f _ _ r) (Paired.mapP t f)
theorem eu.stay (x:eu P w H h a o)(k:∀b u,(b=a\/H b=some (.own a))->h.get? b=some u->h'.get? b=some u)
    (ho:∀b,H b=some (.own a)->H' b=some (.own a)) (ht:∀b xs,H b=some (.tup xs)->H' b=some (.tup xs)):eu P w H' h' a o:=by
  induction o with
  |lst xs=>obtain⟨z,cv,n,r,e⟩:=x;exact⟨z,cv,n,r,k _ _ (.inl rfl) e⟩
  |tup xs=>obtain⟨z,cv,r,ob,e,c⟩:=x;exact⟨z,cv,r,ob,k _ _ (.inl rfl) e,c⟩
  |dK cP=>obtain⟨z,y,vs,r,ob,es,ep,e,c⟩:=x;exact⟨z,y,vs,r,ob,es,ep,k _ _ (.inl rfl) e,c⟩
  |dT cP=>
    obtain⟨z,y,xs,r,ob,es,ep,e,c⟩:=x
    exact⟨z,y,xs,Paired.mapP r λp q z=>⟨z.1,ht _ _ z.2.1,z.2.2⟩,ob,es,ep,k _ _ (.inl rfl) e,c⟩
  |set S n=>obtain⟨ob,es,ep,t,e,c⟩:=x;exact⟨ob,es,ep,t,k _ _ (.inl rfl) e,c⟩
  |ins C dx fs=>
    obtain⟨d,z,ne,e,mA,⟨od,es,ep,e2,c⟩,r⟩:=x
    exact⟨ho _ d,z,ne,k _ _ (.inl rfl) e,mA,⟨od,es,ep,k _ _ (.inr d) e2,c⟩,r⟩
  |own y=>obtain⟨ob,e⟩:=x;exact⟨ob,k _ _ (.inl rfl) e⟩
  |xd fs=>obtain⟨mA,⟨od,es,ep,e,c⟩,r⟩:=x;exact⟨mA,⟨od,es,ep,k _ _ (.inl rfl) e,c⟩,r⟩
  |rng lo hi=>obtain⟨t,u,v,e⟩:=x;exact⟨t,u,v,k _ _ (.inl rfl) e⟩
  |frz ob u ih=>obtain⟨e,q⟩:=x;exact⟨k _ _ (.inl rfl) e,ih q⟩
  |tbl ps=>
    have e:h.get? a=some { cls:=.none,data:=.fields ps }:=x
    show h'.get? a=some { cls:=.none,data:=.fields ps }
    exact k a _ (.inl rfl) e
  |met f y=>
    have e:h.get? a=some (kJ (.ref f) (.ref y)):=x
    show h'.get? a=some (kJ (.ref f) (.ref y))
    exact k a _ (.inl rfl) e
  |ext φ=>obtain⟨p,⟨o,e⟩,st⟩:=x;exact⟨st _ _ p λo q=>k _ _ (.inl rfl) q,⟨o,k _ _ (.inl rfl) e⟩,st⟩
theorem kK.lt (x:kK P w H h)(e:H a=some o):a<h.objs.size:=(x a o e).lt
theorem kK.fresh (x:kK P w H h)(e:h.objs.size<=a):H a=none:=by
 cases q:H a with
 |none=>rfl
 |some u=>exact absurd (bp (x.lt q) e) (eJ _)
theorem kK.kept (x:kK P w H h)(k:∀b u,h.get? b=some u->h'.get? b=some u):kK P w H h':=λa o e=>
 (x a o e).stay (λb u _ q=>k b u q) (λ_ q=>q) λ_ _ q=>q
theorem kK.laid (x:kK P w H h)(k:∀b u,h.get? b=some u->h'.get? b=some u)(hp:h.objs.size<=a)(new:eu P w (d4 H a o) h' a o):kK P w (d4 H a o) h':=λb u e=>by
 have hn:=x.fresh hp
 by_cases hb:b=a
 ·subst hb;rw[yt]at e;cases e;exact new
 ·rw[yo hb]at e
  exact(x b u e).stay (λc v _ q=>k c v q) (λc q=>by rw[yo (xr q hn)];exact q) λc xs q=>by rw[yo (xr q hn)];exact q
end
def Rd (H:Hp)(a:ai)(u:HO):Prop:=H a=some u\/∃o,H a=some (.frz o u)
theorem Rd.ok {P:bJ}{w:cw}{H:Hp}{h:bc}{a:ai}{u:HO}(r:Rd H a u)(x:kK P w H h):eu P w H h a u:=by
 rcases r with r|⟨o,r⟩
 ·exact x a u r
 ·obtain⟨_,q⟩:=x a _ r
  exact q
def CZ:Option HO->Prop
 |some (.lst _)=>True
 |some (.dK _)=>True
 |some (.dT _)=>True
 |some (.set _ _)=>True
 |some (.ins _ _ _)=>True
 |some (.ext _)=>True
 |_=>False
section
variable {P:bJ}{w:cw}{H:Hp}{h h':bc}{x e:ai}{o':HO}
theorem kK.write (ok:kK P w H h)(mu:CZ (H x))(he:e=x\/H e=some (.own x))(k:∀b u,b≠e->h.get? b=some u->h'.get? b=some u)(Ck:∃u,h'.get? e=some u)
  (new:eu P w (d4 H x o') h' x o'):kK P w (d4 H x o') h':=λb u q=>by
 have G7:∀c y,H c=some (.own y)->c≠x:=λc y r z=>by subst z;rw[r]at mu;exact mu
 have Nt:∀c xs,H c=some (.tup xs)->c≠x:=λc xs r z=>by subst z;rw[r]at mu;exact mu
 by_cases hb:b=x
 ·subst hb;rw[yt]at q;cases q;exact new
 ·rw[yo hb]at q
  by_cases A0:b=e
  ·have q':H b=some (.own x):=by
    rcases he with z|z
    ·exact absurd (A0.trans z) hb
    ·rw[A0];exact z
   rw[q]at q';cases q'
   obtain⟨v,hv⟩:=Ck
   exact⟨v,by rw[A0];exact hv⟩
  ·refine(ok b u q).stay (λc v hc r=>k c v ?_ r) (λc r=>by rw[yo (G7 c b r)];exact r) λc xs r=>by rw[yo (Nt c xs r)];exact r
   rcases hc with rfl|hc
   ·exact A0
   ·rintro rfl
    rcases he with z|z
    ·exact G7 c b hc z
    ·rw[hc]at z;cases z;exact hb rfl
end
structure Un (fs ex:List ai)(H H':Hp)(h h':bc):Prop where
 keep:∀b o,h.get? b=some o->H b=none->b∉fs->b∉ex->h'.get? b=some o
 slot:∀b o,h.get? b=some o->H b=none->b∈fs->b∉ex->∃sl,h'.get? b=some { o with slots:=sl }
 free:∀b o,h.get? b=some o->H b=none->b∉ex->H' b=none
 there:∀b o,h.get? b=some o->b∉ex->∃o',h'.get? b=some o'
 tups:∀b xs,H b=some (.tup xs)->H' b=some (.tup xs)
 frzs:∀b o u,H b=some (.frz o u)->H' b=some (.frz o u)
 tbls:∀b ps,H b=some (.tbl ps)->∃more,H' b=some (.tbl (ps++more))
section
variable {fs WK ex ex':List ai}{H H1 H2:Hp}{h h1 h2 h':bc}{a x e:ai}{o:HO}
theorem Un.any (u:Un fs ex H H1 h h1){b:ai}{ob:d8}(q:h.get? b=some ob)(n:H b=none)(hx:b∉ex):∃sl,h1.get? b=some { ob with slots:=sl }:=by
 by_cases hb:b∈fs
 ·exact u.slot b ob q n hb hx
 ·exact⟨ob.slots,u.keep b ob q n hb hx⟩
theorem Un.kept (k:∀b u,h.get? b=some u->h'.get? b=some u):Un fs ex H H h h' :=
 ⟨λb ob q _ _ _=>k b ob q,λb ob q _ _ _=>⟨ob.slots,k b ob q⟩,λ_ _ _ n _=>n,λb ob q _=>⟨ob,k b ob q⟩,λ_ _ q=>q,λ_ _ _ q=>q,λ_ ps q=>⟨#[],by rw[q];simp⟩⟩
theorem Un.refl:Un fs ex H H h h:=Un.kept λ_ _ q=>q
theorem Un.laid (k:∀b u,h.get? b=some u->h'.get? b=some u)(hp:h.objs.size<=a)(hn:H a=none):Un fs ex H (d4 H a o) h h' where
 keep:=λb u q _ _ _=>k b u q
 slot:=λb u q _ _ _=>⟨u.slots,k b u q⟩
 free:=λb u q n _=>by rw[yo (bE (bp (aR q) hp))];exact n
 there:=λb u q _=>⟨u,k b u q⟩
 tups:=λb xs q=>by rw[yo (xr q hn)];exact q
 frzs:=λb u xs q=>by rw[yo (xr q hn)];exact q
 tbls:=λb ps q=>⟨#[],by rw[yo (xr q hn),q];simp⟩
theorem Un.write (mu:CZ (H x))(he:e=x\/H e=some (.own x))(k:∀b u,b≠e->h.get? b=some u->h'.get? b=some u)(Ck:∃u,h'.get? e=some u):Un fs ex H (d4 H x o) h h':=by
 have hx:∀b,H b=none->b≠x:=λb n z=>by subst z;rw[n]at mu;exact mu
 have hb:∀b,H b=none->b≠e:=λb n z=>by
  subst z
  rcases he with r|r
  ·exact hx b n r
  ·rw[n]at r;cases r
 have hm:∀b u,H b=some u->¬CZ (some u)->b≠x:=λb u q nm z=>by subst z;rw[q]at mu;exact nm mu
 refine⟨λb u q n _ _=>k b u (hb b n) q,λb u q n _ _=>⟨u.slots,k b u (hb b n) q⟩,λb u q n _=>by rw[yo (hx b n)];exact n,λb u q _=>?_,
  λb xs q=>by rw[yo (hm b _ q λz=>z)];exact q,λb u xs q=>by rw[yo (hm b _ q λz=>z)];exact q,λb ps q=>⟨#[],by rw[yo (hm b _ q λz=>z),q];simp⟩⟩
 by_cases A0:b=e
 ·subst A0;exact Ck
 ·exact⟨u,k b u A0 q⟩
end
def J2 (h:bc)(H:Hp):List ai:=(aw h.objs.size).filter λa=>(H a).isSome
def oW (h:bc)(H:Hp):bc:=PySem.W.hideAll h (J2 h H)
theorem zlo (h:bc)(H:Hp):(oW h H).objs.size=h.objs.size:=PySem.W.hideAll_size _ _
theorem zom {h:bc}{H:Hp}{b:ai}{o:d8}(e:h.get? b=some o)(n:H b=none):(oW h H).get? b=some o :=
 PySem.W.hideAll_get _ e λhm=>by
  have q:(H b).isSome=true:=(bB.mp hm).2
  rw[n]at q;simp at q
theorem zrk {h:bc}{H:Hp}{b:ai}{o:d8}(e:(oW h H).get? b=some o):h.get? b=some o/\H b=none:=by
 have e':h.get? b=some o:=PySem.W.of_hideAll (J2 h H) e
 refine⟨e',?_⟩
 cases q:H b with
 |none=>rfl
 |some x=>
  have hm:b∈J2 h H:=bB.mpr ⟨bM.mpr (aR e'),by simp[q]⟩
  have z:(oW h H).get? b=none:=PySem.W.hideAll_none (J2 h H) hm
  rw[z]at e;cases e
def wQ (g h:bc)(L:ai):List (ai×d8):=(aw h.objs.size).filterMap λa=>if a=L\/(g.get? a).isSome=true then none else(h.get? a).map λo=>(a,o)
def rest (g h:bc)(L d:ai):List (ai×d8):=(wQ g h L).filter λp=>decide (p.1≠d)
end L2
namespace L2
open PySem PySem.Spec PyProof.Rows
structure Mod (K:ae)(mg:aX->Option af)(base:bc):Prop where
 kin:K.In base
 glob:base.Ns ar mg
 blt:∃mb,base.Ns xY mb/\∀x:aX,x≠"__name__"->mb x=bO x
 nolimit:base.NoLimit
structure Cx where
 prog:bJ
 w:cw
 K:ae
 mg:aX->Option af
 base:bc
 A:bX
 N:List aX
 s₀:ap
 H₀:Hp
 env:Env
 outer:List Env
 stack:List Env
 ex:List ai
 fn:aX->Bool
 calm:Bool
 pn:List (ai×d8)
 xe:af->ap->Prop
def uE (l:List Env):List ai:=l.filterMap (·.frame)
abbrev Cx.fs (X:Cx):List ai:=uE X.outer
def qF (sc:gH)(x:aX):Prop:=sc.names.lookup x=some .local\/sc.names.lookup x=some .cell\/sc.names.lookup x=some .free
def Loc (sc:gH)(x:aX):Prop:=sc.names.lookup x=some .local\/sc.names.lookup x=some .cell
def Look (env:Env)(h:bc)(m:aX->Option af)(x:aX)(u:af):Prop :=
 (env.kindOf x=some .local/\m x=some u)\/((env.kindOf x=some .cell\/env.kindOf x=some .free)/\∃c,env.cells.lookup x=some c/\h.IsCell c (some u))
structure Cx.Ok (X:Cx):Prop where
 mod:Mod X.K X.mg X.base
 kind:X.env.scope.kind=.function
 glob:X.env.globals=ar
 blt:X.env.builtins=xY
 above:X.s₀.heap.objs.size<=X.env.locals
 inj:∀x y c,X.env.cells.lookup x=some c->X.env.cells.lookup y=some c->x=y
 has:∀x,(X.env.kindOf x=some .cell\/X.env.kindOf x=some .free)->∃c,X.env.cells.lookup x=some c
 cab:∀x c,X.fn x=true->X.env.cells.lookup x=some c->X.s₀.heap.objs.size<=c
 hd:X.calm=true->X.A.handled=none
 frames:X.A.frames=some X.stack
 stk:X.stack=X.outer\/(X.stack=X.env::X.outer/\X.env.frame=some X.env.locals)
 exf:∀b∈X.ex,b≠X.env.locals/\∀x c,X.env.cells.lookup x=some c->c≠b
 bs:∀b o,X.base.get? b=some o->X.s₀.heap.get? b=some o/\X.H₀ b=none
 bsz:X.base.objs.size<=X.s₀.heap.objs.size
 noex:∀b o,X.base.get? b=some o->b∉X.ex
 exfs:∀b∈X.ex,b∉X.fs
 funs:X.s₀.heap.FunFrames X.base X.outer
 frf:∀b∈X.fs,X.H₀ b=none
structure Inv (X:Cx)(am:List (ai×d8))(σ:List (Option V))(H:Hp)(s:ap):Prop where
 ok:X.Ok
 os:s.os=X.s₀.os
 bare:AllBare s.gens
 base:Un X.fs X.ex X.H₀ H X.s₀.heap s.heap
 loc:∃m,s.heap.Ns X.env.locals m/\∀(i:Nat) (x:aX) (v:V),X.N[i]?=some x->σ[i]?=some (some v)->qF X.env.scope x->∃u,RelV v u/\Look X.env s.heap m x u
 cell:∀x c,X.env.cells.lookup x=some c->∃v,s.heap.IsCell c v
 free:H X.env.locals=none
 freeC:∀x c,X.env.cells.lookup x=some c->H c=none
 pin:∀p∈X.pn++am,s.heap.get? p.1=some p.2/\H p.1=none/\p.1≠X.env.locals/\p.1∉X.fs/\∀v,p.2.data≠.cell v
 hok:kK X.prog X.w H s.heap
 len:σ.length=X.N.length
section
variable {X:Cx}{am:List (ai×d8)}{σ:List (Option V)}{H H':Hp}{s:ap}{h':bc}
theorem Cx.Ok.nofr (ok:X.Ok){b:ai}{o:d8}(e:X.base.get? b=some o):b∉X.fs:=λhb=>by
 have:=(ok.funs.mem hb).1
 rw[e]at this;cases this
theorem Inv.bs (I:Inv X am σ H s):∀b o,X.base.get? b=some o->s.heap.get? b=some o/\H b=none:=λb o e=>
 ⟨I.base.keep b o (I.ok.bs b o e).1 (I.ok.bs b o e).2 (I.ok.nofr e) (I.ok.noex b o e),I.base.free b o (I.ok.bs b o e).1 (I.ok.bs b o e).2 (I.ok.noex b o e)⟩
theorem Inv.bk (I:Inv X am σ H s):∀b o,X.base.get? b=some o->s.heap.get? b=some o:=λb o e=>(I.bs b o e).1
theorem Inv.mod (I:Inv X am σ H s):Mod X.K X.mg X.base:=I.ok.mod
theorem Inv.kIn (I:Inv X am σ H s):X.K.In s.heap:=I.ok.mod.kin.keeps I.bk
theorem Inv.fr (I:Inv X am σ H s):∃m,Fr X.base X.env.locals s.heap m :=
 let⟨m,hn,_⟩:=I.loc
 ⟨m,hn,I.bk,cB I.ok.bsz I.ok.above⟩
theorem Inv.lt (I:Inv X am σ H s):X.env.locals<s.heap.objs.size:=let⟨_,hn,_⟩:=I.loc;hn.lt
theorem Inv.sz (I:Inv X am σ H s):X.s₀.heap.objs.size<=s.heap.objs.size:=cB I.ok.above (ma I.lt)
theorem Inv.nofs (I:Inv X am σ H s){a:ai}(h:s.heap.objs.size<=a):a∉X.fs:=λhb=>by
 obtain⟨_,o,ho,_⟩:=I.ok.funs.mem hb
 exact absurd (bp (aR ho) (cB I.sz h)) (eJ _)
theorem Inv.cne (I:Inv X am σ H s):∀x c,X.env.cells.lookup x=some c->c≠X.env.locals:=λx c e z=>by
 obtain⟨v,o,ho,hd⟩:=I.cell x c e
 obtain⟨m,⟨o',es,ep,uL,Fs,_⟩,_⟩:=I.loc
 rw[z,uL]at ho;cases ho;rw[Fs]at hd;cases hd
theorem Inv.funs (I:Inv X am σ H s):s.heap.FunFrames X.base X.outer:=by
 have all:∀(l:List Env),(∀b∈uE l,b∈X.fs)->X.s₀.heap.FunFrames X.base l->s.heap.FunFrames X.base l:=by
  intro l
  induction l with
  |nil=>intro _ _;trivial
  |cons env r ih=>
   intro hs hl
   obtain⟨hk,⟨L,o,hf,hn,ho,hd⟩,hr⟩:=hl
   have hL:L∈X.fs:=hs L (by unfold uE;rw[ku,hf];exact aa)
   obtain⟨sl,e⟩:=I.base.slot L o ho (I.ok.frf L hL) hL λz=>I.ok.exfs L z hL
   exact⟨hk,⟨L,_,hf,hn,e,hd⟩,ih (λb hb=>hs b (by unfold uE;rw[ku,hf];exact aj _ hb)) hr⟩
 exact all X.outer (λ_ hb=>hb) I.ok.funs
theorem Inv.stack (I:Inv X am σ H s):s.heap.FunFrames X.base X.stack:=by
 rcases I.ok.stk with e|⟨e,hf⟩
 ·rw[e];exact I.funs
 ·rw[e]
  obtain⟨m,hn,_⟩:=I.loc
  refine .cons (by rw[I.ok.kind];decide) hf hn ?_ I.funs
  exact bc.get?_none_of_le (cB I.ok.bsz I.ok.above)
theorem Inv.stkSub (I:Inv X am σ H s):∀b∈uE X.stack,b∈X.env.locals::X.fs:=λb hb=>by
 rcases I.ok.stk with e|⟨e,hf⟩
 ·rw[e]at hb;exact aj _ hb
 ·rw[e]at hb
  unfold uE at hb
  rw[ku,hf]at hb
  exact hb
theorem Inv.stkFree (I:Inv X am σ H s):∀b∈uE X.stack,H b=none:=λb hb=>by
 rcases aF.mp (I.stkSub b hb)with e|hb
 ·rw[e];exact I.free
 ·obtain⟨_,o,ho,_⟩:=I.ok.funs.mem hb
  exact I.base.free b o ho (I.ok.frf b hb) λz=>I.ok.exfs b z hb
theorem Inv.step {g':Array GenState}{t':Nat}{d':Drawn}{ch:List ai}(I:Inv X am σ H s)
  (kY:∀b∈ch,(b∈X.ex\/X.s₀.heap.objs.size<=b)/\b≠X.env.locals/\(∀x c,X.env.cells.lookup x=some c->c≠b)/\∀p∈X.pn++am,p.1≠b)
  (keep:∀b o,b≠X.env.locals->b∉X.fs->b∉ch->s.heap.get? b=some o->H b=none->h'.get? b=some o)
  (slot:∀b o,b≠X.env.locals->b∈X.fs->b∉ch->s.heap.get? b=some o->H b=none->∃sl,h'.get? b=some { o with slots:=sl }) (free:∀b o,b∉ch->s.heap.get? b=some o->H b=none->H' b=none)
  (there:∀b o,b∉ch->s.heap.get? b=some o->∃o',h'.get? b=some o')
  (tups:∀b xs,H b=some (.tup xs)->H' b=some (.tup xs)) (frzs:∀b o u,H b=some (.frz o u)->H' b=some (.frz o u)) (tbls:∀b ps,H b=some (.tbl ps)->∃more,H' b=some (.tbl (ps++more)))
  (ns:∀m,s.heap.Ns X.env.locals m->h'.Ns X.env.locals m) (hok:kK X.prog X.w H' h') (hg:AllBare g') :
  Inv X am σ H' { s with heap:=h',gens:=g',drawn:=d',toks:=t' }:=by
 have Re:∀b o,X.s₀.heap.get? b=some o->b≠X.env.locals:=λb o e=>bE (bp (aR e) I.ok.above)
 have JU:∀b o,X.s₀.heap.get? b=some o->b∉X.ex->b∉ch:=λb o e hx hb=>by
  rcases(kY b hb).1 with z|z
  ·exact hx z
  ·exact absurd (bp (aR e) z) (eJ _)
 have cellK:∀x c,X.env.cells.lookup x=some c->∀v,s.heap.IsCell c v->h'.IsCell c v:=λx c e v ⟨o,ho,hd⟩=>by
  have G4:c∉ch:=λz=>(kY c z).2.2.1 x c e rfl
  by_cases hc:c∈X.fs
  ·obtain⟨sl,q⟩:=slot c o (I.cne x c e) hc G4 ho (I.freeC x c e)
   exact⟨_,q,hd⟩
  ·exact⟨o,keep c o (I.cne x c e) hc G4 ho (I.freeC x c e),hd⟩
 refine⟨I.ok,I.os,hg,⟨λb o e n hb hx=>?_,λb o e n hb hx=>?_,λb o e n hx=>?_,λb o e hx=>?_,λb xs e=>tups b xs (I.base.tups b xs e),λb o xs e=>frzs b o xs (I.base.frzs b o xs e),λb ps e=>?_⟩,?_,λx c e=>?_,?_,λx c e=>?_,λp hp=>?_,hok,I.len⟩
 ·exact keep b o (Re b o e) hb (JU b o e hx) (I.base.keep b o e n hb hx) (I.base.free b o e n hx)
 ·obtain⟨sl,e1⟩:=I.base.slot b o e n hb hx
  obtain⟨ZP,e2⟩:=slot b _ (Re b o e) hb (JU b o e hx) e1 (I.base.free b o e n hx)
  exact⟨ZP,e2⟩
 ·obtain⟨o',e1⟩:=I.base.there b o e hx
  exact free b o' (JU b o e hx) e1 (I.base.free b o e n hx)
 ·obtain⟨o',e1⟩:=I.base.there b o e hx
  exact there b o' (JU b o e hx) e1
 ·obtain⟨m1,e1⟩:=I.base.tbls b ps e
  obtain⟨m2,e2⟩:=tbls b _ e1
  exact⟨m1++m2,by rw[e2,Array.append_assoc]⟩
 ·obtain⟨m,hn,hl⟩:=I.loc
  refine⟨m,ns m hn,λi x v e1 e2 e3=>?_⟩
  obtain⟨u,r,l⟩:=hl i x v e1 e2 e3
  refine⟨u,r,?_⟩
  rcases l with l|⟨k,c,e,z⟩
  ·exact .inl l
  ·exact .inr ⟨k,c,e,cellK x c e _ z⟩
 ·obtain⟨v,z⟩:=I.cell x c e
  exact⟨v,cellK x c e v z⟩
 ·obtain⟨m,⟨o,_,_,ho,_⟩,_⟩:=I.loc
  exact free _ o (λz=>(kY _ z).2.1 rfl) ho I.free
 ·obtain⟨v,o,ho,hd⟩:=I.cell x c e
  exact free c o (λz=>(kY c z).2.2.1 x c e rfl) ho (I.freeC x c e)
 ·obtain⟨e,n,ne,nf,d⟩:=I.pin p hp
  have G4:p.1∉ch:=λz=>(kY p.1 z).2.2.2 p hp rfl
  exact⟨keep p.1 p.2 ne nf G4 e n,free p.1 p.2 G4 e n,ne,nf,d⟩
theorem Inv.un {t':Nat}(I:Inv X am σ H s)(u:Un X.fs [] H H' s.heap h')(hok:kK X.prog X.w H' h'):Inv X am σ H' { s with heap:=h',toks:=t' }:=by
 obtain⟨m,⟨o,es,ep,ho,r⟩,_⟩:=id I.loc
 obtain⟨sl,hL⟩:=u.any ho I.free (by simp)
 exact I.step (g':=s.gens) (d':=s.drawn) (ch:=[]) (λ_ z=>nomatch z) (λb o _ hb _ e n=>u.keep b o e n hb (by simp)) (λb o _ hb _ e n=>u.slot b o e n hb (by simp)) (λb o _ e n=>u.free b o e n (by simp)) (λb o _ e=>u.there b o e (by simp)) u.tups u.frzs u.tbls (λm' hm=>by
  obtain⟨o',LA,Lz,uL,r'⟩:=hm
  rw[ho]at uL;cases uL
  exact⟨_,LA,Lz,hL,r'⟩) hok I.bare
theorem Inv.call {g':Array GenState}{t':Nat}{d':Drawn}{ch:List ai}(I:Inv X am σ H s)(u:Un (uE X.stack) ch H H' s.heap h')(hok:kK X.prog X.w H' h')(hg:AllBare g')
  (kY:∀b∈ch,(b∈X.ex\/X.s₀.heap.objs.size<=b)/\b≠X.env.locals/\(∀x c,X.env.cells.lookup x=some c->c≠b)/\∀p∈X.pn++am,p.1≠b) :
  Inv X am σ H' { s with heap:=h',gens:=g',drawn:=d',toks:=t' }:=by
 obtain⟨m,⟨o,es,ep,ho,r⟩,_⟩:=id I.loc
 obtain⟨sl,hL⟩:=u.any ho I.free λz=>(kY _ z).2.1 rfl
 exact I.step (ch:=ch) kY (λb o hL hb hc e n=>u.keep b o e n (λz=>(aF.mp (I.stkSub b z)).elim hL hb) hc) (λb o _ _ hc e n=>u.any e n hc) (λb o hc e n=>u.free b o e n hc) (λb o hc e=>u.there b o e hc) u.tups u.frzs u.tbls (λm' hm=>by
  obtain⟨o',LA,Lz,uL,r'⟩:=hm
  rw[ho]at uL;cases uL
  exact⟨_,LA,Lz,hL,r'⟩) hok hg
theorem Inv.turned {t':Nat}{it:ai}(I:Inv X am σ H s)(k:∀b o,b≠it->s.heap.get? b=some o->h'.get? b=some o)(hn:H it=none)(hL:it≠X.env.locals)
  (h1:it∈X.ex\/X.s₀.heap.objs.size<=it) (h2:∀x c,X.env.cells.lookup x=some c->c≠it) (h3:∀p∈X.pn++am,p.1≠it):Inv X am σ H { s with heap:=h',toks:=t' }:=by
 have Rf:∀b u,H b=some u->b≠it:=λb u e z=>by rw[z,hn]at e;cases e
 refine I.step (g':=s.gens) (d':=s.drawn) (ch:=[it]) (λb hb=>?_) (λb o _ _ hc e _=>k b o (λz=>hc (by simp[z])) e) (λb o _ _ hc e _=>⟨o.slots,k b o (λz=>hc (by simp[z])) e⟩) (λ_ _ _ _ n=>n)
  (λb o hc e=>⟨o,k b o (λz=>hc (by simp[z])) e⟩) (λ_ _ e=>e) (λ_ _ _ e=>e) (λb ps e=>⟨#[],by rw[e];simp⟩) (λm hm=>?_) (λb u e=>?_) I.bare
 ·have e:b=it:=by simpa using hb
  subst e
  exact⟨h1,hL,h2,h3⟩
 ·obtain⟨o,es,ep,ho,r⟩:=hm
  exact⟨o,es,ep,k _ o (Ne.symm hL) ho,r⟩
 ·refine(I.hok b u e).stay (λc v hc q=>k c v ?_ q) (λ_ q=>q) λ_ _ q=>q
  rcases hc with z|z
  ·rw[z];exact Rf b u e
  ·exact Rf c _ z
theorem Inv.tok (I:Inv X am σ H s)(t:Nat):Inv X am σ H { s with toks:=t }:=I.un (h':=s.heap) (t':=t) Un.refl I.hok
theorem Inv.kept {t':Nat}(I:Inv X am σ H s)(k:∀b u,s.heap.get? b=some u->h'.get? b=some u):Inv X am σ H { s with heap:=h',toks:=t' }:=I.un (Un.kept k) (I.hok.kept k)
theorem Inv.laid {a:ai}{o:HO}{t':Nat}(I:Inv X am σ H s)(k:∀b u,s.heap.get? b=some u->h'.get? b=some u)(hp:s.heap.objs.size<=a)(new:eu X.prog X.w (d4 H a o) h' a o) :
  Inv X am σ (d4 H a o) { s with heap:=h',toks:=t' }:=I.un (Un.laid k hp (I.hok.fresh hp)) (I.hok.laid k hp new)
theorem Inv.write {x e:ai}{o:HO}{t':Nat}(I:Inv X am σ H s)(mu:CZ (H x))(he:e=x\/H e=some (.own x))(k:∀b u,b≠e->s.heap.get? b=some u->h'.get? b=some u)(Ck:∃u,h'.get? e=some u)
  (new:eu X.prog X.w (d4 H x o) h' x o):Inv X am σ (d4 H x o) { s with heap:=h',toks:=t' }:=I.un (Un.write mu he k Ck) (I.hok.write mu he k Ck new)
theorem Inv.weak {σ':List (Option V)}(I:Inv X am σ H s)(hl:σ'.length = σ.length)(w:∀(i:Nat) v,σ'[i]?=some (some v)->σ[i]?=some (some v)):Inv X am σ' H s :=
 ⟨I.ok,I.os,I.bare,I.base,let⟨m,hn,Bd⟩:=I.loc;⟨m,hn,λi x v e1 e2 e3=>Bd i x v e1 (w i v e2) e3⟩,I.cell,I.free,I.freeC,I.pin,I.hok,hl.trans I.len⟩
theorem Inv.pins_of {yS:List (ai×d8)}(I:Inv X am σ H s)(h:∀p∈yS,s.heap.get? p.1=some p.2/\H p.1=none/\p.1≠X.env.locals/\p.1∉X.fs/\∀v,p.2.data≠.cell v):Inv X yS σ H s :=
 ⟨I.ok,I.os,I.bare,I.base,I.loc,I.cell,I.free,I.freeC,λp hp=>(bg.mp hp).elim (λz=>I.pin p (bx _ z)) (h p),I.hok,I.len⟩
theorem Td {N:List aX}(hN:N.Nodup){i j:Nat}{x:aX}(a:N[i]?=some x)(b:N[j]?=some x):i=j:=by
 obtain⟨h1,e1⟩:=aW.mp a
 obtain⟨h2,e2⟩:=aW.mp b
 exact(mG hN).mp (e1.trans e2.symm)
theorem Sr {M:Model}{A:bX}{E:af->ap->Prop}{i:Nat}{x:aX}{v:V}{u:af}{Q:Unit->ap->Prop}(I:Inv X am σ H s)(hN:X.N.Nodup)(hi:X.N[i]?=some x)(hx:Loc X.env.scope x)(r:RelV v u)
  (h:∀s',Inv X am (σ.set i (some v)) H s'->(∃a,hX a s.heap s'.heap/\(a=X.env.locals\/X.env.cells.lookup x=some a))->Q () s') (hf:X.fn x=true\/X.env.scope.names.lookup x=some .local:=by first|exact .inl rfl|exact .inr rfl|assumption):bj M A (storeName X.env x u) Q E s:=by
 obtain⟨m,hn,hl⟩:=id I.loc
 have MJ:(X.env.scope.kind==.class || (X.env.scope.kind==.module&&X.env.locals != X.env.globals))=false:=by rw[I.ok.kind];rfl
 have QP:i < σ.length:=by rw[I.len];exact(aW.mp hi).1
 have cne:=I.cne
 have tracked:∀{a:ai} {h':bc},(∃o,s.heap.get? a=some o/\H a=none)->hX a s.heap h'->kK X.prog X.w H h':=λ{a h'} ha hs b ob e=>by
  obtain⟨_,_,yI⟩:=ha
  refine(I.hok b ob e).stay (λc w' hc q=>(hs.2 c ?_).trans q) (λ_ q=>q) λ_ _ q=>q
  rintro rfl
  rcases hc with rfl|hc
  ·rw[yI]at e;cases e
  ·rw[yI]at hc;cases hc
 rcases hx with hk|hk
 ·refine wpAny_storeName_local hk hn (λh' FG hs=>?_) MJ
  obtain⟨oL,_,_,Xz,_⟩:=id hn
  refine h _ ⟨I.ok,I.os,I.bare,⟨λb o e n hb hx=>?_,λb o e n hb hx=>?_,I.base.free,λb o e hx=>?_,I.base.tups,I.base.frzs,I.base.tbls⟩,⟨_,FG,λj y v' e1 e2 e3=>?_⟩,λy c e=>?_,I.free,I.freeC,λp hp=>?_,tracked ⟨oL,Xz,I.free⟩ hs,by simpa using I.len⟩ ⟨_,hs,.inl rfl⟩
  ·exact(hs.2 b (bE (bp (aR e) I.ok.above))).trans (I.base.keep b o e n hb hx)
  ·obtain⟨sl,e1⟩:=I.base.slot b o e n hb hx
   exact⟨sl,(hs.2 b (bE (bp (aR e) I.ok.above))).trans e1⟩
  ·obtain⟨o',e1⟩:=I.base.there b o e hx
   exact⟨o',(hs.2 b (bE (bp (aR e) I.ok.above))).trans e1⟩
  ·by_cases hj:j=i
   ·subst hj
    rw[hi]at e1;cases e1
    rw[jD QP]at e2
    cases e2
    exact⟨u,r,.inl ⟨hk,by simp⟩⟩
   ·rw[df (Ne.symm hj)]at e2
    obtain⟨u',r',q⟩:=hl j y v' e1 e2 e3
    refine⟨u',r',?_⟩
    rcases q with⟨k,e⟩|⟨k,c,e,z⟩
    ·refine .inl ⟨k,?_⟩
     have:y≠x:=λe=>hj (Td hN e1 (e▸hi))
     simp[this,e]
    ·exact .inr ⟨k,c,e,z.sameBut hs (cne y c e)⟩
  ·obtain⟨w',z⟩:=I.cell y c e
   exact⟨w',z.sameBut hs (cne y c e)⟩
  ·obtain⟨e,n,ne,nf,d⟩:=I.pin p hp
   exact⟨(hs.2 p.1 ne).trans e,n,ne,nf,d⟩
 ·have Cm:X.fn x=true:=by
   rcases hf with z|z
   ·exact z
   ·rw[z]at hk;cases hk
  obtain⟨c,hc⟩:=I.ok.has x (.inl hk)
  obtain⟨w',z⟩:=I.cell x c hc
  refine wpAny_storeName_cell I.ok.kind hk hc z (λh' yH hs=>?_)
  obtain⟨oc,QT,MW⟩:=id z
  refine h { s with heap:=h' } ⟨I.ok,I.os,I.bare,⟨λb o e n hb hx=>?_,λb o e n hb hx=>?_,I.base.free,λb o e hx=>?_,I.base.tups,I.base.frzs,I.base.tbls⟩,⟨m,hn.sameBut hs (Ne.symm (cne x c hc)),λj y v' e1 e2 e3=>?_⟩,λy c' e=>?_,I.free,I.freeC,λp hp=>?_,tracked ⟨oc,QT,I.freeC x c hc⟩ hs,by simpa using I.len⟩ ⟨c,hs,.inr hc⟩
  ·exact(hs.2 b (bE (bp (aR e) (I.ok.cab x c Cm hc)))).trans (I.base.keep b o e n hb hx)
  ·obtain⟨sl,e1⟩:=I.base.slot b o e n hb hx
   exact⟨sl,(hs.2 b (bE (bp (aR e) (I.ok.cab x c Cm hc)))).trans e1⟩
  ·obtain⟨o',e1⟩:=I.base.there b o e hx
   exact⟨o',(hs.2 b (bE (bp (aR e) (I.ok.cab x c Cm hc)))).trans e1⟩
  ·by_cases hj:j=i
   ·subst hj
    rw[hi]at e1;cases e1
    rw[jD QP]at e2
    cases e2
    exact⟨u,r,.inr ⟨.inl hk,c,hc,yH⟩⟩
   ·rw[df (Ne.symm hj)]at e2
    obtain⟨u',r',q⟩:=hl j y v' e1 e2 e3
    refine⟨u',r',?_⟩
    rcases q with q|⟨k,c',e,z'⟩
    ·exact .inl q
    ·refine .inr ⟨k,c',e,z'.sameBut hs ?_⟩
     rintro rfl
     exact hj (Td hN e1 (I.ok.inj _ _ _ e hc▸hi))
  ·by_cases QI:c'=c
   ·subst QI;exact⟨_,yH⟩
   ·obtain⟨w2,z2⟩:=I.cell y c' e
    exact⟨w2,z2.sameBut hs QI⟩
  ·obtain⟨e,n,ne,nf,d⟩:=I.pin p hp
   refine⟨(hs.2 p.1 ?_).trans e,n,ne,nf,d⟩
   intro q
   rw[q,QT]at e
   have q':oc=p.2:=Option.some.inj e
   exact d w' (by rw[←q'];exact MW)
theorem IN {M:Model}{A:bX}{E:af->ap->Prop}{i:Nat}{x:aX}{v:V}{u:af}{Q:Unit->ap->Prop}(I:Inv X am σ H s)(hN:X.N.Nodup)(hi:X.N[i]?=some x)(hx:Loc X.env.scope x)(r:RelV v u)
  (h:∀s',Inv X am (σ.set i (some v)) H s'->Q () s') (hf:X.fn x=true\/X.env.scope.names.lookup x=some .local:=by first|exact .inl rfl|exact .inr rfl|assumption):bj M A (storeName X.env x u) Q E s :=
 Sr I hN hi hx r (λs' I' _=>h s' I') hf
theorem Inv.call' {s':ap}{ch:List ai}(I:Inv X am σ H s)(ho:s'.os=s.os)(u:Un (uE X.stack) ch H H' s.heap s'.heap)(hok:kK X.prog X.w H' s'.heap)(hg:AllBare s'.gens)
  (kY:∀b∈ch,(b∈X.ex\/X.s₀.heap.objs.size<=b)/\b≠X.env.locals/\(∀x c,X.env.cells.lookup x=some c->c≠b)/\∀p∈X.pn++am,p.1≠b):Inv X am σ H' s':=by
 obtain⟨h',g',d',t',o'⟩:=s'
 have e:o'=s.os:=ho
 subst e
 exact I.call (g':=g') (t':=t') (d':=d') u hok hg kY
end
abbrev XK:=af->Option ai->Hp->Prop
abbrev St:=List (Option V)
abbrev VK:=V->Hp->Prop
abbrev TE:=St->Hp->VK->Prop
abbrev TT:=St->Hp->(Bool->Hp->Prop)->Prop
abbrev TA:=St->Hp->(List V->Hp->Prop)->Prop
structure lQ where
 nx:St->Hp->Prop
 rt:VK
 bk:St->Hp->Prop:=λ_ _=>False
 ct:St->Hp->Prop:=λ_ _=>False
abbrev TS:=lQ->St->Hp->Prop
def EP (X:Cx)(am:List (ai×d8))(σ:St)(Q:VK)(u:af)(s':ap):Prop:=∃v H',Inv X am σ H' s'/\RelV v u/\Q v H'
def TP (X:Cx)(am:List (ai×d8))(σ:St)(Q:Bool->Hp->Prop)(b:Bool)(s':ap):Prop:=∃H',Inv X am σ H' s'/\Q b H'
def AP (X:Cx)(am:List (ai×d8))(σ:St)(Q:List V->Hp->Prop)(us:List af)(s':ap):Prop:=∃vs H',Inv X am σ H' s'/\ck vs us/\Q vs H'
def SP (X:Cx)(am:List (ai×d8))(D:lQ)(f:Flow)(s':ap):Prop :=
 match f with
 |.next=>∃σ' H',Inv X am σ' H' s'/\D.nx σ' H'
 |.brk=>∃σ' H',Inv X am σ' H' s'/\D.bk σ' H'
 |.cont=>∃σ' H',Inv X am σ' H' s'/\D.ct σ' H'
 |.ret u=>∃v σ' H',Inv X am σ' H' s'/\RelV v u/\D.rt v H'
def PE (X:Cx)(e:Expr)(t:TE):Prop :=
 ∀(am:List (ai×d8)) (s:ap) (σ:St) (H:Hp) (Q:VK),Inv X am σ H s->t σ H Q->bj (bi X.prog X.w) X.A (bY e X.env) (EP X am σ Q) X.xe s
def PT (X:Cx)(e:Expr)(t:TT):Prop :=
 ∀(am:List (ai×d8)) (s:ap) (σ:St) (H:Hp) (Q:Bool->Hp->Prop),Inv X am σ H s->t σ H Q->bj (bi X.prog X.w) X.A (tK e X.env (bY e X.env)) (TP X am σ Q) X.xe s
def PW (X:Cx)(e:Expr)(t:TT):Prop :=
 ∀(whole:pE af) (am:List (ai×d8)) (s:ap) (σ:St) (H:Hp) (Q:Bool->Hp->Prop),Inv X am σ H s->t σ H Q->bj (bi X.prog X.w) X.A (tK e X.env whole) (TP X am σ Q) X.xe s
theorem PW.pt {X:Cx}{e:Expr}{t:TT}(h:PW X e t):PT X e t:=h _
def PA (X:Cx)(es:List Expr)(t:TA):Prop :=
 ∀(pos:dF) (am:List (ai×d8)) (s:ap) (σ:St) (H:Hp) (Q:List V->Hp->Prop),Inv X am σ H s->t σ H Q->bj (bi X.prog X.w) X.A (spliced (cQ pos (ay es X.env))) (AP X am σ Q) X.xe s
def PS (X:Cx)(st:bT)(t:TS):Prop :=
 ∀(am:List (ai×d8)) (s:ap) (σ:St) (H:Hp) (D:lQ),Inv X am σ H s->t D σ H->bj (bi X.prog X.w) X.A (exec st X.env) (SP X am D) X.xe s
def qY (X:Cx)(st:List bT)(t:TS):Prop :=
 ∀(am:List (ai×d8)) (s:ap) (σ:St) (H:Hp) (D:lQ),Inv X am σ H s->t D σ H->bj (bi X.prog X.w) X.A (execs st X.env) (SP X am D) X.xe s
theorem dC {α:Type}{t:pE α}{Q Q':α->ap->Prop}{M:Model}{A:bX}{E:af->ap->Prop}{s:ap}(h:bj M A t Q E s)(hQ:∀a s,Q a s->Q' a s):bj M A t Q' E s:=dZ h hQ λ_ _ x=>x
end L2
namespace L2
open PySem PySem.Spec PyProof.Rows
section
variable {X:Cx}
theorem bin {a b:Expr}{ta tb:TE}(ha:PE X a ta)(hb:PE X b tb){am:List (ai×d8)}{s:ap}{σ:St}{H:Hp}{R:V->V->Hp->Prop}(I:Inv X am σ H s)(h:ta σ H λx H1=>tb σ H1 λy H2=>R x y H2)
  {α:Type} {Q:α->ap->Prop} {f:af->af->pE α}
  (hf:∀v u s2 x y H2,Inv X am σ H2 s2->RelV x v->RelV y u->R x y H2->bj (bi X.prog X.w) X.A (f v u) Q X.xe s2) :
  bj (bi X.prog X.w) X.A (bY a X.env) (λv s₁=>bj (bi X.prog X.w) X.A (bY b X.env) (λu s₂=>bj (bi X.prog X.w) X.A (f v u) Q X.xe s₂) X.xe s₁) X.xe s:=by
 refine dC (ha am s σ H _ I h) λv s1 ⟨x,H1,I1,r1,q1⟩=>?_
 refine dC (hb am s1 σ H1 _ I1 q1) λu s2 ⟨y,H2,I2,r2,q2⟩=>?_
 exact hf v u s2 x y H2 I2 r1 r2 q2
def NV (i:Nat):TE:=λσ H Q=>∃v,σ[i]?=some (some v)/\Q v H
def tC (v:V):TE:=λ_ H Q=>Q v H
theorem sY {i:Nat}{x:aX}{pos:dF}(hN:X.N[i]?=some x)(hv:qF X.env.scope x)(hd:(x==("__debug__":aX))=false:=by decide)(jT:(x==("__classdict__":aX))=false:=by decide):PE X (.Name x pos) (NV i):=by
 intro am s σ H Q I h
 obtain⟨v,e,h⟩:=h
 obtain⟨m,hn,hl⟩:=I.loc
 obtain⟨u,r,l⟩:=hl i x v hN e hv
 have fin:EP X am σ Q u s:=⟨v,H,I,r,h⟩
 rcases l with⟨hk,hm⟩|⟨hk,c,hc,rQ⟩
 ·exact yB (wpAny_loadName_local I.ok.kind hk hn hm fin) hd
 ·rcases hk with hk|hk
  ·exact yB (wpAny_loadName_cell I.ok.kind hk hc rQ fin) hd
  ·exact yB (wpAny_loadName_free I.ok.kind hk hc rQ fin jT) hd
theorem zt9 {i j pos}:PE X (.Constant (.int i) j pos) (tC (.int i)):=λ_ _ _ H _ I h=>wpAny_Constant_int ⟨.int i,H,I.tok _,⟨_,rfl⟩,h⟩
theorem zwe {b j pos}:PE X (.Constant (.bool b) j pos) (tC (.bl b)):=λ_ _ _ H _ I h=>Constant_bool ⟨.bl b,H,I,rfl,h⟩
theorem zua {j pos}:PE X (.Constant .none j pos) (tC .non):=λ_ _ _ H _ I h=>Constant_none ⟨.non,H,I,rfl,h⟩
theorem zub {x j pos}:PE X (.Constant (.str x) j pos) (tC (.str x)):=λ_ _ _ H _ I h=>Calls.Constant_str ⟨.str x,H,I.tok _,⟨_,rfl⟩,h⟩
def Gl (X:Cx)(x:aX):Prop:=X.env.kindOf x=some .globalImplicit
theorem Kx {E:af->ap->Prop}{am:List (ai×d8)}{s:ap}{σ:St}{H:Hp}{x:aX}{u:af}{pos:dF}{Q:af->ap->Prop}(I:Inv X am σ H s)(hg:Gl X x)(hm:X.mg x=some u)(h:Q u s)
  (hd:(x==("__debug__":aX))=false:=by decide):bj (bi X.prog X.w) X.A (bY (.Name x pos) X.env) Q E s :=
 Calls.Name_function_global I.ok.kind hg (Calls.loadGlobal_global (by rw[I.ok.glob];exact I.mod.glob.keeps I.bk) hm h) hd
theorem xR {E:af->ap->Prop}{am:List (ai×d8)}{s:ap}{σ:St}{H:Hp}{x:aX}{u:af}{pos:dF}{Q:af->ap->Prop}(I:Inv X am σ H s)(hg:Gl X x)(hm:X.mg x=none)(hv:bO x=some u)(h:Q u s)
  (hn:x≠"__name__":=by decide) (hd:(x==("__debug__":aX))=false:=by decide):bj (bi X.prog X.w) X.A (bY (.Name x pos) X.env) Q E s:=by
 obtain⟨mb,h1,h2⟩:=I.mod.blt
 exact Calls.Name_function_global I.ok.kind hg (Calls.loadGlobal_builtin (by rw[I.ok.glob];exact I.mod.glob.keeps I.bk) hm (by rw[I.ok.blt];exact h1.keeps I.bk) ((h2 x hn).trans hv) h) hd
theorem TQ {x:aX}{v:V}{u:af}{pos:dF}(hg:Gl X x)(hm:X.mg x=some u)(r:RelV v u)(hd:(x==("__debug__":aX))=false:=by decide):PE X (.Name x pos) (tC v) :=
 λ_ _ _ H _ I h=>Kx I hg hm ⟨v,H,I,r,h⟩ hd
theorem zrl {x:aX}{v:V}{u:af}{pos:dF}(hg:Gl X x)(hm:X.mg x=none)(hv:bO x=some u)(r:RelV v u)(hn:x≠"__name__":=by decide)(hd:(x==("__debug__":aX))=false:=by decide):PE X (.Name x pos) (tC v) :=
 λ_ _ _ H _ I h=>xR I hg hm hv ⟨v,H,I,r,h⟩ hn hd
variable {a b:Expr}{ta tb:TE}{pos:dF}
def PC (X:Cx)(op:kx)(a b:Expr)(t:TE):Prop :=
 ∀(am:List (ai×d8)) (s:ap) (σ:St) (H:Hp) (Q:VK),Inv X am σ H s->t σ H Q ->
  bj (bi X.prog X.w) X.A (bY a X.env) (λv s₁=>bj (bi X.prog X.w) X.A (bY b X.env) (λu s₂=>bj (bi X.prog X.w) X.A (cu op v u) (EP X am σ Q) X.xe s₂) X.xe s₁) X.xe s
theorem uT (b:Expr){op:kx}(h:op≠.In)(h2:op≠.NotIn):dO op b=false:=by
 have e1:(op==kx.In)=false:=by cases op<;>first|rfl|exact absurd rfl h
 have e2:(op==kx.NotIn)=false:=by cases op<;>first|rfl|exact absurd rfl h2
 cases b<;>simp[dO,e1,e2]
def tB (t:TE):TT:=λσ H Q=>t σ H λx H1=>∃c,x=.bl c/\Q c H1
theorem UO {op:kx}{t:TE}(h:PC X op a b t)(h1:dO op b=false:=by first|exact uT _ (by decide) (by decide)|rfl):PT X (.Compare a [op] [b] pos) (tB t):=by
 intro am s σ H Q I hw
 refine wpAny_isTrue_Compare1 (dC (h am s σ H _ I hw) λv s1 h1=>dC h1 λu s2 h2=>dC h2 λc s3 ⟨x,H1,I1,r1,q1⟩=>?_) h1
 obtain⟨d,rfl,q⟩:=q1
 cases r1
 exact dz ⟨H1,I1,q⟩
theorem zuc {e:Expr}{t:TE}(h:PE X e t)(he:∀whole,tK e X.env whole=(do let v ← whole;iM e.pos;fq [v] (truthy v)):=by intro _;rfl):PT X e (tB t):=by
 intro am s σ H Q I hw
 refine isTrue_plain (dC (h am s σ H _ I hw) λv s1 ⟨x,H1,I1,r1,q1⟩=>?_) (he _)
 obtain⟨d,rfl,q⟩:=q1
 cases r1
 exact dz ⟨H1,I1,q⟩
variable {tA JY:TT}{rest:List Expr}
def NH (t u:TT):TT:=λσ H Q=>t σ H λc H1=>if c=true then u σ H1 Q else Q false H1
def tOr (t u:TT):TT:=λσ H Q=>t σ H λc H1=>if c=true then Q true H1 else u σ H1 Q
def NP (t:TT):TT:=λσ H Q=>t σ H λc H1=>Q (!c) H1
theorem zrm (ha:PT X a tA):PW X (.BoolOp .And [a] pos) tA:=by
 intro wh am s σ H Q I h
 refine isTrue_and (dC (ha am s σ H Q I h) λc s1 e=>?_)
 cases c with
 |true=>exact isTrue_and_nil e
 |false=>exact e
theorem zud (ha:PT X a tA):PW X (.BoolOp .Or [a] pos) tA:=by
 intro wh am s σ H Q I h
 refine isTrue_or (dC (ha am s σ H Q I h) λc s1 e=>?_)
 cases c with
 |false=>exact isTrue_or_nil e
 |true=>exact e
theorem zue (ha:PT X a tA)(hb:PW X (.BoolOp .And (b::rest) pos) JY):PW X (.BoolOp .And (a::b::rest) pos) (NH tA JY):=by
 intro wh am s σ H Q I h
 refine isTrue_and (dC (ha am s σ H _ I h) λc s1 ⟨H1,I1,q1⟩=>?_)
 cases c with
 |true=>exact hb wh am s1 σ H1 Q I1 q1
 |false=>exact⟨H1,I1,q1⟩
theorem zwf (ha:PT X a tA)(hb:PW X (.BoolOp .Or (b::rest) pos) JY):PW X (.BoolOp .Or (a::b::rest) pos) (tOr tA JY):=by
 intro wh am s σ H Q I h
 refine isTrue_or (dC (ha am s σ H _ I h) λc s1 ⟨H1,I1,q1⟩=>?_)
 cases c with
 |true=>exact⟨H1,I1,q1⟩
 |false=>exact hb wh am s1 σ H1 Q I1 q1
theorem zuf (ha:PT X a tA):PT X (.UnaryOp .Not a pos) (NP tA):=by
 intro am s σ H Q I h
 exact isTrue_not (ha am s σ H (λc H1=>Q (!c) H1) I h)
def Ii (ta tb:TE):TE:=λσ H Q=>ta σ H λx H1=>∃c,x=.bl c/\if c=true then tb σ H1 Q else Q (.bl false) H1
def NQ (ta tb:TE):TE:=λσ H Q=>ta σ H λx H1=>∃c,x=.bl c/\if c=true then Q (.bl true) H1 else tb σ H1 Q
def Iu (ta:TE):TE:=λσ H Q=>ta σ H λx H1=>∃c,x=.bl c/\Q (.bl (!c)) H1
theorem zug {op}{t:TE}(h:PE X a t):PE X (.BoolOp op [a] pos) t:=λam s σ H Q I hw=>BoolOp_one (h am s σ H Q I hw)
theorem zuh (ha:PE X a ta)(hb:PE X (.BoolOp .And (b::rest) pos) tb):PE X (.BoolOp .And (a::b::rest) pos) (Ii ta tb):=by
 intro am s σ H Q I h
 refine BoolOp_and (dC (ha am s σ H _ I h) λv s1 ⟨x,H1,I1,r1,q1⟩=>?_)
 obtain⟨c,rfl,q1⟩:=q1
 cases r1
 refine dz ?_
 cases c with
 |true=>exact hb am s1 σ H1 Q I1 q1
 |false=>exact⟨.bl false,H1,I1,rfl,q1⟩
theorem zwg (ha:PE X a ta)(hb:PE X (.BoolOp .Or (b::rest) pos) tb):PE X (.BoolOp .Or (a::b::rest) pos) (NQ ta tb):=by
 intro am s σ H Q I h
 refine BoolOp_or (dC (ha am s σ H _ I h) λv s1 ⟨x,H1,I1,r1,q1⟩=>?_)
 obtain⟨c,rfl,q1⟩:=q1
 cases r1
 refine dz ?_
 cases c with
 |false=>exact hb am s1 σ H1 Q I1 q1
 |true=>exact⟨.bl true,H1,I1,rfl,q1⟩
theorem zui (ha:PE X a ta):PE X (.UnaryOp .Not a pos) (Iu ta):=by
 intro am s σ H Q I h
 refine UnaryOp_ (dC (ha am s σ H _ I h) λv s1 ⟨x,H1,I1,r1,q1⟩=>?_)
 obtain⟨c,rfl,q1⟩:=q1
 cases r1
 exact not_of (dz ⟨.bl (!c),H1,I1,rfl,q1⟩)
def tIf (t:TT)(ta tb:TE):TE:=λσ H Q=>t σ H λc H1=>if c=true then ta σ H1 Q else tb σ H1 Q
theorem zon {c:Expr}(hc:PT X c tA)(ha:PE X a ta)(hb:PE X b tb):PE X (.IfExp c a b pos) (tIf tA ta tb):=by
 intro am s σ H Q I h
 refine wpAny_IfExp (dC (hc am s σ H _ I h) λd s1 ⟨H1,I1,q1⟩=>?_)
 cases d with
 |true=>exact ha am s1 σ H1 Q I1 q1
 |false=>exact hb am s1 σ H1 Q I1 q1
end
end L2
namespace L2
open PySem PySem.Spec PyProof.Rows
def fX (K:ae)(H:Hp)(a:ai)(xs:List V):Prop :=
 Rd H a (.lst xs) \/
  ∃(o:d8) (cv:Array af) (n:Nat),K.lookup a=some o/\o.cls=.type "list"/\o.dict=none/\o.data=.seq cv n/\cv.size<=sizeLine/\ck xs cv.toList
def kX (K:ae)(H:Hp)(a:ai)(xs:List V):Prop :=
 Rd H a (.tup xs) \/
  ∃(o:d8) (cv:Array af) (n:Nat),K.lookup a=some o/\o.cls=.type "tuple"/\o.data=.seq cv n/\cv.size<=sizeLine/\ck xs cv.toList
def La:af->Option V
 |.none=>some .non
 |.bool b=>some (.bl b)
 |.int i _=>some (.int i)
 |.str x _=>some (.str x)
 |.bytes b _=>some (.byt b)
 |.float b _=>some (.flt b)
 |.ref a=>some (.ref a)
 |.type n=>some (.ty n)
 |_=>none
theorem RelV.abs {x:V}{u:af}(r:RelV x u):La u=some x:=by
 cases x with
 |non=>cases r;rfl
 |bl _=>cases r;rfl
 |int _=>obtain⟨t,rfl⟩:=r;rfl
 |str _=>obtain⟨t,rfl⟩:=r;rfl
 |byt _=>obtain⟨t,rfl⟩:=r;rfl
 |flt _=>obtain⟨t,rfl⟩:=r;rfl
 |ref _=>cases r;rfl
 |ty _=>cases r;rfl
theorem RelV.inj {x y:V}{u:af}(r:RelV x u)(q:RelV y u):x=y:=Option.some.inj (r.abs.symm.trans q.abs)
theorem ck.inj:∀{xs ys:List V} {us:List af},ck xs us->ck ys us->xs=ys
 |_,_,_,.nil,.nil=>rfl
 |_,_,_,.cons r t,.cons r' t'=>by rw[r.inj r',ck.inj t t']
section
variable {X:Cx}{am:List (ai×d8)}{σ:St}{H:Hp}{s:ap}{a:ai}{xs ys:List V}
theorem fX.of {K:ae}(h:H a=some (.lst xs)):fX K H a xs:=.inl (.inl h)
theorem kX.of {K:ae}(h:H a=some (.tup xs)):kX K H a xs:=.inl (.inl h)
theorem Inv.list (I:Inv X am σ H s)(h:fX X.K H a xs):∃cv:List af,ck xs cv/\PlainL s.heap a cv.toArray/\xs.length<=sizeLine:=by
 rcases h with h|⟨o,cv,n,hk,hc,hd,hs,hz,r⟩
 ·obtain⟨z,cv,n,r,e⟩:=h.ok I.hok
  exact⟨cv,r,⟨_,n,e,rfl,rfl,rfl⟩,z⟩
 ·refine⟨cv.toList,r,⟨o,n,I.kIn a o hk,hc,hd,by simpa using hs⟩,?_⟩
  have e:=r.length
  simp only[cN]at e
  omega
theorem Inv.tuple (I:Inv X am σ H s)(h:kX X.K H a xs):∃cv:List af,ck xs cv/\IsTup s.heap a cv.toArray/\xs.length<=sizeLine:=by
 rcases h with h|⟨o,cv,n,hk,hc,hs,hz,r⟩
 ·obtain⟨z,cv,r,p⟩:=h.ok I.hok
  exact⟨cv,r,p,z⟩
 ·refine⟨cv.toList,r,⟨o,I.kIn a o hk,hc,n,by simpa using hs⟩,?_⟩
  have e:=r.length
  simp only[cN]at e
  omega
theorem Inv.list_inj (I:Inv X am σ H s)(h:fX X.K H a xs)(h':fX X.K H a ys):xs=ys:=by
 obtain⟨cv,r,⟨o,n,e,_,_,d⟩,_⟩:=I.list h
 obtain⟨its',r',⟨o',n',e',_,_,d'⟩,_⟩:=I.list h'
 rw[e]at e';cases e'
 rw[d]at d'
 injection d' with d1 _
 have:cv=its':=by simpa using congrArg Array.toList d1
 subst this
 exact r.inj r'
end
abbrev Cx.wish (X:Cx)(E:af->ap->Prop):Cx:={ X with xe:=E }
abbrev Cx.nox (X:Cx):Cx:=X.wish λ_ _=>False
theorem Cx.Ok.wish {X:Cx}(ok:X.Ok)(E:af->ap->Prop):(X.wish E).Ok :=
 ⟨ok.mod,ok.kind,ok.glob,ok.blt,ok.above,ok.inj,ok.has,ok.cab,ok.hd,ok.frames,ok.stk,ok.exf,ok.bs,ok.bsz,ok.noex,ok.exfs,ok.funs,ok.frf⟩
theorem Cx.Ok.unwish {X:Cx}{E:af->ap->Prop}(ok:(X.wish E).Ok):X.Ok :=
 ⟨ok.mod,ok.kind,ok.glob,ok.blt,ok.above,ok.inj,ok.has,ok.cab,ok.hd,ok.frames,ok.stk,ok.exf,ok.bs,ok.bsz,ok.noex,ok.exfs,ok.funs,ok.frf⟩
section
variable {X:Cx}{am:List (ai×d8)}{σ:St}{H:Hp}{s:ap}{E:af->ap->Prop}
theorem Inv.wish (I:Inv X am σ H s)(E:af->ap->Prop):Inv (X.wish E) am σ H s:=⟨I.ok.wish E,I.os,I.bare,I.base,I.loc,I.cell,I.free,I.freeC,I.pin,I.hok,I.len⟩
theorem Inv.unwish (I:Inv (X.wish E) am σ H s):Inv X am σ H s:=⟨I.ok.unwish,I.os,I.bare,I.base,I.loc,I.cell,I.free,I.freeC,I.pin,I.hok,I.len⟩
theorem SP.unwish {D:lQ}{f:Flow}{s':ap}(h:SP (X.wish E) am D f s'):SP X am D f s':=by
 cases f with
 |next=>obtain⟨σ',H',I,q⟩:=h;exact⟨σ',H',I.unwish,q⟩
 |brk=>obtain⟨σ',H',I,q⟩:=h;exact⟨σ',H',I.unwish,q⟩
 |cont=>obtain⟨σ',H',I,q⟩:=h;exact⟨σ',H',I.unwish,q⟩
 |ret u=>obtain⟨v,σ',H',I,r,q⟩:=h;exact⟨v,σ',H',I.unwish,r,q⟩
theorem qY.nox {st:List bT}{t:TS}(h:qY X.nox st t):qY X st t:=λam s σ H D I hw=>
 dZ (h am s σ H D (I.wish _) hw) (λ_ _ q=>q.unwish) λ_ _ z=>False.elim z
end
section
variable {X:Cx}{st:bT}{rest:List bT}{t u:TS}{e:Expr}{te:TE}{pos:dF}
def Iq:TS:=λD σ H=>D.nx σ H
def NT (t u:TS):TS:=λD σ H=>t { D with nx:=u D } σ H
theorem zrn:qY X [] Iq:=λ_ _ σ H _ I h=>ky ⟨σ,H,I,h⟩
theorem Te (h1:PS X st t)(h2:qY X rest u):qY X (st::rest) (NT t u):=by
 intro am s σ H D I h
 refine wpAny_execs_cons (dC (h1 am s σ H { D with nx:=u D } I h) λf s1 q=>?_)
 cases f with
 |next=>
  obtain⟨σ',H',I',q⟩:=q
  exact h2 am s1 σ' H' D I' q
 |ret v=>exact q
 |brk=>exact q
 |cont=>exact q
theorem TR (h1:PS X st t):qY X [st] t:=by
 intro am s σ H D I h
 refine wpAny_execs_cons (dC (h1 am s σ H D I h) λf s1 q=>?_)
 cases f with
 |next=>exact ky q
 |ret v=>exact q
 |brk=>exact q
 |cont=>exact q
theorem Inv.quiet {am:List (ai×d8)}{σ:St}{H:Hp}{s:ap}(I:Inv X am σ H s):interactive X.env=false:=by simp[interactive,I.ok.kind]
def Im (te:TE):TS:=λD σ H=>te σ H λ_ H1=>D.nx σ H1
theorem O6 (he:PE X e te)(hs:eh e none pos.line X.env=pure false:=by rfl):PS X (.Expr e pos) (Im te):=by
 intro am s σ H D I h
 exact wpAny_Expr_any (dC (he am s σ H _ I h) λv s1 ⟨x,H1,I1,r1,q1⟩=>⟨σ,H1,I1,q1⟩) I.quiet hs
def NS (te:TE):TS:=λD σ H=>te σ H D.rt
theorem Po (he:PE X e te):PS X (.Return (some e) pos) (NS te):=by
 intro am s σ H D I h
 exact wpAny_Return_some (dC (he am s σ H _ I h) λv s1 ⟨x,H1,I1,r1,q1⟩=>⟨x,σ,H1,I1,r1,q1⟩)
def NN (c:TT)(t u:TS):TS:=λD σ H=>c σ H λb H1=>if b=true then t D σ H1 else u D σ H1
theorem zwh {c:Expr}{a b:List bT}{tc:TT}(hc:PT X c tc)(ha:qY X a t)(hb:qY X b u):PS X (.If c a b pos) (NN tc t u):=by
 intro am s σ H D I h
 refine wpAny_If (dC (hc am s σ H _ I h) λd s1 ⟨H1,I1,q1⟩=>?_)
 cases d with
 |true=>exact ha am s1 σ H1 D I1 q1
 |false=>exact hb am s1 σ H1 D I1 q1
def BS:TS:=λ_ _ _=>False
theorem zoo:PS X st BS:=λ_ _ _ _ _ _ h=>h.elim
end
abbrev TG:=V->St->Hp->(St->Hp->Prop)->Prop
abbrev yD:=List V->St->Hp->(St->Hp->Prop)->Prop
def PG (X:Cx)(target:Expr)(t:TG):Prop :=
 ∀(am:List (ai×d8)) (s:ap) (σ:St) (H:Hp) (v:V) (u:af) (Q:St->Hp->Prop),Inv X am σ H s->RelV v u->t v σ H Q ->
  bj (bi X.prog X.w) X.A (iS target X.env u) (λ_ s'=>∃σ' H',Inv X am σ' H' s'/\Q σ' H') X.xe s
def Cb (X:Cx)(ts:List Expr)(t:yD):Prop :=
 ∀(am:List (ai×d8)) (s:ap) (σ:St) (H:Hp) (vs:List V) (us:List af) (Q:St->Hp->Prop),Inv X am σ H s->ck vs us->t vs σ H Q ->
  bj (bi X.prog X.w) X.A (assignInOrder ((dw ts X.env).map (·.2)) us) (λ_ s'=>∃σ' H',Inv X am σ' H' s'/\Q σ' H') X.xe s
abbrev uB:=V->V->V->Hp->(Hp->Prop)->Prop
def zT (X:Cx)(t:uB):Prop :=
 ∀(am:List (ai×d8)) (s:ap) (σ:St) (H:Hp) (o i v:V) (ov iv u:af) (Q:Hp->Prop),Inv X am σ H s->RelV o ov->RelV i iv->RelV v u->t o i v H Q ->
  bj (bi X.prog X.w) X.A (pF ov iv u) (λ_ s'=>∃H',Inv X am σ H' s'/\Q H') X.xe s
abbrev Cd:=V->V->Hp->VK->Prop
def Cc (X:Cx)(op:jZ)(t:Cd):Prop :=
 ∀(am:List (ai×d8)) (s:ap) (σ:St) (H:Hp) (x y:V) (v u:af) (Q:VK),Inv X am σ H s->RelV x v->RelV y u->t x y H Q ->
  bj (bi X.prog X.w) X.A (inplaceOp op v u) (EP X am σ Q) X.xe s
section
variable {X:Cx}{pos:dF}
def rO (i:Nat):TG:=λv σ H Q=>Q (σ.set i (some v)) H
theorem TU {i:Nat}{x:aX}(hN:X.N.Nodup)(hi:X.N[i]?=some x)(hx:Loc X.env.scope x)(hf:X.fn x=true\/X.env.scope.names.lookup x=some .local:=by first|exact .inl rfl|exact .inr rfl|assumption):PG X (.Name x pos) (rO i):=by
 intro am s σ H v u Q I r h
 exact wpAny_assign_Name (IN I hN hi hx r (λs' I'=>⟨_,H,I',h⟩) hf)
def Mp:yD:=λvs σ H Q=>vs=[]/\Q σ H
def Fi (t:TG)(u:yD):yD:=λvs σ H Q=>∃v r,vs=v::r/\t v σ H λσ' H'=>u r σ' H' Q
theorem TV:Cb X [] Mp:=by
 intro am s σ H vs us Q I r h
 obtain⟨e,h⟩:=h
 subst e
 cases r
 exact assignInOrder_nil ⟨σ,H,I,h⟩
theorem Tf {e:Expr}{es:List Expr}{t:TG}{u:yD}(h1:PG X e t)(h2:Cb X es u)
  (hs:(dw (e::es) X.env).map (·.2)=iS e X.env::(dw es X.env).map (·.2):=by rfl):Cb X (e::es) (Fi t u):=by
 intro am s σ H vs us Q I r h
 obtain⟨v,vr,e1,h⟩:=h
 subst e1
 cases r with
 |cons r rr=>
  rw[hs]
  refine assignInOrder_cons (dC (h1 am s σ H _ _ _ I r h) λ_ s1 ⟨σ1,H1,I1,q1⟩=>?_)
  exact h2 am s1 σ1 H1 _ _ Q I1 rr q1
def Mr (K:ae)(n:Nat)(t:yD):TG:=λv σ H Q=>∃a xs,v=.ref a/\kX K H a xs/\xs.length=n/\t xs σ H Q
theorem UP {es:List Expr}{k:Nat}{t:yD}{n:Nat}(hc:X.calm=true)(h:Cb X es t)
  (hn:(dw es X.env).length=n:=by rfl) (lK:(dw es X.env).findIdx? (·.1)=none:=by rfl):PG X (.Tuple es k pos) (Mr X.K n t):=by
 intro am s σ H v u Q I r hw
 obtain⟨a,xs,e1,hq,hl,hw⟩:=hw
 subst e1
 cases r
 obtain⟨cv,rv,ht,hz⟩:=I.tuple hq
 refine assign_Tuple_tuple (I.ok.hd hc) ht (by simp[hn,←hl,rv.length]) lK λh' hx=>?_
 have I1:Inv X am σ H { s with heap:=h' }:=I.kept (t':=s.toks) λb o e=>hx b o (bE (aR e)) e
 exact h am _ σ H xs _ Q I1 (by simpa using rv) hw
def Mq (to ti:TE)(t:uB):TG:=λv σ H Q=>to σ H λo H1=>ti σ H1 λi H2=>t o i v H2 λH3=>Q σ H3
theorem zuj {o i:Expr}{to ti:TE}{t:uB}(ho:PE X o to)(hi:PE X i ti)(hs:zT X t)
  (ha:∀v,iS (.Subscript o i pos) X.env v=(do
   let ov ← fq [v] (bY o X.env)
   let iv ← fq [v,ov] (bY i X.env)
   iM pos
   fq [v,ov,iv] (pF ov iv v)
   release [v,ov,iv] []):=by intro _;rfl):PG X (.Subscript o i pos) (Mq to ti t):=by
 intro am s σ H v u Q I r h
 rw[ha]
 refine aV (mI (dC (ho am s σ H _ I h) λov s1 ⟨x,H1,I1,r1,q1⟩=>?_))
 refine aV (mI (dC (hi am s1 σ H1 _ I1 q1) λiv s2 ⟨y,H2,I2,r2,q2⟩=>?_))
 refine aV (mJ (aV (mI (dC (hs am s2 σ H2 x y v ov iv u _ I2 r1 r2 r q2) λ_ s3 ⟨H3,I3,q3⟩=>?_))))
 exact wpAny_release ⟨σ,H3,I3,q3⟩
def BQ (te:TE)(g:TG):TS:=λD σ H=>te σ H λx H1=>g x σ H1 D.nx
theorem UQ {tg e:Expr}{te:TE}{g:TG}(he:PE X e te)(hg:PG X tg g)(hs:jL [tg] e pos.line X.env=pure false:=by rfl)(hw:jK [tg] e X.env=pure none:=by rfl)
  (h1:(dw [tg] X.env).map (·.2)=[iS tg X.env]:=by rfl):PS X (.Assign [tg] e pos) (BQ te g):=by
 intro am s σ H D I h
 refine wpAny_Assign_stores (dC (he am s σ H _ I h) λv s1 ⟨x,H1,I1,r1,q1⟩=>?_) hs hw
 rw[h1]
 exact dC (hg am s1 σ H1 x v _ I1 r1 q1) λ_ s2 q=>q
theorem UR {i:Nat}{x:aX}{e:Expr}{te:TE}{pos':dF}(hN:X.N.Nodup)(hi:X.N[i]?=some x)(hx:Loc X.env.scope x)(he:PE X e te)(hs:eh e (some (.Name x pos')) pos.line X.env=pure false:=by rfl)(hf:X.fn x=true\/X.env.scope.names.lookup x=some .local:=by first|exact .inl rfl|exact .inr rfl|assumption) :
  PS X (.Assign [.Name x pos'] e pos) (BQ te (rO i)):=by
 intro am s σ H D I h
 refine wpAny_Assign_Name (dC (he am s σ H _ I h) λv s1 ⟨y,H1,I1,r1,q1⟩=>?_) hs
 exact IN I1 hN hi hx r1 (λs2 I2=>⟨_,H1,I2,q1⟩) hf
def NR (i j:Nat)(ta:TA):TS:=λD σ H=>ta σ H λvs H1=>∃v w,vs=[v,w]/\D.nx ((σ.set i (some v)).set j (some w)) H1
theorem zuk {i j:Nat}{x y:aX}{a b:Expr}{ta:TA}{px py pt:dF}{kt k2 nE}(hc:X.calm=true)(hN:X.N.Nodup)(hi:X.N[i]?=some x)(hj:X.N[j]?=some y)(rR:i≠j)
    (hx:X.env.scope.names.lookup x=some .local) (hy:X.env.scope.names.lookup y=some .local) (ha:PA X [a,b] ta)
    (hw:jK [.Tuple [.Name x px,.Name y py] kt pt] (.Tuple [a,b] k2 nE) X.env=pure (some [x,y]))
    (hs:jL [.Tuple [.Name x px,.Name y py] kt pt] (.Tuple [a,b] k2 nE) pos.line X.env=pure false:=by rfl) :
    PS X (.Assign [.Tuple [.Name x px,.Name y py] kt pt] (.Tuple [a,b] k2 nE) pos) (NR i j ta):=by
  intro am s σ H D I h
  rw[exec_Assign_arm]
  refine aV (mJ ?_)
  rw[hs]
  refine aV (bZ ?_)
  rw[if_neg (by decide)]
  refine aV (Tuple_ (dC (ha _ am s σ H _ I h) λus s1 ⟨vs,H1,I1,r1,q1⟩=>?_))
  obtain⟨v,w,e1,q1⟩:=q1
  subst e1
  obtain⟨u1,u2,rfl,rv,oe⟩:∃u1 u2,us=[u1,u2]/\RelV v u1/\RelV w u2:=by
    cases r1 with
    |cons p q=>
      cases q with
      |cons p' q'=>
        cases q'
        exact⟨_,_,rfl,p,p'⟩
  refine nO ?_ (by show 2<=sizeLine;decide)
  have I2:Inv X am σ H1 { s1 with heap:=s1.heap.push { cls:=.type "tuple",data:=.seq [u1,u2].toArray } }:=I1.kept (t':=s1.toks) λb o e=>aJ _ e
  rw[hw]
  refine aV (bZ ?_)
  show bj (bi X.prog X.w) X.A (do rule "assign.swapped-stores";let items ← unpackItems (.ref s1.heap.objs.size) 2 none;assignInOrder [λv=>bindName X.env y v,λv=>bindName X.env x v] items.reverse;pure Flow.next) _ _ _
  refine aV (wpAny_rule (aV (unpackItems_tuple (items:=#[u1,u2]) (I.ok.hd hc) (IsTup.new s1.heap _) λh' Ct=>?_)))
  have I3:=I2.kept (h':=h') (t':=s1.toks) λb o e=>Ct b o (bE (aR e)) e
  show bj _ _ (assignInOrder [λv=>bindName X.env y v,λv=>bindName X.env x v] [u2,u1] >>= λ_=>pure Flow.next) _ _ _
  refine aV (assignInOrder_cons (wpAny_bindName (IN I3 hN hj (.inl hy) oe (λs2 I4=>?_) (.inr hy))))
  refine assignInOrder_cons (wpAny_bindName (IN I4 hN hi (.inl hx) rv (λs3 I5=>assignInOrder_nil (bZ ?_)) (.inr hx)))
  rw[List.set_comm _ _ (Ne.symm rR)]at I5
  exact⟨_,H1,I5,q1⟩
def NI (i:Nat)(te:TE)(ti:Cd):TS:=λD σ H=>∃x,σ[i]?=some (some x)/\te σ H λy H1=>ti x y H1 λz H2=>D.nx (σ.set i (some z)) H2
theorem zul {i:Nat}{x:aX}{e:Expr}{te:TE}{op:jZ}{ti:Cd}{pos':dF}(hN:X.N.Nodup)(hi:X.N[i]?=some x)(hx:Loc X.env.scope x)(he:PE X e te)(ho:Cc X op ti)(hf:X.fn x=true\/X.env.scope.names.lookup x=some .local:=by first|exact .inl rfl|exact .inr rfl|assumption) :
  PS X (.AugAssign (.Name x pos') op e pos) (NI i te ti):=by
 intro am s σ H D I h
 obtain⟨v,e1,h⟩:=h
 obtain⟨m,hn,hl⟩:=I.loc
 have vis:qF X.env.scope x:=by rcases hx with k|k;exact .inl k;exact .inr (.inl k)
 obtain⟨u,r,l⟩:=hl i x v hi e1 vis
 refine wpAny_AugAssign_Name ?_
 have go:bj (bi X.prog X.w) X.A (bY e X.env) (λw s₂=>bj (bi X.prog X.w) X.A (inplaceOp op u w) (λr s₃=>bj (bi X.prog X.w) X.A (storeName X.env x r) (λ_=>SP X am D .next) X.xe s₃) X.xe s₂) X.xe s:=by
  refine dC (he am s σ H _ I h) λw s1 ⟨y,H1,I1,r1,q1⟩=>?_
  refine dC (ho am s1 σ H1 v y u w _ I1 r r1 q1) λz s2 ⟨zv,H2,I2,r2,q2⟩=>?_
  exact IN I2 hN hi hx r2 (λs3 I3=>⟨_,H2,I3,q2⟩) hf
 rcases l with⟨hk,hm⟩|⟨hk,c,hc,rQ⟩
 ·exact wpAny_loadName_local I.ok.kind hk hn hm go
 ·rcases hk with hk|hk
  ·exact wpAny_loadName_cell I.ok.kind hk hc rQ go
  ·rcases hx with k|k
   ·have:X.env.scope.names.lookup x=some .free:=hk
    rw[k]at this;cases this
   ·have:X.env.scope.names.lookup x=some .free:=hk
    rw[k]at this;cases this
def Ij (to ti te:TE)(xM:V->V->Hp->VK->Prop)(J0:Cd)(xN:uB):TS:=λD σ H=>to σ H λo H1=>ti σ H1 λi H2=>xM o i H2 λx H3=>te σ H3 λy H4=>J0 x y H4 λz H5=>xN o i z H5 λH6=>D.nx σ H6
def C1 (X:Cx)(t:V->V->Hp->VK->Prop):Prop :=
 ∀(am:List (ai×d8)) (s:ap) (σ:St) (H:Hp) (o i:V) (ov iv:af) (Q:VK),Inv X am σ H s->RelV o ov->RelV i iv->t o i H Q ->
  bj (bi X.prog X.w) X.A (nL ov iv) (EP X am σ Q) X.xe s
theorem zro {o i e:Expr}{to ti te:TE}{xM:V->V->Hp->VK->Prop}{J0:Cd}{xN:uB}{op:jZ}{jA:dF}(ho:PE X o to)(hi:PE X i ti)(hg:C1 X xM)(he:PE X e te)(hp:Cc X op J0)(hs:zT X xN)
  (ha:∀ov iv new,augStore i ov iv new=(do fq [new,ov,iv] (pF ov iv new);release [new,ov,iv] [];pure .next):=by intros;rfl):PS X (.AugAssign (.Subscript o i jA) op e pos) (Ij to ti te xM J0 xN):=by
 intro am s σ H D I h
 refine wpAny_AugAssign_SubscriptAny (dC (ho am s σ H _ I h) λov s1 ⟨x1,H1,I1,r1,q1⟩=>?_) ha
 refine dC (hi am s1 σ H1 _ I1 q1) λiv s2 ⟨x2,H2,I2,r2,q2⟩=>?_
 refine dC (hg am s2 σ H2 x1 x2 ov iv _ I2 r1 r2 q2) λold s3 ⟨x3,H3,I3,r3,q3⟩=>?_
 refine dC (he am s3 σ H3 _ I3 q3) λv s4 ⟨x4,H4,I4,r4,q4⟩=>?_
 refine dC (hp am s4 σ H4 x3 x4 old v _ I4 r3 r4 q4) λnew s5 ⟨x5,H5,I5,r5,q5⟩=>?_
 exact dC (hs am s5 σ H5 x1 x2 x5 ov iv new _ I5 r1 r2 r5 q5) λ_ s6 ⟨H6,I6,q6⟩=>⟨σ,H6,I6,q6⟩
def JR (f:Int->Int->Int):Cd:=λx y H Q=>∃i j,x=.int i/\y=.int j/\Q (.int (f i j)) H
theorem Pp:Cc X .Add (JR λi j=>i+j):=by
 intro am s σ H x y v u Q I r1 r2 h
 obtain⟨i,j,e1,e2,q⟩:=h
 subst e1;subst e2
 obtain⟨t,rfl⟩:=r1
 obtain⟨t',rfl⟩:=r2
 exact iadd_int ⟨.int _,H,I.tok _,⟨_,rfl⟩,q⟩
theorem zum:Cc X .Sub (JR λi j=>i-j):=by
 intro am s σ H x y v u Q I r1 r2 h
 obtain⟨i,j,e1,e2,q⟩:=h
 subst e1;subst e2
 obtain⟨t,rfl⟩:=r1
 obtain⟨t',rfl⟩:=r2
 exact isub_int ⟨.int _,H,I.tok _,⟨_,rfl⟩,q⟩
end
section
variable {X:Cx}{pos:dF}
def BU (c:TT)(tb:TS):TS:=λD σ H=>∃W:Nat->St->Hp->Prop,(∃m,W m σ H)/\∀m σ H,W m σ H ->
 c σ H λb H1=>if b=true then∃N:St->Hp->Prop,(∀σ' H',N σ' H'->∃m',m'<m/\W m' σ' H')/\tb { D with nx:=N,ct:=N,bk:=D.nx } σ H1 else D.nx σ H1
theorem zop {c:Expr}{body:List bT}{tc:TT}{tb:TS}(hp:cn (bi X.prog X.w) X.A X.env X.xe)(hc:PT X c tc)(hb:qY X body tb):PS X (.While c body [] pos) (BU tc tb):=by
 intro am s σ H D I h
 obtain⟨W,⟨m0,w0⟩,cI⟩:=h
 refine wpAny_While (codeAny_whileLoop (λn s'=>∃σ' H',Inv X am σ' H' s'/\W n σ' H') ?_ m0 ⟨σ,H,I,w0⟩)
 rintro n s1 ⟨σ1,H1,I1,w1⟩
 refine fC hp (dC (hc am s1 σ1 H1 _ I1 (cI n σ1 H1 w1)) λb s2 ⟨H2,I2,q2⟩=>?_)
 cases b with
 |true=>
  obtain⟨N,hN,q2⟩:=q2
  rw[if_pos rfl]
  refine fC hp (dC (hb am s2 σ1 H2 _ I2 q2) λf s3 q3=>?_)
  cases f with
  |next=>
   obtain⟨σ3,H3,I3,n3⟩:=q3
   obtain⟨m',hm,w3⟩:=hN σ3 H3 n3
   exact⟨m',hm,σ3,H3,I3,w3⟩
  |cont=>
   obtain⟨σ3,H3,I3,n3⟩:=q3
   obtain⟨m',hm,w3⟩:=hN σ3 H3 n3
   exact⟨m',hm,σ3,H3,I3,w3⟩
  |brk=>exact q3
  |ret v=>exact q3
 |false=>
  rw[if_neg aQ]
  exact ky ⟨σ1,H2,I2,q2⟩
end
structure It where
 go:Nat->Hp->Prop
 yld:Nat->Hp->V->Hp->Prop
 stop:Nat->Hp->Prop
def kS (X:Cx)(am:List (ai×d8))(H:Hp)(b:ai):Prop :=
 H b=none/\b≠X.env.locals/\b∉X.fs/\(b∈X.ex\/X.s₀.heap.objs.size<=b)/\(∀x c,X.env.cells.lookup x=some c->c≠b)/\∀p∈X.pn++am,p.1≠b
theorem Inv.fpOk {X:Cx}{am:List (ai×d8)}{σ:St}{H H':Hp}{s:ap}{b:ai}(I:Inv X am σ H s)(hb:s.heap.objs.size<=b)(hn:H' b=none):kS X am H' b:=by
 refine⟨hn,Nat.ne_of_gt (bp I.lt hb),I.nofs hb,.inr (cB I.sz hb),λx c e z=>?_,λp hp z=>?_⟩
 ·obtain⟨v,q⟩:=I.cell x c e
  exact absurd (bp q.lt (by rw[z];exact hb)) (eJ _)
 ·exact absurd (bp (aR (I.pin p hp).1) (by rw[z];exact hb)) (eJ _)
structure Turn (P:bJ)(w:cw)(K:ae)(tg:Expr)(J:It)(fp:List ai)(it:ai)(tn:Nat->bc->Prop):Prop where
 mem:it∈fp
 obj:∀i h,tn i h->∀b∈fp,∃o,h.get? b=some o/\∀v,o.data≠.cell v
 keep:∀i h h',tn i h->(∀b∈fp,∀o,h.get? b=some o->h'.get? b=some o)->tn i h'
 item:∀(X:Cx),X.prog=P->X.w=w->X.K=K->X.calm=true->∀(i:Nat) (am:List (ai×d8)) (s:ap) (σ:St) (H:Hp) (E:af->ap->Prop),Inv X am σ H s->(∀b∈fp,kS X am H b)->tn i s.heap->J.go i H ->
  bj (bi P w) X.A (pyNext (.ref it)) (λr s1=>∃u,r=some u /\
   bj (bi P w) X.A (iA tg (.ref it) u) (λ_ s2=>∃x H',Inv X am σ H' s2/\RelV x u/\J.yld i H x H'/\tn (i+1) s2.heap/\∀b∈fp,H' b=none) E s1) E s
 done:∀(X:Cx),X.prog=P->X.w=w->X.K=K->X.calm=true->∀(i:Nat) (am:List (ai×d8)) (s:ap) (σ:St) (H:Hp) (E:af->ap->Prop),Inv X am σ H s->(∀b∈fp,kS X am H b)->tn i s.heap->J.stop i H ->
  bj (bi P w) X.A (pyNext (.ref it)) (λr s1=>r=none/\Inv X am σ H s1) E s
 self:∀(A:bX) (i:Nat) (s:ap) (Q:af->ap->Prop) (E:af->ap->Prop),tn i s.heap->Q (.ref it) s->bj (bi P w) A (pyIter (.ref it)) Q E s
abbrev TI:=St->Hp->(It->Hp->Prop)->Prop
def P0 (X:Cx)(am:List (ai×d8))(σ:St)(tg:Expr)(R:It->Hp->Prop)(JS:af)(s2:ap):Prop :=
 ∃(it:ai) (fp:List ai) (tn:Nat->bc->Prop) (J:It) (H':Hp),JS=.ref it/\Inv X am σ H' s2/\Turn X.prog X.w X.K tg J fp it tn/\tn 0 s2.heap/\(∀b∈fp,kS X am H' b)/\R J H'
def PI (X:Cx)(tg iter:Expr)(wi:TI):Prop :=
 ∀(am:List (ai×d8)) (s:ap) (σ:St) (H:Hp) (R:It->Hp->Prop),Inv X am σ H s->wi σ H R ->
  bj (bi X.prog X.w) X.A (bY iter X.env) (λv s1=>bj (bi X.prog X.w) X.A (pyIter v) (P0 X am σ tg R) X.xe s1) X.xe s
theorem PK {M:Model}{A:bX}{E:af->ap->Prop}{s:ap}{tg:Expr}{it:ai}{u:af}{o:d8}{n:String}{vs:Array af}{Q:Unit->ap->Prop}(ho:s.heap.get? it=some o)(hc:o.cls=.type n)(hd:o.data=.fields vs)
    (hn:["enumerate","zip","dict_itemiterator","dict_reverseitemiterator","odict_iterator","itertools.zip_longest","itertools.pairwise"].contains n=false) (hQ:Q () s):bj M A (iA tg (.ref it) u) Q E s:=by
  unfold iA
  cases tg<;>first
    |exact bZ hQ
    |(cases u<;>first
        |exact bZ hQ
        |(refine aV (wpAny_load ho ?_)
          rw[hc,hd]
          show bj M A (if(["enumerate","zip","dict_itemiterator","dict_reverseitemiterator","odict_iterator","itertools.zip_longest","itertools.pairwise"].contains n&&vs[0]?==some (rawInt _))=true then _ else _) Q E s
          rw[if_neg (by intro h;rw[hn,Bool.false_and]at h;cases h)]
          exact bZ hQ))
def K8 (K:ae)(a:ai):It :=
 ⟨λi H=>∃xs x,fX K H a xs/\xs[i]?=some x,λi H x H'=>H'=H/\∀xs,fX K H a xs->xs[i]?=some x,λi H=>∃xs,fX K H a xs/\xs.length<=i⟩
def Jj (lo:Int)(n:Nat):It:=⟨λi _=>i<n,λi H x H'=>H'=H/\x=.int (lo+i),λi _=>n<=i⟩
theorem zlv {P:bJ}{w:cw}{K:ae}{tg:Expr}(a it:ai):Turn P w K tg (K8 K a) [it] it (λi h=>h.IsListIter it a i) where
 mem:=by simp
 obj:=λi h st b hb=>by
  have e:b=it:=by simpa using hb
  subst e
  obtain⟨o,e,c,d⟩:=st
  exact⟨o,e,λv z=>by rw[d]at z;cases z⟩
 keep:=λi h h' st k=>st.at λo e=>k it (by simp) o e
 item:=by
  intro X hP hw hK hc i am s σ H E I hf st hg
  subst hP hw hK
  obtain⟨xs,x,hq,hx⟩:=hg
  obtain⟨cv,rv,p,hz⟩:=I.list hq
  obtain⟨u,hu,ru⟩:=rv.get hx
  obtain⟨f0,f1,f2,f3,f4,f5⟩:=hf it (by simp)
  refine wpAny_pyNext_list_item st p.isList (x:=u) (by simpa using hu) λh' tS sb=>?_
  have I1:Inv X am σ H { s with heap:=h' }:=I.turned (t':=s.toks) (λb o hb e=>(sb.2 b hb).trans e) f0 f1 f3 f4 f5
  obtain⟨o,e,c,d⟩:=id tS
  exact⟨u,rfl,PK (s:={ s with heap:=h' }) e c d (by decide) ⟨x,H,I1,ru,⟨rfl,λys hy=>by rw[I.list_inj hy hq];exact hx⟩,tS,λb hb=>(hf b hb).1⟩⟩
 done:=by
  intro X hP hw hK hc i am s σ H E I hf st hg
  subst hP hw hK
  obtain⟨xs,hq,hx⟩:=hg
  obtain⟨cv,rv,p,hz⟩:=I.list hq
  obtain⟨f0,f1,f2,f3,f4,f5⟩:=hf it (by simp)
  have hl:=rv.length
  exact wpAny_pyNext_list_end (I.ok.hd hc) st p.isList (by simp;omega) λh' eb=>⟨rfl,I.turned (t':=s.toks) (λb o hb e=>eb b o hb e) f0 f1 f3 f4 f5⟩
 self:=λ_ _ _ _ _ st h=>wpAny_pyIter_listiter st h
theorem zkw {P:bJ}{w:cw}{K:ae}{tg:Expr}(it:ai)(lo:Int)(n:Nat):Turn P w K tg (Jj lo n) [it] it (λi h=>IsRangeIter h it (lo+(i:Nat)*1) ((n:Int)-(i:Nat)) 1) where
 mem:=by simp
 obj:=λi h st b hb=>by
  have e:b=it:=by simpa using hb
  subst e
  exact⟨_,st,λv z=>by
   have z':kG.fields _=kG.cell v:=z
   cases z'⟩
 keep:=λi h h' st k=>k it (by simp) _ st
 item:=by
  intro X hP hw hK hc i am s σ H E I hf st hg
  subst hP hw hK
  obtain⟨f0,f1,f2,f3,f4,f5⟩:=hf it (by simp)
  have W:=Walks.range (prog:=X.prog) (w:=X.w) (I.ok.hd hc) it lo 1 n
  refine W.item i s _ _ hg st λv h' tk hv tS kk=>?_
  obtain⟨t,rfl⟩:=hv
  have I1:Inv X am σ H { s with heap:=h',toks:=tk }:=I.turned (λb o hb e=>kk b o (by simpa using hb) e) f0 f1 f3 f4 f5
  refine⟨_,rfl,PK (s:={ s with heap:=h',toks:=tk }) (n:="range_iterator") tS rfl rfl (by decide) ⟨.int (lo+i),H,I1,⟨t,?_⟩,⟨rfl,rfl⟩,tS,λb hb=>(hf b hb).1⟩⟩
  rw[mV]
 done:=by
  intro X hP hw hK hc i am s σ H E I hf st hg
  subst hP hw hK
  obtain⟨f0,f1,f2,f3,f4,f5⟩:=hf it (by simp)
  exact wpAny_pyNext_range_end (I.ok.hd hc) st (by have:n<=i:=hg;omega) λh' eb=>⟨rfl,I.turned (t':=s.toks) (λb o hb e=>eb b o hb e) f0 f1 f3 f4 f5⟩
 self:=λ_ _ _ _ _ st h=>wpAny_pyIter_rangeiter st h
end L2
namespace L2
open PySem PySem.Spec PyProof.Rows
section
variable {X:Cx}{tg:Expr}
def FW (K:ae)(tl:TE):TI:=λσ H R=>tl σ H λx H1=>∃a,x=.ref a/\(∃xs,fX K H1 a xs)/\R (K8 K a) H1
theorem TX {l:Expr}{tl:TE}(hl:PE X l tl):PI X tg l (FW X.K tl):=by
 intro am s σ H R I h
 refine dC (hl am s σ H _ I h) λv s1 ⟨x,H1,I1,r1,q1⟩=>?_
 obtain⟨a,e,⟨xs,hq⟩,q⟩:=q1
 subst e
 cases r1
 obtain⟨cv,rv,p,hz⟩:=I1.list hq
 refine wpAny_pyIter_list p.isList ?_
 refine⟨s1.heap.objs.size,[s1.heap.objs.size],_,_,H1,rfl,I1.kept (t':=s1.toks) λb o e=>aJ _ e,zlv a _,⟨_,bW _ rfl,rfl,rfl⟩,λb hb=>?_,q⟩
 have e:b=s1.heap.objs.size:=by simpa using hb
 subst e
 exact I1.fpOk (aM _) (I1.hok.fresh (aM _))
theorem zoq {am:List (ai×d8)}{σ:St}{H:Hp}{s:ap}{R:It->Hp->Prop}{E:af->ap->Prop}{lo hi:Int}{t u v:Tok}{tk:Nat}(I:Inv X am σ H s)(h1:-(2 ^ 62)<=lo)(h2:lo<2 ^ 62)(h3:-(2 ^ 62)<=hi)(h4:hi<2 ^ 62)
    (q:R (Jj lo (hi-lo).toNat) H):bj (bi X.prog X.w) X.A (pyIter (.ref s.heap.objs.size)) (P0 X am σ tg R) E { s with heap:=s.heap.push { cls:=.type "range",data:=.fields #[.int lo t,.int hi u,.int 1 v] },toks:=tk }:=by
  refine wpAny_pyIter_range (IsRange.new ..) (small_one h1 h2 h3 h4) ?_
  have I1:Inv X am σ H { s with heap:=s.heap.push { cls:=.type "range",data:=.fields #[.int lo t,.int hi u,.int 1 v] },toks:=tk }:=I.kept λb o e=>aJ _ e
  refine⟨(s.heap.push { cls:=.type "range",data:=.fields #[.int lo t,.int hi u,.int 1 v] }).objs.size,[(s.heap.push { cls:=.type "range",data:=.fields #[.int lo t,.int hi u,.int 1 v] }).objs.size],_,_,H,rfl,
    I1.kept (t':=tk) λb o e=>aJ _ e,zkw _ lo (hi-lo).toNat,?_,λb hb=>?_,q⟩
  · have e1:lo+((0:Nat):Int)*1=lo:=by simp
    have e2:(((hi-lo).toNat:Nat):Int)-((0:Nat):Int)=fV.Range.rangeSize lo hi 1:=by rw[rangeSize_one];split<;>omega
    show IsRangeIter _ _ (lo+((0:Nat):Int)*1) ((((hi-lo).toNat:Nat):Int)-((0:Nat):Int)) 1
    rw[e1,e2]
    exact bW _ rfl
  · have e:b=(s.heap.push { cls:=.type "range",data:=.fields #[.int lo t,.int hi u,.int 1 v] }).objs.size:=by simpa using hb
    subst e
    exact I1.fpOk (aM _) (I1.hok.fresh (aM _))
def FX (ta:TA):TI:=λσ H R=>ta σ H λvs H1=>∃j:Int,vs=[.int j]/\-(2 ^ 62)<=j/\j<2 ^ 62/\R (Jj 0 j.toNat) H1
theorem zlx {a:Expr}{ta:TA}{p pos:dF}(hg:Gl X "range")(hm:X.mg "range"=none)(ha:PA X [a] ta)(hs:ay [a] X.env=[(false,bY a X.env)]:=by rfl):PI X tg (.Call (.Name "range" p) [a] [] pos) (FX ta):=by
 intro am s σ H R I h
 refine Call_ (xR I hg hm boot_range (cK (dC (ha pos am s σ H _ I h) λus s1 ⟨vs,H1,I1,r1,q1⟩=>?_) hs rfl))
 obtain⟨j,e,q1,q2,q⟩:=q1
 subst e
 cases r1 with
 |cons r rr=>
  cases rr
  obtain⟨t,rfl⟩:=r
  exact call_range_1 (zoq I1 (by omega) (by omega) q1 q2 (by simpa using q))
def NM (wi:TI)(g:TG)(tb:TS):TS:=λD σ H=>wi σ H λJ H1=>∃W:Nat->Nat->St->Hp->Prop,(∃m,W 0 m σ H1)/\∀i m σ H,W i m σ H ->
 (J.stop i H/\D.nx σ H)\/(J.go i H/\∃N:St->Hp->Prop,(∀σ' H',N σ' H'->∃m',m'<m/\W (i+1) m' σ' H')/\∀x H',J.yld i H x H'->g x σ H' λσ2 H2=>tb { D with nx:=N,ct:=N,bk:=D.nx } σ2 H2)
def lW (fp:List ai)(h:bc):List (ai×d8):=fp.filterMap λb=>(h.get? b).map λo=>(b,o)
theorem qp {fp:List ai}{h:bc}{b:ai}{o:d8}(hb:b∈fp)(e:h.get? b=some o):(b,o)∈lW fp h:=sn.mpr ⟨b,hb,by rw[e];rfl⟩
theorem zly {fp:List ai}{h:bc}{p:ai×d8}(hp:p∈lW fp h):p.1∈fp/\h.get? p.1=some p.2:=by
 obtain⟨b,hb,e⟩:=sn.mp hp
 cases q:h.get? b with
 |none=>rw[q]at e;cases e
 |some o=>
  rw[q]at e
  have e':(b,o)=p:=Option.some.inj e
  subst e'
  exact⟨hb,q⟩
theorem Inv.pinned {am:List (ai×d8)}{σ:St}{H:Hp}{s:ap}{fp:List ai}(I:Inv X am σ H s)(hf:∀b∈fp,kS X am H b)(ho:∀b∈fp,∃o,s.heap.get? b=some o/\∀v,o.data≠.cell v):Inv X (am++lW fp s.heap) σ H s :=
 I.pins_of λp hp=>(bg.mp hp).elim (λz=>I.pin p (aH _ z)) λz=>by
  obtain⟨hb,e⟩:=zly z
  obtain⟨f0,f1,f2,_⟩:=hf p.1 hb
  obtain⟨o,e',d⟩:=ho p.1 hb
  rw[e]at e';cases e'
  exact⟨e,f0,f1,f2,d⟩
theorem Inv.unpinned {am pl:List (ai×d8)}{σ:St}{H:Hp}{s:ap}(I:Inv X (am++pl) σ H s):Inv X am σ H s:=I.pins_of λp hp=>I.pin p (aH _ (bx _ hp))
theorem zun {iter:Expr}{body:List bT}{wi:TI}{g:TG}{tb:TS}{pos:dF}(hp:cn (bi X.prog X.w) X.A X.env X.xe)(hc:X.calm=true)(hi:PI X tg iter wi)(hg:PG X tg g)(hb:qY X body tb)
  (hs:∀x,dX iter X.env x=pure x:=by intro _;rfl):PS X (.For tg iter body [] pos) (NM wi g tb):=by
 intro am s σ H D I h
 refine wpAny_For (dC (hi am s σ H _ I h) λv s1 h1=>dC h1 λJS s2 h2=>?_) hs
 obtain⟨it,fp,tn,J,H2,e,I2,T,vU,f2,W,⟨m0,w0⟩,cI⟩:=h2
 subst e
 have nF:∀{H':Hp},(∀b∈fp,H' b=none)->∀b∈fp,kS X am H' b:=λhn b hb=>⟨hn b hb,(f2 b hb).2⟩
 refine codeAny_forLoop_any (λn s'=>∃i σ' H',Inv X am σ' H' s'/\tn i s'.heap/\(∀b∈fp,H' b=none)/\W i n σ' H') ?_ m0 ⟨0,σ,H2,I2,vU,λb hb=>(f2 b hb).1,w0⟩
 rintro n s3 ⟨i,σ3,H3,I3,Rx,Jy,w3⟩
 rcases cI i n σ3 H3 w3 with⟨stop,qn⟩|⟨go,N,hN,step⟩
 ·refine fC hp (dC (T.done X rfl rfl rfl hc i am s3 σ3 H3 X.xe I3 (nF Jy) Rx stop) λr s4 ⟨hr,I4⟩=>?_)
  subst hr
  exact ky ⟨σ3,H3,I4,qn⟩
 ·refine fC hp (dC (T.item X rfl rfl rfl hc i am s3 σ3 H3 X.xe I3 (nF Jy) Rx go) λr s4 ⟨u,hr,h4⟩=>?_)
  subst hr
  refine fC hp (dC h4 λ_ s5 ⟨x,H5,I5,r5,y5,xI,AU⟩=>?_)
  have VR:=I5.pinned (nF AU) (T.obj _ _ xI)
  refine fC hp (dC (hg _ s5 σ3 H5 x u _ VR r5 (step x H5 y5)) λ_ s6 ⟨σ6,H6,I6,q6⟩=>?_)
  refine fC hp (dC (hb _ s6 σ6 H6 _ I6 q6) λf s7 q7=>?_)
  have again:∀{σ7:St} {H7:Hp},Inv X (am++lW fp s5.heap) σ7 H7 s7->N σ7 H7->∃m,m<n/\∃i σ' H',Inv X am σ' H' s7/\tn i s7.heap/\(∀b∈fp,H' b=none)/\W i m σ' H':=λ{σ7 H7} I7 n7=>by
   obtain⟨m',hm,w7⟩:=hN σ7 H7 n7
   refine⟨m',hm,i+1,σ7,H7,I7.unpinned,T.keep _ _ _ xI λb hb o e=>(I7.pin (b,o) (aH _ (aH _ (qp hb e)))).1,λb hb=>?_,w7⟩
   obtain⟨o,e,d⟩:=T.obj _ _ xI b hb
   exact(I7.pin (b,o) (aH _ (aH _ (qp hb e)))).2.1
  cases f with
  |next=>obtain⟨σ7,H7,I7,n7⟩:=q7;exact again I7 n7
  |cont=>obtain⟨σ7,H7,I7,n7⟩:=q7;exact again I7 n7
  |brk=>obtain⟨σ7,H7,I7,q7⟩:=q7;exact⟨σ7,H7,I7.unpinned,q7⟩
  |ret v=>obtain⟨x7,σ7,H7,I7,r7,q7⟩:=q7;exact⟨x7,σ7,H7,I7.unpinned,r7,q7⟩
end
end L2
namespace L2
open PySem PySem.Spec PyProof.Rows
abbrev R2:=V->V->Hp->VK->Prop
def gu (X:Cx)(f:af->af->pE af)(r:R2):Prop :=
 ∀(am:List (ai×d8)) (s:ap) (σ:St) (H:Hp) (x y:V) (v u:af) (Q:VK),Inv X am σ H s->RelV x v->RelV y u->r x y H Q ->
  bj (bi X.prog X.w) X.A (f v u) (EP X am σ Q) X.xe s
def Jk (X:Cx)(f:af->pE af)(r:V->Hp->VK->Prop):Prop :=
 ∀(am:List (ai×d8)) (s:ap) (σ:St) (H:Hp) (x:V) (v:af) (Q:VK),Inv X am σ H s->RelV x v->r x H Q ->
  bj (bi X.prog X.w) X.A (f v) (EP X am σ Q) X.xe s
def eK (X:Cx)(f:af)(r:List V->Hp->VK->Prop):Prop :=
 ∀(am:List (ai×d8)) (s:ap) (σ:St) (H:Hp) (xs:List V) (us:List af) (Q:VK),Inv X am σ H s->ck xs us->r xs H Q ->
  bj (bi X.prog X.w) X.A (call f us) (EP X am σ Q) X.xe s
def JZ (r:R2)(ta tb:TE):TE:=λσ H Q=>ta σ H λx H1=>tb σ H1 λy H2=>r x y H2 Q
def tUn (r:V->Hp->VK->Prop)(ta:TE):TE:=λσ H Q=>ta σ H λx H1=>r x H1 Q
def rI (C:Int->Int->Prop)(g:Int->Int->V):R2:=λx y H Q=>∃i j,x=.int i/\y=.int j/\C i j/\Q (g i j) H
def qH (g:Int->Int->V):R2:=λx y H Q=>∃i j,x=.int i/\y=.int j/\Q (g i j) H
def rU (g:Int->V):V->Hp->VK->Prop:=λx H Q=>∃i,x=.int i/\Q (g i) H
section
variable {X:Cx}{a b c:Expr}{ta tb tc:TE}{pos:dF}
theorem zX (ha:PE X a ta)(hb:PE X b tb){am:List (ai×d8)}{s:ap}{σ:St}{H:Hp}{R:V->V->Hp->Prop}(I:Inv X am σ H s)
  (h:ta σ H λx H1=>tb σ H1 λy H2=>R x y H2) {Q:af->ap->Prop} {f:af->af->pE af}
  (hf:∀v u s2 x y H2,Inv X am σ H2 s2->RelV x v->RelV y u->R x y H2->bj (bi X.prog X.w) X.A (f v u) Q X.xe s2) :
  bj (bi X.prog X.w) X.A (bY a X.env) (λv s₁=>bj (bi X.prog X.w) X.A (bY b X.env) (λu s₂=>bj (bi X.prog X.w) X.A (f v u) Q X.xe s₂) X.xe s₁) X.xe s:=by
 refine dC (ha am s σ H _ I h) λv s1 ⟨x,H1,I1,r1,q1⟩=>?_
 refine dC (hb am s1 σ H1 _ I1 q1) λu s2 ⟨y,H2,I2,r2,q2⟩=>?_
 exact hf v u s2 x y H2 I2 r1 r2 q2
theorem PM {op:jZ}{r:R2}(ho:gu X (eD op) r)(ha:PE X a ta)(hb:PE X b tb):PE X (.BinOp a op b pos) (JZ r ta tb):=by
 intro am s σ H Q I h
 exact wpAny_BinOp (zX ha hb I h λv u s2 x y H2 I2 rx ry q=>ho am s2 σ H2 x y v u Q I2 rx ry q)
theorem zwi {op:UnaryOp}{r:V->Hp->VK->Prop}(ho:Jk X (unaryOp op) r)(ha:PE X a ta):PE X (.UnaryOp op a pos) (tUn r ta):=by
 intro am s σ H Q I h
 exact UnaryOp_ (dC (ha am s σ H _ I h) λv s1 ⟨x,H1,I1,r1,q1⟩=>ho am s1 σ H1 x v Q I1 r1 q1)
theorem Cu {f:af->af->pE af}{C:Int->Int->Prop}{g:Int->Int->Int}
  (rule:∀(i j:Int) (t u:Tok) (s:ap) (Q:af->ap->Prop) (E:af->ap->Prop),C i j->Q (.int (g i j) s.toks) { s with toks:=s.toks+1 }->bj (bi X.prog X.w) X.A (f (.int i t) (.int j u)) Q E s) :
  gu X f (rI C λi j=>.int (g i j)):=by
 intro am s σ H x y v u Q I rx ry h
 obtain⟨i,j,rfl,rfl,hc,q⟩:=h
 obtain⟨t,rfl⟩:=rx
 obtain⟨t',rfl⟩:=ry
 exact rule i j t t' s _ _ hc ⟨.int (g i j),H,I.tok _,⟨_,rfl⟩,q⟩
theorem G8 {f:af->af->pE af}{g:Int->Int->Int}
  (rule:∀(i j:Int) (t u:Tok) (s:ap) (Q:af->ap->Prop) (E:af->ap->Prop),Q (.int (g i j) s.toks) { s with toks:=s.toks+1 }->bj (bi X.prog X.w) X.A (f (.int i t) (.int j u)) Q E s) :
  gu X f (qH λi j=>.int (g i j)):=by
 intro am s σ H x y v u Q I rx ry h
 obtain⟨i,j,rfl,rfl,q⟩:=h
 obtain⟨t,rfl⟩:=rx
 obtain⟨t',rfl⟩:=ry
 exact rule i j t t' s _ _ ⟨.int (g i j),H,I.tok _,⟨_,rfl⟩,q⟩
theorem xF {f:af->af->pE af}{g:Int->Int->Bool}
  (rule:∀(i j:Int) (t u:Tok) (s:ap) (Q:af->ap->Prop) (E:af->ap->Prop),Q (.bool (g i j)) s->bj (bi X.prog X.w) X.A (f (.int i t) (.int j u)) Q E s) :
  gu X f (qH λi j=>.bl (g i j)):=by
 intro am s σ H x y v u Q I rx ry h
 obtain⟨i,j,rfl,rfl,q⟩:=h
 obtain⟨t,rfl⟩:=rx
 obtain⟨t',rfl⟩:=ry
 exact rule i j t t' s _ _ ⟨.bl (g i j),H,I,rfl,q⟩
def wI (i j:Int):Prop:=0<=j/\j<=1000000/\i.natAbs<2 ^ 64
def zP (i j:Int):Prop:=(-(2 ^ 64)<i/\i<2 ^ 64)\/(-(2 ^ 64)<j/\j<2 ^ 64)
theorem zP.ok {i j:Int}(h:zP i j):IntMulOk i j:=by
 rcases h with⟨h1,h2⟩|⟨h1,h2⟩
 ·exact .of_left (intBits_le_64 h1 h2)
 ·exact .of_right (intBits_le_64 h1 h2)
theorem zkx (k:Nat):(0:Int)<=2 ^ k:=by
 rw[two_pow_cast]
 exact Int.natCast_nonneg _
theorem zuo:gu X (eD .Add) (qH λi j=>.int (i+j)):=G8 λ_ _ _ _ _ _ _ q=>add_int q
theorem IX:gu X (eD .Sub) (qH λi j=>.int (i-j)):=G8 λ_ _ _ _ _ _ _ q=>sub_int q
theorem xj:gu X (eD .Mod) (rI (λ_ j=>j≠0) λi j=>.int (i.fmod j)):=Cu λ_ _ _ _ _ _ _ hc q=>mod_int' hc q
theorem US:gu X (eD .Pow) (rI wI λi j=>.int (i ^ j.toNat)):=Cu λ_ _ _ _ _ _ _ hc q=>pow_int_small hc.1 hc.2.1 hc.2.2 q
theorem zup:gu X (eD .LShift) (rI wI λi j=>.int (i*2 ^ j.toNat)):=Cu λ_ _ _ _ _ _ _ hc q=>lshift_int_small hc.1 hc.2.1 hc.2.2 q
theorem UT:gu X (eD .RShift) (rI (λ_ j=>0<=j) λi j=>.int (i/2 ^ j.toNat)):=Cu λi j _ _ _ _ _ hc q=>
 rshift_int hc (by rw[iw i (zkx _)];exact q)
theorem unI {f:af->pE af}{g:Int->Int}
  (rule:∀(i:Int) (t:Tok) (s:ap) (Q:af->ap->Prop) (E:af->ap->Prop),Q (.int (g i) s.toks) { s with toks:=s.toks+1 }->bj (bi X.prog X.w) X.A (f (.int i t)) Q E s) :
  Jk X f (rU λi=>.int (g i)):=by
 intro am s σ H x v Q I rx h
 obtain⟨i,rfl,q⟩:=h
 obtain⟨t,rfl⟩:=rx
 exact rule i t s _ _ ⟨.int (g i),H,I.tok _,⟨_,rfl⟩,q⟩
theorem zuq:Jk X (unaryOp .USub) (rU λi=>.int (-i)):=unI λ_ _ _ _ _ q=>neg_int q
end
section
variable {X:Cx}{a b c:Expr}{ta tb tc:TE}{pos:dF}
theorem KJ {am:List (ai×d8)}{σ:St}{H:Hp}{s:ap}{Q:VK}{k k':Bool}(I:Inv X am σ H s)(q:Q (.bl k) H)(e:k=k'):EP X am σ Q (.bool k') s:=by
 subst e
 exact⟨.bl k,H,I,rfl,q⟩
theorem tf:gu X (cu .Lt) (qH λi j=>.bl (decide (i<j))):=xF λ_ _ _ _ _ _ _ q=>lt_int q
theorem zwj:gu X (cu .LtE) (qH λi j=>.bl (decide (i<=j))):=xF λ_ _ _ _ _ _ _ q=>le_int q
theorem zN:gu X (cu .Gt) (qH λi j=>.bl (decide (j<i))):=xF λ_ _ _ _ _ _ _ q=>gt_int q
theorem KW:gu X (cu .GtE) (qH λi j=>.bl (decide (j<=i))):=xF λ_ _ _ _ _ _ _ q=>ge_int q
theorem zur:gu X (cu .Is) (λx y H Q=>y=.non/\Q (.bl (decide (x=.non))) H):=by
 intro am s σ H x y v u Q I rx ry h
 obtain⟨rfl,q⟩:=h
 cases ry
 refine is_none_gen (KJ I q ?_)
 cases x<;>first
  |(cases rx;rfl)
  |(obtain⟨t,rfl⟩:=rx;rfl)
theorem zrr:gu X (cu .IsNot) (λx y H Q=>y=.non/\Q (.bl (!decide (x=.non))) H):=by
 intro am s σ H x y v u Q I rx ry h
 obtain⟨rfl,q⟩:=h
 cases ry
 refine isnot_none_gen (KJ I q ?_)
 cases x<;>first
  |(cases rx;rfl)
  |(obtain⟨t,rfl⟩:=rx;rfl)
theorem gu.or {f:af->af->pE af}{r r':R2}(h:gu X f r)(h':gu X f r'):gu X f (λx y H Q=>r x y H Q\/r' x y H Q):=by
 intro am s σ H x y v u Q I rx ry q
 rcases q with q|q
 ·exact h am s σ H x y v u Q I rx ry q
 ·exact h' am s σ H x y v u Q I rx ry q
theorem bn (b:Expr){op:kx}(h:op≠.In:=by decide)(h2:op≠.NotIn:=by decide):dO op b=false:=by
 have e1:(op==kx.In)=false:=by cases op<;>first|rfl|exact absurd rfl h
 have e2:(op==kx.NotIn)=false:=by cases op<;>first|rfl|exact absurd rfl h2
 cases b<;>simp[dO,e1,e2]
theorem zrs {op:kx}{r:R2}(ho:gu X (cu op) r)(ha:PE X a ta)(hb:PE X b tb)(hm:dO op b=false):PE X (.Compare a [op] [b] pos) (JZ r ta tb):=by
 intro am s σ H Q I h
 exact wpAny_Compare1 (zX ha hb I h λv u s2 x y H2 I2 rx ry q=>ho am s2 σ H2 x y v u Q I2 rx ry q) hm
def yZ (t:TE):TT:=λσ H Q=>t σ H λx H'=>∃k,x=.bl k/\Q k H'
theorem zrt {op:kx}{r:R2}(ho:gu X (cu op) r)(ha:PE X a ta)(hb:PE X b tb)(hm:dO op b=false):PT X (.Compare a [op] [b] pos) (yZ (JZ r ta tb)):=by
 intro am s σ H Q I h
 refine wpAny_isTrue_Compare1 (dC (ha am s σ H _ I h) λv s1 ⟨x,H1,I1,r1,q1⟩=>dC (hb am s1 σ H1 _ I1 q1) λu s2 ⟨y,H2,I2,r2,q2⟩=>
  dC (ho am s2 σ H2 x y v u _ I2 r1 r2 q2) λc s3 ⟨z,H3,I3,r3,k,e,q3⟩=>?_) hm
 subst e
 cases r3
 exact dz ⟨H3,I3,q3⟩
def vC (r r':R2)(ta tb tc:TE):TE:=λσ H Q=>ta σ H λx H1=>tb σ H1 λy H2=>r x y H2 λz H3=>∃k,z=.bl k /\
 (if k=true then tc σ H3 λw' H4=>r' y w' H4 Q else Q (.bl false) H3)
theorem zos {op BC:kx}{r r':R2}(ho:gu X (cu op) r)(uL:gu X (cu BC) r')(ha:PE X a ta)(hb:PE X b tb)(hc:PE X c tc)
  (hm:lastMarks [op,BC] [b,c]=false:=by with_unfolding_all rfl):PT X (.Compare a [op,BC] [b,c] pos) (yZ (vC r r' ta tb tc)):=by
 intro am s σ H Q I h
 refine isTrue_chain (dC (ha am s σ H _ I h) λv s1 ⟨x,H1,I1,r1,q1⟩=>test_link (dC (hb am s1 σ H1 _ I1 q1) λu s2 ⟨y,H2,I2,r2,q2⟩=>
  dC (ho am s2 σ H2 x y v u _ I2 r1 r2 q2) λd s3 ⟨z,H3,I3,r3,k,e,q3⟩=>?_)) hm
 subst e
 cases r3
 refine dz ?_
 cases k with
 |false=>
  obtain⟨k',e',q'⟩:=q3
  cases e'
  exact ite_ff ⟨H3,I3,q'⟩
 |true=>
  refine ite_tt (test_last (dC (hc am s3 σ H3 _ I3 q3) λw' s4 ⟨z',H4,I4,r4,q4⟩=>dC (uL am s4 σ H4 y z' u w' _ I4 r2 r4 q4) λd' s5 ⟨z2,H5,I5,r5,k2,e2,q5⟩=>?_))
  subst e2
  cases r5
  exact dz ⟨H5,I5,q5⟩
theorem kC:(sizeLine:Nat)<2 ^ 63:=by rw[cV];decide
theorem zky:gu X (eD .Add) (λx y H Q=>∃i j,x=.str i/\y=.str j/\i.length+j.length<=sizeLine/\Q (.str (i++j)) H):=by
 intro am s σ H x y v u Q I rx ry h
 obtain⟨i,j,rfl,rfl,hz,q⟩:=h
 obtain⟨t,rfl⟩:=rx
 obtain⟨t',rfl⟩:=ry
 exact add_str (λt' tk=>⟨.str (i++j),H,I.tok _,⟨_,rfl⟩,q⟩) hz
theorem nG {x:V}{us:List af}(r:ck [x] us):∃u,us=[u]/\RelV x u:=by
 cases r with
 |cons r1 r2=>cases r2;exact⟨_,rfl,r1⟩
theorem vals2 {x y:V}{us:List af}(r:ck [x,y] us):∃u w',us=[u,w']/\RelV x u/\RelV y w':=by
 cases r with
 |cons r1 r2=>
  cases r2 with
  |cons r3 r4=>cases r4;exact⟨_,_,rfl,r1,r3⟩
theorem Tg:eK X (.builtin "abs") (λxs H Q=>∃i,xs=[.int i]/\Q (.int (if i<0 then -i else i)) H):=by
 intro am s σ H xs us Q I r h
 obtain⟨i,rfl,q⟩:=h
 obtain⟨u,rfl,t,rfl⟩:=nG r
 exact call_abs_int λu tk=>⟨.int (if i<0 then -i else i),H,I.tok _,⟨_,rfl⟩,q⟩
theorem zg6:eK X (.type "str") (λxs H Q=>∃i,xs=[.int i]/\i.natAbs.log2<1920/\Q (.str (toString i)) H):=by
 intro am s σ H xs us Q I r h
 obtain⟨i,rfl,hz,q⟩:=h
 obtain⟨u,rfl,t,rfl⟩:=nG r
 exact PySem.P.str_of_int hz ⟨.str _,H,I.tok _,⟨_,rfl⟩,q⟩
end
end L2
namespace L2
open PySem PySem.Spec PyProof.Rows
structure qX (h:bc)(x dx C:ai)(mA:aX->Option af):Prop where
 obj:h.get? x=some (d9 C dx)
 ns:h.Ns1 dx mA
 ne:dx≠x
theorem zlz {h:bc}{dx:ai}{mA:aX->Option af}(n:h.Ns1 dx mA):∃od,h.get? dx=some od/\∀name,jM name od=some (mA name):=by
 obtain⟨o,es,ep,ho,hd,hk,_,hm⟩:=n
 refine⟨o,ho,λname=>?_⟩
 have e:=hm name
 unfold nsFind findBy at e
 rw[←Array.find?_toList]at e
 unfold jM
 rw[hd]
 dsimp only
 split
 ·rename_i y q
  rw[q]at e
  exact congrArg some e
 ·rename_i q
  rw[q]at e
  have a:es.toList.any (·.refKey)=false:=by
   rw[List.any_eq_false]
   intro y hy
   obtain⟨z,t,MS⟩:=hk y (Array.mem_toList_iff.mp hy)
   simp[DictEntry.refKey,MS]
  have a':¬es.toList.any (·.refKey)=true:=by rw[a];exact aQ
  rw[if_neg a']
  exact congrArg some e
theorem qX.look {h:bc}{x dx C:ai}{mA:aX->Option af}(I:qX h x dx C mA):∃od,PySem.W.InstAt h x (d9 C dx) C (some od)/\∀name,jM name od=some (mA name) :=
 let⟨od,ho,hl⟩:=zlz I.ns
 ⟨od,⟨I.obj,rfl,rfl,ho⟩,hl⟩
section
variable {prog:bJ}{w:cw}{A:bX}{E:af->ap->Prop}{s:ap}{K:ae}{x dx C f:ai}{mA:aX->Option af}{name:aX}{v:af}
theorem zru {expr:Bool}{Q:af->ap->Prop}(X:K.In s.heap)(I:qX s.heap x dx C mA)(hg:dA K C name=true)(hh:dJ K C=true)
  (ha:aE K (.ref C) name=some none) (hv:mA name=some v) (M4:rL v=true) (h:Q v { s with toks:=s.toks+1 }) :
  bj (bi prog w) A (getAttr (.ref x) name expr) Q E s:=by
 obtain⟨od,J,hl⟩:=I.look
 exact PySem.W.get_value X J (kb hg).1 (PySem.W.findObj_own hh ha rfl (by rw[hl,hv])) M4 h
theorem zot {pl:pE Bool}{Q:af×List af->ap->Prop}(X:K.In s.heap)(I:qX s.heap x dx C mA)(hg:dA K C name=true)
  (hf:aE K (.ref C) name=some (some (.ref f))) (ht:ej K (.ref f)=true) (hv:mA name=none) (h:Q (.ref f,[.ref x]) s) :
  bj (bi prog w) A (hU (.ref x) name pl) Q E s:=by
 obtain⟨od,J,hl⟩:=I.look
 exact PySem.W.method_fn X J (kb hg).1 (kb hg).2 hf (beq_iff_eq.mp ht) (by show(jM name od).map (·.isSome)=some false;rw[hl,hv];rfl) h
theorem zrv {ns:List aX}{Q:Unit->ap->Prop}(X:K.In s.heap)(I:qX s.heap x dx C mA)
  (hs:aE K (.ref C) "__setattr__"=some (some (.builtin "object.__setattr__"))) (hp:el K C=true) (ht:mm K C name=some none) (hh:dJ K C=true)
  (hw:PySem.Within mA ns) (hsz:ns.length<=sizeLine)
  (h:∀h',qX h' x dx C (λy=>if y=name then some v else mA y)->hX dx s.heap h'->Q () { s with heap:=h',toks:=s.toks+2 }) :
  bj (bi prog w) A (setAttr (.ref x) name v) Q E s:=by
 obtain⟨od,J,hl⟩:=I.look
 refine PySem.W.set_plain X J hs (PySem.W.osa_open (s:={ s with toks:=s.toks+1 }) (r:=none) X J hp ht λb=>?_)
 obtain⟨cd,hc,Fs⟩:=PySem.W.any_some hh
 have hx:s.heap.get? x=some ⟨.ref C,some dx,.plain,#[]⟩:=I.obj
 refine aV (bZ (aV (aV (wpAny_loadPart hx (aV (PySem.W.Looks.here (s:={ s with toks:=s.toks+1 }) (PySem.W.looks_clsIn X hc) ?_))))))
 rw[Fs]
 refine bZ (a:=some dx) (aV (bZ (aV ?_)))
 refine wpAny_nsSet1 (s:={ s with toks:=s.toks+1 }) I.ns λh' yL nP=>?_
 obtain⟨oD,esD,epD,Xy,Xg,Xf⟩:=yL.count (PySem.Within.cons name v hw)
 refine aV (wpAny_lookBehind Xy (by rw[Xg];exact pastItsLine_dict (cB Xf (by rw[aI];omega))) ?_)
 exact bZ (h _ ⟨(nP.2 _ (Ne.symm I.ne)).trans I.obj,yL,I.ne⟩ nP)
theorem zou {R:Result->ap->Prop}{vs:List af}{kw:List (aX×af)}(X:K.In s.heap)(hm:ed K C=true)
  (hi:aE K (.ref C) "__init__"=some (some (.ref f))) (hf:PySem.W.typeIn K (.ref f)=some (.type "function"))
  (h:gS (bi prog w) (A.under (.builtin "type.__call__" ⟨.ref C::vs,kw⟩)) (.call (.ref f) ⟨.ref (s.heap.objs.size+1)::vs,kw⟩) (PySem.W.InitBack (s.heap.objs.size+1) R)
   { s with heap:=(s.heap.push di).push (d9 C s.heap.objs.size) }) :
  gS (bi prog w) A (.call (.ref C) ⟨vs,kw⟩) R s:=by
 obtain⟨hh,g,d,t,os⟩:=s
 exact PySem.W.make_core (PySem.W.makes_of X hm) (PySem.W.looks_findIn X hi) (λself=>PySem.W.bind_fn X self hf) (.inl rfl) h
end
def jH (f:aX)(v:V):List (aX×V)->List (aX×V)
 |[]=>[(f,v)]
 |(g,x)::r=>if g=f then(g,v)::r else(g,x)::jH f v r
theorem RU (f g:aX)(v:V):∀fs:List (aX×V),(jH f v fs).lookup g=if g=f then some v else fs.lookup g
 |[]=>by
  show gW g [(f,v)]=_
  by_cases h:g=f
  ·have hb:(g==f)=true:=beq_iff_eq.mpr h
   simp only[gW,hb,if_pos h]
  ·have hb:(g==f)=false:=beq_eq_false_iff_ne.mpr h
   simp only[gW,hb,if_neg h]
 |(k,x)::r=>by
  have ih:=RU f g v r
  rw[show jH f v ((k,x)::r)=(if k=f then(k,v)::r else(k,x)::jH f v r)from rfl]
  by_cases hk:k=f
  ·rw[if_pos hk]
   by_cases h:g=k
   ·have hb:(g==k)=true:=beq_iff_eq.mpr h
    simp only[gW,hb,if_pos (h.trans hk)]
   ·have hb:(g==k)=false:=beq_eq_false_iff_ne.mpr h
    simp only[gW,hb,if_neg (λe:g=f=>h (e.trans hk.symm))]
  ·rw[if_neg hk]
   by_cases h:g=k
   ·have hb:(g==k)=true:=beq_iff_eq.mpr h
    simp only[gW,hb,if_neg (λe:g=f=>hk (h.symm.trans e))]
   ·have hb:(g==k)=false:=beq_eq_false_iff_ne.mpr h
    simp only[gW,hb]
    exact ih
theorem Oo (f:aX)(v:V):∀fs:List (aX×V),f∈(jH f v fs).map (·.1)/\∀g,g∈fs.map (·.1)->g∈(jH f v fs).map (·.1)
 |[]=>⟨by simp[jH],λg h=>by simp at h⟩
 |(k,x)::r=>by
  obtain⟨i1,i2⟩:=Oo f v r
  rw[show jH f v ((k,x)::r)=(if k=f then(k,v)::r else(k,x)::jH f v r)from rfl]
  by_cases hk:k=f
  ·rw[if_pos hk]
   subst hk
   exact⟨by simp,λg h=>by simpa using h⟩
  ·rw[if_neg hk]
   refine⟨?_,λg h=>?_⟩
   ·rw[aP]
    exact aj _ i1
   ·rw[aP]at h ⊢
    rcases aF.mp h with e|e
    ·exact aF.mpr (.inl e)
    ·exact aj _ (i2 g e)
theorem RV (f:aX)(v:V):∀fs:List (aX×V),(jH f v fs).length<=fs.length+1
 |[]=>by simp[jH]
 |(k,x)::r=>by
  have ih:=RV f v r
  rw[show jH f v ((k,x)::r)=(if k=f then(k,v)::r else(k,x)::jH f v r)from rfl]
  by_cases hk:k=f
  ·rw[if_pos hk,aI,aI];omega
  ·rw[if_neg hk,aI,aI];omega
theorem ke.some_of {v:V}{o:Option af}(r:ke (some v) o):∃u,o=some u/\RelV v u:=by
 cases o with
 |none=>exact(show False from r).elim
 |some u=>exact⟨u,rfl,r⟩
theorem ke.none_of {o:Option af}(r:ke none o):o=none:=by
 cases o with
 |none=>rfl
 |some u=>exact(show False from r).elim
theorem zl0 {v:V}{u:af}(r:RelV v u):rL u=true:=by
 cases v with
 |non=>cases(show u=af.none from r);rfl
 |bl b=>cases(show u=af.bool b from r);rfl
 |int i=>obtain⟨t,e⟩:=(show∃t,u=af.int i t from r);cases e;rfl
 |str x=>obtain⟨t,e⟩:=(show∃t,u=af.str x t from r);cases e;rfl
 |byt b=>obtain⟨t,e⟩:=(show∃t,u=af.bytes b t from r);cases e;rfl
 |flt b=>obtain⟨t,e⟩:=(show∃t,u=af.float b t from r);cases e;rfl
 |ref a=>cases(show u=af.ref a from r);rfl
 |ty n=>cases(show u=af.type n from r);rfl
section
variable {P:bJ}{w:cw}{H H':Hp}{h h':bc}{a C dx:ai}{fs WK:List (aX×V)}
theorem Ky (hok:kK P w H h)(e:H a=some (.ins C dx fs)):∃mA,qX h a dx C mA/\(∀f,ke (fs.lookup f) (mA f))/\PySem.Within mA (fs.map (·.1))/\fs.length<=1000/\H dx=some (.own a):=by
 obtain⟨d,z,ne,ob,mA,n,r,q⟩:=(show eu P w H h a (.ins C dx fs)from hok a _ e)
 exact⟨mA,⟨ob,n,ne⟩,r,q,z,d⟩
end
structure lH (K:ae)(C:ai):Prop where
 pg:dA K C aX.empty=true
 hd:dJ K C=true
 po:el K C=true
 sa:aE K (.ref C) "__setattr__"=some (some (.builtin "object.__setattr__"))
theorem lH.get {K:ae}{C:ai}(c:lH K C)(f:aX):dA K C f=true:=c.pg
def gj (K:ae)(C:ai)(f:aX):Prop:=aE K (.ref C) f=some none
theorem gj.taker {K:ae}{C:ai}{f:aX}(n:gj K C f):mm K C f=some none:=by
 unfold mm
 rw[show aE K (.ref C) f=some none from n]
 rfl
structure qW (K:ae)(C:ai)(m:aX)(f:ai):Prop where
 at_:aE K (.ref C) m=some (some (.ref f))
 fn:ej K (.ref f)=true
 kp:aq K (.ref f)=true
section
variable {X:Cx}{am:List (ai×d8)}{σ:St}{H:Hp}{s:ap}{a C dx:ai}{fs:List (aX×V)}{f:aX}{v:V}{A:bX}{E:af->ap->Prop}
theorem zkz {b:Bool}{Q:af->ap->Prop}(I:Inv X am σ H s)(e:H a=some (.ins C dx fs))(c:lH X.K C)(n:gj X.K C f)(l:fs.lookup f=some v)
  (h:∀u s',Inv X am σ H s'->RelV v u->Q u s'):bj (bi X.prog X.w) A (getAttr (.ref a) f b) Q E s:=by
 obtain⟨mA,O,r,_,_,_⟩:=Ky I.hok e
 obtain⟨u,hu,ru⟩:=ke.some_of (v:=v) (o:=mA f) (by rw[←l];exact r f)
 exact zru I.kIn O (c.get f) c.hd n hu (zl0 ru) (h u _ (I.tok _) ru)
theorem Ot {m:aX}{g:ai}{pl:pE Bool}{Q:af×List af->ap->Prop}(I:Inv X am σ H s)(e:H a=some (.ins C dx fs))(c:lH X.K C)(k:qW X.K C m g)(l:fs.lookup m=none)
  (h:Q (.ref g,[.ref a]) s):bj (bi X.prog X.w) A (hU (.ref a) m pl) Q E s:=by
 obtain⟨mA,O,r,_,_,_⟩:=Ky I.hok e
 have hn:mA m=none:=ke.none_of (by rw[←l];exact r m)
 exact zot I.kIn O (c.get m) k.at_ k.fn hn h
theorem zk0 {y:V}{u:af}{Q:Unit->ap->Prop}(I:Inv X am σ H s)(e:H a=some (.ins C dx fs))(c:lH X.K C)(n:gj X.K C f)(hl:fs.length<1000)(ry:RelV y u)
  (h:∀s',Inv X am σ (d4 H a (.ins C dx (jH f y fs))) s'->Q () s'):bj (bi X.prog X.w) A (setAttr (.ref a) f u) Q E s:=by
 obtain⟨mA,O,r,wi,_,ho⟩:=Ky I.hok e
 have hz:(fs.map (·.1)).length<=sizeLine:=by rw[ah,cV];omega
 refine zrv I.kIn O c.sa c.po n.taker c.hd wi hz λh' O' sb=>h _ ?_
 have hd:∃o,h'.get? dx=some o:=let⟨o,_,_,e',_⟩:=O'.ns;⟨o,e'⟩
 refine I.write (x:=a) (e:=dx) (by rw[e];exact True.intro) (.inr ho) (λb q hb z=>(sb.2 b hb).trans z) hd ?_
 refine⟨by rw[yo O.ne];exact ho,?_,O.ne,O'.obj,_,O'.ns,λg=>?_,λg hg=>?_⟩
 ·have:=RV f y fs;omega
 ·show ke ((jH f y fs).lookup g) (if g=f then some u else mA g)
  rw[RU]
  by_cases q:g=f
  ·rw[if_pos q,if_pos q];exact ry
  ·rw[if_neg q,if_neg q];exact r g
 ·by_cases q:g=f
  ·rw[q];exact(Oo f y fs).1
  ·refine(Oo f y fs).2 g (wi g λz=>hg ?_)
   show(if g=f then some u else mA g)=none
   rw[if_neg q];exact z
theorem Inv.made (I:Inv X am σ H s):Inv X am σ (d4 (d4 H s.heap.objs.size (.own (s.heap.objs.size+1))) (s.heap.objs.size+1) (.ins C s.heap.objs.size []))
  { s with heap:=(s.heap.push di).push (d9 C s.heap.objs.size) }:=by
 have e1:(s.heap.push di).get? s.heap.objs.size=some di:=bW s.heap rfl
 have e2:((s.heap.push di).push (d9 C s.heap.objs.size)).get? (s.heap.objs.size+1)=some (d9 C s.heap.objs.size):=by
  have:=bW (s.heap.push di) (o:=d9 C s.heap.objs.size) rfl
  rwa[gw]at this
 have e3:(s.heap.push di).Ns s.heap.objs.size (λ_=>none):=⟨di,#[],_,e1,rfl,(λe he=>absurd he (by simp)),λ_=>rfl⟩
 have I1:=I.laid (a:=s.heap.objs.size) (o:=.own (s.heap.objs.size+1)) (h':=s.heap.push di) (t':=s.toks) (λb u q=>aJ _ q) (aM _) ⟨_,e1⟩
 refine I1.laid (a:=s.heap.objs.size+1) (o:=.ins C s.heap.objs.size []) (t':=s.toks) (λb u q=>aJ _ q) (Nat.le_of_eq (gw _ _)) ?_
 have ne:s.heap.objs.size≠s.heap.objs.size+1:=bE (jB _)
 refine⟨by rw[yo ne,yt],dr _,ne,e2,λ_=>none,(bc.Ns1.of_empty e3).at λo q=>aJ _ q,λ_=>True.intro,λy hy=>absurd rfl hy⟩
theorem zrw {prog:bJ}{w:cw}{env:Env}{e:Expr}{f:aX}{pos:dF}{s:ap}{Q:af->ap->Prop}(hb:fG e f env (bY e env)=bY e env)
  (h:bj (bi prog w) A (bY e env) (λo s₁=>bj (bi prog w) A (getAttr o f true) Q E s₁) E s):bj (bi prog w) A (bY (.Attribute e f pos) env) Q E s :=
 Attribute_any_ h (by rw[arm_eval_Attribute,hb])
end
def NL (K:ae)(ta:TE)(f:aX):TE:=λσ H Q=>ta σ H λx H1=>∃a C dx fs v,x=.ref a/\H1 a=some (.ins C dx fs)/\lH K C/\gj K C f/\fs.lookup f=some v/\Q v H1
def NF (K:ae)(ta tv:TE)(f:aX):TS:=λD σ H=>tv σ H λy H1=>ta σ H1 λx H2=>∃a C dx fs,x=.ref a/\H2 a=some (.ins C dx fs)/\lH K C/\gj K C f/\fs.length<1000 /\
 D.nx σ (d4 H2 a (.ins C dx (jH f y fs)))
section
variable {X:Cx}{o e value:Expr}{f:aX}{pos pos' jA:dF}{ta tv:TE}
theorem zus (he:PE X e ta)(hb:fG e f X.env (bY e X.env)=bY e X.env):PE X (.Attribute e f pos) (NL X.K ta f):=by
 intro am s σ H Q I h
 refine zrw hb (dC (he am s σ H _ I h) λu s1 ⟨x,H1,I1,rx,a,C,dx,fs,v,ex,ea,c,n,l,q⟩=>?_)
 subst ex
 obtain rfl:u=af.ref a:=rx
 exact zkz I1 ea c n l λu' s2 I2 ru=>⟨v,H1,I2,ru,q⟩
theorem zut (ha:PE X o ta)(hv:PE X value tv)(hs:eh value (some (.Attribute o f pos')) pos.line X.env=pure false):PS X (.Assign [.Attribute o f pos'] value pos) (NF X.K ta tv f):=by
 intro am s σ H D I h
 refine plainObj_wpAny_Assign_Attribute (dC (hv am s σ H _ I h) λu s1 ⟨y,H1,I1,ry,q⟩=>dC (ha am s1 σ H1 _ I1 q) λov s2 ⟨x,H2,I2,rx,a,C,dx,fs,ex,ea,c,n,l,q2⟩=>?_) hs
 subst ex
 obtain rfl:ov=af.ref a:=rx
 exact zk0 I2 ea c n l ry λs3 I3=>⟨σ,_,I3,q2⟩
def BK:V->V->Hp->VK->Prop:=λx y H Q=>∃i j,x=.int i/\y=.int j/\Q (.int (i+j)) H
theorem zrx {pl:pE Bool}{m:aX}{ez:dF}{args:List Expr}{am:List (ai×d8)}{s:ap}{σ:St}{H:Hp}{Q:af->ap->Prop}{te:TE}(he:PE X e te)(I:Inv X am σ H s)
  (h:te σ H λx H1=>∃a C dx fs g,x=.ref a/\H1 a=some (.ins C dx fs)/\lH X.K C/\qW X.K C m g/\fs.lookup m=none /\
   ∀s1,Inv X am σ H1 s1->bj (bi X.prog X.w) X.A (ka pos (.ref g) [.ref a] (cQ pos (ay args X.env)) (fR pos (dR [] X.env))) Q X.xe s1)
  (ht:bY (.Call (.Attribute e m ez) args [] pos) X.env=(do
   let ov ← bY e X.env
   iM ez.atName
   let(f,first) ← fq [ov] (hU ov m pl)
   ka pos f first (cQ pos (ay args X.env)) (fR pos (dR [] X.env)))) :
  bj (bi X.prog X.w) X.A (bY (.Call (.Attribute e m ez) args [] pos) X.env) Q X.xe s:=by
 refine gz (pl:=pl) (dC (he am s σ H _ I h) λu s1 ⟨x,H1,I1,rx,a,C,dx,fs,g,ex,ea,c,k,l,q⟩=>?_) ht
 subst ex
 obtain rfl:u=af.ref a:=rx
 exact Ot I1 ea c k l (q s1 I1)
end
section
variable {X:Cx}{am:List (ai×d8)}{σ:St}{H:Hp}{s:ap}{A:bX}{E:af->ap->Prop}{Q:af->ap->Prop}{c:af}{b:Bool}
inductive kA (K:ae)(H:Hp):V->af->Prop where
 |non:kA K H .non (.type "NoneType")
 |bl (x:Bool):kA K H (.bl x) (.type "bool")
 |int (i:Int):kA K H (.int i) (.type "int")
 |str (x:aX):kA K H (.str x) (.type "str")
 |flt (x:UInt64):kA K H (.flt x) (.type "float")
 |lst {a:ai} {xs:List V} (e:H a=some (.lst xs)):kA K H (.ref a) (.type "list")
 |frz {a:ai} {o:d8} {xs:List V} (e:H a=some (.frz o (.lst xs))):kA K H (.ref a) (.type "list")
 |tup {a:ai} {xs:List V} (e:H a=some (.tup xs)):kA K H (.ref a) (.type "tuple")
 |dK {a:ai} {cP:List (fH×V)} (e:H a=some (.dK cP)):kA K H (.ref a) (.type "dict")
 |dT {a:ai} {cP:List (List fH×V)} (e:H a=some (.dT cP)):kA K H (.ref a) (.type "dict")
 |ins {a C dx:ai} {fs:List (aX×V)} (e:H a=some (.ins C dx fs)) (cl:lH K C) (ha:aE K (.ref C) "__class__"=some (some (.builtin "object.__class__")))
   (hn:eo K (.builtin "object.__class__") "__get__"=some (some (.builtin "getset_descriptor.__get__"))) (QU:mq K (.builtin "object.__class__")=some true)
   (hm:fM K C (.type "object")=some true):kA K H (.ref a) (.ref C)
theorem Ss {x:V}{u t:af}(I:Inv X am σ H s)(rx:RelV x u)(ty:kA X.K H x t)(e:bU X.K t c=some b)(h:∀tk,Q (.bool b) { s with toks:=tk }) :
  bj (bi X.prog X.w) A (call (.builtin "isinstance") [u,c]) Q E s:=by
 cases ty with
 |non=>cases(show u=af.none from rx);exact cT PySem.W.kitx_none I.kIn True.intro e (λz=>nomatch z) h
 |bl y=>cases(show u=af.bool y from rx);exact cT PySem.W.kitx_bool I.kIn True.intro e (λz=>nomatch z) h
 |int i=>obtain⟨t,q⟩:=(show∃t,u=af.int i t from rx);cases q;exact cT PySem.W.kitx_int I.kIn True.intro e (λz=>nomatch z) h
 |str y=>obtain⟨t,q⟩:=(show∃t,u=af.str y t from rx);cases q;exact cT PySem.W.kitx_str I.kIn True.intro e (λz=>nomatch z) h
 |flt y=>obtain⟨t,q⟩:=(show∃t,u=af.float y t from rx);cases q;exact cT PySem.W.kitx_float I.kIn True.intro e (λz=>nomatch z) h
 |@lst a xs ea=>
  cases(show u=af.ref a from rx)
  obtain⟨_,_,n,_,h1⟩:=(show eu X.prog X.w H s.heap a (.lst xs)from I.hok a _ ea)
  exact cT kI I.kIn ⟨_,h1,rfl⟩ e (λz=>nomatch z) h
 |@frz a ob xs ea=>
  cases(show u=af.ref a from rx)
  obtain⟨_,_,_,n,_,h1⟩:=(show eu X.prog X.w H s.heap a (.frz ob (.lst xs))from I.hok a _ ea)
  exact cT kI I.kIn ⟨_,h1,rfl⟩ e (λz=>nomatch z) h
 |@tup a xs ea=>
  cases(show u=af.ref a from rx)
  obtain⟨_,_,_,p⟩:=(show eu X.prog X.w H s.heap a (.tup xs)from I.hok a _ ea)
  obtain⟨o,h1,h2,_⟩:=p
  exact cT PySem.W.kitx_tuple I.kIn ⟨o,h1,h2⟩ e (λz=>nomatch z) h
 |@dK a cP ea=>
  cases(show u=af.ref a from rx)
  obtain⟨_,_,vs,_,p⟩:=(show eu X.prog X.w H s.heap a (.dK cP)from I.hok a _ ea)
  obtain⟨o,es,ep,h1,h2,_⟩:=p
  exact cT qP I.kIn ⟨o,h1,h2.1⟩ e (λz=>nomatch z) h
 |@dT a cP ea=>
  cases(show u=af.ref a from rx)
  obtain⟨_,_,xs,_,o,es,ep,h1,h2,_⟩:=(show eu X.prog X.w H s.heap a (.dT cP)from I.hok a _ ea)
  exact cT qP I.kIn ⟨o,h1,h2.1⟩ e (λz=>nomatch z) h
 |@ins a C dx fs ea cl ha hn QU hm=>
  cases(show u=af.ref a from rx)
  obtain⟨mA,O,_⟩:=Ky I.hok ea
  obtain⟨od,J,_⟩:=O.look
  exact cT (PySem.W.kitx_own (cl.get _) cl.hd ha hn QU hm) I.kIn J e (λz=>nomatch z) h
end
end L2
namespace L2
open PySem PySem.Spec PyProof.Rows
structure eR (k:Nat)(A:bX):Prop where
 hd:A.handled=none
 dp:A.depth+3*k+5<recursionLimit
 un:A.units+16*k+200<gR
theorem eR.mono {j k:Nat}{A:bX}(r:eR k A)(h:j<=k):eR j A:=⟨r.hd,by have:=r.dp;omega,by have:=r.un;omega⟩
theorem eR.deeper {k:Nat}{A:bX}(r:eR (k+1) A)(env:Env):eR k (A.deeper env) :=
 ⟨r.hd,by have:=r.dp;show A.depth+1+3*k+5<_;omega,by have:=r.un;show A.units+3+16*k+200<_;omega⟩
theorem zk1 {A:bX}{C:ai}{us:List af}{kw:List (aX×af)}:(A.under (.builtin "type.__call__" ⟨.ref C::us,kw⟩)).depth=A.depth+1:=by
 first|rfl|simp[bX.under,rJ.weight,rJ.isCreation,rJ.isGuard,rJ.isCaller,rJ.frames,rJ.isFrame,guardIds]
theorem zk2 {A:bX}{C:ai}{us:List af}{kw:List (aX×af)}:(A.under (.builtin "type.__call__" ⟨.ref C::us,kw⟩)).units=A.units+1:=by
 first|rfl|simp[bX.under,rJ.cUnits,rJ.frames,rJ.isFrame]
theorem eR.make {k:Nat}{A:bX}(r:eR (k+1) A)(C:ai)(us:List af)(kw:List (aX×af)):eR k (A.under (.builtin "type.__call__" ⟨.ref C::us,kw⟩)) :=
 ⟨r.hd,by have:=r.dp;rw[zk1];omega,by have:=r.un;rw[zk2];omega⟩
theorem eR.depth {k:Nat}{A:bX}(r:eR k A):A.depth<recursionLimit:=by have:=r.dp;omega
theorem eR.units {k:Nat}{A:bX}(r:eR k A):A.units+64<gR:=by have:=r.un;omega
def Ir:TA:=λ_ H Q=>Q [] H
def Ik (ta:TE)(tr:TA):TA:=λσ H Q=>ta σ H λx H1=>tr σ H1 λxs H2=>Q (x::xs) H2
section
variable {X:Cx}{e:Expr}{es:List Expr}{te:TE}{t:TA}{pos:dF}
theorem tT:PA X [] Ir:=λ_ _ _ _ H Q I h=>Calls.spliced_nil ⟨[],H,I,.nil,h⟩
theorem v4 (ha:PE X e te)(hr:PA X es t)(hs:ay (e::es) X.env=(false,bY e X.env)::ay es X.env:=by rfl):PA X (e::es) (Ik te t):=by
 intro pos am s σ H Q I h
 rw[hs]
 show bj _ _ (spliced ((false,bY e X.env)::cQ pos (ay es X.env))) _ _ s
 refine Calls.spliced_cons (dC (ha am s σ H _ I h) λu s1 ⟨x,H1,I1,r1,q1⟩=>?_)
 exact dC (hr pos am s1 σ H1 _ I1 q1) λus s2 ⟨xs,H2,I2,r2,q2⟩=>⟨x::xs,H2,I2,.cons r1 r2,q2⟩
def NU (t:TA):TE:=λσ H Q=>t σ H λxs H1=>xs.length<=sizeLine/\∀p,H1 p=none->Q (.ref p) (d4 H1 p (.tup xs))
def NO (t:TA):TE:=λσ H Q=>t σ H λxs H1=>xs.length<=sizeLine/\∀p,H1 p=none->Q (.ref p) (d4 H1 p (.lst xs))
theorem zuu {x1}(h:PA X es t):PE X (.Tuple es x1 pos) (NU t):=by
 intro am s σ H Q I hq
 refine wpAny_Tuple_spliced (dC (h pos am s σ H _ I hq) λus s1 ⟨xs,H1,I1,r,z,q⟩=>⟨by rw[←r.length];exact z,?_⟩)
 have hf:H1 s1.heap.objs.size=none:=I1.hok.fresh (aM _)
 refine⟨.ref s1.heap.objs.size,d4 H1 s1.heap.objs.size (.tup xs),I1.laid (t':=s1.toks) (λb u e=>aJ _ e) (aM _) ?_,rfl,q _ hf⟩
 exact⟨z,us,r,⟨_,bW _ rfl,rfl,_,rfl⟩⟩
theorem zuv (h:PA X es t):PE X (.List es pos) (NO t):=by
 intro am s σ H Q I hq
 refine wpAny_List_spliced (dC (h pos am s σ H _ I hq) λus s1 ⟨xs,H1,I1,r,z,q⟩=>⟨by rw[←r.length];exact z,?_⟩)
 have hf:H1 s1.heap.objs.size=none:=I1.hok.fresh (aM _)
 refine⟨.ref s1.heap.objs.size,d4 H1 s1.heap.objs.size (.lst xs),I1.laid (t':=s1.toks) (λb u e=>aJ _ e) (aM _) ?_,rfl,q _ hf⟩
 exact⟨z,us,0,r,bW _ rfl⟩
end
abbrev Sp:=List V->Hp->VK->XK->Prop
abbrev tP:=List Env->Hp->ap->XK->af->ap->Prop
structure qQ (P:bJ)(w:cw)(K:ae)(mg:aX->Option af)(base:bc)(A:bX)(outer:List Env)(s:ap)(H:Hp):Prop where
 frames:A.frames=some outer
 mod:Mod K mg base
 bs:∀b o,base.get? b=some o->s.heap.get? b=some o/\H b=none
 bsz:base.objs.size<=s.heap.objs.size
 funs:s.heap.FunFrames base outer
 frf:∀b∈uE outer,H b=none
 hok:kK P w H s.heap
 bare:AllBare s.gens
def CE (outer:List Env)(P:bJ)(w:cw)(H:Hp)(s:ap)(Q:VK)(u:af)(s':ap):Prop :=
 ∃v H',s'.os=s.os/\AllBare s'.gens/\Un (uE outer) [] H H' s.heap s'.heap/\kK P w H' s'.heap/\RelV v u/\Q v H'
def CR (CX:tP)(outer:List Env)(P:bJ)(w:cw)(H:Hp)(s:ap)(Q:VK)(E:XK)(r:Result)(s':ap):Prop :=
 match r with
 |.ok (.ret u)=>CE outer P w H s Q u s'
 |.ok _=>False
 |.error e=>CX outer H s E e s'
structure cH (P:bJ)(w:cw)(K:ae)(mg:aX->Option af)(base:bc)(CX:tP)(k:Nat)(f:ai)(fd:aK)(ps:List aX)(sp:Sp):Prop where
 len:∀vs H Q E,sp vs H Q E->vs.length=ps.length
 run:∀(A:bX) (outer:List Env) (s:ap) (H:Hp) (args:Args) (us:List af) (vs:List V) (Q:VK) (E:XK),eR k A->qQ P w K mg base A outer s H->pD s fd args (ps.zip us)->ck vs us->sp vs H Q E ->
  gS (bi P w) A (.call (.ref f) args) (CR CX outer P w H s Q E) s
theorem qQ.make {P:bJ}{w:cw}{K:ae}{mg:aX->Option af}{base:bc}{A:bX}{outer:List Env}{s:ap}{H:Hp}(e:qQ P w K mg base A outer s H)(C:ai)(us:List af)(kw:List (aX×af)) :
  qQ P w K mg base (A.under (.builtin "type.__call__" ⟨.ref C::us,kw⟩)) outer s H:=⟨by first|exact e.frames|(simpa[bX.under,rJ.envs,rJ.isFrame,pushEnvs]using e.frames),e.mod,e.bs,e.bsz,e.funs,e.frf,e.hok,e.bare⟩
section
variable {X:Cx}{am:List (ai×d8)}{σ:St}{H:Hp}{s s':ap}
theorem Inv.env0 (I:Inv X am σ H s):qQ X.prog X.w X.K X.mg X.base X.A X.stack s H :=
 ⟨I.ok.frames,I.ok.mod,I.bs,cB I.ok.bsz I.sz,I.stack,I.stkFree,I.hok,I.bare⟩
theorem Inv.after {Q:VK}{u:af}(I:Inv X am σ H s)(h:CE X.stack X.prog X.w H s Q u s'):EP X am σ Q u s':=by
 obtain⟨v,H',os,bare,un,hok,r,q⟩:=h
 obtain⟨hh,g,d,t,ZE⟩:=s'
 obtain rfl:ZE=s.os:=os
 exact⟨v,H',I.call (h':=hh) (g':=g) (d':=d) (t':=t) (ch:=[]) un hok bare (λb z=>absurd z (by simp)),r,q⟩
end
def yX (sp:Sp)(jG:List V)(E:XK)(t:TA):TE:=λσ H Q=>t σ H λvs H1=>sp (vs++jG) H1 Q E
def yY (C:ai)(m:aX)(sp:Sp)(jG:List V)(E:XK)(ta:TE)(t:TA):TE:=λσ H Q=>ta σ H λx H1=>∃a dx fs,x=.ref a/\H1 a=some (.ins C dx fs)/\fs.lookup m=none /\
 t σ H1 λvs H2=>sp (x::(vs++jG)) H2 Q E
def Ip (C:ai)(sp:Sp)(jG:List V)(E:XK)(t:TA):TE:=λσ H Q=>t σ H λvs H1=>∀x dx,H1 x=none->H1 dx=none->dx≠x ->
 sp (.ref x::(vs++jG)) (d4 (d4 H1 dx (.own x)) x (.ins C dx [])) (λv H2=>v=.non/\Q (.ref x) H2) E
def bR (K:ae)(fd:aK)(ps:List aX)(ds:List af):Prop :=
 ∀(s:ap) (us:List af),K.In s.heap->(us++ds).length=ps.length->pD s fd ⟨us,[]⟩ (ps.zip (us++ds))
theorem bR.all {K:ae}{fd:aK}{ps:List aX}(h:∀us:List af,us.length=ps.length->bindArgs fd ⟨us,[]⟩=pure (ps.zip us)):bR K fd ps []:=λs us _ hl=>by
 rw[cA]at hl ⊢
 exact .of_eq (h us hl)
def jQ (CX:tP)(X:Cx)(E:XK):Prop:=∀(am:List (ai×d8)) (σ:St) (H:Hp) (s:ap) (e:af) (s':ap),Inv X am σ H s->CX X.stack H s E e s'->X.xe e s'
section
variable {X:Cx}{CX:tP}{k:Nat}{f C:ai}{fd:aK}{ps:List aX}{sp:Sp}{jG:List V}{ds:List af}{E:XK}{x m:aX}{p pos ez:dF}{e o:Expr}{es:List Expr}{ta:TE}{t:TA}
theorem KL {am:List (ai×d8)}{σ:St}{H:Hp}{s:ap}{Q:VK}{us:List af}{vs:List V}(F:cH X.prog X.w X.K X.mg X.base CX k f fd ps sp)(hr:eR k X.A)(hb:bR X.K fd ps ds)(hd:ck jG ds)(hx:jQ CX X E)
  (I:Inv X am σ H s) (r:ck vs us) (h:sp (vs++jG) H Q E):bj (bi X.prog X.w) X.A (call (.ref f) us) (EP X am σ Q) X.xe s:=by
 have r2:ck (vs++jG) (us++ds):=r.append hd
 have hl:(us++ds).length=ps.length:=by rw[←r2.length];exact F.len _ _ _ _ h
 refine wpAny_call (nK (F.run X.A X.stack s H ⟨us,[]⟩ (us++ds) (vs++jG) Q E hr I.env0 (hb s us I.kIn hl) r2 h) λr s' hq=>?_)
 cases r with
 |error e=>exact hx am σ H s e s' I hq
 |ok fl=>
  cases fl with
  |ret u=>exact I.after hq
  |next=>exact False.elim hq
  |brk=>exact False.elim hq
  |cont=>exact False.elim hq
theorem TL (F:cH X.prog X.w X.K X.mg X.base CX k f fd ps sp)(hr:eR k X.A)(hg:Gl X x)(hm:X.mg x=some (.ref f))(hk:aq X.K (.ref f)=true)(hb:bR X.K fd ps ds)(hd:ck jG ds)(hx:jQ CX X E)
  (ha:PA X (e::es) t) (lU:(x==("__debug__":aX))=false:=by decide) (he:ay (e::es) X.env=(false,bY e X.env)::ay es X.env:=by rfl) (iW:(cQ pos (ay es X.env)).any (·.1)=false:=by rfl) :
  PE X (.Call (.Name x p) (e::es) [] pos) (yX sp jG E t):=by
 intro am s σ H Q I h
 refine dM (Kx I hg hm ?_ lU)
 refine hV (h₀:=X.base) I.ok.mod.kin hk (dC (ha pos am s σ H _ I h) λus s1 ⟨vs,H1,I1,r,q⟩=>⟨I1.kIn,?_⟩) he iW
 exact KL F hr hb hd hx I1 r q
theorem zry {pl:pE Bool}(he:PE X o ta)(c:lH X.K C)(hm:qW X.K C m f)(F:cH X.prog X.w X.K X.mg X.base CX k f fd ps sp)(hr:eR k X.A)(hb:bR X.K fd ps ds)(hd:ck jG ds)(hx:jQ CX X E)(ha:PA X (e::es) t)
  (lK:ay (e::es) X.env=(false,bY e X.env)::ay es X.env:=by rfl) (iW:(cQ pos (ay es X.env)).any (·.1)=false:=by rfl)
  (ht:bY (.Call (.Attribute o m ez) (e::es) [] pos) X.env=(do
   let ov ← bY o X.env
   iM ez.atName
   let(f,first) ← fq [ov] (hU ov m pl)
   ka pos f first (cQ pos (ay (e::es) X.env)) (fR pos (dR [] X.env))):=by rfl) :
  PE X (.Call (.Attribute o m ez) (e::es) [] pos) (yY C m sp jG E ta t):=by
 intro am s σ H Q I h
 refine gz (pl:=pl) (dC (he am s σ H _ I h) λu s1 ⟨x,H1,I1,rx,a,dx,fs,ex,ea,l,q⟩=>?_) ht
 subst ex
 obtain rfl:u=af.ref a:=rx
 refine Ot I1 ea c hm l ?_
 refine hV (first:=[.ref a]) (h₀:=X.base) I.ok.mod.kin hm.kp (dC (ha pos am s1 σ H1 _ I1 q) λus s2 ⟨vs,H2,I2,r,q2⟩=>⟨I2.kIn,?_⟩) lK iW
 exact KL (us:=.ref a::us) (vs:=.ref a::vs) F hr hb hd hx I2 (.cons rfl r) q2
theorem zov {pl:pE Bool}(he:PE X o ta)(c:lH X.K C)(hm:qW X.K C m f)(F:cH X.prog X.w X.K X.mg X.base CX k f fd ps sp)(hr:eR k X.A)(hb:bR X.K fd ps ds)(hd:ck jG ds)(hx:jQ CX X E)
  (ht:bY (.Call (.Attribute o m ez) [] [] pos) X.env=(do
   let ov ← bY o X.env
   iM ez.atName
   let(f,first) ← fq [ov] (hU ov m pl)
   ka pos f first (cQ pos (ay [] X.env)) (fR pos (dR [] X.env))):=by rfl) :
  PE X (.Call (.Attribute o m ez) [] [] pos) (yY C m sp jG E ta Ir):=by
 intro am s σ H Q I h
 refine gz (pl:=pl) (dC (he am s σ H _ I h) λu s1 ⟨x,H1,I1,rx,a,dx,fs,ex,ea,l,q⟩=>?_) ht
 subst ex
 obtain rfl:u=af.ref a:=rx
 refine Ot I1 ea c hm l ?_
 exact PySem.W.callWith_K0 (first:=[.ref a]) I1.kIn hm.kp (KL (us:=[.ref a]) (vs:=[.ref a]) F hr hb hd hx I1 (.cons rfl .nil) q)
structure Mk (K:ae)(C f:ai):Prop where
 makes:ed K C=true
 init:aE K (.ref C) "__init__"=some (some (.ref f))
 fn:ej K (.ref f)=true
 kp:aq K (.ref C)=true
theorem zow {am:List (ai×d8)}{σ:St}{H:Hp}{s:ap}{Q:VK}{us:List af}{vs:List V}(M:Mk X.K C f)(F:cH X.prog X.w X.K X.mg X.base CX k f fd ps sp)(hr:eR (k+1) X.A)(hb:bR X.K fd ps ds)(hd:ck jG ds)
  (hx:jQ CX X E) (I:Inv X am σ H s) (r:ck vs us)
  (h:∀x dx,H x=none->H dx=none->dx≠x->sp (.ref x::(vs++jG)) (d4 (d4 H dx (.own x)) x (.ins C dx [])) (λv H2=>v=.non/\Q (.ref x) H2) E) :
  bj (bi X.prog X.w) X.A (call (.ref C) us) (EP X am σ Q) X.xe s:=by
 have hq:=h (s.heap.objs.size+1) s.heap.objs.size (I.hok.fresh (iO _)) (I.hok.fresh (aM _)) (bE (jB _))
 have I2:=Inv.made (C:=C) I
 have r2:ck (V.ref (s.heap.objs.size+1)::(vs++jG)) (af.ref (s.heap.objs.size+1)::(us++ds)):=.cons rfl (r.append hd)
 have hl:(af.ref (s.heap.objs.size+1)::us++ds).length=ps.length:=by
  have e:=r2.length
  rw[F.len _ _ _ _ hq]at e
  exact e.symm
 refine wpAny_call (zou (f:=f) I.kIn M.makes M.init (beq_iff_eq.mp M.fn) (nK (F.run _ X.stack _ _ ⟨af.ref (s.heap.objs.size+1)::us,[]⟩ (af.ref (s.heap.objs.size+1)::(us++ds)) _ _ E (hr.make C us [])
  (I2.env0.make C us []) (hb _ (af.ref (s.heap.objs.size+1)::us) I2.kIn hl) r2 hq) λr s' uM=>?_))
 cases r with
 |error e=>exact hx am σ _ _ e s' I2 uM
 |ok fl=>
  cases fl with
  |ret u=>
   obtain⟨v,H',I3,rv,ev,q3⟩:=I2.after uM
   subst ev
   exact⟨rv,⟨V.ref (s.heap.objs.size+1),H',I3,rfl,q3⟩⟩
  |next=>exact False.elim uM
  |brk=>exact False.elim uM
  |cont=>exact False.elim uM
theorem zrz (M:Mk X.K C f)(F:cH X.prog X.w X.K X.mg X.base CX k f fd ps sp)(hr:eR (k+1) X.A)(hg:Gl X x)(hm:X.mg x=some (.ref C))(hb:bR X.K fd ps ds)(hd:ck jG ds)(hx:jQ CX X E)
  (ha:PA X (e::es) t) (lU:(x==("__debug__":aX))=false:=by decide) (he:ay (e::es) X.env=(false,bY e X.env)::ay es X.env:=by rfl) (iW:(cQ pos (ay es X.env)).any (·.1)=false:=by rfl) :
  PE X (.Call (.Name x p) (e::es) [] pos) (Ip C sp jG E t):=by
 intro am s σ H Q I h
 refine dM (Kx I hg hm ?_ lU)
 refine hV (h₀:=X.base) I.ok.mod.kin M.kp (dC (ha pos am s σ H _ I h) λus s1 ⟨vs,H1,I1,r,q⟩=>⟨I1.kIn,?_⟩) he iW
 exact zow M F hr hb hd hx I1 r q
end
section
variable {X:Cx}{CX:tP}{k:Nat}{f C:ai}{fd:aK}{ps ks:List aX}{sp:Sp}{E:XK}{x m:aX}{p pos ez Bw:dF}{e o:Expr}{es:List Expr}{kws:List hZ}{te ta:TE}{t tk:TA}{nm:Option aX}
variable {g:List af->List af->List af}{gV:List V->List V->List V}
end
structure bu (N P:List aX)(sc:gH):Prop where
 kind:sc.kind=.function
 co:sc.isCoroutine=false
 gen:sc.isGenerator=false
 nd:N.Nodup
 pre:N.take P.length=P
 par:∀x∈P,sc.names.lookup x=some .local\/sc.names.lookup x=some .cell
 nofree:∀y∈sc.names,y.2≠.free
theorem Su {kindOf:aX->Option bw}{x:aX}:∀{binds:List (aX×af)} {m:aX->Option af},(∀v,(x,v)∉binds)->sv kindOf binds m x=m x
 |[],_,_=>rfl
 |(n,v)::r,m,h=>by
  unfold sv
  rw[Su λw hw=>h w (aj _ hw)]
  split
  ·have:x≠n:=by rintro rfl;exact h v aa
   simp[this]
  ·rfl
theorem Sv {kindOf:aX->Option bw}{x:aX}:∀{binds:List (aX×af)} {m:aX->Option af},(∀v,(x,v)∉binds)->su kindOf binds m x=m x
 |[],_,_=>rfl
 |(n,v)::r,m,h=>by
  unfold su
  rw[Sv λw hw=>h w (aj _ hw)]
  split
  ·rfl
  ·have:x≠n:=by rintro rfl;exact h v aa
   simp[this]
theorem SA {kindOf:aX->Option bw}{x:aX}{v:af}:∀{P:List aX} {vs:List af} {i:Nat} {m:aX->Option af},P.Nodup->P[i]?=some x->vs[i]?=some v->kindOf x=some .local ->
  sv kindOf (P.zip vs) m x=some v
 |[],_,_,_,_,h,_,_=>by simp at h
 |_::_,[],_,_,_,_,h,_=>by simp at h
 |p::P,w::vs,0,m,nd,h1,h2,hk=>by
  simp at h1 h2;subst h1;subst h2
  show sv kindOf ((p,w)::P.zip vs) m p=_
  unfold sv
  rw[Su λv hv=>(bP.mp nd).1 (gZ hv).1,if_pos hk]
  simp
 |p::P,w::vs,i+1,m,nd,h1,h2,hk=>by
  show sv kindOf ((p,w)::P.zip vs) m x=_
  unfold sv
  exact SA (i:=i) (bP.mp nd).2 (by simpa using h1) (by simpa using h2) hk
theorem SC {kindOf:aX->Option bw}{x:aX}{v:af}:∀{P:List aX} {vs:List af} {i:Nat} {m:aX->Option af},P.Nodup->P[i]?=some x->vs[i]?=some v->kindOf x≠some .local ->
  su kindOf (P.zip vs) m x=some v
 |[],_,_,_,_,h,_,_=>by simp at h
 |_::_,[],_,_,_,_,h,_=>by simp at h
 |p::P,w::vs,0,m,nd,h1,h2,hk=>by
  simp at h1 h2;subst h1;subst h2
  show su kindOf ((p,w)::P.zip vs) m p=_
  unfold su
  rw[Sv λv hv=>(bP.mp nd).1 (gZ hv).1,if_neg hk]
  simp
 |p::P,w::vs,i+1,m,nd,h1,h2,hk=>by
  show su kindOf ((p,w)::P.zip vs) m x=_
  unfold su
  exact SC (i:=i) (bP.mp nd).2 (by simpa using h1) (by simpa using h2) hk
def start (N:List aX)(vs:List V):St:=vs.map some++aC (N.length-vs.length) none
def n6 (CX:tP)(P:bJ)(w:cw)(K:ae)(mg:aX->Option af)(base:bc)(N:List aX)(qual:aX)(scope:gH)(f:ai)(cd:af)(A:bX)(outer:List Env)(s:ap)(H:Hp)(E:XK):Cx where
 prog:=P
 w:=w
 K:=K
 mg:=mg
 base:=base
 A:=A.deeper (envOfC qual scope s.heap.objs.size f cd)
 N:=N
 s₀:=s
 H₀:=H
 env:=envOfC qual scope s.heap.objs.size f cd
 outer:=outer
 stack:=envOfC qual scope s.heap.objs.size f cd::outer
 ex:=[]
 calm:=true
 fn:=λ_=>true
 pn:=[]
 xe:=λe s'=>bj (bi P w) (A.deeper (envOfC qual scope s.heap.objs.size f cd)) (leaving (envOfC qual scope s.heap.objs.size f cd) e) (λ_ s''=>CX outer H s E e s'') (λe' s''=>CX outer H s E e' s'') s'
theorem Th {sc:gH}{n:Nat}{x:aX}(h:sc.names.lookup x=some .cell):∃c,(cellsFrom n sc.names []).lookup x=some c:=by
 have q:=iU sc.names n [] (.inl h)
 exact nR.mp q
theorem zl2 {CX:tP}{P:bJ}{w:cw}{K:ae}{mg:aX->Option af}{base:bc}{N ps:List aX}{qual:aX}{scope:gH}{f:ai}{cd:af}{A:bX}{outer:List Env}{s s1:ap}{H:Hp}{E:XK}{us:List af}{vs:List V}
  (S:bu N ps scope) (hd:A.handled=none) (e0:qQ P w K mg base A outer s H) (hl:vs.length=ps.length) (r:ck vs us)
  (x:InCallC s s.heap.objs.size (sv (envOfC qual scope s.heap.objs.size f cd).kindOf (ps.zip us) λ_=>none) (cellsFrom (s.heap.objs.size+1) scope.names []) (su (envOfC qual scope s.heap.objs.size f cd).kindOf (ps.zip us) λ_=>none) s1) :
  Inv (n6 CX P w K mg base N qual scope f cd A outer s H E) [] (start N vs) H s1:=by
 have iW:ps.length<=N.length:=by have:=congrArg mO S.pre;rw[eQ]at this;omega
 obtain⟨h1,tk,rfl,hk⟩:=x.done
 have G6:∀b:ai,b∉(n6 CX P w K mg base N qual scope f cd A outer s H E).ex:=λb z=>absurd (show b∈([]:List ai)from z) (by simp)
 refine⟨⟨e0.mod,S.kind,rfl,rfl,aM _,λy z c h1 h2=>?_,λy hy=>?_,λy c _ h=>?_,λ_=>hd,bX.frames_deeper e0.frames,.inr ⟨rfl,rfl⟩,λb z=>absurd z (G6 b),e0.bs,e0.bsz,λb _ _=>G6 b,λb z=>absurd z (G6 b),e0.funs,e0.frf⟩,
  rfl,e0.bare,Un.kept hk,⟨_,x.toInCall.ns,λi y v h1 h2 h3=>?_⟩,λy c h=>⟨_,x.cell y c h⟩,e0.hok.fresh (aM _),λy c h=>?_,λp hp=>absurd (show p∈([]:List (ai×d8))from hp) (by simp),e0.hok.kept hk,?_⟩
 ·exact name_of_addr x.apart (PySem.mem_of_lookup h1) (PySem.mem_of_lookup h2)
 ·have hy:scope.names.lookup y=some .cell\/scope.names.lookup y=some .free:=hy
  rcases hy with hy|hy
  ·exact Th hy
  ·exact absurd rfl (S.nofree _ (PySem.mem_of_lookup hy))
 ·exact ma (x.above y c (PySem.mem_of_lookup h))
 ·have hi:i<vs.length:=by
   unfold start at h2
   by_cases hi:i<vs.length
   ·exact hi
   ·rw[fF (by simpa using hi)]at h2
    rw[eP]at h2
    split at h2<;>cases h2
  have ha:vs[i]?=some v:=by
   unfold start at h2
   rw[cE (by simpa using hi),aD]at h2
   cases e:vs[i]? with
   |none=>rw[e]at h2;cases h2
   |some a=>rw[e]at h2;cases h2;rfl
  obtain⟨u,hu,rv⟩:=r.get ha
  have hp:ps[i]?=some y:=by
   rw[←S.pre,List.getElem?_take_of_lt (by omega)];exact h1
  have Rc:ps.Nodup:=by rw[←S.pre];exact S.nd.sublist (List.take_sublist _ _)
  refine⟨u,rv,?_⟩
  rcases S.par y (List.mem_of_getElem? hp)with k|k
  ·exact .inl ⟨k,SA Rc hp hu k⟩
  ·obtain⟨c,e⟩:=Th (n:=s.heap.objs.size+1) k
   refine .inr ⟨.inl k,c,e,?_⟩
   have q:=x.cell y c e
   rw[SC Rc hp hu (by show scope.names.lookup y≠_;rw[k];decide)]at q
   exact q
 ·exact e0.hok.fresh (ma (x.above y c (PySem.mem_of_lookup h)))
 ·unfold start
  show _=N.length
  rw[aZ,ah,cZ]
  omega
theorem zwk {CX:tP}{P:bJ}{w:cw}{K:ae}{mg:aX->Option af}{base:bc}{k:Nat}{f:ai}{name qual:aX}{params:Arguments}{body:List bT}{scope:gH}{dV kV doc pm iC ct oc:af}{an od:Option ai}
    {BD:Array (Option af)} {N ps:List aX} {sp:Sp} (lk:K.lookup f=some ⟨oc,od,.func (gY name qual params body scope dV kV doc pm an iC ct),BD⟩) (jT:aA K iC qual=true) (S:bu N ps scope)
    (len:∀vs H Q E,sp vs H Q E->vs.length=ps.length)
    (uH:∀(A:bX) (outer:List Env) (s:ap) (H:Hp) (vs:List V) (Q:VK) (E:XK),eR k (A.deeper (envOfC qual scope s.heap.objs.size f iC))->sp vs H Q E ->
      ∃t,qY (n6 CX P w K mg base N qual scope f iC A outer s H E) body t/\t { nx:=λ_ H'=>Q .non H',rt:=Q } (start N vs) H) :
    cH P w K mg base CX (k+1) f (gY name qual params body scope dV kV doc pm an iC ct) ps sp:=by
  refine⟨len,λA outer s H args us vs Q E hr e0 hb r yN=>?_⟩
  have hl:=len _ _ _ _ yN
  have KX:K.In s.heap:=e0.mod.kin.keeps λb o e=>(e0.bs b o e).1
  have lim:s.heap.NoLimit:=e0.mod.nolimit.keeps λb o e=>(e0.bs b o e).1
  have Fx:∀y∈ps.zip us,scope.names.lookup y.1=some .local\/(scope.names.lookup y.1=some .cell/\((cellsFrom (s.heap.objs.size+1) scope.names []).lookup y.1).isSome=true):=λ⟨n,v⟩ hy=>by
    rcases S.par n (gZ hy).1 with q|q
    · exact .inl q
    · exact .inr ⟨q,iU _ _ _ (.inl q)⟩
  refine codeAny_call_function hr.depth (KX _ _ lk) rfl S.co S.gen rfl (PySem.W.codeRec_of KX jT) (hb _ _ _ _ ?_)
  refine wpAny_newFunctionEnv_cells S.kind Fx λenv he s1 x=>?_
  subst he
  refine⟨lim.keeps x.toInCall.keep,codeAny_func ?_⟩
  obtain⟨t,ht,hq⟩:=uH A outer s H vs Q E (hr.deeper _) yN
  have I:Inv (n6 CX P w K mg base N qual scope f iC A outer s H E) [] (start N vs) H s1:=zl2 S hr.hd e0 hl r x
  refine dZ (ht [] s1 (start N vs) H _ I hq) (λfl s' hs=>?_) λe s' hs=>hs
  have fin:∀{σ':St} {H':Hp} {v:V} {u:af},Inv (n6 CX P w K mg base N qual scope f iC A outer s H E) [] σ' H' s'->RelV v u->Q v H'->CE outer P w H s Q u s' :=
    λ{σ' H' v u} J rv q=>⟨v,H',J.os,J.bare,J.base,J.hok,rv,q⟩
  cases fl with
  |ret u=>
    obtain⟨v,σ',H',J,rv,q⟩:=hs
    exact fin J rv q
  |next=>
    obtain⟨σ',H',J,q⟩:=hs
    exact fin (v:=V.non) (u:=af.none) J rfl q
  |brk=>
    obtain⟨_,_,_,q⟩:=hs
    exact False.elim q
  |cont=>
    obtain⟨_,_,_,q⟩:=hs
    exact False.elim q
end L2
namespace L2
open PySem PySem.Spec PyProof.Rows
section
variable {X:Cx}{x:aX}{p pos:dF}{e:Expr}{es:List Expr}{t:TA}{id T:String}{r:List V->Hp->VK->Prop}
def NJ (r:List V->Hp->VK->Prop)(t:TA):TE:=λσ H Q=>t σ H λvs H1=>r vs H1 Q
theorem IP (hc:eK X (.builtin id) r)(hg:Gl X x)(hm:X.mg x=none)(hv:bO x=some (.builtin id))(ha:PA X (e::es) t)(hn:x≠"__name__":=by decide)(lU:(x==("__debug__":aX))=false:=by decide)
  (he:ay (e::es) X.env=(false,bY e X.env)::ay es X.env:=by rfl) (iW:(cQ pos (ay es X.env)).any (·.1)=false:=by rfl):PE X (.Call (.Name x p) (e::es) [] pos) (NJ r t):=by
 intro am s σ H Q I h
 refine dM (xR I hg hm hv ?_ hn lU)
 exact PyProof.Rows.callWith_builtin1 (dC (ha pos am s σ H _ I h) λus s1 ⟨vs,H1,I1,r1,q1⟩=>hc am s1 σ H1 vs us Q I1 r1 q1) he iW
theorem Oq (hc:eK X (.type T) r)(hg:Gl X x)(hm:X.mg x=none)(hv:bO x=some (.type T))(ha:PA X (e::es) t)(hn:x≠"__name__":=by decide)(lU:(x==("__debug__":aX))=false:=by decide)
  (he:ay (e::es) X.env=(false,bY e X.env)::ay es X.env:=by rfl) (iW:(cQ pos (ay es X.env)).any (·.1)=false:=by rfl):PE X (.Call (.Name x p) (e::es) [] pos) (NJ r t):=by
 intro am s σ H Q I h
 refine dM (xR I hg hm hv ?_ hn lU)
 exact cK (dC (ha pos am s σ H _ I h) λus s1 ⟨vs,H1,I1,r1,q1⟩=>hc am s1 σ H1 vs us Q I1 r1 q1) he iW
end
end L2
namespace HT
open PySem PyProof.Rows
section
open PySem.SeqAt
open PySem.AutoSeq1 (wpAny_loadPart')
open PySem.MeetsSeq PySem.MeetsSeq2 PySem.MeetsSeq3
end
section
variable {prog:bJ}{w:cw}{A:bX}{E:af->ap->Prop}{s:ap}
theorem cat_tup {t b:ai}{vs ws:List af}{Q:af->ap->Prop}(ht:IsTup s.heap t vs.toArray)(hb:IsTup s.heap b ws.toArray)(hv:vs≠[])
    (h1:ws=[]->Q (.ref t) s) (h2:ws≠[]->Q (.ref s.heap.objs.size) { s with heap:=s.heap.push { cls:=.type "tuple",data:=.seq (vs++ws).toArray } })
    (hsz:vs.length+ws.length<=sizeLine):bj (bi prog w) A (eD .Add (.ref t) (.ref b)) Q E s:=by
  obtain⟨⟨cls,dd,data,sl⟩,ho,hc,n,hd⟩:=id ht
  obtain⟨⟨Lq,Js,data2,Ih⟩,JK,Cj,n2,hd2⟩:=id hb
  simp only at hc hd Cj hd2
  subst hc hd Cj hd2
  have e:vs.toArray++ws.toArray=(vs++ws).toArray:=by simp
  by_cases hw:ws=[]
  · exact tJ ⟨_,ho,rfl⟩ ⟨_,JK,rfl⟩ noFill_tuple_add seq_tuple_add PySem.F.slot_tuple_add PySem.F.entry_tuple_add (PySem.F.args_tuple_add_2 _ _)
      (tuple_addW1 t b vs.toArray ws.toArray n n2 dd Js sl Ih (by simpa using hv) (by simp[hw])) ⟨ho,JK,h1 hw⟩
  · refine tJ ⟨_,ho,rfl⟩ ⟨_,JK,rfl⟩ noFill_tuple_add seq_tuple_add PySem.F.slot_tuple_add PySem.F.entry_tuple_add (PySem.F.args_tuple_add_2 _ _)
      (tuple_addW2 t b vs.toArray ws.toArray n n2 dd Js sl Ih (by simpa using hv) (by simpa using hw) (by rw[aL,aL];exact hsz)) ⟨ho,JK,?_⟩
    rw[e]
    exact h2 hw
def sIx (n d:Nat):Option Int->Nat
 |none=>d
 |some v=>if v<0 then(v+(n:Int)).toNat else min v.toNat n
theorem sIx_none (n d:Nat):sIx n d none=d:=rfl
theorem sIx_nat (n d k:Nat):sIx n d (some (k:Int))=min k n:=by
 show(if(k:Int)<0 then((k:Int)+(n:Int)).toNat else min (k:Int).toNat n)=min k n
 rw[if_neg (by omega),eG]
end
end HT
namespace L2
open PySem PySem.Spec PyProof.Rows
abbrev TO:=St->Hp->(Option Int->Hp->Prop)->Prop
def PO (X:Cx)(e:Option Expr)(t:TO):Prop :=
 ∀(am:List (ai×d8)) (s:ap) (σ:St) (H:Hp) (Q:Option Int->Hp->Prop),Inv X am σ H s->t σ H Q ->
  bj (bi X.prog X.w) X.A (evalPart e X.env) (λu s'=>∃o H',Inv X am σ H' s'/\IsPart u o/\Q o H') X.xe s
def xK:TO:=λ_ H Q=>Q none H
def Iv (t:TE):TO:=λσ H Q=>t σ H λx H1=>∃i,x=.int i/\Q (some i) H1
theorem zk3 {ns:List Int}:∀{us:List af},ck (ns.map V.int) us->IntsAre us ns:=by
 induction ns with
 |nil=>intro us r;rw[jE]at r;cases r;exact .nil
 |cons n ns ih=>
  intro us r
  rw[aP]at r
  cases r with
  |cons r1 r2=>
   obtain⟨t,e⟩:=r1
   subst e
   exact .cons n t (ih r2)
section
variable {X:Cx}{e:Expr}{te:TE}{lo hi:Option Expr}{tl th:TO}{pos p2:dF}
theorem zr0:PO X none xK:=by
 intro am s σ H Q I h
 rw[evalPart_none]
 exact bZ ⟨none,H,I,.none,h⟩
theorem zr1 (h:PE X e te):PO X (some e) (Iv te):=by
 intro am s σ H Q I hw
 rw[evalPart_some]
 refine dC (h am s σ H _ I hw) λu s1 ⟨x,H1,I1,r1,q1⟩=>?_
 obtain⟨i,rfl,q⟩:=q1
 obtain⟨t,rfl⟩:=r1
 exact⟨some i,H1,I1,.int i t,q⟩
def P1 (X:Cx)(r:V->Option Int->Option Int->Hp->VK->Prop):Prop :=
 ∀(am:List (ai×d8)) (s:ap) (σ:St) (H:Hp) (x:V) (v vl vu:af) (lo hi:Option Int) (sl:ai) (Q:VK),Inv X am σ H s->RelV x v->s.heap.IsSliceOf sl vl vu .none->IsPart vl lo->IsPart vu hi->r x lo hi H Q ->
  ∃T id,qD (.type T) "__getitem__"=pure (some (.builtin id))/\s.TypeIs v T/\bj (bi X.prog X.w) X.A (nL v (.ref sl)) (EP X am σ Q) X.xe s
def tSl (r:V->Option Int->Option Int->Hp->VK->Prop)(te:TE)(tl th:TO):TE:=λσ H Q=>te σ H λx H1=>tl σ H1 λl H2=>th σ H2 λu H3=>r x l u H3 Q
theorem zox {r:V->Option Int->Option Int->Hp->VK->Prop}(hr:P1 X r)(he:PE X e te)(hl:PO X lo tl)(hu:PO X hi th):PE X (.Subscript e (.Slice lo hi none p2) pos) (tSl r te tl th):=by
  intro am s σ H Q I h
  refine Subscript_ (dC (he am s σ H _ I h) λv s1 ⟨x,H1,I1,r1,q1⟩=>?_)
  refine wpAny_Slice (dC (hl am s1 σ H1 _ I1 q1) λvl s2 ⟨l,H2,I2,pl,q2⟩=>dC (hu am s2 σ H2 _ I2 q2) λvu s3 ⟨u,H3,I3,pu,q3⟩=>?_)
  rw[evalPart_none]
  refine bZ ?_
  have I4:Inv X am σ H3 { s3 with heap:=s3.heap.push { cls:=.type "slice",data:=.fields #[vl,vu,.none] } }:=I3.kept (t':=s3.toks) λb ob q=>aJ _ q
  obtain⟨T,id,hT,ht,hg⟩:=hr am { s3 with heap:=s3.heap.push { cls:=.type "slice",data:=.fields #[vl,vu,.none] } } σ H3 x v vl vu l u s3.heap.objs.size Q I4 r1 (bc.IsSliceOf.new ..) pl pu q3
  show bj (bi X.prog X.w) X.A (subscriptTail e (.Slice lo hi none p2) v (.ref s3.heap.objs.size)) (EP X am σ Q) X.xe { s3 with heap:=s3.heap.push { cls:=.type "slice",data:=.fields #[vl,vu,.none] } }
  exact tail_any (ops:=[.ref s3.heap.objs.size,v]) ht hT hg (by with_unfolding_all rfl)
def sK (xs:List V)(lo hi:Option Int):List V:=(xs.drop (HT.sIx xs.length 0 lo)).take (HT.sIx xs.length xs.length hi-HT.sIx xs.length 0 lo)
theorem zir (xs:List V)(lo hi:Option Int):(sK xs lo hi).length<=xs.length:=by
 unfold sK
 rw[eQ,cU]
 omega
def yU (K:ae):R2:=λx y H Q=>∃a b xs ys,x=.ref a/\y=.ref b/\kX K H a xs/\kX K H b ys/\xs≠[]/\xs.length+ys.length<=sizeLine /\
 (ys=[]->Q (.ref a) H)/\(ys≠[]->∀p,H p=none->Q (.ref p) (d4 H p (.tup (xs++ys))))
theorem ck.nil_iff {xs:List V}{us:List af}(r:ck xs us):us=[]↔xs=[]:=by
 cases r with
 |nil=>simp
 |cons _ _=>simp
theorem zr2:gu X (eD .Add) (yU X.K):=by
 intro am s σ H x y v u Q I rx ry h
 obtain⟨a,b,xs,ys,rfl,rfl,ha,hb,hx,hz,q1,q2⟩:=h
 cases rx
 cases ry
 obtain⟨cv,r1,p1,_⟩:=I.tuple ha
 obtain⟨xB,r2,p2,_⟩:=I.tuple hb
 refine HT.cat_tup p1 p2 (λz=>hx (r1.nil_iff.mp z)) (λz=>⟨.ref a,H,I,rfl,q1 (r2.nil_iff.mp z)⟩) (λz=>?_) (by rw[←r1.length,←r2.length];exact hz)
 refine⟨.ref s.heap.objs.size,_,I.laid (t':=s.toks) (o:=.tup (xs++ys)) (λb ob q=>aJ _ q) (aM _) ?_,rfl,q2 (λw=>z (r2.nil_iff.mpr w)) _ (I.hok.fresh (aM _))⟩
 exact⟨by rw[aZ];exact hz,_,r1.append r2,IsTup.new _ _⟩
end
end L2
namespace L2
open PySem PySem.Spec PyProof.Rows
def ixN (n:Nat)(i:Int):Option Nat:=if 0<=i then(if i<n then some i.toNat else none)else if -(n:Int)<=i then some (i+n).toNat else none
def atI {α:Type}(xs:List α)(i:Int):Option α:=(ixN xs.length i).bind λj=>xs[j]?
theorem O7 {n:Nat}{i:Int}{j:Nat}(h:ixN n i=some j):seqIndex? i n=some j/\j<n/\-(n:Int)<=i/\i<n:=by
 unfold ixN at h
 by_cases h0:0<=i
 ·rw[if_pos h0]at h
  by_cases h1:i<n
  ·rw[if_pos h1]at h
   have e:i.toNat=j:=Option.some.inj h
   exact⟨by rw[oN h0 h1,e],by omega,by omega,h1⟩
  ·rw[if_neg h1]at h;cases h
 ·rw[if_neg h0]at h
  by_cases h1:-(n:Int)<=i
  ·rw[if_pos h1]at h
   have e:(i+n).toNat=j:=Option.some.inj h
   exact⟨by rw[nM (by omega) h1,e],by omega,h1,by omega⟩
  ·rw[if_neg h1]at h;cases h
theorem Kz {α:Type}{xs:List α}{i:Int}{v:α}(h:atI xs i=some v):∃j,seqIndex? i xs.length=some j/\xs[j]?=some v/\j<xs.length/\-(xs.length:Int)<=i/\i<xs.length:=by
 unfold atI at h
 cases e:ixN xs.length i with
 |none=>rw[e]at h;cases h
 |some j=>
  rw[e]at h
  obtain⟨h1,h2,h3,h4⟩:=O7 e
  exact⟨j,h1,h,h2,h3,h4⟩
theorem ui {α:Type}{xs:List α}{j:Nat}{v:α}(h:xs[j]?=some v):atI xs (j:Int)=some v:=by
 have hj:j<xs.length:=(aW.mp h).1
 have e:ixN xs.length (j:Int)=some j:=by
  unfold ixN
  rw[if_pos (by omega),if_pos (by omega)];simp
 unfold atI;rw[e];exact h
def oS (b:Expr):Prop:=∀o i,oO b false o i=operate [o,i] (nL o i)
def vM (X:Cx)(r:R2):Prop :=
 ∀(value slice:Expr) (am:List (ai×d8)) (s:ap) (σ:St) (H:Hp) (x y:V) (v u:af) (Q:VK),Inv X am σ H s->RelV x v->RelV y u->r x y H Q ->
  oO slice false v u=operate [v,u] (nL v u)->bj (bi X.prog X.w) X.A (subscriptTail value slice v u) (EP X am σ Q) X.xe s
def PZ (X:Cx)(id:String)(r:V->List V->Hp->VK->Prop):Prop :=
 ∀(am:List (ai×d8)) (s:ap) (σ:St) (H:Hp) (x:V) (xs:List V) (v:af) (us:List af) (Q:VK),Inv X am σ H s->RelV x v->ck xs us->r x xs H Q ->
  bj (bi X.prog X.w) X.A (call (.builtin id) (v::us)) (EP X am σ Q) X.xe s
section
variable {X:Cx}{a b:Expr}{ta tb:TE}{pos:dF}
theorem vM.or {r r':R2}(h:vM X r)(h':vM X r'):vM X (λx y H Q=>r x y H Q\/r' x y H Q):=by
 intro value slice am s σ H x y v u Q I rx ry q hs
 rcases q with q|q
 ·exact h value slice am s σ H x y v u Q I rx ry q hs
 ·exact h' value slice am s σ H x y v u Q I rx ry q hs
theorem zwl {r:R2}(hr:vM X r)(ha:PE X a ta)(hb:PE X b tb)(hs:oS b):PE X (.Subscript a b pos) (JZ r ta tb):=by
 intro am s σ H Q I h
 exact Subscript_ (zX ha hb I h λv u s2 x y H2 I2 rx ry q=>hr a b am s2 σ H2 x y v u Q I2 rx ry q (hs _ _))
def HW (K:ae):R2:=λx y H Q=>∃p xs i v,x=.ref p/\y=.int i/\fX K H p xs/\atI xs i=some v/\Q v H
def HY (K:ae):R2:=λx y H Q=>∃p xs i v,x=.ref p/\y=.int i/\kX K H p xs/\atI xs i=some v/\Q v H
def HX:R2:=λx y H Q=>∃z i c,x=.str z/\y=.int i/\z.length<=sizeLine/\atI z.cps.toList i=some c/\Q (.str ⟨#[c]⟩) H
theorem zr3:vM X (HW X.K):=by
 intro value slice am s σ H x y v u Q I rx ry h hs
 obtain⟨p,xs,i,z,rfl,rfl,hq,he,q⟩:=h
 cases rx
 obtain⟨t,rfl⟩:=ry
 obtain⟨cv,r,pl,hz⟩:=I.list hq
 obtain⟨j,h1,h2,h3,h4,h5⟩:=Kz he
 obtain⟨w,ew,oe⟩:=r.get h2
 have hl:=r.length
 have hn:=kC
 have fin:EP X am σ Q w s:=⟨z,H,I,oe,q⟩
 by_cases h0:0<=i
 ·have hj:i.toNat=j:=by
   rw[oN h0 h5]at h1
   exact Option.some.inj h1
  exact item_listR pl.isList h0 (by omega) (by rw[hj];simpa using ew) fin hs
 ·have hj:(i+(cv.toArray.size:Int)).toNat=j:=by
   rw[nM (by omega) h4]at h1
   rw[aL,←hl]
   exact Option.some.inj h1
  exact subscriptTail_builtinR (x:=w) pl.isList.typeIs slot_list_getitem.lookup
   (wpAny_getItem_list_neg (Q:=λr s'=>r=w/\EP X am σ Q r s') pl.isList (by omega) (by rw[aL]<;>omega) (by omega) (by rw[hj];simpa using ew) ⟨rfl,fin⟩) hs
theorem zuw:vM X (HY X.K):=by
 intro value slice am s σ H x y v u Q I rx ry h hs
 obtain⟨p,xs,i,z,rfl,rfl,hq,he,q⟩:=h
 cases rx
 obtain⟨t,rfl⟩:=ry
 obtain⟨cv,r,pl,hz⟩:=I.tuple hq
 obtain⟨j,h1,h2,h3,h4,h5⟩:=Kz he
 obtain⟨w,ew,oe⟩:=r.get h2
 have hl:=r.length
 have hn:=kC
 have fin:EP X am σ Q w s:=⟨z,H,I,oe,q⟩
 exact subscriptTail_builtinR (x:=w) pl.typeIs slot_tuple_getitem.lookup
  (getItem_tuple (j:=j) (Q:=λr s'=>r=w/\EP X am σ Q r s') pl (by omega) (by omega) (by rw[aL,←hl];exact h1) (by simpa using ew) ⟨rfl,fin⟩) hs
theorem zux:vM X HX:=by
 intro value slice am s σ H x y v u Q I rx ry h hs
 obtain⟨z,i,c,rfl,rfl,hz,he,q⟩:=h
 obtain⟨t,rfl⟩:=rx
 obtain⟨t',rfl⟩:=ry
 obtain⟨j,h1,h2,h3,h4,h5⟩:=Kz he
 have hl:z.cps.toList.length=z.length:=by simp[aX.length]
 rw[hl]at h1 h4 h5
 have hn:=kC
 exact tail_any (typeIs_str s z t) slot_str_getitem.lookup (getItem_str (c:=c) (by
  have e1:decide (i < -(2 ^ 63:Int))=false:=decide_eq_false (by omega)
  have e2:decide (i >= 2 ^ 63)=false:=decide_eq_false (by omega)
  rw[e1,e2,xV]) (by rw[h1];simpa using h2) ⟨.str ⟨#[c]⟩,H,I.tok _,⟨_,rfl⟩,q⟩) hs
def Rt (K:ae):R2:=λx y H Q=>HW K x y H Q\/HY K x y H Q\/HX x y H Q
theorem vX:vM X (Rt X.K):=zr3.or (zuw.or zux)
theorem zk4 (cv:List af)(n j:Nat)(u:af):d8.mapSeq (·.setIfInBounds j u) { cls:=.type "list",data:=.seq cv.toArray n } = { cls:=.type "list",data:=.seq (cv.set j u).toArray n }:=by
  simp[d8.mapSeq]
theorem Inv.lst {am:List (ai×d8)}{σ:St}{H:Hp}{s:ap}{p:ai}{xs:List V}(I:Inv X am σ H s)(h:H p=some (.lst xs)) :
    ∃(cv:List af) (n:Nat),ck xs cv/\s.heap.get? p=some { cls:=.type "list",data:=.seq cv.toArray n }/\xs.length<=sizeLine:=by
  obtain⟨z,cv,n,r,e⟩:=I.hok p _ h
  exact⟨cv,n,r,e,z⟩
theorem Inv.lstUpd {am:List (ai×d8)}{σ:St}{H:Hp}{s:ap}{p:ai}{xs ys:List V}{cv its':List af}{n n':Nat}{f:d8->d8}(I:Inv X am σ H s)(h:H p=some (.lst xs))
    (ho:s.heap.get? p=some { cls:=.type "list",data:=.seq cv.toArray n }) (hf:f { cls:=.type "list",data:=.seq cv.toArray n } = { cls:=.type "list",data:=.seq its'.toArray n' }) (r:ck ys its') (hz:ys.length<=sizeLine) (t:Nat) :
    Inv X am σ (d4 H p (.lst ys)) { s with heap:=s.heap.update p f,toks:=t }:=by
  have e:(s.heap.update p f).get? p=some { cls:=.type "list",data:=.seq its'.toArray n' }:=by
    rw[pV f ho (by rw[hf]<;>rfl),hf]
  refine I.write (x:=p) (e:=p) (by rw[h];trivial) (.inl rfl) (λb u hb q=>(jC _ _ (Ne.symm hb)).trans q) ⟨_,e⟩ ?_
  exact⟨hz,its',n',r,e⟩
def Ib:V->V->V->Hp->(Hp->Prop)->Prop:=λo i v H Q=>∃p xs k j,o=.ref p/\i=.int k/\H p=some (.lst xs)/\ixN xs.length k=some j/\Q (d4 H p (.lst (xs.set j v)))
theorem Ti:zT X Ib:=by
 intro am s σ H o i v ov iv u Q I ro ri rv h
 obtain⟨p,xs,k,j,rfl,rfl,hp,hj,q⟩:=h
 cases ro
 obtain⟨t,rfl⟩:=ri
 obtain⟨cv,n,r,ho,hz⟩:=I.lst hp
 obtain⟨h1,h2,h3,h4⟩:=O7 hj
 have hl:=r.length
 have hn:=kC
 have I':Inv X am σ (d4 H p (.lst (xs.set j v))) { s with heap:=s.heap.update p (d8.mapSeq (·.setIfInBounds j u)) } :=
  I.lstUpd hp ho (zk4 cv n j u) (r.set rv j) (by rw[vJ];exact hz) s.toks
 by_cases h0:0<=k
 ·have hk:k.toNat=j:=by
   rw[oN h0 h4]at h1
   exact Option.some.inj h1
  exact PySem.W.ki_setAt ho h0 (by omega) (by rw[aL,←hl];exact h4) (by rw[hk];exact⟨_,I',q⟩)
 ·have hk:(k+(cv.toArray.size:Int)).toNat=j:=by
   rw[nM (by omega) h3]at h1
   rw[aL,←hl]
   exact Option.some.inj h1
  exact PySem.W.ki_setBack ho (by omega) (by rw[aL,←hl];exact h3) (by omega) (by rw[hk];exact⟨_,I',q⟩)
theorem zhc (lo hi:Option Int)(n:Nat):(ip lo hi none n).1=((HT.sIx n 0 lo:Nat):Int)/\(ip lo hi none n).2.1=((HT.sIx n n hi:Nat):Int)/\(ip lo hi none n).2.2=1:=by
 refine⟨?_,?_,rfl⟩
 ·cases lo with
  |none=>simp[ip,HT.sIx]
  |some i=>
   simp only[ip,HT.sIx,sr,show(1:Int) > 0 by decide,if_true]
   by_cases h:i<0
   ·simp only[h,if_true]<;>omega
   ·simp only[h,if_false]<;>omega
 ·cases hi with
  |none=>simp[ip,HT.sIx]
  |some i=>
   simp only[ip,HT.sIx,sr,show(1:Int) > 0 by decide,if_true]
   by_cases h:i<0
   ·simp only[h,if_true]<;>omega
   ·simp only[h,if_false]<;>omega
theorem zfz (cv:List af)(lo hi:Option Int):slicePick cv.toArray lo hi none=((cv.drop (HT.sIx cv.length 0 lo)).take (HT.sIx cv.length cv.length hi-HT.sIx cv.length 0 lo)).toArray:=by
 obtain⟨h1,h2,h3⟩:=zhc lo hi cv.toArray.size
 unfold slicePick
 rw[h1,h2,h3]
 simp only[sliceRange_one,pick_run,aL]<;>rfl
def NB (K:ae):V->Option Int->Option Int->Hp->VK->Prop:=λx lo hi H Q=>∃a xs,x=.ref a/\fX K H a xs/\∀p,H p=none->Q (.ref p) (d4 H p (.lst (sK xs lo hi)))
theorem zr4:P1 X (NB X.K):=by
 intro am s σ H x v vl vu lo hi sl Q I rx hs pl pu h
 obtain⟨a,xs,rfl,hx,q⟩:=h
 cases rx
 obtain⟨cv,r,ht,hz⟩:=I.list hx
 have dB:=r.length
 refine⟨"list",_,slot_list_getitem.lookup,ht.isList.typeIs,?_⟩
 refine wpAny_getItem_list_slice ht.isList hs pl pu .none (by simp) ?_ (by rw[aL]<;>omega)
 rw[zfz,←dB]
 refine⟨.ref s.heap.objs.size,_,I.laid (t':=s.toks) (o:=.lst (sK xs lo hi)) (λb ob q=>aJ _ q) (aM _) ?_,rfl,q _ (I.hok.fresh (aM _))⟩
 exact⟨cB (zir xs lo hi) hz,_,0,(r.drop (HT.sIx xs.length 0 lo)).take (HT.sIx xs.length xs.length hi-HT.sIx xs.length 0 lo),bW _ rfl⟩
def iQ:V->Bool
 |.non=>true
 |.bl _=>true
 |.int _=>true
 |.str _=>true
 |_=>false
def sM:V->V->Bool
 |.non,.non=>true
 |.bl a,.bl b=>a==b
 |.bl a,.int b=>(if a then 1 else 0)==b
 |.int a,.bl b=>a==(if b then 1 else 0)
 |.int a,.int b=>a==b
 |.str a,.str b=>a==b
 |_,_=>false
theorem zuy {A:bX}{s:ap}{y x:V}{u v:af}(ry:RelV y u)(rx:RelV x v)(fy:iQ y=true)(fx:iQ x=true):SeqAt.EqAt A s u v (sM y x):=by
 cases y with
 |non=>
  cases ry
  cases x with
  |non=>cases rx;exact SeqAt.EqAt.same _
  |bl b=>cases rx;exact SeqAt.EqAt.none_bool b
  |int b=>obtain⟨t,rfl⟩:=rx;exact SeqAt.EqAt.none_int b t
  |str b=>obtain⟨t,rfl⟩:=rx;exact SeqAt.EqAt.none_str b t
  |_=>exact absurd (show false=true from fx) aQ
 |bl a=>
  cases ry
  cases x with
  |non=>cases rx;exact SeqAt.EqAt.bool_none a
  |bl b=>cases rx;exact SeqAt.EqAt.bool_bool a b
  |int b=>obtain⟨t,rfl⟩:=rx;exact SeqAt.EqAt.bool_int a b t
  |str b=>obtain⟨t,rfl⟩:=rx;exact SeqAt.EqAt.bool_str a b t
  |_=>exact absurd (show false=true from fx) aQ
 |int a=>
  obtain⟨t',rfl⟩:=ry
  cases x with
  |non=>cases rx;exact SeqAt.EqAt.int_none a t'
  |bl b=>cases rx;exact SeqAt.EqAt.int_bool a t' b
  |int b=>obtain⟨t,rfl⟩:=rx;exact SeqAt.EqAt.int_int a t' b t
  |str b=>obtain⟨t,rfl⟩:=rx;exact SeqAt.EqAt.int_str a t' b t
  |_=>exact absurd (show false=true from fx) aQ
 |str a=>
  obtain⟨t',rfl⟩:=ry
  cases x with
  |non=>cases rx;exact SeqAt.EqAt.str_none a t'
  |bl b=>cases rx;exact SeqAt.EqAt.str_bool a t' b
  |int b=>obtain⟨t,rfl⟩:=rx;exact SeqAt.EqAt.str_int a t' b t
  |str b=>obtain⟨t,rfl⟩:=rx;exact SeqAt.EqAt.str_str a t' b t
  |_=>exact absurd (show false=true from fx) aQ
 |_=>exact absurd (show false=true from fy) aQ
def pz (x:V)(u:af):Bool:=match u with
 |.none=>sM .non x
 |.bool b=>sM (.bl b) x
 |.int i _=>sM (.int i) x
 |.str z _=>sM (.str z) x
 |_=>false
theorem Pn {x y:V}{u:af}(r:RelV y u)(f:iQ y=true):pz x u=sM y x:=by
 cases y with
 |non=>cases r;rfl
 |bl b=>cases r;rfl
 |int i=>obtain⟨t,rfl⟩:=r;rfl
 |str z=>obtain⟨t,rfl⟩:=r;rfl
 |_=>exact absurd (show false=true from f) aQ
theorem IS {x:V}:∀{xs:List V} {us:List af},ck xs us->xs.all iQ=true->us.any (pz x)=xs.any λy=>sM y x
 |_,_,.nil,_=>rfl
 |y::xs,u::us,.cons r t,f=>by
  rw[dG,bG]at f
  rw[dH,dH,Pn r f.1,IS t f.2]
theorem CC {A:bX}{s:ap}{x:V}{v:af}(rx:RelV x v)(fx:iQ x=true):∀{xs:List V} {us:List af},ck xs us->xs.all iQ=true->∀u∈us,SeqAt.EqAt A s u v (pz x u)
 |_,_,.nil,_=>λu hu=>by cases hu
 |y::xs,u::us,.cons r t,f=>λu' hu=>by
  rw[dG,bG]at f
  rcases aF.mp hu with rfl|hu
  ·rw[Pn r f.1];exact zuy r rx f.1 fx
  ·exact CC rx fx t f.2 u' hu
def JQ (x:V)(xs:List V):Bool:=xs.any λy=>sM y x
def NA (K:ae)(neg:Bool):R2:=λx y H Q=>∃p xs,y=.ref p/\(fX K H p xs\/kX K H p xs)/\iQ x=true/\xs.all iQ=true/\Q (.bl (if neg then !JQ x xs else JQ x xs)) H
theorem u6:gu X (cu .In) (NA X.K false):=by
 intro am s σ H x y v u Q I rx ry h
 obtain⟨p,xs,rfl,hq,fx,fs,q⟩:=h
 cases ry
 rcases hq with hq|hq
 ·obtain⟨cv,r,pl,hz⟩:=I.list hq
  refine SeqAt.in_listAt (pz x) pl.isList (λw hw=>CC rx fx r fs w (by simpa using hw)) ⟨.bl _,H,I,rfl,?_⟩
  rw[show cv.toArray.any (pz x)=cv.any (pz x)by simp,IS r fs]
  exact q
 ·obtain⟨cv,r,pl,hz⟩:=I.tuple hq
  refine SeqAt.in_tupleAt (pz x) pl (λw hw=>CC rx fx r fs w (by simpa using hw)) ⟨.bl _,H,I,rfl,?_⟩
  rw[show cv.toArray.any (pz x)=cv.any (pz x)by simp,IS r fs]
  exact q
theorem jp:gu X (cu .NotIn) (NA X.K true):=by
 intro am s σ H x y v u Q I rx ry h
 obtain⟨p,xs,rfl,hq,fx,fs,q⟩:=h
 cases ry
 rcases hq with hq|hq
 ·obtain⟨cv,r,pl,hz⟩:=I.list hq
  refine SeqAt.notIn_listAt (pz x) pl.isList (λw hw=>CC rx fx r fs w (by simpa using hw)) ⟨.bl _,H,I,rfl,?_⟩
  rw[show cv.toArray.any (pz x)=cv.any (pz x)by simp,IS r fs]
  exact q
 ·obtain⟨cv,r,pl,hz⟩:=I.tuple hq
  refine SeqAt.notIn_tupleAt (pz x) pl (λw hw=>CC rx fx r fs w (by simpa using hw)) ⟨.bl _,H,I,rfl,?_⟩
  rw[show cv.toArray.any (pz x)=cv.any (pz x)by simp,IS r fs]
  exact q
theorem zhd:eK X (.builtin "len") (λxs H Q=>∃p ys,xs=[.ref p]/\(fX X.K H p ys\/kX X.K H p ys)/\Q (.int ys.length) H):=by
 intro am s σ H xs us Q I r h
 obtain⟨p,ys,rfl,hq,q⟩:=h
 obtain⟨u,rfl,rx⟩:=nG r
 cases rx
 have hn:=kC
 rcases hq with hq|hq
 ·obtain⟨cv,r',pl,hz⟩:=I.list hq
  have dB:=r'.length
  exact Calls.call_len_list pl.isList (by simp only[aL]<;>omega) ⟨.int ys.length,H,I.tok _,⟨s.toks+1,by rw[aL,dB]⟩,q⟩
 ·obtain⟨cv,r',pl,hz⟩:=I.tuple hq
  have dB:=r'.length
  exact len_tuple pl (by simp only[aL]<;>omega) ⟨.int ys.length,H,I.tok _,⟨s.toks+1,by rw[aL,dB]⟩,q⟩
theorem zhe:eK X (.builtin "len") (λxs H Q=>∃z,xs=[.str z]/\z.length<=sizeLine/\Q (.int z.length) H):=by
 intro am s σ H xs us Q I r h
 obtain⟨z,rfl,hz,q⟩:=h
 obtain⟨u,rfl,t,rfl⟩:=nG r
 have hn:=kC
 exact len_str (by omega) ⟨.int z.length,H,I.tok _,⟨_,rfl⟩,q⟩
theorem eK.or {f:af}{r r':List V->Hp->VK->Prop}(h:eK X f r)(h':eK X f r'):eK X f (λxs H Q=>r xs H Q\/r' xs H Q):=by
 intro am s σ H xs us Q I rs q
 rcases q with q|q
 ·exact h am s σ H xs us Q I rs q
 ·exact h' am s σ H xs us Q I rs q
theorem Oc:eK X (.type "list") (λxs H Q=>∃p ys,xs=[.ref p]/\(fX X.K H p ys\/kX X.K H p ys)/\∀l,H l=none->Q (.ref l) (d4 H l (.lst ys))):=by
  intro am s σ H xs us Q I r h
  obtain⟨p,ys,rfl,hq,q⟩:=h
  obtain⟨u,rfl,rx⟩:=nG r
  cases rx
  have fin:∀(cv:List af),ck ys cv->ys.length<=sizeLine->∀(h':bc) (c':Nat),(∀b o',s.heap.get? b=some o'->h'.get? b=some o') ->
      h'.get? s.heap.objs.size=some { cls:=.type "list",dict:=none,data:=.seq cv.toArray c',slots:=#[] }->EP X am σ Q (.ref s.heap.objs.size) { s with heap:=h' }:=λcv r' hz h' c' kp e=>
    ⟨.ref s.heap.objs.size,_,I.laid (t':=s.toks) kp (aM _) (show eu X.prog X.w _ h' _ (.lst ys)from⟨hz,cv,c',r',e⟩),rfl,q _ (I.hok.fresh (aM _))⟩
  rcases hq with hq|hq
  · obtain⟨cv,r',pl,hz⟩:=I.list hq
    have dB:=r'.length
    obtain⟨o,ho,hc,n,hd⟩:=pl.isList
    exact call_list_seq p (.inl rfl) ho hc hd (λh' c' kp e=>fin cv r' hz h' c' kp e) (by simp only[aL]<;>omega)
  · obtain⟨cv,r',pl,hz⟩:=I.tuple hq
    have dB:=r'.length
    obtain⟨o,ho,hc,n,hd⟩:=pl
    exact call_list_seq p (.inr rfl) ho hc hd (λh' c' kp e=>fin cv r' hz h' c' kp e) (by simp only[aL]<;>omega)
def RC (K:ae)(T:String)(x:V)(H:Hp):Prop:=match x with
 |.str _=>T = "str"
 |.int _=>T = "int"
 |.ref p=>(T = "list"/\∃xs,fX K H p xs)\/(T = "tuple"/\∃o,K.lookup p=some o/\o.cls=.type "tuple"/\o.dict=none) \/
   (T = "dict"/\((∃cP,H p=some (.dK cP))\/∃cP,H p=some (.dT cP)))\/(T = "set"/\∃S n,H p=some (.set S n))
 |_=>False
theorem zuz {am:List (ai×d8)}{σ:St}{H:Hp}{s:ap}{T:String}{x:V}{v:af}(I:Inv X am σ H s)(r:RelV x v)(ty:RC X.K T x H) :
  s.TypeIs v T/\∀a,v=.ref a->∃ob,s.heap.get? a=some ob/\ob.dict=none:=by
 cases x with
 |str z=>
  obtain⟨t,rfl⟩:=r
  cases(show T = "str" from ty)
  exact⟨typeIs_str s z t,λ_ e=>nomatch e⟩
 |int i=>
  obtain⟨t,rfl⟩:=r
  cases(show T = "int" from ty)
  exact⟨yA s i t,λ_ e=>nomatch e⟩
 |ref p=>
  cases r
  rcases ty with⟨rfl,xs,hq⟩|⟨rfl,o,hk,hc,hd⟩|⟨rfl,hk⟩|⟨rfl,S,n,hk⟩
  ·obtain⟨cv,_,pl,_⟩:=I.list hq
   refine⟨pl.isList.typeIs,λa e=>?_⟩
   cases e
   obtain⟨o,n,e,c,hd,_⟩:=pl
   exact⟨o,e,hd⟩
  ·refine⟨⟨o,I.kIn p o hk,hc⟩,λa e=>?_⟩
   cases e
   exact⟨o,I.kIn _ o hk,hd⟩
  ·have z:∃o,s.heap.get? p=some o/\o.ExactDict:=by
    rcases hk with⟨cP,hk⟩|⟨cP,hk⟩
    ·obtain⟨_,_,_,_,o,_,_,e,ex,_⟩:=I.hok p _ hk
     exact⟨o,e,ex⟩
    ·obtain⟨_,_,_,_,o,_,_,e,ex,_⟩:=I.hok p _ hk
     exact⟨o,e,ex⟩
   obtain⟨o,e,ex⟩:=z
   refine⟨⟨o,e,ex.1⟩,λa e2=>?_⟩
   cases e2
   exact⟨o,e,ex.2.1⟩
  ·obtain⟨o,_,_,_,e,ex,_⟩:=I.hok p _ hk
   refine⟨⟨o,e,ex.1⟩,λa e2=>?_⟩
   cases e2
   exact⟨o,e,ex.2.1⟩
 |_=>exact False.elim ty
def tBM (K:ae)(T:String)(r:V->List V->Hp->VK->Prop)(to:TE)(t:TA):TE:=λσ H Q=>to σ H λx H1=>RC K T x H1/\t σ H1 λxs H2=>r x xs H2 Q
variable {o e:Expr}{es:List Expr}{to:TE}{t:TA}{name:aX}{ez e7:dF}{T id:String}{r:V->List V->Hp->VK->Prop}
theorem KY (pa:PlainAttrs T)(slot:Slot T name id)(XN:typeOf (.builtin id)=pure (.type "method_descriptor"))(hm:PZ X id r)(ho:PE X o to)(ha:PA X (e::es) t)
  (ny:fG o name X.env (bY o X.env)=bY o X.env:=by rfl)
  (rh:((cQ e7 (ay (e::es) X.env)).all (λx=>!x.1)&&(fR e7 (dR [] X.env)).all (λx=>x.1.isSome)
   && decide ((e::es).length+([]:List hZ).length+(if([]:List hZ).isEmpty then 0 else 1)<30))=true:=by rfl)
  (nz:(ez.endLine==e7.line)=true:=by rfl) (hs:ay (e::es) X.env=(false,bY e X.env)::ay es X.env:=by rfl) (kB:(cQ e7 (ay es X.env)).any (·.1)=false:=by rfl) :
  PE X (.Call (.Attribute o name ez) (e::es) [] e7) (tBM X.K T r to t):=by
 intro am s σ H Q I h
 refine wpAny_Call_method_late ny rh nz rfl (dC (ho am s σ H _ I h) λv s1 ⟨x,H1,I1,r1,ty,q1⟩=>?_)
 obtain⟨h1,h2⟩:=zuz I1 r1 ty
 refine⟨T,id,pa,slot,XN,h1,h2,?_⟩
 have hA:=ha e7 am s1 σ H1 _ I1 q1
 rw[hs]at hA ⊢
 refine Calls.callWith_builtin (by show(false || (cQ e7 (ay es X.env)).any (·.1))=false;rw[kB]<;>rfl) (Calls.evalArgs_plain ?_)
 exact dC hA λus s2 ⟨vs,H2,I2,r2,q2⟩=>hm am s2 σ H2 x vs v us Q I2 r1 r2 q2
end
end L2
namespace L2
open PySem PySem.Spec PyProof.Rows
def PY (X:Cx)(id:String)(r:V->List V->Hp->VK->Prop):Prop :=
 ∀(am:List (ai×d8)) (s:ap) (σ:St) (H:Hp) (x:V) (xs:List V) (v:af) (us:List af) (Q:VK),Inv X am σ H s->RelV x v->ck xs us->r x xs H Q ->
  bj (bi X.prog X.w) X.A (call (.builtin id) (v::us)) (EP X am σ Q) X.xe s
theorem ck.one:∀{x:V} {us:List af},ck [x] us->∃u,us=[u]/\RelV x u
 |_,_,.cons r .nil=>⟨_,rfl,r⟩
theorem ck.eraseIdx:∀{xs:List V} {us:List af} (i:Nat),ck xs us->ck (xs.eraseIdx i) (us.eraseIdx i)
 |_,_,_,.nil=>.nil
 |_,_,0,.cons _ t=>t
 |_,_,i+1,.cons r t=>.cons r (ck.eraseIdx i t)
theorem ck.rep {xs:List V}{us:List af}(h:ck xs us):∀k:Nat,ck (aC k xs).flatten (aC k us).flatten
 |0=>.nil
 |k+1=>by
  rw[cW,cW,eE,eE]
  exact ck.append h (ck.rep h k)
theorem SD {α:Type}:∀(l:List α) (i:Nat),(l.eraseIdx i).length<=l.length
 |[],_=>aM _
 |_::_,0=>iO _
 |_::r,i+1=>Nat.succ_le_succ (SD r i)
theorem SE (cv:List af):∀(k:Nat) (gk:List af),
  si (λx1 x2=>x1++x2) gk.toArray (aC k cv.toArray)=(gk++(aC k cv).flatten).toArray
 |0,gk=>by simp
 |k+1,gk=>by
  have e:gk.toArray++cv.toArray=(gk++cv).toArray:=by simp
  have e2:(gk++cv)++(aC k cv).flatten=gk++(aC (k+1) cv).flatten:=by
   rw[cW,eE,dN]
  rw[←e2,←SE cv k (gk++cv),←e,cW,jI]
section
variable {X:Cx}{am:List (ai×d8)}{σ:St}{H:Hp}{s:ap}{l b:ai}{xs ys zs:List V}
theorem Inv.lset {cv its':List af}{n:Nat}{f:Array af->Array af}{t':Nat}(I:Inv X am σ H s)(hH:H l=some (.lst xs))
    (e:s.heap.get? l=some { cls:=.type "list",data:=.seq cv.toArray n }) (hf:f cv.toArray=its'.toArray) (hv:ck ys its') (hz:ys.length<=sizeLine) :
    Inv X am σ (d4 H l (.lst ys)) { s with heap:=s.heap.update l (d8.mapSeq f),toks:=t' }:=by
  have q:=PySem.IsL.update e f
  rw[hf]at q
  refine I.write (x:=l) (e:=l) (by rw[hH];exact trivial) (.inl rfl) (λb' u hb hu=>(jC s.heap (d8.mapSeq f) (Ne.symm hb)).trans hu) ⟨_,q⟩ ?_
  exact⟨hz,its',_,hv,q⟩
theorem Inv.lnew {cv:List af}{t':Nat}(I:Inv X am σ H s)(hv:ck ys cv)(hz:ys.length<=sizeLine) :
    Inv X am σ (d4 H s.heap.objs.size (.lst ys)) { s with heap:=s.heap.push { cls:=.type "list",data:=.seq cv.toArray },toks:=t' } :=
  I.laid (λ_ _ q=>aJ _ q) (aM _) ⟨hz,cv,0,hv,bW _ rfl⟩
theorem Inv.fresh (I:Inv X am σ H s):H s.heap.objs.size=none:=I.hok.fresh (aM _)
theorem Inv.lstM (I:Inv X am σ H s)(hH:H l=some (.lst xs)):xs.length<=sizeLine/\∃(cv:List af) (n:Nat),ck xs cv/\xs.length=cv.length/\s.heap.get? l=some { cls:=.type "list",data:=.seq cv.toArray n }:=by
  obtain⟨z,cv,n,r,e⟩:=I.hok l _ hH
  exact⟨z,cv,n,r,r.length,e⟩
theorem uU {n:Nat}(h:n<=sizeLine):fV.List.listTooLong n=false:=by
 unfold fV.List.listTooLong
 exact decide_eq_false (by omega)
end
section
variable {X:Cx}
def xG:V->List V->Hp->VK->Prop:=λx vs H Q=>∃l xs y,x=.ref l/\vs=[y]/\H l=some (.lst xs)/\xs.length<sizeLine/\Q .non (d4 H l (.lst (xs++[y])))
theorem Kj:PY X "list.append" xG:=by
 intro am s σ H x vs v us Q I rx rv h
 obtain⟨l,xs,y,rfl,rfl,hH,hz,q⟩:=h
 cases rx
 obtain⟨u,rfl,ru⟩:=rv.one
 obtain⟨z,cv,n,r,hl,e⟩:=I.lstM hH
 refine mR F.slot_list_append ⟨_,e,rfl⟩ F.entry_list_append (F.args_list_append_2 _ _) (PySem.list_append l cv.toArray n u (by rw[aL];omega)) ⟨e,?_⟩
 refine⟨.non,_,I.lset (its':=cv++[u]) hH e (by simp) (r.append (.cons ru .nil)) ?_,rfl,q⟩
 rw[aZ,cO]
 omega
def BO:V->List V->Hp->VK->Prop:=λx vs H Q=>∃l xs i k y,x=.ref l/\vs=[.int i]/\H l=some (.lst xs)/\-(2 ^ 63)<=i/\i<2 ^ 63/\seqIndex? i xs.length=some k/\xs[k]?=some y/\Q y (d4 H l (.lst (xs.eraseIdx k)))
theorem zoz:PY X "list.pop" BO:=by
 intro am s σ H x vs v us Q I rx rv h
 obtain⟨l,xs,i,k,y,rfl,rfl,hH,h1,h2,hk,hy,q⟩:=h
 cases rx
 obtain⟨u,rfl,ru⟩:=rv.one
 obtain⟨t,rfl⟩:=ru
 obtain⟨z,cv,n,r,hl,e⟩:=I.lstM hH
 obtain⟨w,hw,oe⟩:=r.get hy
 refine mR F.slot_list_pop ⟨_,e,rfl⟩ F.entry_list_pop (F.args_list_pop_2 _ _)
  (MeetsSeq.list_pop_at l cv.toArray n i t k w (fitsIndex_both h1 h2) (by rw[aL,←hl];exact hk) (by rw[←Array.getElem?_toList];exact hw) (by rw[aL];omega)) ⟨e,?_⟩
 refine⟨y,_,I.lset (its':=cv.eraseIdx k) hH e ?_ (r.eraseIdx k) ?_,oe,q⟩
 ·show cv.toArray.eraseIdxIfInBounds k=(cv.eraseIdx k).toArray
  rw[List.eraseIdxIfInBounds_toArray]
 ·have:=SD xs k
  omega
theorem zr5 {α:Type}(xs:List α)(k:Nat):(aC k xs).flatten.length=k*xs.length:=by
 induction k with
 |zero=>simp
 |succ k ih=>rw[cW,eE,aZ,ih,Nat.succ_mul,Nat.add_comm]
end
section
variable {prog:bJ}{w:cw}{A:bX}{E:af->ap->Prop}{s:ap}
end
section
variable {X:Cx}
end
end L2
namespace Att
open PySem PySem.W PySem.Calls PyProof.Rows
theorem zeb {P:Params}{h:bc}:∀(ns:List Int) (vs:List af),WellAll P h vs (ns.map WData.int)->IntsAre vs ns:=by
 intro ns
 induction ns with
 |nil=>
  intro vs w
  rw[jE]at w
  cases w
  exact .nil
 |cons n ns ih=>
  intro vs w
  rw[aP]at w
  cases w with
  |cons a b=>
   cases a
   exact .cons _ _ (ih _ b)
theorem zl4 {l:OpenLaw}{n:Nat}(hn:l.most=some n){P:Params}{h:bc}{args:List WData}{vals:List af}
    (wZ:l.row.toRowW.claim.pre args=true) (FR:WellAll P h vals args) :
    ∃a vs ns,vals=[af.ref a]/\args=[WData.list (ns.map WData.int)]/\h.get? a=some { cls:=.type "list",data:=.seq vs.toArray }/\IntsAre vs ns/\ns.length<=n:=by
  have XJ:WShape.hasAll [] args [.list .int]=true:=(pre_splitW wZ).1
  have hc:l.pre.holds [] { args:=args }=true:=(pre_splitW wZ).2
  obtain⟨d,r,rfl,h1,h2⟩:=hasAllW_cons XJ
  obtain rfl:=hasAllW_nil h2
  obtain⟨xs,rfl,h3⟩:=hasW_list h1
  obtain⟨ns,rfl⟩:=items_int h3
  have dB:ns.length<=n:=by
    unfold OpenLaw.pre at hc
    have h4:(WTm.not (.lt (.lit (.int (n:Int))) (.len (.arg 0)))).holds [] { args:=[.list (ns.map .int)] }=true:=by
      have h4:=(holds_andW hc).1
      rw[hn]at h4
      exact h4
    have h5:=condW_of h4 (w_not (w_lt w_lit (w_len_list (w_arg rfl))))
    rw[ah]at h5
    refine Nat.le_of_not_lt λq=>?_
    have q':(n:Int)<((ns.length:Nat):Int):=by omega
    first
      |(rw[decide_eq_true q']at h5;exact absurd h5 (by decide))
      |(simp at h5;omega)
  cases FR with
  |cons w1 w2=>
    cases w2
    cases w1 with
    |list ho rf=>exact⟨_,_,ns,rfl,rfl,ho,zeb ns _ rf,dB⟩
theorem zl5 (l:OpenLaw)(args:List WData):l.row.toRowW.claim.post args (.bool true) args=true :=
  postW_of (r:=l.row.toRowW) (X:=(true==true))
    (show WShape.has [] (.bool true) .bool=true by first|rfl|decide|simp[WShape.has,WShape.arms,WShape.armsAll])
    (show(WTm.eq .res (.lit (.bool true))).value [] { args:=args,res:=some (.bool true),after:=args }=some (.bool (true==true))from w_eq_bool (w_res rfl) w_lit) rfl
theorem attach_call {l:OpenLaw}{n:Nat}{q:bJ}{loose:List aX}{XP:(aX->Option af)->bc->Prop}{YP:cw->bc->Prop}{d:DefRec}
    (hn:l.most=some n) (Ft:d.params.defaults=[])
    (call:∀(w:cw) (s₀ s₁:ap) (mg mb:aX->Option af) (fa:ai) (o:d8) (pm cd doc:af) (a:ai) (vs:List af) (ns:List Int),
      Ground q loose [] XP w s₀ mg mb s₁.heap->YP w s₁.heap ->
      s₁.heap.get? fa=some o->o.data=.func (docDef d.name d.params d.body d.scope pm cd doc)->s₁.heap.CodeRec cd d.name->mg d.name=some (.ref fa) ->
      s₁.heap.get? a=some { cls:=.type "list",data:=.seq vs.toArray }->IntsAre vs ns->ns.length<=n->s₁.gens = #[] ->
      gS (bi l.prog w) nJ (.call (.ref fa) ⟨[.ref a],[]⟩) (λr s'=>r=.ok (.ret (.bool true))/\OldK s₁.heap s'.heap/\s'.os=s₁.os/\AllBare s'.gens) s₁) :
    WalkO q loose XP YP l.row.toRowW d [] (λf vs=>PySem.call f vs):=by
  intro w s₀ s₁ mg mb G Y fa o pm cd doc dV kV ho hd jT hD hmg hg args vals as wZ Xt hrd FR hlo
  obtain rfl:dV=.none:=Dflts.none hD Ft
  obtain rfl:kV=.none:=Dflts.noKw hD
  obtain⟨a,vs,ns,rfl,rfl,Bl,uK,dB⟩:=zl4 hn wZ FR
  refine enter_call (nK (call w s₀ s₁ mg mb fa o pm cd doc a vs ns G Y ho (fd_plain hd) jT hmg Bl uK dB hg) λr s' hq=>?_)
  obtain⟨rfl,h2,h3,h4⟩:=hq
  exact⟨.inl ⟨.bool true,.bool true,[],rfl,λ_=>rfl,.bool true,zl5 l _,λ_=>⟨fS.nil,λ_ hm=>(nomatch hm)⟩⟩,h2,h3,h4⟩
section
variable {prog:bJ}{w:cw}{A:bX}{E:af->ap->Prop}{s:ap}{K:Frag}
end
end Att
namespace L2
open PySem PySem.Spec PyProof.Rows
theorem Oz:∀{vs:List af} {ns:List Int},IntsAre vs ns->ck (ns.map V.int) vs
 |_,_,.nil=>.nil
 |_,_,.cons n t h=>.cons ⟨t,rfl⟩ (Oz h)
def zS (H:Hp):Prop:=∀b,H b=none\/∃o xs,H b=some (.frz o (.lst xs))
theorem zo0 {P:bJ}{w:cw}{K:ae}{mg mb:aX->Option af}{CX:tP}{k:Nat}{fa a:ai}{fd:aK}{x:aX}{sp:Sp}{s₁:ap}{vs:List af}{ns:List Int}
    (KX:K.In s₁.heap) (gG:s₁.heap.Ns ar mg) (hb:s₁.heap.Ns xY mb) (Xb:∀x:aX,x≠"__name__"->mb x=bO x) (MT:s₁.heap.NoLimit) (hg:s₁.gens = #[])
    (ha:s₁.heap.get? a=some { cls:=.type "list",data:=.seq vs.toArray }) (hi:IntsAre vs ns) (hl:ns.length<=sizeLine) (hr:eR k nJ)
    (F:∀base:bc,K.In base->base.Ns ar mg->cH P w K mg base CX k fa fd [x] sp) (Fo:∀(s:ap) (u:af),pD s fd ⟨[u],[]⟩ [(x,u)])
    (yN:∀H:Hp,zS H->fX K H a (ns.map V.int)->sp [.ref a] H (λv _=>v=.bl true) λ_ _ _=>False)
    (Mz:∀H e s',CX [] H s₁ (λ_ _ _=>False) e s'->False) :
    gS (bi P w) nJ (.call (.ref fa) ⟨[.ref a],[]⟩) (λr s'=>r=.ok (.ret (.bool true))/\OldK s₁.heap s'.heap/\s'.os=s₁.os/\AllBare s'.gens) s₁:=by
  have rv:=Oz hi
  have Ni:=hi.length
  have core:∀H:Hp,zS H->fX K H a (ns.map V.int)->kK P w H s₁.heap->(∀b,H b≠none->b=a)->(H a≠none->K.lookup a=none) ->
      gS (bi P w) nJ (.call (.ref fa) ⟨[.ref a],[]⟩) (λr s'=>r=.ok (.ret (.bool true))/\OldK s₁.heap s'.heap/\s'.os=s₁.os/\AllBare s'.gens) s₁:=by
    intro H hO hS hok hA hK
    have rM:∀{b:ai} {o:d8},s₁.heap.get? b=some o->H b=none->(oW s₁.heap H).get? b=some o:=λe n=>zom e n
    have G6:∀{b:ai} {o:d8} {es:Array DictEntry} {ep:Nat},s₁.heap.get? b=some o->o.data=.dict es ep->H b=none:=λ{b o es ep} e d=>by
      cases q:H b with
      |none=>rfl
      |some u=>
        have e':b=a:=hA b (by rw[q];simp)
        subst e'
        rw[ha]at e;cases e
        have d':kG.seq vs.toArray _=kG.dict es ep:=d
        cases d'
    have JV:∀{b:ai} {m:aX->Option af},s₁.heap.Ns b m->(oW s₁.heap H).Ns b m:=λ{b m} ⟨o,es,ep,e,d,r⟩=>⟨o,es,ep,rM e (G6 e d),d,r⟩
    have QD:K.In (oW s₁.heap H):=λb o e=>rM (KX b o e) (by
      cases q:H b with
      |none=>rfl
      |some u=>
        have e':b=a:=hA b (by rw[q];simp)
        subst e'
        rw[hK (by rw[q];simp)]at e;cases e)
    have hM:Mod K mg (oW s₁.heap H):=⟨QD,JV gG,⟨mb,JV hb,Xb⟩,let⟨mc,h1,h2⟩:=MT;⟨mc,JV h1,h2⟩⟩
    have e0:qQ P w K mg (oW s₁.heap H) nJ [] s₁ H:=⟨rfl,hM,λb o e=>zrk e,Nat.le_of_eq (zlo _ _),trivial,λb hb=>absurd (show b∈([]:List ai)from hb) (by simp),hok,.of_eq hg⟩
    refine nK ((F _ QD (JV gG)).run nJ [] s₁ H ⟨[.ref a],[]⟩ [.ref a] [.ref a] _ _ hr e0 (Fo s₁ (.ref a)) (.cons rfl .nil) (yN H hO hS)) λr s' h=>?_
    cases r with
    |error e=>exact(Mz H e s' h).elim
    |ok fl=>
      cases fl with
      |next=>exact False.elim h
      |brk=>exact False.elim h
      |cont=>exact False.elim h
      |ret u=>
        obtain⟨v,H',os,bare,un,MY,r',q⟩:=h
        have q':v=.bl true:=q
        subst q'
        obtain rfl:u=af.bool true:=r'
        refine⟨rfl,OldK.of_keep λb o e=>?_,os,bare⟩
        cases q:H b with
        |none=>exact un.keep b o e q (by intro z;exact absurd (show b∈([]:List ai)from z) (by simp)) (by simp)
        |some u=>
          rcases hO b with z|⟨ob,xs,z⟩
          · rw[q]at z;cases z
          · have z2:=un.frzs b ob _ z
            obtain⟨e1,_⟩:=hok b _ z
            obtain⟨e2,_⟩:=MY b _ z2
            rw[e]at e1;cases e1
            exact e2
  cases hk:K.lookup a with
  |some o=>
    have e:=KX a o hk
    rw[ha]at e
    cases e
    refine core (λ_=>none) (λ_=>.inl rfl) (.inr ⟨_,vs.toArray,_,hk,rfl,rfl,rfl,by rw[aL,Ni];exact hl,by simpa using rv⟩) (λb u z=>by have z':(none:Option HO)=some u:=z;cases z') (λb z=>absurd rfl z) λz=>absurd rfl z
  |none=>
    refine core (λb=>if b=a then some (.frz { cls:=.type "list",data:=.seq vs.toArray } (.lst (ns.map V.int)))else none) (λb=>?_) (.inl (.inr ⟨{ cls:=.type "list",data:=.seq vs.toArray },if_pos rfl⟩)) (λb u z=>?_) (λb z=>?_) λ_=>hk
    · by_cases hb:b=a
      · exact .inr ⟨_,_,if_pos hb⟩
      · exact .inl (if_neg hb)
    · by_cases hb:b=a
      · have z':=(if_pos hb).symm.trans z
        cases z'
        subst hb
        exact⟨ha,by rw[ah];exact hl,vs,_,rv,ha⟩
      · have z':=(if_neg hb).symm.trans z
        cases z'
    · by_cases hb:b=a
      · exact hb
      · exact absurd (if_neg hb) z
end L2
namespace L2
open PySem PySem.Spec PyProof.Rows
theorem walk_of {l:ml}{n k:Nat}{q:bJ}{loose:List aX}{XP:(aX->Option af)->bc->Prop}{YP:cw->bc->Prop}{d:DefRec}{K:Params->ae}{CX:cw->tP}{sp:cw->Sp}{x:aX}
  (hn:l.most=some n) (yL:n<=sizeLine) (Ft:d.params.defaults=[]) (hr:eR k nJ)
  (hY:∀(w:cw) (h:bc),YP w h->(K w.params).In h)
  (F:∀(w:cw) (mg:aX->Option af) (fa:ai) (h:bc),(K w.params).In h->h.Ns ar mg->mg d.name=some (.ref fa) ->
   ∃fd:aK,(∀(s:ap) (u:af),pD s fd ⟨[u],[]⟩ [(x,u)]) /\
    ∀base:bc,(K w.params).In base->base.Ns ar mg->cH l.prog w (K w.params) mg base (CX w) k fa fd [x] (sp w))
  (yN:∀(w:cw) (H:Hp) (a:ai) (ns:List Int),ns.length<=n->zS H->fX (K w.params) H a (ns.map V.int)->sp w [.ref a] H (λv _=>v=.bl true) λ_ _ _=>False)
  (Mz:∀(w:cw) (H:Hp) (s:ap) (e:af) (s':ap),CX w [] H s (λ_ _ _=>False) e s'->False) :
  t5 q loose XP YP l.row.toRowW d [] (λf vs=>PySem.call f vs):=by
 refine Att.attach_call hn Ft λw s₀ s₁ mg mb fa o pm cd doc a vs ns G Y ho hd jT hmg Bl uK dB hg=>?_
 have KX:=hY w _ Y
 obtain⟨fd,hb,hF⟩:=F w mg fa _ KX G.T.g hmg
 exact zo0 KX G.T.g G.T.b G.T.builtins G.T.nolimit hg Bl uK (cB dB yL) hr hF hb (λH hO hS=>yN w H a ns dB hO hS) λH e s'=>Mz w H s₁ e s'
end L2
namespace L2
open PySem PySem.Spec PyProof.Rows
def inClass (s:bT)(j:Nat):bT:=match s with
 |.ClassDef _ _ _ body _ _ _ _ _ _ _=>body.getD j (.Pass ⟨0,0,0,0⟩)
 |_=>.Pass ⟨0,0,0,0⟩
def mS (s:bT):Arguments:=match s with
  |.FunctionDef _ a _ _ _ _ _ _ _ _=>a
  |_=>{ posonlyargs:=[],args:=[],vararg:=none,kwonlyargs:=[],kw_defaults:=[],kwarg:=none,defaults:=[] }
def hE (s:bT):List bT:=match s with
 |.FunctionDef _ _ b _ _ _ _ _ _ _=>b
 |_=>[]
def aO (s:bT):gH:=match s with
  |.FunctionDef _ _ _ _ _ _ sc _ _ _=>sc
  |_=>{ kind:=.function,names:=[],isGenerator:=false,isCoroutine:=false }
abbrev eU:tP:=λ_ _ _ _ _ _=>False
abbrev E0:XK:=λ_ _ _=>False
theorem oG {X:Cx}:jQ eU X E0:=λ_ _ _ _ _ _ _ h=>h.elim
section
variable {P:bJ}{w:cw}{K:ae}{mg:aX->Option af}{base:bc}
end
theorem zO {A:bX}{k:Nat}(hr:eR k A):A.units+1<gR:=lF (Nat.add_le_add_left (by decide:1<=64) _) hr.units
theorem sV {n:Nat}(h:n<=1000):n<sizeLine:=lF h (by decide)
section
variable {X:Cx}
end
def ce (H H':Hp):Prop:=∀b o,H b=some o->H' b=some o
theorem ce.refl (H:Hp):ce H H:=λ_ _ h=>h
theorem ce.trans {H H1 H2:Hp}(a:ce H H1)(b:ce H1 H2):ce H H2:=λc o h=>b c o (a c o h)
theorem ce.free {H H':Hp}(e:ce H H'){l:ai}(h:H' l=Option.none):H l=Option.none:=by
 cases q:H l with
 |none=>rfl
 |some o=>
  rw[e l o q]at h
  cases h
theorem ce.seq {K:ae}{H H':Hp}{a:ai}{xs:List V}(e:ce H H')(h:fX K H a xs):fX K H' a xs:=by
 rcases h with(h|⟨o,h⟩)|h
 ·exact .inl (.inl (e _ _ h))
 ·exact .inl (.inr ⟨o,e _ _ h⟩)
 ·exact .inr h
end L2
namespace L2
open PySem PySem.Spec PyProof.Rows
section
variable {κ:Type}[DecidableEq κ]
def iR (cP:List (κ×V))(k:κ):Option V:=(cP.find? λkv=>decide (kv.1=k)).map (·.2)
def putK (cP:List (κ×V))(k:κ)(v:V):List (κ×V) :=
 if(cP.any λkv=>decide (kv.1=k))=true then cP.map (λkv=>if kv.1=k then(kv.1,v)else kv)else cP++[(k,v)]
theorem OF {p:κ×V}{r:List (κ×V)}{k:κ}(e:p.1=k):iR (p::r) k=some p.2:=by simp[iR,dq,e]
theorem OG {p:κ×V}{r:List (κ×V)}{k:κ}(e:¬p.1=k):iR (p::r) k=iR r k:=by simp[iR,dq,e]
theorem Tj (k:κ):∀cP:List (κ×V),(cP.any λkv=>decide (kv.1=k))=(iR cP k).isSome
 |[]=>rfl
 |p::r=>by
  rw[dH]
  by_cases e:p.1=k
  ·simp only[OF e,decide_eq_true e,Bool.true_or,Option.isSome_some]
  ·rw[OG e,decide_eq_false e,Bool.false_or];exact Tj k r
theorem R6 (cP:List (κ×V))(k:κ)(v:V):(putK cP k v).length<=cP.length+1:=by
 unfold putK
 split
 ·rw[ah];omega
 ·rw[aZ,aI,vI];omega
theorem ke.isSome_eq {o:Option V}{u:Option af}(r:ke o u):o.isSome=u.isSome:=by
 cases o with
 |none=>cases u with
  |none=>rfl
  |some _=>exact(show False from r).elim
 |some _=>cases u with
  |none=>exact(show False from r).elim
  |some _=>rfl
theorem KV.val {cP:List (κ×V)}{vs:List (κ×af)}(r:KV cP vs)(k:κ):ke (iR cP k) (nN vs k):=by
 unfold KV at r
 induction r with
 |nil=>exact True.intro
 |@cons p q ps qs h t ih=>
  obtain⟨h1,h2⟩:=h
  by_cases e:p.1=k
  ·have e':q.1=k:=h1.symm.trans e
   have b:nN (q::qs) k=some q.2:=by simp[nN,dq,e']
   rw[OF e,b];exact h2
  ·have e':¬q.1=k:=λz=>e (h1.trans z)
   have b:nN (q::qs) k=nN qs k:=by simp[nN,dq,e']
   rw[OG e,b];exact ih
theorem KV.any {cP:List (κ×V)}{vs:List (κ×af)}(r:KV cP vs)(k:κ):(cP.any λkv=>decide (kv.1=k))=vs.any λkv=>decide (kv.1=k):=by
 unfold KV at r
 induction r with
 |nil=>rfl
 |cons h t ih=>rw[dH,dH,ih,h.1]
theorem KV.repl {cP:List (κ×V)}{vs:List (κ×af)}(r:KV cP vs)(k:κ){y:V}{u:af}(ry:RelV y u) :
  KV (cP.map λkv=>if kv.1=k then(kv.1,y)else kv) (vs.map λkv=>if kv.1=k then(kv.1,u)else kv):=by
 unfold KV at r ⊢
 induction r with
 |nil=>exact .nil
 |@cons p q ps qs h t ih=>
  rw[aP,aP]
  refine .cons ?_ ih
  obtain⟨h1,h2⟩:=h
  by_cases e:p.1=k
  ·rw[if_pos e,if_pos (h1.symm.trans e)];exact⟨h1,ry⟩
  ·rw[if_neg e,if_neg (λz=>e (h1.trans z))];exact⟨h1,h2⟩
theorem KV.put {cP:List (κ×V)}{vs:List (κ×af)}(r:KV cP vs)(k:κ){y:V}{u:af}(ry:RelV y u):KV (putK cP k y) (stored vs k u):=by
 unfold putK stored
 rw[r.any k]
 by_cases e:(vs.any λkv=>decide (kv.1=k))=true
 ·rw[if_pos e,if_pos e];exact r.repl k ry
 ·rw[if_neg e,if_neg e];exact Paired.snoc r ⟨rfl,ry⟩
theorem KV.length {cP:List (κ×V)}{vs:List (κ×af)}(r:KV cP vs):cP.length=vs.length:=Paired.length r
end
theorem Je {P:bJ}{w:cw}{k:fH}{u:af}(r:RelV (kV k) u):(fI P w).is k u=true:=by
 cases k with
 |inl i=>obtain⟨t,e⟩:=(show∃t,u=af.int i t from r);subst e;exact zin P w i t
 |inr x=>obtain⟨t,e⟩:=(show∃t,u=af.str x t from r);subst e;exact zio P w x t
theorem SG {P:bJ}{w:cw}:∀{ks:List fH} {us:List af},ck (ks.map kV) us->ItemsAre (fI P w) ks us
 |[],_,r=>by rw[jE]at r;cases r;exact .nil
 |k::ks,_,r=>by
  rw[aP]at r
  cases r with
  |cons h t=>exact .cons (Je h) (SG t)
abbrev KT (H:Hp):List (List fH×V)->List (List fH×ai×af)->Prop:=Paired λp q=>p.1=q.1/\H q.2.1=some (.tup (p.1.map kV))/\RelV p.2 q.2.2
theorem KT.val {H:Hp}{cP:List (List fH×V)}{xs:List (List fH×ai×af)}(r:KT H cP xs)(k:List fH):ke (iR cP k) ((p9 xs k).map (·.2)):=by
 induction r with
 |nil=>exact True.intro
 |@cons p q ps qs h t ih=>
  obtain⟨h1,_,h2⟩:=h
  by_cases e:p.1=k
  ·have e':q.1=k:=h1.symm.trans e
   have b:p9 (q::qs) k=some q.2:=by simp[p9,dq,e']
   rw[OF e,b];exact h2
  ·have e':¬q.1=k:=λz=>e (h1.trans z)
   have b:p9 (q::qs) k=p9 qs k:=by simp[p9,dq,e']
   rw[OG e,b];exact ih
theorem KT.repl {H:Hp}{cP:List (List fH×V)}{xs:List (List fH×ai×af)}(r:KT H cP xs)(k:List fH){y:V}{u:af}(ry:RelV y u) :
  KT H (cP.map λkv=>if kv.1=k then(kv.1,y)else kv) (xs.map (putAt k u)):=by
 induction r with
 |nil=>exact .nil
 |@cons p q ps qs h t ih=>
  rw[aP,aP]
  refine .cons ?_ ih
  obtain⟨h1,h2,h3⟩:=h
  unfold putAt
  by_cases e:p.1=k
  ·rw[if_pos e,if_pos (h1.symm.trans e)];exact⟨h1,h2,ry⟩
  ·rw[if_neg e,if_neg (λz=>e (h1.trans z))];exact⟨h1,h2,h3⟩
theorem KT.put {H:Hp}{cP:List (List fH×V)}{xs:List (List fH×ai×af)}(r:KT H cP xs)(k:List fH){b:ai}{y:V}{u:af}(hb:H b=some (.tup (k.map kV)))(ry:RelV y u) :
  KT H (putK cP k y) (storedH xs k b u):=by
 have e:(cP.any λkv=>decide (kv.1=k))=(p9 xs k).isSome:=by
  rw[Tj,(r.val k).isSome_eq,kP]
 unfold putK storedH
 rw[e]
 by_cases q:(p9 xs k).isSome=true
 ·rw[if_pos q,if_pos q];exact r.repl k ry
 ·rw[if_neg q,if_neg q];exact Paired.snoc r ⟨rfl,hb,ry⟩
theorem KT.keeps {H H':Hp}{cP:List (List fH×V)}{xs:List (List fH×ai×af)}(r:KT H cP xs)(ht:∀b ys,H b=some (.tup ys)->H' b=some (.tup ys)):KT H' cP xs :=
 Paired.mapP r λ_ _ z=>⟨z.1,ht _ _ z.2.1,z.2.2⟩
section
variable {P:bJ}{w:cw}{H:Hp}{h:bc}{a:ai}
theorem U7 {u:HO}(ok:kK P w H h)(e:Rd H a u):eu P w H h a u:=e.ok ok
theorem CQ {cP:List (fH×V)}(ok:kK P w H h)(e:Rd H a (.dK cP)):cP.length<=sizeLine/\(a==gC)=false/\∃vs,KV cP vs/\h.DictOf (fI P w) a vs :=
 show eu P w H h a (.dK cP)from U7 ok e
theorem zwm {cP:List (fH×V)}(ok:kK P w H h)(e:H a=some (.dK cP)):cP.length<=sizeLine/\(a==gC)=false/\∃vs,KV cP vs/\h.DictOf (fI P w) a vs:=CQ ok (.inl e)
theorem IZ {ks:List fH}(ok:kK P w H h)(e:H a=some (.tup (ks.map kV))):(ot (fI P w)).is h ks a:=by
 obtain⟨_,cv,r,o,h1,h2,n,h3⟩:=(show eu P w H h a (.tup (ks.map kV))from ok a _ e)
 exact⟨o,cv.toArray,n,h1,h2,h3,by simpa using SG r⟩
theorem Jf {cP:List (List fH×V)}(ok:kK P w H h)(e:Rd H a (.dT cP)):cP.length<=sizeLine/\(a==gC)=false /\
  ∃xs,KT H cP xs/\h.DictOfH (ot (fI P w)) a xs:=by
 obtain⟨z,y,xs,r,o,es,ep,h1,h2,h3,h4,h5⟩:=(show eu P w H h a (.dT cP)from U7 ok e)
 refine⟨z,y,xs,r,o,es,ep,h1,h2,h3,h4,λx hx=>?_,h5⟩
 have all:∀{l:List (List fH×V)} {m:List (List fH×ai×af)},KT H l m->∀x∈m,(ot (fI P w)).is h x.1 x.2.1:=by
  intro l m q
  induction q with
  |nil=>intro x hx;exact nomatch hx
  |@cons p q ps qs hq t ih=>
   intro x hx
   rcases aF.mp hx with e|hx
   ·subst e
    exact IZ ok (by rw[←hq.1];exact hq.2.1)
   ·exact ih x hx
 exact all r x hx
theorem zwn {cP:List (List fH×V)}(ok:kK P w H h)(e:H a=some (.dT cP)):cP.length<=sizeLine/\(a==gC)=false /\
  ∃xs,KT H cP xs/\h.DictOfH (ot (fI P w)) a xs:=Jf ok (.inl e)
end
def kR (H:Hp)(a:ai)(y:V)(r:Option V):Prop :=
 (∃cP k,Rd H a (.dK cP)/\y=kV k/\r=iR cP k)\/∃cP k b,Rd H a (.dT cP)/\y=.ref b/\H b=some (.tup (k.map kV))/\r=iR cP k
def nS (H:Hp)(a:ai)(y v:V)(H':Hp):Prop :=
 (∃cP k,H a=some (.dK cP)/\y=kV k/\cP.length<sizeLine/\H'=d4 H a (.dK (putK cP k v))) \/
 ∃cP k b,H a=some (.dT cP)/\y=.ref b/\H b=some (.tup (k.map kV))/\cP.length<sizeLine/\H'=d4 H a (.dT (putK cP k v))
theorem kR.k {H:Hp}{a:ai}{cP:List (fH×V)}{k:fH}(e:H a=some (.dK cP)):kR H a (kV k) (iR cP k):=.inl ⟨cP,k,.inl e,rfl,rfl⟩
theorem kR.t {H:Hp}{a b:ai}{cP:List (List fH×V)}{k:List fH}(e:H a=some (.dT cP))(eb:H b=some (.tup (k.map kV))):kR H a (.ref b) (iR cP k):=.inr ⟨cP,k,b,.inl e,rfl,eb,rfl⟩
theorem nS.k {H:Hp}{a:ai}{cP:List (fH×V)}{k:fH}{v:V}(e:H a=some (.dK cP))(hl:cP.length<sizeLine):nS H a (kV k) v (d4 H a (.dK (putK cP k v))):=.inl ⟨cP,k,e,rfl,hl,rfl⟩
theorem nS.t {H:Hp}{a b:ai}{cP:List (List fH×V)}{k:List fH}{v:V}(e:H a=some (.dT cP))(eb:H b=some (.tup (k.map kV)))(hl:cP.length<sizeLine) :
  nS H a (.ref b) v (d4 H a (.dT (putK cP k v))):=.inr ⟨cP,k,b,e,rfl,eb,hl,rfl⟩
section
variable {X:Cx}{am:List (ai×d8)}{σ:St}{H:Hp}{s:ap}{a:ai}{y v:V}{u r:af}{o:Option V}{A:bX}{E:af->ap->Prop}
theorem Inv.big (I:Inv X am σ H s):gC<s.heap.objs.size:=by
 have h:ar<s.heap.objs.size:=(I.mod.glob.keeps I.bk).lt
 exact Nat.lt_trans (by decide) h
theorem zl8 {Q:af->ap->Prop}(hu:A.units+1<gR)(I:Inv X am σ H s)(g:kR H a y (some v))(ry:RelV y u)(h:∀w' s',Inv X am σ H s'->RelV v w'->Q w' s') :
  bj (bi X.prog X.w) A (nL (.ref a) u) Q E s:=by
 rcases g with⟨cP,k,e,ey,l⟩|⟨cP,k,b,e,ey,eb,l⟩
 ·subst ey
  obtain⟨z,hd,vs,rel,dd⟩:=CQ I.hok e
  obtain⟨w',hw,oe⟩:=ke.some_of (v:=v) (o:=nN vs k) (by rw[l];exact rel.val k)
  exact wpAny_getItem_of (Je ry) dd.mapOf hw (h w' _ (I.tok _) oe)
 ·subst ey
  cases(show u=af.ref b from ry)
  obtain⟨z,hd,xs,rel,dd⟩:=Jf I.hok e
  obtain⟨w',hw,oe⟩:=ke.some_of (v:=v) (o:=(p9 xs k).map (·.2)) (by rw[l];exact rel.val k)
  obtain⟨p,hp,FJ⟩:=dS.mp hw
  refine wpAny_getItem_heap (iT hu) (IZ I.hok eb) dd hp ?_
  rw[FJ]
  exact h w' _ (I.tok _) oe
theorem Lu {Q:af->ap->Prop}(hu:A.units+1<gR)(I:Inv X am σ H s)(g:kR H a y o)(ry:RelV y u)(h:∀s',Inv X am σ H s'->Q (.bool o.isSome) s') :
  bj (bi X.prog X.w) A (cu .In u (.ref a)) Q E s:=by
 rcases g with⟨cP,k,e,ey,l⟩|⟨cP,k,b,e,ey,eb,l⟩
 ·subst ey
  obtain⟨z,hd,vs,rel,dd⟩:=CQ I.hok e
  refine wpAny_in_of (Je ry) hd dd.mapOf ?_
  rw[←(rel.val k).isSome_eq,←l]
  exact h _ (I.tok _)
 ·subst ey
  cases(show u=af.ref b from ry)
  obtain⟨z,hd,xs,rel,dd⟩:=Jf I.hok e
  refine wpAny_in_heap (iT hu) (IZ I.hok eb) hd dd ?_
  have q:=(rel.val k).isSome_eq
  rw[kP]at q
  rw[←q,←l]
  exact h _ (I.tok _)
theorem zr6 {Q:af->ap->Prop}(hu:A.units+1<gR)(I:Inv X am σ H s)(g:kR H a y o)(ry:RelV y u)(h:∀s',Inv X am σ H s'->Q (.bool (!o.isSome)) s') :
  bj (bi X.prog X.w) A (cu .NotIn u (.ref a)) Q E s:=by
 rcases g with⟨cP,k,e,ey,l⟩|⟨cP,k,b,e,ey,eb,l⟩
 ·subst ey
  obtain⟨z,hd,vs,rel,dd⟩:=CQ I.hok e
  refine wpAny_notIn_of (Je ry) hd dd.mapOf ?_
  rw[←(rel.val k).isSome_eq,←l]
  exact h _ (I.tok _)
 ·subst ey
  cases(show u=af.ref b from ry)
  obtain⟨z,hd,xs,rel,dd⟩:=Jf I.hok e
  refine wpAny_notIn_heap (iT hu) (IZ I.hok eb) hd dd ?_
  have q:=(rel.val k).isSome_eq
  rw[kP]at q
  rw[←q,←l]
  exact h _ (I.tok _)
theorem TN {h':bc}{t':Nat}{ob:HO}(I:Inv X am σ H s)(mu:CZ (H a))(hs:hX a s.heap h')(he:∃q,h'.get? a=some q)(new:eu X.prog X.w (d4 H a ob) h' a ob) :
  Inv X am σ (d4 H a ob) { s with heap:=h',toks:=t' } :=
 I.write (x:=a) (e:=a) mu (.inl rfl) (λb q hb z=>(hs.2 b hb).trans z) he new
theorem zu1 {P:bJ}{w:cw}{H':Hp}{h':bc}{cP:List (fH×V)}{vs:List (fH×af)}(z:cP.length<=sizeLine)(hd:(a==gC)=false)(rel:KV cP vs)(dd:h'.DictOf (fI P w) a vs) :
  eu P w H' h' a (.dK cP):=⟨z,hd,vs,rel,dd⟩
theorem zma {H':Hp}{Q:Unit->ap->Prop}(hu:A.units+1<gR)(I:Inv X am σ H s)(g:nS H a y v H')(ry:RelV y u)(rv:RelV v r)(h:∀s',Inv X am σ H' s'->Q () s') :
  bj (bi X.prog X.w) A (pF (.ref a) u r) Q E s:=by
 rcases g with⟨cP,k,e,ey,l,eH⟩|⟨cP,k,b,e,ey,eb,l,eH⟩
 ·subst ey eH
  obtain⟨z,hd,vs,rel,dd⟩:=zwm I.hok e
  have hz:vs.length<=sizeLine:=by rw[←rel.length];exact z
  have hl:(putK cP k v).length<=sizeLine:=by have:=R6 cP k v;omega
  refine wpAny_setItem_pairs (hsz:=hz) (Je ry) dd λh' Jr hs=>h _ ?_
  have he:∃q,h'.get? a=some q:=let⟨q,_,_,hq,_⟩:=Jr;⟨q,hq⟩
  exact TN I (by rw[e];exact True.intro) hs he (zu1 hl hd (rel.put k rv) Jr)
 ·subst ey eH
  cases(show u=af.ref b from ry)
  obtain⟨z,hd,xs,rel,dd⟩:=zwn I.hok e
  have hz:xs.length<=sizeLine:=by rw[←Paired.length rel];exact z
  have hl:(putK cP k v).length<=sizeLine:=by have:=R6 cP k v;omega
  refine wpAny_setItem_heap (hsz:=hz) (iT hu) (IZ I.hok eb) dd λh' Jr hs=>h _ ?_
  obtain⟨q,es,ep,hq,h2,h3,h4,_,h5⟩:=Jr
  refine TN I (by rw[e];exact True.intro) hs ⟨q,hq⟩ ⟨hl,hd,_,(rel.put k eb rv).keeps λc ys ec=>?_,q,es,ep,hq,h2,h3,h4,h5⟩
  rw[yo (zwd ec e (λz=>nomatch z))]
  exact ec
end
section
variable {X:Cx}{am:List (ai×d8)}{σ:St}{H:Hp}{s:ap}{a:ai}{cP:List (fH×V)}{k:fH}{u:af}{A:bX}{E:af->ap->Prop}
theorem zwo {Q:af->ap->Prop}(I:Inv X am σ H s)(e:Rd H a (.dK cP))(h:∀t s',Inv X am σ H s'->Q (.int cP.length t) s'):bj (bi X.prog X.w) A (call (.builtin "len") [.ref a]) Q E s:=by
 obtain⟨z,hd,vs,rel,dd⟩:=CQ I.hok e
 refine call_len_dict hd dd (by rw[←rel.length];rw[cV]at z;omega) ?_
 rw[←rel.length]
 exact h _ _ (I.tok _)
end
def zR (i:Expr):Prop:=∀ov iv,oO i false ov iv=operate [ov,iv] (nL ov iv)
theorem zr7 {prog:bJ}{w:cw}{A:bX}{E:af->ap->Prop}{s:ap}{env:Env}{value slice:Expr}{pos:dF}{T id:String}{Q:af->ap->Prop}
  (hl:qD (.type T) "__getitem__"=pure (some (.builtin id))) (hs:zR slice)
  (h:bj (bi prog w) A (bY value env) (λo s₁=>bj (bi prog w) A (bY slice env) (λi s₂=>s₂.TypeIs o T/\bj (bi prog w) A (nL o i) Q E s₂) E s₁) E s) :
  bj (bi prog w) A (bY (.Subscript value slice pos) env) Q E s:=by
 refine Subscript_ (dZ h (λo s₁ h₁=>dZ h₁ (λi s₂ h₂=>?_) λ_ _ x=>x) λ_ _ x=>x)
 obtain⟨hT,h₂⟩:=h₂
 unfold subscriptTail
 refine aV ?_
 rw[getitemInPython_of_ne hT.not_modules]
 refine aV (pw hT hl ?_)
 have fin:bj (bi prog w) A (oO slice false o i) (λr s₃=>bj (bi prog w) A (letTemporaryGo value o r >>= λ_=>pure r) Q E s₃) E s₂:=by
  rw[hs o i]
  exact wpAny_operating (dZ h₂ (λr s₃ h₃=>aV (wpAny_letTemporaryGo (bZ h₃))) λ_ _ x=>x)
 first
  |exact bZ (aV fin)
  |exact aV (bZ (aV fin))
  |exact aV fin
theorem zit {X:Cx}{am:List (ai×d8)}{σ:St}{H:Hp}{s:ap}{a:ai}{y:V}{o:Option V}(I:Inv X am σ H s)(g:kR H a y o):s.TypeIs (.ref a) "dict":=by
 rcases g with⟨cP,k,e,_,_⟩|⟨cP,k,b,e,_,_,_⟩
 ·obtain⟨_,_,vs,_,dd⟩:=CQ I.hok e
  exact dd.typeIs
 ·obtain⟨_,_,xs,_,dd⟩:=Jf I.hok e
  exact dd.typeIs
def Il (td ty:TE):TE:=λσ H Q=>td σ H λx H1=>ty σ H1 λy H2=>∃a v,x=.ref a/\kR H2 a y (some v)/\Q v H2
def NK (ty td:TE):TE:=λσ H Q=>ty σ H λy H1=>td σ H1 λx H2=>∃a o,x=.ref a/\kR H2 a y o/\Q (.bl o.isSome) H2
def xJ (ty td:TE):TE:=λσ H Q=>ty σ H λy H1=>td σ H1 λx H2=>∃a o,x=.ref a/\kR H2 a y o/\Q (.bl (!o.isSome)) H2
def Ig (td ty tv:TE):TS:=λD σ H=>tv σ H λv H1=>td σ H1 λx H2=>ty σ H2 λy H3=>∃a H4,x=.ref a/\nS H3 a y v H4/\D.nx σ H4
section
variable {X:Cx}{o i e value:Expr}{pos pos' jA:dF}{td ty tv:TE}
theorem zr8 (hu:X.A.units+1<gR)(ho:PE X o td)(hi:PE X i ty)(hs:zR i):PE X (.Subscript o i pos) (Il td ty):=by
 intro am s σ H Q I h
 refine zr7 PySem.F.slot_dict_getitem.lookup hs (dC (ho am s σ H _ I h) λu s1 ⟨x,H1,I1,rx,q1⟩=>dC (hi am s1 σ H1 _ I1 q1) λiv s2 ⟨y,H2,I2,ry,a,v,ex,g,q2⟩=>?_)
 subst ex
 obtain rfl:u=af.ref a:=rx
 exact⟨zit I2 g,zl8 hu I2 g ry λw' s3 I3 oe=>⟨v,H2,I3,oe,q2⟩⟩
theorem zu2 (hu:X.A.units+1<gR)(hi:PE X i ty)(ho:PE X o td):PC X .In i o (NK ty td):=by
 intro am s σ H Q I h
 refine dC (hi am s σ H _ I h) λiv s1 ⟨y,H1,I1,ry,q1⟩=>dC (ho am s1 σ H1 _ I1 q1) λu s2 ⟨x,H2,I2,rx,a,ov,ex,g,q2⟩=>?_
 subst ex
 obtain rfl:u=af.ref a:=rx
 exact Lu hu I2 g ry λs3 I3=>⟨.bl ov.isSome,H2,I3,rfl,q2⟩
theorem zmb (hu:X.A.units+1<gR)(hi:PE X i ty)(ho:PE X o td):PC X .NotIn i o (xJ ty td):=by
 intro am s σ H Q I h
 refine dC (hi am s σ H _ I h) λiv s1 ⟨y,H1,I1,ry,q1⟩=>dC (ho am s1 σ H1 _ I1 q1) λu s2 ⟨x,H2,I2,rx,a,ov,ex,g,q2⟩=>?_
 subst ex
 obtain rfl:u=af.ref a:=rx
 exact zr6 hu I2 g ry λs3 I3=>⟨.bl (!ov.isSome),H2,I3,rfl,q2⟩
theorem T6 (hu:X.A.units+1<gR)(ho:PE X o td)(hi:PE X i ty)(hv:PE X value tv)(hs:eh value (some (.Subscript o i pos')) pos.line X.env=pure false) :
  PS X (.Assign [.Subscript o i pos'] value pos) (Ig td ty tv):=by
 intro am s σ H D I h
 refine wpAny_Assign_Subscript (dC (hv am s σ H _ I h) λr s1 ⟨v,H1,I1,rv,q1⟩=>dC (ho am s1 σ H1 _ I1 q1) λu s2 ⟨x,H2,I2,rx,q2⟩=>dC (hi am s2 σ H2 _ I2 q2) λiv s3 ⟨y,H3,I3,ry,a,H4,ex,g,q3⟩=>?_) hs
 subst ex
 obtain rfl:u=af.ref a:=rx
 exact zma hu I3 g ry rv λs4 I4=>⟨σ,H4,I4,q3⟩
end
theorem zo1 {P:bJ}{w:cw}{H:Hp}(h:bc)(hb:gC<h.objs.size):eu P w H (h.push { cls:=.type "dict",data:=.dict #[] }) h.objs.size (.dK []) :=
  ⟨dr _,beq_eq_false_iff_ne.mpr (Ne.symm (bE hb)),[],.nil,bc.DictOf.new h⟩
def BR:TE:=λ_ H Q=>∀p,H p=none->Q (.ref p) (d4 H p (.dK []))
section
variable {X:Cx}{pos:dF}
theorem zo2:PE X (.Dict [] [] pos) BR:=λam s σ H Q I h=>
 wpAny_Dict_empty ⟨.ref s.heap.objs.size,_,I.laid (a:=s.heap.objs.size) (o:=.dK []) (t':=s.toks) (λ_ _ q=>aJ _ q) (aM _) (zo1 s.heap I.big),rfl,h _ (I.hok.fresh (aM _))⟩
end
def VS (H:Hp)(a:ai):Prop:=(∃cP,Rd H a (.dK cP))\/∃cP,Rd H a (.dT cP)
section
variable {X:Cx}{am:List (ai×d8)}{σ:St}{H:Hp}{s:ap}{a:ai}{y d:V}{u r:af}{o:Option V}{A:bX}{E:af->ap->Prop}
end
section
variable {X:Cx}{o e f:Expr}{ez e7:dF}{td ty tx:TE}
end
section
variable {X:Cx}{am:List (ai×d8)}{σ:St}{H:Hp}{s:ap}{a:ai}{cP:List (fH×V)}{A:bX}{E:af->ap->Prop}
end
section
variable {X:Cx}{am:List (ai×d8)}{σ:St}{H:Hp}{s:ap}{a:ai}{y:V}{u:af}{A:bX}{E:af->ap->Prop}
end
end L2
namespace L2
open PySem PySem.Spec PyProof.Rows
section
variable {X:Cx}
theorem zmd:eK X (.builtin "len") (λxs H Q=>∃a cP,xs=[V.ref a]/\H a=some (.dK cP)/\Q (.int cP.length) H):=by
 intro am s σ H xs us Q I r h
 obtain⟨a,cP,rfl,ha,q⟩:=h
 obtain⟨u,rfl,ru⟩:=nG r
 cases ru
 exact zwo I (.inl ha) λt s' I'=>⟨.int cP.length,H,I',⟨t,rfl⟩,q⟩
end
end L2
namespace L2
open PySem
section
variable {κ:Type}[DecidableEq κ]
end
end L2
namespace L2
open PySem PySem.Spec PyProof.Rows
def Sz (n:Nat)(i:Int):Prop:=i.natAbs<2 ^ n
theorem Sz.bits {n:Nat}{i:Int}(h:Sz n i):fV.Int.intBits i<=n:=by
 unfold fV.Int.intBits
 by_cases h0:(i==0)=true
 ·rw[if_pos h0];exact dr _
 ·rw[if_neg h0]
  have hi:i.natAbs≠0:=by
   have:i≠0:=by simpa using h0
   omega
  exact Nat.succ_le_of_lt ((ni hi).mpr h)
theorem Sz.log {n:Nat}{i:Int}(h:Sz n i)(hn:0<n):i.natAbs.log2<n:=by
 by_cases hi:i.natAbs=0
 ·rw[hi];exact hn
 ·exact(ni hi).mpr h
theorem Sz.mono {n m:Nat}{i:Int}(h:Sz n i)(hm:n<=m):Sz m i:=bp h (dL (by decide) hm)
theorem Sz.le {n:Nat}{i j:Int}(h:Sz n i)(hj:j.natAbs<=i.natAbs):Sz n j:=lF hj h
theorem Sz.mul {n m:Nat}{i j:Int}(h:Sz n i)(h':Sz m j):Sz (n+m) (i*j):=by
 unfold Sz at *
 rw[oj,Nat.pow_add]
 exact Nat.mul_lt_mul'' h h'
theorem Sz.add {n:Nat}{i j:Int}(h:Sz n i)(h':Sz n j):Sz (n+1) (i+j):=by
 unfold Sz at *
 rw[jJ]
 omega
theorem Sz.sub {n:Nat}{i j:Int}(h:Sz n i)(h':Sz n j):Sz (n+1) (i-j):=by
 unfold Sz at *
 rw[jJ]
 omega
def ou (i j:Int):Prop:=zP i j\/(Sz 100000 i/\Sz 100000 j)
theorem ou.ok {i j:Int}(h:ou i j):IntMulOk i j:=by
 rcases h with h|h
 ·exact h.ok
 ·exact IntMulOk.of_bits (cB h.1.bits (by decide)) (cB h.2.bits (by decide))
section
variable {X:Cx}
theorem xk:gu X (eD .Mult) (rI ou λi j=>.int (i*j)):=Cu λ_ _ _ _ _ _ _ hc q=>mul_int q hc.ok
theorem vw:gu X (eD .FloorDiv) (rI (λ_ j=>j≠0/\Sz 9000 j) λi j=>.int (i.fdiv j)) :=
 Cu λ_ _ _ _ _ _ _ hc q=>floordiv_int hc.1 q (.inl (PyProof.noPylong_of_log2 (hc.2.log (by decide))))
theorem RelV.bool_iff {x:V}{v:af}{b:Bool}(r:RelV x v):(v==af.bool b)=decide (x=.bl b):=by
 cases x with
 |bl c=>
  cases(show v=af.bool c from r)
  by_cases h:c=b
  ·subst h;simp
  ·have h1:¬V.bl c=V.bl b:=λz=>h (V.bl.inj z)
   rw[decide_eq_false h1]
   exact beq_eq_false_iff_ne.mpr λz=>h (by injection z)
 |non=>cases(show v=af.none from r);rw[decide_eq_false (λz=>nomatch z)];exact beq_eq_false_iff_ne.mpr λz=>nomatch z
 |int i=>obtain⟨t,rfl⟩:=(show∃t,v=af.int i t from r);rw[decide_eq_false (λz=>nomatch z)];exact beq_eq_false_iff_ne.mpr λz=>nomatch z
 |str i=>obtain⟨t,rfl⟩:=(show∃t,v=af.str i t from r);rw[decide_eq_false (λz=>nomatch z)];exact beq_eq_false_iff_ne.mpr λz=>nomatch z
 |byt i=>obtain⟨t,rfl⟩:=(show∃t,v=af.bytes i t from r);rw[decide_eq_false (λz=>nomatch z)];exact beq_eq_false_iff_ne.mpr λz=>nomatch z
 |flt i=>obtain⟨t,rfl⟩:=(show∃t,v=af.float i t from r);rw[decide_eq_false (λz=>nomatch z)];exact beq_eq_false_iff_ne.mpr λz=>nomatch z
 |ref i=>cases(show v=af.ref i from r);rw[decide_eq_false (λz=>nomatch z)];exact beq_eq_false_iff_ne.mpr λz=>nomatch z
 |ty i=>cases(show v=af.type i from r);rw[decide_eq_false (λz=>nomatch z)];exact beq_eq_false_iff_ne.mpr λz=>nomatch z
theorem RW {x:V}{v:af}{b:Bool}(r:RelV x v):plainIs v (.bool b)=true:=by
 cases x with
 |bl c=>cases(show v=af.bool c from r);rfl
 |non=>cases(show v=af.none from r);rfl
 |int i=>obtain⟨t,rfl⟩:=(show∃t,v=af.int i t from r);rfl
 |str i=>obtain⟨t,rfl⟩:=(show∃t,v=af.str i t from r);rfl
 |byt i=>obtain⟨t,rfl⟩:=(show∃t,v=af.bytes i t from r);rfl
 |flt i=>obtain⟨t,rfl⟩:=(show∃t,v=af.float i t from r);rfl
 |ref i=>cases(show v=af.ref i from r);rfl
 |ty i=>cases(show v=af.type i from r);rfl
theorem zu3:gu X (cu .Is) (λx y H Q=>∃b,y=.bl b/\Q (.bl (decide (x=.bl b))) H):=by
 intro am s σ H x y v u Q I rx ry h
 obtain⟨b,rfl,q⟩:=h
 cases ry
 exact wpAny_is_plain (RW rx) (KJ I q (RelV.bool_iff rx).symm)
theorem zme:gu X (cu .IsNot) (λx y H Q=>∃b,y=.bl b/\Q (.bl (!decide (x=.bl b))) H):=by
 intro am s σ H x y v u Q I rx ry h
 obtain⟨b,rfl,q⟩:=h
 cases ry
 exact wpAny_isNot_plain (RW rx) (KJ I q (by rw[RelV.bool_iff rx]))
theorem zo3:eK X (.builtin "isinstance") (λxs H Q=>∃x c t b,xs=[x,.ty c]/\kA X.K H x t/\bU X.K t (.type c)=some b/\Q (.bl b) H):=by
 intro am s σ H xs us Q I r h
 obtain⟨x,c,t,b,rfl,ty,e,q⟩:=h
 obtain⟨u,w',rfl,ru,oe⟩:=vals2 r
 cases(show w'=af.type c from oe)
 exact Ss I ru ty e λtk=>⟨.bl b,H,I.tok tk,rfl,q⟩
theorem zmf:eK X (.builtin "isinstance") (λxs H Q=>∃x C t b,xs=[x,.ref C]/\kA X.K H x t/\bU X.K t (.ref C)=some b/\Q (.bl b) H):=by
 intro am s σ H xs us Q I r h
 obtain⟨x,c,t,b,rfl,ty,e,q⟩:=h
 obtain⟨u,w',rfl,ru,oe⟩:=vals2 r
 cases(show w'=af.ref c from oe)
 exact Ss I ru ty e λtk=>⟨.bl b,H,I.tok tk,rfl,q⟩
end
mutual
inductive Dt (K:ae)(H:Hp):V->bK->Prop
 |non:Dt K H .non .none
 |bl (b:Bool):Dt K H (.bl b) (.bool b)
 |int (i:Int):Dt K H (.int i) (.int i)
 |str (x:aX):Dt K H (.str x) (.str x)
 |lst {a:ai} {xs:List V} {ds:List bK}:fX K H a xs->Dts K H xs ds->Dt K H (.ref a) (.list ds)
 |tup {a:ai} {xs:List V} {ds:List bK}:kX K H a xs->Dts K H xs ds->Dt K H (.ref a) (.tuple ds)
inductive Dts (K:ae)(H:Hp):List V->List bK->Prop
 |nil:Dts K H [] []
 |cons {v:V} {d:bK} {vs:List V} {ds:List bK}:Dt K H v d->Dts K H vs ds->Dts K H (v::vs) (d::ds)
end
section
variable {X:Cx}{am:List (ai×d8)}{σ:St}{H:Hp}{s:ap}
mutual
theorem Dt.reads (I:Inv X am σ H s):∀{v:V} {d:bK} {u:af},Dt X.K H v d->RelV v u->∃as,Reads s.heap u d as
 |_,_,_,.non,r=>by cases r;exact⟨_,.none⟩
 |_,_,_,.bl b,r=>by cases r;exact⟨_,.bool b⟩
 |_,_,_,.int i,r=>by obtain⟨t,rfl⟩:=r;exact⟨_,.int i t⟩
 |_,_,_,.str x,r=>by obtain⟨t,rfl⟩:=r;exact⟨_,.str x t⟩
 |_,_,_,.lst hq ds,r=>by
  obtain⟨cv,rv,⟨o,n,e,c,_,dd⟩,_⟩:=I.list hq
  obtain⟨as,ra⟩:=Dts.reads I ds rv
  cases r
  exact⟨_,.list e c dd (by simpa using ra)⟩
 |_,_,_,.tup hq ds,r=>by
  obtain⟨cv,rv,⟨o,e,c,n,dd⟩,_⟩:=I.tuple hq
  obtain⟨as,ra⟩:=Dts.reads I ds rv
  cases r
  exact⟨_,.tuple e c dd (by simpa using ra)⟩
theorem Dts.reads (I:Inv X am σ H s):∀{vs:List V} {ds:List bK} {us:List af},Dts X.K H vs ds->ck vs us->∃as,ReadsAll s.heap us ds as
 |_,_,_,.nil,r=>by cases r;exact⟨_,.nil⟩
 |_,_,_,.cons h t,r=>by
  cases r with
  |cons p q=>
   obtain⟨as,ra⟩:=Dt.reads I h p
   obtain⟨bs,rb⟩:=Dts.reads I t q
   exact⟨_,.cons ra rb⟩
end
end
section
variable {X:Cx}
def BL (K:ae)(neg:Bool):R2:=λx y H Q=>∃d e,Dt K H x d/\Dt K H y e/\d.canLay0=true/\e.canLay0=true/\min d.depth e.depth<=60/\Q (.bl (if neg then !bK.eqv d e else bK.eqv d e)) H
theorem vh (hu:X.A.units+64<gR):gu X (cu .Eq) (BL X.K false):=by
 intro am s σ H x y v u Q I rx ry h
 obtain⟨d,e,hd,he,c1,c2,dp,q⟩:=h
 obtain⟨as,ra⟩:=hd.reads I rx
 obtain⟨bs,rb⟩:=he.reads I ry
 exact SeqAt.compareEq_reads ra rb c1 c2 (by omega) ⟨.bl _,H,I,rfl,q⟩
theorem xS (hu:X.A.units+64<gR):gu X (cu .NotEq) (BL X.K true):=by
 intro am s σ H x y v u Q I rx ry h
 obtain⟨d,e,hd,he,c1,c2,dp,q⟩:=h
 obtain⟨as,ra⟩:=hd.reads I rx
 obtain⟨bs,rb⟩:=he.reads I ry
 exact SeqAt.compareNe_reads ra rb c1 c2 (by omega) ⟨.bl _,H,I,rfl,q⟩
theorem Dts.ints (K:ae)(H:Hp):∀ns:List Int,Dts K H (ns.map V.int) (ns.map bK.int)
 |[]=>.nil
 |n::r=>.cons (.int n) (Dts.ints K H r)
end
theorem IQ {H:Hp}{p:ai}(h:H p=none)(o:HO):ce H (d4 H p o):=λb u q=>by rw[yo (xr q h)];exact q
theorem eR.u64 {k:Nat}{A:bX}(r:eR k A):A.units+64<gR:=r.units
theorem small {n:Nat}(h:n<=1000):n<=sizeLine:=ma (sV h)
end L2
namespace L2
open PySem PySem.Spec PyProof.Rows
end L2
namespace L2
open PySem PySem.Spec PyProof.Rows
end L2
namespace L2
open PySem
theorem UU:bO "int"=some (.type "int"):=by decide +kernel
theorem UV:bO "str"=some (.type "str"):=by decide +kernel
theorem T7:bO "bool"=some (.type "bool"):=by decide +kernel
theorem zG:bO "list"=some (.type "list"):=by decide +kernel
theorem Tl:bO "tuple"=some (.type "tuple"):=by decide +kernel
theorem zu4:bO "set"=some (.type "set"):=by decide +kernel
theorem UW:bO "len"=some (.builtin "len"):=by decide +kernel
theorem UE:bO "abs"=some (.builtin "abs"):=by decide +kernel
theorem UF:bO "max"=some (.builtin "max"):=by decide +kernel
theorem zu5:bO "min"=some (.builtin "min"):=by decide +kernel
theorem I0:bO "sum"=some (.builtin "sum"):=by decide +kernel
theorem RR:bO "isinstance"=some (.builtin "isinstance"):=by decide +kernel
theorem OA:bO "sorted"=some (.builtin "sorted"):=by decide +kernel
theorem UG:bO "all"=some (.builtin "all"):=by decide +kernel
end L2
namespace L2
open PySem PySem.Spec PyProof.Rows
section
variable {prog:bJ}{w:cw}{A:bX}{R:Result->ap->Prop}{s:ap}
theorem RX {kc target iter:Expr}{ifs:List Expr}{scope:gH}{pos:dF}{it gk:af}{env:Env}(I:Nat->ap->Prop)
  (cI:∀n s,I n s->bj (bi prog w) A (pyNext it) (λr s₁=>match r with
   |none=>R (.ok .next) s₁
   |some v=>bj (bi prog w) A (iA target it v) (λ_ Rz=>bj (bi prog w) A (iS target env v) (λ_ s₂=>
     bj (bi prog w) A (forIn ifs true λc r=>if r=true then do let ok ← tK c env (bY c env);pure (ForInStep.yield ok)else pure (ForInStep.yield r)) (λok s₃=>
      if ok=true then bj (bi prog w) A (bY kc env) (λx s₄=>
       bj (bi prog w) A (call (.builtin "list.append") [gk,x]) (λ_ s₅=>∃m,m<n/\I m s₅) (λ_ _=>False) s₄) (λ_ _=>False) s₃
      else∃m,m<n/\I m s₃) (λ_ _=>False) s₂) (λ_ _=>False) Rz) (λ_ _=>False) s₁) (λ_ _=>False) s)
  (n:Nat) (h:I n s) :
  gS (bi prog w) A (.compLoop (.ListComp kc [⟨target,iter,ifs,0⟩] scope pos) 0 it gk env) R s:=by
 have up:∀{α:Type} {m:pE α} {Q:α->ap->Prop} {E:af->ap->Prop} {s:ap},bj (bi prog w) A m Q (λ_ _=>False) s->bj (bi prog w) A m Q E s:=λh=>dZ h (λ_ _ q=>q) λ_ _ f=>f.elim
 refine codeAny_loop rfl I (λn s hI=>?_) n h
 show bj _ A ((compTurn (.ListComp kc [⟨target,iter,ifs,0⟩] scope pos) 0 it gk env).onRaise (λx=>do noteFrame x env;theTreesLotGoes x)) _ _ s
 refine wpAny_noted ?_
 rw[compTurn_list]
 refine aV (mJ (aV (dZ (up (cI n s hI)) (λr s₁ h₁=>?_) λ_ _ h'=>h')))
 cases r with
 |none=>exact bZ h₁
 |some v=>
  refine aV (dZ (up h₁) (λ_ Rz X3=>?_) λ_ _ h'=>h')
  refine aV (dZ (up X3) (λ_ s₂ h₂=>aV (dZ (up h₂) (λok s₃ h₃=>?_) λ_ _ h'=>h')) λ_ _ h'=>h')
  cases ok with
  |false=>exact bZ ⟨rfl,h₃⟩
  |true=>
   exact aV (aV (dZ (up h₃) (λx s₄ h₄=>aV (dZ (up h₄) (λ_ s₅ h₅=>bZ (bZ ⟨rfl,h₅⟩)) λ_ _ h'=>h')) λ_ _ h'=>h'))
end
theorem Kb {env:Env}:∀(names:List (aX×bw)) (gk:List (aX×ai)),(∀x∈names,x.2=.free->∃c,env.cells.lookup x.1=some c)->(∀y c,gk.lookup y=some c->env.cells.lookup y=some c) ->
  ∃cl,(forIn names gk λ(x:aX×bw) (cs:List (aX×ai))=>if(x.2==bw.free)=true then do let a ← cellOf env x.1;pure (ForInStep.yield ((x.1,a)::cs))else pure (ForInStep.yield cs):pE (List (aX×ai)))=pure cl /\
   (∀y c,cl.lookup y=some c->env.cells.lookup y=some c)/\(∀x∈names,x.2=.free->∃c,cl.lookup x.1=some c)/\∀y c,gk.lookup y=some c->∃c',cl.lookup y=some c'
 |[],gk,_,ha=>⟨gk,rfl,ha,λ_ h=>(nomatch h),λy c h=>⟨c,h⟩⟩
 |(n,k)::r,gk,hn,ha=>by
  by_cases hk:k=.free
  ·subst hk
   obtain⟨c,hc⟩:=hn (n,.free) aa rfl
   have e1:cellOf env n=pure c:=by unfold cellOf;rw[hc]
   have W8:∀y d,((n,c)::gk).lookup y=some d->env.cells.lookup y=some d:=λy d h=>by
    rw[bv]at h
    cases hy:y==n with
    |true=>
     rw[hy]at h
     have:y=n:=eq_of_beq hy
     subst this
     cases h
     exact hc
    |false=>rw[hy]at h;exact ha y d h
   obtain⟨cl,h1,h2,h3,h4⟩:=Kb r ((n,c)::gk) (λx hx=>hn x (aj _ hx)) W8
   refine⟨cl,?_,h2,?_,?_⟩
   ·rw[m9]
    simp only[beq_self_eq_true,if_true,e1,pure_bind]
    exact h1
   ·intro x hx hf
    rcases aF.mp hx with rfl|hx
    ·exact h4 n c (by rw[bv,beq_self_eq_true])
    ·exact h3 x hx hf
   ·intro y d hy
    cases hb:y==n with
    |true=>exact h4 y c (by rw[bv,hb])
    |false=>exact h4 y d (by rw[bv,hb];exact hy)
  ·have hb:(k==bw.free)=false:=by simpa using hk
   obtain⟨cl,h1,h2,h3,h4⟩:=Kb r gk (λx hx=>hn x (aj _ hx)) ha
   refine⟨cl,?_,h2,?_,h4⟩
   ·rw[m9]
    simp only[hb,dD,if_false,pure_bind]
    exact h1
   ·intro x hx hf
    rcases aF.mp hx with rfl|hx
    ·exact absurd hf hk
    ·exact h3 x hx hf
theorem Ku (n:Nat)(a:aX)(r:List (aX×bw))(gk:List (aX×ai)):cellsFrom n ((a,.cell)::r) gk=cellsFrom (n+1) r ((a,n)::gk):=rfl
theorem KM {k:bw}(hk:k≠.cell)(n:Nat)(a:aX)(r:List (aX×bw))(gk:List (aX×ai)):cellsFrom n ((a,k)::r) gk=cellsFrom n r gk:=by
 cases k<;>first|rfl|exact absurd rfl hk
def jV (names:List (aX×bw)):Nat:=(names.filter λy=>y.2==bw.cell).length
theorem O8 (a:aX)(r:List (aX×bw)):jV ((a,.cell)::r)=jV r+1:=by unfold jV;rw[pq (by rfl),aI]
theorem UH {k:bw}(hk:k≠.cell)(a:aX)(r:List (aX×bw)):jV ((a,k)::r)=jV r:=by unfold jV;rw[pj (by simpa using hk)]
theorem CS:∀(names:List (aX×bw)) (n:Nat) (gk:List (aX×ai)) {x:aX} {c:Nat},(cellsFrom n names gk).lookup x=some c->(n<=c/\c<n+jV names/\(x,bw.cell)∈names)\/(gk.lookup x=some c/\(x,bw.cell)∉names)
 |[],_,_,_,_,h=>.inr ⟨h,by simp⟩
 |(a,k)::r,n,gk,x,c,h=>by
  by_cases hk:k=.cell
  ·subst hk
   rw[Ku]at h
   rcases CS r (n+1) _ h with⟨h1,h2,h3⟩|⟨h1,h2⟩
   ·refine .inl ⟨by omega,?_,aj _ h3⟩
    rw[O8];omega
   ·rw[bv]at h1
    cases hx:x==a with
    |true=>
     rw[hx]at h1
     cases h1
     refine .inl ⟨aM _,?_,by rw[eq_of_beq hx];exact aa⟩
     rw[O8];omega
    |false=>
     rw[hx]at h1
     refine .inr ⟨h1,λz=>?_⟩
     rcases aF.mp z with z|z
     ·cases z;simp at hx
     ·exact h2 z
  ·rw[KM hk]at h
   have hf:=UH hk a r
   rw[hf]
   rcases CS r n _ h with⟨h1,h2,h3⟩|⟨h1,h2⟩
   ·exact .inl ⟨h1,h2,aj _ h3⟩
   ·refine .inr ⟨h1,λz=>?_⟩
    rcases aF.mp z with z|z
    ·cases z;exact hk rfl
    ·exact h2 z
theorem Pq:∀(names:List (aX×bw)) (n:Nat) (gk:List (aX×ai)) {x:aX},(x,bw.cell)∉names->(cellsFrom n names gk).lookup x=gk.lookup x
 |[],_,_,_,_=>rfl
 |(a,k)::r,n,gk,x,h=>by
  have hr:(x,bw.cell)∉r:=λz=>h (aj _ z)
  by_cases hk:k=.cell
  ·subst hk
   rw[Ku,Pq r _ _ hr,bv]
   cases hx:x==a with
   |true=>exact absurd (by rw[eq_of_beq hx];exact aa) h
   |false=>rfl
  ·rw[KM hk,Pq r _ _ hr]
theorem Ps:∀(names:List (aX×bw)) (n:Nat) (gk:List (aX×ai)),(∀x y c,gk.lookup x=some c->gk.lookup y=some c->x=y)->(∀x c,gk.lookup x=some c->c<n)->∀x y c,(cellsFrom n names gk).lookup x=some c->(cellsFrom n names gk).lookup y=some c->x=y
 |[],_,_,h,_=>h
 |(a,k)::r,n,gk,h,hb=>by
  by_cases hk:k=.cell
  ·subst hk
   rw[Ku]
   refine Ps r (n+1) _ (λx y c e e'=>?_) λx c e=>?_
   ·rw[bv]at e e'
    cases hx:x==a with
    |true=>
     rw[hx]at e
     cases e
     cases hy:y==a with
     |true=>rw[eq_of_beq hx,eq_of_beq hy]
     |false=>rw[hy]at e';exact absurd (hb _ _ e') (eJ _)
    |false=>
     rw[hx]at e
     cases hy:y==a with
     |true=>rw[hy]at e';cases e';exact absurd (hb _ _ e) (eJ _)
     |false=>rw[hy]at e';exact h x y c e e'
   ·rw[bv]at e
    cases hx:x==a with
    |true=>rw[hx]at e;cases e;exact jB _
    |false=>rw[hx]at e;exact fu (hb _ _ e)
  ·rw[KM hk]
   exact Ps r n gk h hb
theorem Ou {M:Model}{A:bX}{E:af->ap->Prop}:∀(names:List (aX×bw)) (cells:List (aX×ai)) (s:ap) (Q:List (aX×ai)->ap->Prop),
    (∀h':bc,(∀b o,s.heap.get? b=some o->h'.get? b=some o)->(∀c,s.heap.objs.size<=c->c<s.heap.objs.size+jV names->h'.IsCell c none)->Q (cellsFrom s.heap.objs.size names cells) { s with heap:=h' }) ->
    bj M A (forIn names cells λ(x:aX×bw) (cells:List (aX×ai))=>if(x.2==bw.cell)=true then do let a ← alloc { cls:=af.type "cell",data:=kG.cell none };pure (ForInStep.yield ((x.1,a)::cells))else pure (ForInStep.yield cells)) Q E s
  |[],cells,s,Q,h=>by
    have:=h s.heap (λ_ _ e=>e) (λc h1 h2=>by rw[show jV []=0 from rfl]at h2;omega)
    rw[wH]
    exact bZ this
  |(a,k)::r,cells,s,Q,h=>by
    rw[m9]
    by_cases hk:k=.cell
    · subst hk
      simp only[beq_self_eq_true,if_true,bind_assoc,pure_bind]
      refine aV (wpAny_alloc ?_)
      have ih:=Ou (M:=M) (A:=A) (E:=E) r ((a,s.heap.objs.size)::cells) { s with heap:=s.heap.push { cls:=af.type "cell",data:=kG.cell none } } Q (λh' k1 k2=>by
        have hz:(s.heap.push { cls:=af.type "cell",data:=kG.cell none }).objs.size=s.heap.objs.size+1:=gw _ _
        have:=h h' (λb o e=>k1 b o (aJ _ e)) (λc h1 h2=>by
          rw[O8]at h2
          by_cases hc:c=s.heap.objs.size
          · subst hc
            exact⟨_,k1 _ _ (bW _ rfl),rfl⟩
          · exact k2 c (by show(s.heap.push _).objs.size<=c;rw[hz];omega) (by show c<(s.heap.push _).objs.size+_;rw[hz];omega))
        rw[Ku]at this
        have e:(({ s with heap:=s.heap.push { cls:=af.type "cell",data:=kG.cell none } }:ap)).heap.objs.size=s.heap.objs.size+1:=hz
        rw[e]
        exact this)
      exact ih
    · have hb:(k==bw.cell)=false:=by simpa using hk
      simp only[hb,dD,if_false,pure_bind]
      refine Ou r cells s Q λh' k1 k2=>?_
      have hf:=UH hk a r
      have:=h h' k1 (by rw[hf];exact k2)
      rw[KM hk]at this
      exact this
theorem RY {M:Model}{A:bX}{E:af->ap->Prop}{s:ap}{scope:gH}{globals:ai}{closure:List (aX×ai)}{qual:aX}{code:af}{out:Env}{builtins:ai}{Q:Env->ap->Prop}
    (h:∀h':bc,(∀b o,s.heap.get? b=some o->h'.get? b=some o)->h'.Ns s.heap.objs.size (λ_=>none)->(∀c,s.heap.objs.size+1<=c->c<s.heap.objs.size+1+jV scope.names->h'.IsCell c none) ->
      Q (newEnv scope s.heap.objs.size globals (cellsFrom (s.heap.objs.size+1) scope.names closure) qual none code (some out) builtins) { s with heap:=h' }) :
    bj M A (lG scope globals closure [] qual none code (some out) builtins) Q E s:=by
  unfold lG
  refine aV (wpAny_alloc ?_)
  have hz:(s.heap.push { cls:=af.type "dict",data:=kG.dict #[] }).objs.size=s.heap.objs.size+1:=gw _ _
  refine aV (Ou scope.names closure { s with heap:=s.heap.push { cls:=af.type "dict",data:=kG.dict #[] } } _ λh' k1 k2=>?_)
  have X0:(({ s with heap:=s.heap.push { cls:=af.type "dict",data:=kG.dict #[] } }:ap)).heap.objs.size=s.heap.objs.size+1:=hz
  rw[X0]at k2 ⊢
  dsimp only
  rw[wH]
  refine aV (bZ (bZ ?_))
  exact h h' (λb o e=>k1 b o (aJ _ e)) ((bc.Ns.new s.heap _).keeps k1) k2
def iV (X:Cx)(scope:gH)(cl:List (aX×ai))(N:List aX)(C:ai)(fp:List ai)(s₀:ap)(H₀:Hp):Cx :=
 { X with N:=N,s₀:=s₀,H₀:=H₀,env:=qB scope cl C X.env,outer:=X.stack,stack:=X.stack,ex:=fp,fn:=λx=>scope.names.lookup x==some .cell,pn:=[],xe:=λ_ _=>False }
structure kQ (X:Cx)(scope:gH)(N:List aX)(own:Nat)(cap:List Nat):Prop where
 kind:scope.kind=.function
 cells:∀x∈scope.names,x.2=.cell->scope.names.lookup x.1=some .cell
 locs:∀x∈scope.names,x.2=.local->scope.names.lookup x.1=some .local
 free:∀x∈scope.names,x.2=.free->X.env.kindOf x.1=some .cell\/X.env.kindOf x.1=some .free
 len:N.length=own+cap.length
 caps:∀(j:Nat) (x:aX),N[own+j]?=some x->∃i,cap[j]?=some i/\X.N[i]?=some x/\(scope.names.lookup x=some .free)
theorem Kc {α β:Type}[BEq α][LawfulBEq α]{x:α}{y:β}:∀{l:List (α×β)},l.lookup x=some y->(x,y)∈l
 |[],h=>by simp at h
 |(a,b)::r,h=>by
  rw[bv]at h
  cases hb:x==a with
  |true=>rw[hb]at h;cases h;rw[eq_of_beq hb];exact aa
  |false=>rw[hb]at h;exact aj _ (Kc h)
theorem RZ {env:Env}{x:aX}:∀{names:List (aX×bw)},names.lookup x=some .free ->
  (names.map λ(n,k)=>if(k==bw.free&&env.scope.kind==.function&&env.kindOf n==some .cell)then(n,bw.cell)else(n,k)).lookup x=some .cell \/
  (names.map λ(n,k)=>if(k==bw.free&&env.scope.kind==.function&&env.kindOf n==some .cell)then(n,bw.cell)else(n,k)).lookup x=some .free
 |[],h=>by simp at h
 |(n,k)::r,h=>by
  rw[bv]at h
  rw[aP]
  cases hx:x==n with
  |true=>
   rw[hx]at h
   cases h
   by_cases hc:(bw.free==bw.free&&env.scope.kind==.function&&env.kindOf n==some .cell)=true
   ·left
    simp only[hc,if_true,bv,hx]
   ·right
    simp only[hc,if_false,bv,hx,dD]
  |false=>
   rw[hx]at h
   rcases RZ (env:=env) h with q|q
   ·left
    by_cases hc:(k==bw.free&&env.scope.kind==.function&&env.kindOf n==some .cell)=true
    ·simp only[hc,if_true,bv,hx];exact q
    ·simp only[hc,if_false,bv,hx,dD];exact q
   ·right
    by_cases hc:(k==bw.free&&env.scope.kind==.function&&env.kindOf n==some .cell)=true
    ·simp only[hc,if_true,bv,hx];exact q
    ·simp only[hc,if_false,bv,hx,dD];exact q
theorem RT {env:Env}{x:aX}:∀{names:List (aX×bw)},((names.map λ(n,k)=>if(k==bw.free&&env.scope.kind==.function&&env.kindOf n==some .cell)then(n,bw.cell)else(n,k)).lookup x=some .cell \/
  (names.map λ(n,k)=>if(k==bw.free&&env.scope.kind==.function&&env.kindOf n==some .cell)then(n,bw.cell)else(n,k)).lookup x=some .free)->(x,bw.free)∈names\/(x,bw.cell)∈names
 |[],h=>by simp at h
 |(n,k)::r,h=>by
  rw[aP]at h
  cases hx:x==n with
  |true=>
   have e:x=n:=eq_of_beq hx
   by_cases hc:(k==bw.free&&env.scope.kind==.function&&env.kindOf n==some .cell)=true
   ·have:k=.free:=by
     rw[bG,bG]at hc
     exact eq_of_beq hc.1.1
    left
    rw[e,this];exact aa
   ·simp only[hc,if_false,bv,hx,dD]at h
    rcases h with h|h
    ·cases h;right;rw[e];exact aa
    ·cases h;left;rw[e];exact aa
  |false=>
   refine(RT (env:=env) (names:=r) ?_).imp (aj _) (aj _)
   by_cases hc:(k==bw.free&&env.scope.kind==.function&&env.kindOf n==some .cell)=true
   ·simpa only[hc,if_true,bv,hx]using h
   ·simpa only[hc,if_false,bv,hx,dD]using h
def gJ (σ:St)(cap:List Nat):St:=cap.map λi=>(σ[i]?).join
theorem zk7 {σ:St}{cap:List Nat}{j i:Nat}{v:V}(hj:cap[j]?=some i)(h:(gJ σ cap)[j]?=some (some v)):σ[i]?=some (some v):=by
 unfold gJ at h
 rw[aD,hj]at h
 cases e:σ[i]? with
 |none=>rw[tH,e]at h;cases h
 |some o=>
  rw[tH,e]at h
  cases o with
  |none=>cases h
  |some u=>exact h
section
variable {X:Cx}{am:List (ai×d8)}{σ:St}{H:Hp}{s:ap}
theorem SH {scope:gH}{cl:List (aX×ai)}{N:List aX}{own:Nat}{cap:List Nat}{fp:List ai}{h₁:bc}{t':Nat}{m₀:aX->Option af}(B:kQ X scope N own cap)(I:Inv X am σ H s)
    (c1:∀y c,cl.lookup y=some c->X.env.cells.lookup y=some c) (c2:∀x∈scope.names,x.2=.free->∃c,cl.lookup x.1=some c)
    (hf:∀b∈fp,kS X am H b) (QN:∀b∈fp,b<s.heap.objs.size) (gG:h₁.Ns s.heap.objs.size m₀) (k:∀b o,s.heap.get? b=some o->h₁.get? b=some o)
    (A8:∀c,s.heap.objs.size+1<=c->c<s.heap.objs.size+1+jV scope.names->h₁.IsCell c none) :
    Inv (iV X scope (cellsFrom (s.heap.objs.size+1) scope.names cl) N s.heap.objs.size fp s H) [] (aC own none++gJ σ cap) H { s with heap:=h₁,toks:=t' } :=
  have low:∀x c,cl.lookup x=some c->c<s.heap.objs.size:=λx c e=>by
    obtain⟨v,o,q,_⟩:=I.cell x c (c1 x c e)
    exact aR q
  { ok:={
      mod:=I.mod
      kind:=B.kind
      glob:=I.ok.glob
      blt:=I.ok.blt
      above:=aM _
      inj:=Ps _ _ _ (λx y c e e'=>I.ok.inj x y c (c1 x c e) (c1 y c e')) λx c e=>fu (low x c e)
      has:=λx hx=>by
        refine nR.mp (iU scope.names _ _ ?_)
        rcases RT hx with q|q
        · right
          obtain⟨c,e⟩:=c2 _ q rfl
          rw[e];rfl
        · exact .inl (B.cells _ q rfl)
      cab:=λx c e e'=>by
        have hx:scope.names.lookup x=some .cell:=eq_of_beq e
        rcases CS _ _ _ e' with⟨h1,_⟩|⟨_,h2⟩
        · exact mh h1
        · exact absurd (Kc hx) h2
      hd:=I.ok.hd
      frames:=I.ok.frames
      stk:=.inl rfl
      exf:=λb hb=>⟨bE (QN b hb),λx c e=>by
        rcases CS _ _ _ e with⟨h1,_⟩|⟨h1,_⟩
        · exactλz=>absurd (QN b hb) (by rw[←z];exact Nat.not_lt.mpr (mh h1))
        · exact(hf b hb).2.2.2.2.1 x c (c1 x c h1)⟩
      bs:=I.bs
      bsz:=cB I.ok.bsz I.sz
      noex:=λb o e hb=>by
        rcases(hf b hb).2.2.2.1 with q|q
        · exact I.ok.noex b o e q
        · exact absurd (bp (aR e) I.ok.bsz) (Nat.not_lt.mpr q)
      exfs:=λb hb hz=>by
        rcases aF.mp (I.stkSub b hz)with q|q
        · exact(hf b hb).2.1 q
        · exact(hf b hb).2.2.1 q
      funs:=I.stack
      frf:=I.stkFree }
    os:=rfl
    bare:=I.bare
    base:=Un.kept k
    loc:=by
      refine⟨m₀,gG,λi x v hN hσ hv=>?_⟩
      by_cases hi:i<own
      · rw[cE (by rw[cZ];exact hi),eP,if_pos hi]at hσ
        cases hσ
      · obtain⟨j,rfl⟩:∃j,i=own+j:=⟨i-own,by omega⟩
        obtain⟨i',e1,e2,e3⟩:=B.caps j x hN
        rw[fF (by rw[cZ];omega),cZ,Nat.add_sub_cancel_left]at hσ
        have Br:=zk7 e1 hσ
        have hk:=B.free (x,.free) (Kc e3) rfl
        obtain⟨m,hm,hl⟩:=I.loc
        obtain⟨u,ru,hu⟩:=hl i' x v e2 Br (.inr hk)
        refine⟨u,ru,?_⟩
        rcases hu with⟨q,_⟩|⟨_,c,hc,ic⟩
        · rcases hk with hk|hk
          · rw[hk]at q;cases q
          · rw[hk]at q;cases q
        · obtain⟨c',yH⟩:=c2 (x,.free) (Kc e3) rfl
          have ec:=c1 x c' yH
          rw[hc]at ec
          cases ec
          have hn:(x,bw.cell)∉scope.names:=λz=>by
            have:=B.cells _ z rfl
            rw[e3]at this
            cases this
          exact .inr ⟨RZ e3,c,by show(cellsFrom _ _ _).lookup x=_;rw[Pq _ _ _ hn];exact yH,ic.keeps k⟩
    cell:=λx c e=>by
      rcases CS _ _ _ e with⟨h1,h2,_⟩|⟨h1,_⟩
      · exact⟨none,A8 c h1 h2⟩
      · obtain⟨v,q⟩:=I.cell x c (c1 x c h1)
        exact⟨v,q.keeps k⟩
    free:=I.hok.fresh (aM _)
    freeC:=λx c e=>by
      rcases CS _ _ _ e with⟨h1,_⟩|⟨h1,_⟩
      · exact I.hok.fresh (mh h1)
      · exact I.freeC x c (c1 x c h1)
    pin:=λp hp=>(nomatch hp)
    hok:=I.hok.kept k
    len:=by
      show(aC own none++gJ σ cap).length=N.length
      rw[aZ,cZ,B.len]
      unfold gJ
      rw[ah] }
end
def xL:TT:=λ_ H Q=>Q true H
def yC (X:Cx)(ifs:List Expr)(t:TT):Prop :=
 ∀(am:List (ai×d8)) (s:ap) (σ:St) (H:Hp) (Q:Bool->Hp->Prop),Inv X am σ H s->t σ H Q ->
  bj (bi X.prog X.w) X.A (forIn ifs true λc r=>if r=true then do let ok ← tK c X.env (bY c X.env);pure (ForInStep.yield ok)else pure (ForInStep.yield r)) (TP X am σ Q) X.xe s
theorem zr9 {X:Cx}:yC X [] xL:=λ_ _ _ H _ I h=>wpAny_tests_nil ⟨H,I,h⟩
theorem zsa {X:Cx}{c:Expr}{t:TT}(h:PT X c t):yC X [c] t:=λam s σ H Q I q=>wpAny_tests_one (h am s σ H Q I q)
def rX (wi:TI)(own:Nat)(cap:List Nat)(g:TG)(tt:TT)(te:TE):TE:=λσ H Q=>wi σ H λJ H1=>∀D,H1 D=none->∃W:Nat->Nat->List V->Hp->Prop,(∃m,W 0 m [] (d4 H1 D (.lst []))) /\
 ∀i m ys H2,W i m ys H2->H2 D=some (.lst ys)/\((J.stop i H2/\Q (.ref D) H2)\/(J.go i H2/\ys.length<sizeLine/\∀x H3,J.yld i H2 x H3->g x (aC own none++gJ σ cap) H3 λσ2 H4=>tt σ2 H4 λb H5=>
  if b=true then te σ2 H5 λy H6=>H6 D=some (.lst ys)/\∃m',m'<m/\W (i+1) m' (ys++[y]) (d4 H6 D (.lst (ys++[y])))else∃m',m'<m/\W (i+1) m' ys H5))
def gL (own:Nat)(g:TG):Prop:=∀v σ H Q,g v σ H Q->g v σ H λσ' H'=>Q σ' H'/\σ'.length = σ.length/\∀i,own<=i->σ'[i]? = σ[i]?
theorem zk8 (i own:Nat)(h:i<own):gL own (rO i):=λv σ H Q q=>⟨q,by rw[vJ],λj hj=>by rw[df (by omega)]⟩
theorem zsb {X:Cx}{kc iter tg:Expr}{ifs:List Expr}{scope:gH}{pos:dF}{N:List aX}{own:Nat}{cap:List Nat}{wi:TI}{g:TG}{tt:TT}{te:TE}(B:kQ X scope N own cap)(hc:X.calm=true)(hi:PI X tg iter wi)
    (kg:gL own g)
    (hg:∀cl C fp s₀ H₀,PG (iV X scope cl N C fp s₀ H₀) tg g) (ht:∀cl C fp s₀ H₀,yC (iV X scope cl N C fp s₀ H₀) ifs tt) (he:∀cl C fp s₀ H₀,PE (iV X scope cl N C fp s₀ H₀) kc te)
    (hs:∀x,dX iter X.env x=pure x:=by intro _;rfl):PE X (.ListComp kc [⟨tg,iter,ifs,0⟩] scope pos) (rX wi own cap g tt te):=by
  intro am s σ H Q I h
  obtain⟨cl,A7,c1,c2,_⟩:=Kb (env:=X.env) scope.names [] (λx hx hf=>I.ok.has x.1 (B.free x hx hf)) (λy c e=>by simp at e)
  have uI:qA scope X.env=pure cl:=by
    have e:qA scope X.env=(forIn scope.names ([]:List (aX×ai)) (λ(x:aX×bw) (cs:List (aX×ai))=>if(x.2==bw.free)=true then do let a ← cellOf X.env x.1;pure (ForInStep.yield ((x.1,a)::cs))else pure (ForInStep.yield cs)) >>= pure:pE (List (aX×ai))):=rfl
    rw[e,A7]
    rfl
  rw[eval_ListComp]
  refine wpAny_comprehension_free (use:=none) rfl hs uI B.kind B.locs (dC (hi am s σ H _ I h) λv s1 h1=>dC h1 λJS s2 h2=>?_)
  obtain⟨it,fp,tn,J,H2,e,I2,T,vU,f2,W0⟩:=h2
  subst e
  obtain⟨W,⟨m0,w0⟩,cI⟩:=W0 s2.heap.objs.size (I2.hok.fresh (aM _))
  refine nO ?_
  have I3:Inv X am σ (d4 H2 s2.heap.objs.size (.lst [])) { s2 with heap:=s2.heap.push { cls:=.type "list",data:=.seq ([]:List af).toArray } }:=I2.lnew .nil (dr _)
  generalize FN:({ s2 with heap:=s2.heap.push { cls:=.type "list",data:=.seq ([]:List af).toArray } }:ap)=s3 at I3
  have k3:∀b o,s2.heap.get? b=some o->s3.heap.get? b=some o:=λb o e=>by rw[←FN];exact aJ _ e
  have z3:s3.heap.objs.size=s2.heap.objs.size+1:=by rw[←FN];exact gw _ _
  have rj:∀b∈fp,b<s2.heap.objs.size:=λb hb=>by
    obtain⟨o,e,_⟩:=T.obj _ _ vU b hb
    exact aR e
  have i7:∀b∈fp,b≠s2.heap.objs.size:=λb hb=>bE (rj b hb)
  have f3:∀b∈fp,kS X am (d4 H2 s2.heap.objs.size (.lst [])) b:=λb hb=>⟨by rw[yo (i7 b hb)];exact(f2 b hb).1,(f2 b hb).2⟩
  have J1:tn 0 s3.heap:=T.keep _ _ _ vU λb _ o e=>k3 b o e
  show bj _ _ (lG scope X.env.globals cl [] X.env.qual none .none (some X.env)) _ _ _
  refine RY λh₁ kk Bk A9=>?_
  have IB:=SH (t':=s3.toks) B I3 c1 c2 f3 (λb hb=>by rw[z3];exact fu (rj b hb)) Bk kk A9
  generalize cellsFrom (s3.heap.objs.size+1) scope.names cl=cl at IB ⊢
  generalize M3:({ s3 with heap:=h₁,toks:=s3.toks }:ap)=s4 at IB
  have IA:tn 0 s4.heap:=T.keep _ _ _ J1 λb _ o e=>by rw[←M3];exact kk b o e
  show gS (bi X.prog X.w) X.A (.compStart (.ListComp kc [⟨tg,iter,ifs,0⟩] scope pos) 0 (.ref it) (.ref s2.heap.objs.size) (qB scope cl s3.heap.objs.size X.env))
      (qC (bi X.prog X.w) X.A X.xe none (EP X am σ Q) (.ref s2.heap.objs.size) s3.heap.objs.size) s4
  have nF:∀{H':Hp},(∀b∈fp,H' b=none)->∀b∈fp,kS (iV X scope cl N s3.heap.objs.size fp s3 (d4 H2 s2.heap.objs.size (.lst []))) [] H' b:=λhn b hb=>
    ⟨hn b hb,bE (by show b<s3.heap.objs.size;rw[z3];exact fu (rj b hb)),IB.ok.exfs b hb,.inl hb,λx c e=>(IB.ok.exf b hb).2 x c e,λp hp=>(nomatch hp)⟩
  have loop:gS (bi X.prog X.w) X.A (.compLoop (.ListComp kc [⟨tg,iter,ifs,0⟩] scope pos) 0 (.ref it) (.ref s2.heap.objs.size) (qB scope cl s3.heap.objs.size X.env))
      (qC (bi X.prog X.w) X.A X.xe none (EP X am σ Q) (.ref s2.heap.objs.size) s3.heap.objs.size) s4:=by
    refine RX (λn s'=>∃i ys H',Inv (iV X scope cl N s3.heap.objs.size fp s3 (d4 H2 s2.heap.objs.size (.lst []))) [] (aC own none++gJ σ cap) H' s'/\tn i s'.heap/\(∀b∈fp,H' b=none)/\W i n ys H') ?_ m0
      ⟨0,[],_,IB,IA,λb hb=>(f3 b hb).1,w0⟩
    rintro n s5 ⟨i,ys,H5,I5,xI,AU,w5⟩
    obtain⟨hD,MO⟩:=cI i n ys H5 w5
    rcases MO with⟨stop,qn⟩|⟨go,gK,step⟩
    · refine dC (T.done (iV X scope cl N s3.heap.objs.size fp s3 (d4 H2 s2.heap.objs.size (.lst []))) rfl rfl rfl hc i [] s5 _ H5 (λ_ _=>False) I5 (nF AU) xI stop) λr s6 ⟨hr,I6⟩=>?_
      subst hr
      obtain⟨m,hm,_⟩:=id I6.loc
      refine⟨m,hm,λh' sb=>⟨.ref s2.heap.objs.size,H5,?_,rfl,qn⟩⟩
      have U:=I6.base
      have nC:∀b o,s3.heap.get? b=some o->b≠s3.heap.objs.size:=λb o e=>bE (aR e)
      have nT:∀b o,H5 b=some o->b≠s3.heap.objs.size:=λb o e z=>by
        have q:H5 s3.heap.objs.size=none:=I6.free
        rw[z,q]at e
        cases e
      refine I3.call' (ch:=fp) I6.os ?_ (λa o e=>(I6.hok a o e).stay (λb u hb q=>sb.extBut b u ?_ q) (λ_ q=>q) λ_ _ q=>q) I6.bare (λb hb=>⟨(f3 b hb).2.2.2.1,(f3 b hb).2.1,(f3 b hb).2.2.2.2.1,(f3 b hb).2.2.2.2.2⟩)
      · exact{
          keep:=λb o e z hb he=>sb.extBut b o (nC b o e) (U.keep b o e z hb he)
          slot:=λb o e z hb he=>by
            obtain⟨sl,q⟩:=U.slot b o e z hb he
            exact⟨sl,sb.extBut b _ (nC b o e) q⟩
          free:=U.free
          there:=λb o e he=>by
            obtain⟨o',q⟩:=U.there b o e he
            exact⟨o',sb.extBut b o' (nC b o e) q⟩
          tups:=U.tups
          frzs:=U.frzs
          tbls:=U.tbls }
      · rcases hb with rfl|hb
        · exact nT _ _ e
        · exact nT _ _ hb
    · refine dC (T.item (iV X scope cl N s3.heap.objs.size fp s3 (d4 H2 s2.heap.objs.size (.lst []))) rfl rfl rfl hc i [] s5 _ H5 (λ_ _=>False) I5 (nF AU) xI go) λr s6 ⟨u,hr,h6⟩=>?_
      subst hr
      refine dC h6 λ_ s7 ⟨x,H7,I7,r7,y7,BP,Mn⟩=>?_
      have K6:=I7.pinned (nF Mn) (T.obj _ _ BP)
      refine dC (hg cl s3.heap.objs.size fp s3 _ _ s7 _ H7 x u _ K6 r7 (kg _ _ _ _ (step x H7 y7))) λ_ s8 ⟨σ8,H8,I8,q8,l8,p8⟩=>?_
      have back:∀{H9:Hp} {s9:ap},Inv (iV X scope cl N s3.heap.objs.size fp s3 (d4 H2 s2.heap.objs.size (.lst []))) ([]++lW fp s7.heap) σ8 H9 s9 ->
          Inv (iV X scope cl N s3.heap.objs.size fp s3 (d4 H2 s2.heap.objs.size (.lst []))) [] (aC own none++gJ σ cap) H9 s9/\tn (i+1) s9.heap/\∀b∈fp,H9 b=none:=λ{H9 s9} I9=>by
        refine⟨(I9.unpinned).weak l8.symm (λj v e=>?_),T.keep _ _ _ BP λb hb o e=>(I9.pin (b,o) (aH _ (aH _ (qp hb e)))).1,λb hb=>?_⟩
        · by_cases hj:j<own
          · rw[cE (by rw[cZ];exact hj),eP,if_pos hj]at e
            cases e
          · rw[p8 j (by omega)];exact e
        · obtain⟨o,e,d⟩:=T.obj _ _ BP b hb
          exact(I9.pin (b,o) (aH _ (aH _ (qp hb e)))).2.1
      refine dC (ht cl s3.heap.objs.size fp s3 _ _ s8 σ8 H8 _ I8 q8) λok s9 ⟨H9,I9,q9⟩=>?_
      cases ok with
      |false=>
        rw[if_neg aQ]
        rw[if_neg aQ]at q9
        obtain⟨m',Bf,w'⟩:=q9
        obtain⟨b1,b2,b3⟩:=back I9
        exact⟨m',Bf,i+1,ys,H9,b1,b2,b3,w'⟩
      |true=>
        rw[if_pos rfl]
        rw[if_pos rfl]at q9
        refine dC (he cl s3.heap.objs.size fp s3 _ _ s9 σ8 H9 _ I9 q9) λuy NE ⟨y,CV,K4,r10,AW,m',Bf,w'⟩=>?_
        refine dC (Kj _ NE σ8 CV (.ref s2.heap.objs.size) [y] (.ref s2.heap.objs.size) [uy] (λ_ CW=>CW=d4 CV s2.heap.objs.size (.lst (ys++[y]))) K4 rfl (.cons r10 .nil) ⟨_,ys,y,rfl,rfl,AW,gK,rfl⟩) λ_ ZL ⟨_,CW,K5,_,Ly⟩=>?_
        subst Ly
        obtain⟨b1,b2,b3⟩:=back K5
        exact⟨m',Bf,i+1,ys++[y],_,b1,b2,b3,w'⟩
  exact codeAny_compStart_list loop (T.self X.A 0 s4 _ _ IA loop)
end L2
namespace L2
open PySem PySem.Spec PyProof.Rows
section
variable {X:Cx}{am:List (ai×d8)}{σ:St}{H:Hp}{s:ap}{h':bc}
theorem Inv.turnLay {ch:List ai}{a:ai}{o:HO}{t':Nat}(I:Inv X am σ H s)(kY:∀b∈ch,kS X am H b)(k:∀b o,b∉ch->s.heap.get? b=some o->h'.get? b=some o)(hp:s.heap.objs.size<=a)
  (new:eu X.prog X.w (d4 H a o) h' a o):Inv X am σ (d4 H a o) { s with heap:=h',toks:=t' }:=by
 have hn:H a=none:=I.hok.fresh hp
 have G5:∀b u,H b=some u->b∉ch:=λb u e z=>by rw[(kY b z).1]at e;cases e
 refine I.step (g':=s.gens) (d':=s.drawn) (ch:=ch) (λb hb=>⟨(kY b hb).2.2.2.1,(kY b hb).2.1,(kY b hb).2.2.2.2.1,(kY b hb).2.2.2.2.2⟩) (λb o _ _ hc e _=>k b o hc e) (λb o _ _ hc e _=>⟨o.slots,k b o hc e⟩)
  (λb o _ e n=>by rw[yo (bE (bp (aR e) hp))];exact n) (λb o hc e=>⟨o,k b o hc e⟩) (λb xs q=>by rw[yo (xr q hn)];exact q) (λb u xs q=>by rw[yo (xr q hn)];exact q)
  (λb ps q=>⟨#[],by rw[yo (xr q hn),q];simp⟩) (λm hm=>?_) (λb u e=>?_) I.bare
 ·obtain⟨o',es,ep,ho,r⟩:=hm
  exact⟨o',es,ep,k _ o' (λz=>(kY _ z).2.1 rfl) ho,r⟩
 ·by_cases hb:b=a
  ·subst hb
   rw[yt]at e
   cases e
   exact new
  ·rw[yo hb]at e
   refine(I.hok b u e).stay (λc v hc q=>k c v ?_ q) (λc q=>by rw[yo (xr q hn)];exact q) λc xs q=>by rw[yo (xr q hn)];exact q
   rcases hc with z|z
   ·rw[z];exact G5 b u e
   ·exact G5 c _ z
theorem Inv.turnedL {ch:List ai}{t':Nat}(I:Inv X am σ H s)(kY:∀b∈ch,kS X am H b)(k:∀b o,b∉ch->s.heap.get? b=some o->h'.get? b=some o):Inv X am σ H { s with heap:=h',toks:=t' }:=by
 have G5:∀b u,H b=some u->b∉ch:=λb u e z=>by rw[(kY b z).1]at e;cases e
 refine I.step (g':=s.gens) (d':=s.drawn) (ch:=ch) (λb hb=>⟨(kY b hb).2.2.2.1,(kY b hb).2.1,(kY b hb).2.2.2.2.1,(kY b hb).2.2.2.2.2⟩) (λb o _ _ hc e _=>k b o hc e) (λb o _ _ hc e _=>⟨o.slots,k b o hc e⟩)
  (λ_ _ _ _ n=>n) (λb o hc e=>⟨o,k b o hc e⟩) (λ_ _ e=>e) (λ_ _ _ e=>e) (λb ps e=>⟨#[],by rw[e];simp⟩) (λm hm=>?_) (λb u e=>?_) I.bare
 ·obtain⟨o',es,ep,ho,r⟩:=hm
  exact⟨o',es,ep,k _ o' (λz=>(kY _ z).2.1 rfl) ho,r⟩
 ·refine(I.hok b u e).stay (λc v hc q=>k c v ?_ q) (λ_ q=>q) λ_ _ q=>q
  rcases hc with z|z
  ·rw[z];exact G5 b u e
  ·exact G5 c _ z
end
def K7 (K:ae)(a:ai):It :=
 ⟨λi H=>∃xs x,fX K H a xs/\xs[i]?=some x,λi H x H'=>∃p y,H p=none/\x=.ref p/\H'=d4 H p (.tup [.int i,y])/\∀xs,fX K H a xs->xs[i]?=some y,λi H=>∃xs,fX K H a xs/\xs.length<=i⟩
theorem zmk {P:bJ}{w:cw}{K:ae}{pN:List Expr}{kt:Nat}{pt:dF}(a e it:ai)(QL:e≠it) :
    Turn P w K (.Tuple pN kt pt) (K7 K a) [e,it] e (λi h=>(∃old,IsEnum h e it i old)/\h.IsListIter it a i) where
  mem:=by simp
  obj:=λi h st b hb=>by
    obtain⟨⟨old,he⟩,o,e1,c,d⟩:=st
    rcases aF.mp hb with rfl|hb
    · exact⟨_,he,λv z=>by cases z⟩
    · have e2:b=it:=by simpa using hb
      subst e2
      exact⟨o,e1,λv z=>by rw[d]at z;cases z⟩
  keep:=λi h h' st k=>by
    obtain⟨⟨old,he⟩,hit⟩:=st
    exact⟨⟨old,k e (by simp) _ he⟩,hit.at λo x=>k it (by simp) o x⟩
  item:=by
    intro X hP hw hK hc i am s σ H E I hf st hg
    subst hP hw hK
    obtain⟨xs,x,hq,hx⟩:=hg
    obtain⟨cv,rv,p,hz⟩:=I.list hq
    obtain⟨u,hu,ru⟩:=rv.get hx
    obtain⟨⟨old,he⟩,hit⟩:=st
    refine wpAny_pyNext_enum_item he hit p.isList (x:=u) (by simpa using hu) QL λh1 ho MR hT hsz hk=>?_
    refine⟨_,rfl,wpAny_letOwnedTupleGo_enum (s:={ s with heap:=h1,toks:=s.toks+1 }) ho λh2 Xi NG=>?_⟩
    have kc:e<s.heap.objs.size:=aR he
    have X7:it<s.heap.objs.size:=by obtain⟨_,q,_⟩:=hit;exact aR q
    have W7:h2.get? s.heap.objs.size=some { cls:=.type "tuple",data:=.seq #[.int i s.toks,u] }:=(NG.2 _ (Nat.ne_of_gt kc)).trans hT
    have Xl:H s.heap.objs.size=none:=I.hok.fresh (aM _)
    have I1:Inv X am σ (d4 H s.heap.objs.size (.tup [.int i,x])) { s with heap:=h2,toks:=s.toks+1 }:=by
      refine I.turnLay (ch:=[e,it]) hf (λb o hb q=>?_) (aM _) ⟨by show 2<=sizeLine;decide,[.int i s.toks,u],.cons ⟨_,rfl⟩ (.cons ru .nil),_,W7,rfl,_,rfl⟩
      have AV:b≠e:=λz=>hb (by simp[z])
      have WV:b≠it:=λz=>hb (by simp[z])
      exact(NG.2 b AV).trans (hk b o AV WV q)
    refine⟨.ref s.heap.objs.size,_,I1,rfl,⟨_,x,Xl,rfl,rfl,λys hy=>by rw[I.list_inj hy hq];exact hx⟩,⟨⟨u,by simpa using Xi⟩,MR.at λo q=>(NG.2 it QL.symm).trans q⟩,λb hb=>?_⟩
    rw[yo ?_]
    · exact(hf b hb).1
    · rcases aF.mp hb with rfl|hb
      · exact bE kc
      · have e2:b=it:=by simpa using hb
        rw[e2];exact bE X7
  done:=by
    intro X hP hw hK hc i am s σ H E I hf st hg
    subst hP hw hK
    obtain⟨xs,hq,hx⟩:=hg
    obtain⟨cv,rv,p,hz⟩:=I.list hq
    obtain⟨⟨old,he⟩,hit⟩:=st
    have hl:=rv.length
    exact wpAny_pyNext_enum_end (I.ok.hd hc) he hit p.isList (by simp;omega) λh' eb=>⟨rfl,I.turnedL (ch:=[e,it]) (t':=s.toks) hf λb o hb q=>eb b o (λz=>hb (by simp[z])) q⟩
  self:=λ_ _ _ _ _ st h=>wpAny_pyIter_enum st.1.choose_spec h
section
variable {X:Cx}{pN:List Expr}{kt:Nat}{pt:dF}
def FV (K:ae)(ta:TA):TI:=λσ H R=>ta σ H λvs H1=>∃a,vs=[.ref a]/\(∃xs,fX K H1 a xs)/\R (K7 K a) H1
theorem T9 {l:Expr}{ta:TA}{p pos:dF}(hg:Gl X "enumerate")(hm:X.mg "enumerate"=none)(ha:PA X [l] ta)(hs:ay [l] X.env=[(false,bY l X.env)]:=by rfl) :
  PI X (.Tuple pN kt pt) (.Call (.Name "enumerate" p) [l] [] pos) (FV X.K ta):=by
 intro am s σ H R I h
 refine Call_ (xR I hg hm PyProof.Rows.boot_enumerate (cK (dC (ha pos am s σ H _ I h) λus s1 ⟨vs,H1,I1,r1,q1⟩=>?_) hs rfl))
 obtain⟨a,e,⟨xs,hq⟩,q⟩:=q1
 subst e
 cases r1 with
 |cons r rr=>
  cases rr
  cases r
  obtain⟨cv,rv,pl,hz⟩:=I1.list hq
  refine call_enumerate_list pl.isList λh' he hit hsz hk=>?_
  refine wpAny_pyIter_enum (s:={ s1 with heap:=h' }) he ?_
  refine⟨s1.heap.objs.size+1,[s1.heap.objs.size+1,s1.heap.objs.size],_,_,H1,rfl,I1.kept (t':=s1.toks) hk,zmk a _ _ (Nat.succ_ne_self _),⟨⟨_,he⟩,hit⟩,λb hb=>?_,q⟩
  rcases aF.mp hb with rfl|hb
  ·exact I1.fpOk (iO _) (I1.hok.fresh (iO _))
  ·have e:b=s1.heap.objs.size:=by simpa using hb
   subst e
   exact I1.fpOk (aM _) (I1.hok.fresh (aM _))
end
end L2
namespace L3
open PySem PySem.Spec L2
open PyProof.Rows hiding St
inductive D where
 |non|bl (b:Bool)|int (i:Int)|str (x:aX)
 |lst (xs:List D)|tup (xs:List D)|dK (ks:List fH) (ds:List D)|dT (ks:List (List fH)) (ds:List D)
 |obj (c:Nat) (ns:List aX) (ds:List D)
 deriving Inhabited
inductive Pr (R:D->V->Prop):List D->List V->Prop
 |nil:Pr R [] []
 |cons {d:D} {v:V} {ds:List D} {vs:List V}:R d v->Pr R ds vs->Pr R (d::ds) (v::vs)
theorem Pr.mono {R R':D->V->Prop}(f:∀d v,R d v->R' d v):∀{ds:List D} {vs:List V},Pr R ds vs->Pr R' ds vs
 |_,_,.nil=>.nil
 |_,_,.cons h t=>.cons (f _ _ h) (Pr.mono f t)
theorem Pr.length {R:D->V->Prop}:∀{ds:List D} {vs:List V},Pr R ds vs->ds.length=vs.length
 |_,_,.nil=>rfl
 |_,_,.cons _ t=>by simp[Pr.length t]
theorem Pr.get' {R:D->V->Prop}:∀{ds:List D} {vs:List V} {i:Nat} {d:D},Pr R ds vs->ds[i]?=some d->∃v,vs[i]?=some v/\R d v
 |_,_,_,_,.nil,e=>by simp at e
 |_,_,0,_,.cons h _,e=>by simp at e;subst e;exact⟨_,rfl,h⟩
 |_,_,i+1,v,.cons _ t,e=>by
  obtain⟨d,h1,h2⟩:=Pr.get' (i:=i) (d:=v) t (by simpa using e)
  exact⟨d,by simpa using h1,h2⟩
theorem Pr.append {R:D->V->Prop}:∀{ds es:List D} {vs us:List V},Pr R ds vs->Pr R es us->Pr R (ds++es) (vs++us)
 |_,_,_,_,.nil,s=>s
 |_,_,_,_,.cons h t,s=>.cons h (Pr.append t s)
theorem Pr.take {R:D->V->Prop}:∀{ds:List D} {vs:List V} (n:Nat),Pr R ds vs->Pr R (ds.take n) (vs.take n)
 |_,_,0,_=>.nil
 |_,_,_+1,.nil=>.nil
 |_,_,n+1,.cons h t=>.cons h (Pr.take n t)
theorem Pr.drop {R:D->V->Prop}:∀{ds:List D} {vs:List V} (n:Nat),Pr R ds vs->Pr R (ds.drop n) (vs.drop n)
 |_,_,0,r=>r
 |_,_,_+1,.nil=>.nil
 |_,_,n+1,.cons _ t=>Pr.drop n t
theorem Pr.reverse {R:D->V->Prop}{ds:List D}{vs:List V}(h:Pr R ds vs):Pr R ds.reverse vs.reverse:=by
 induction h with
 |nil=>exact .nil
 |cons h t ih=>rw[lP,lP];exact ih.append (.cons h .nil)
theorem Pr.rep {R:D->V->Prop}{ds:List D}{vs:List V}(h:Pr R ds vs):∀k:Nat,Pr R (aC k ds).flatten (aC k vs).flatten
 |0=>.nil
 |k+1=>by rw[cW,eE,cW,eE];exact h.append (Pr.rep h k)
mutual
inductive Dt (K:ae)(ct:Nat->ai)(F:Hp):D->V->Prop
 |non:Dt K ct F .non .non
 |bl (b:Bool):Dt K ct F (.bl b) (.bl b)
 |int (i:Int):Dt K ct F (.int i) (.int i)
 |str (x:aX):Dt K ct F (.str x) (.str x)
 |lst {a:ai} {vs:List V} {ds:List D}:fX K F a vs->Dts K ct F ds vs->Dt K ct F (.lst ds) (.ref a)
 |tup {a:ai} {vs:List V} {ds:List D}:F a=some (.tup vs)->Dts K ct F ds vs->Dt K ct F (.tup ds) (.ref a)
 |dK {a:ai} {ks:List fH} {vs:List V} {ds:List D}:F a=some (.dK (ks.zip vs))->ks.length=vs.length->Dts K ct F ds vs->Dt K ct F (.dK ks ds) (.ref a)
 |dT {a:ai} {ks:List (List fH)} {vs:List V} {ds:List D}:F a=some (.dT (ks.zip vs))->ks.length=vs.length->Dts K ct F ds vs->Dt K ct F (.dT ks ds) (.ref a)
 |obj {a dx:ai} {c:Nat} {ns:List aX} {vs:List V} {ds:List D}:F a=some (.ins (ct c) dx (ns.zip vs))->ns.length=vs.length->Dts K ct F ds vs->Dt K ct F (.obj c ns ds) (.ref a)
inductive Dts (K:ae)(ct:Nat->ai)(F:Hp):List D->List V->Prop
 |nil:Dts K ct F [] []
 |cons {d:D} {v:V} {ds:List D} {vs:List V}:Dt K ct F d v->Dts K ct F ds vs->Dts K ct F (d::ds) (v::vs)
end
section
variable {K:ae}{ct:Nat->ai}{F F' G G' H H' B B':Hp}
theorem Dts.pr:∀{ds:List D} {vs:List V},Dts K ct F ds vs->Pr (Dt K ct F) ds vs
 |_,_,.nil=>.nil
 |_,_,.cons h t=>.cons h (Dts.pr t)
theorem Dts.of:∀{ds:List D} {vs:List V},Pr (Dt K ct F) ds vs->Dts K ct F ds vs
 |_,_,.nil=>.nil
 |_,_,.cons h t=>.cons h (Dts.of t)
mutual
theorem Dt.mono (s:ce F F'):∀{d:D} {v:V},Dt K ct F d v->Dt K ct F' d v
 |_,_,.non=>.non
 |_,_,.bl b=>.bl b
 |_,_,.int i=>.int i
 |_,_,.str x=>.str x
 |_,_,.lst h t=>.lst (s.seq h) (Dts.mono s t)
 |_,_,.tup h t=>.tup (s _ _ h) (Dts.mono s t)
 |_,_,.dK h l t=>.dK (s _ _ h) l (Dts.mono s t)
 |_,_,.dT h l t=>.dT (s _ _ h) l (Dts.mono s t)
 |_,_,.obj h l t=>.obj (s _ _ h) l (Dts.mono s t)
theorem Dts.mono (s:ce F F'):∀{ds:List D} {vs:List V},Dts K ct F ds vs->Dts K ct F' ds vs
 |_,_,.nil=>.nil
 |_,_,.cons h t=>.cons (Dt.mono s h) (Dts.mono s t)
end
end
def D.sc:D->Bool
 |.non=>true|.bl _=>true|.int _=>true|.str _=>true|_=>false
inductive B9 (K:ae)(ct:Nat->ai)(F G:Hp)(R:D->V->Prop):D->V->Prop
 |lst {a:ai} {vs:List V} {ds:List D}:G a=some (.lst vs)->Pr R ds vs->B9 K ct F G R (.lst ds) (.ref a)
 |tup {a:ai} {vs:List V} {ds:List D}:F a=some (.tup vs)->Pr R ds vs->B9 K ct F G R (.tup ds) (.ref a)
 |dK {a:ai} {ks:List fH} {vs:List V} {ds:List D}:G a=some (.dK (ks.zip vs))->ks.length=vs.length->Pr R ds vs->B9 K ct F G R (.dK ks ds) (.ref a)
 |dT {a:ai} {ks:List (List fH)} {vs:List V} {ds:List D}:G a=some (.dT (ks.zip vs))->ks.length=vs.length->Pr R ds vs->B9 K ct F G R (.dT ks ds) (.ref a)
 |obj {a dx:ai} {c:Nat} {ns:List aX} {vs:List V} {ds:List D}:G a=some (.ins (ct c) dx (ns.zip vs))->ns.length=vs.length->Pr R ds vs->B9 K ct F G R (.obj c ns ds) (.ref a)
def Al (K:ae)(ct:Nat->ai)(F G:Hp):Nat->D->V->Prop
 |0,d,v=>Dt K ct F d v
 |n+1,d,v=>Dt K ct F d v\/B9 K ct F G (Al K ct F G n) d v
inductive OwL (R:D->V->List ai->Prop):List D->List V->List ai->Prop
 |nil:OwL R [] [] []
 |cons {d:D} {v:V} {ds:List D} {vs:List V} {f g:List ai}:R d v f->OwL R ds vs g->OwL R (d::ds) (v::vs) (f++g)
inductive wK (K:ae)(ct:Nat->ai)(F H:Hp)(R:D->V->List ai->Prop):D->V->List ai->Prop
 |lst {a:ai} {vs:List V} {ds:List D} {fp:List ai}:F a=none->H a=some (.lst vs)->OwL R ds vs fp->wK K ct F H R (.lst ds) (.ref a) (a::fp)
 |tup {a:ai} {vs:List V} {ds:List D} {fp:List ai}:F a=some (.tup vs)->OwL R ds vs fp->wK K ct F H R (.tup ds) (.ref a) fp
 |dK {a:ai} {ks:List fH} {vs:List V} {ds:List D} {fp:List ai}:F a=none->H a=some (.dK (ks.zip vs))->ks.length=vs.length->OwL R ds vs fp->wK K ct F H R (.dK ks ds) (.ref a) (a::fp)
 |dT {a:ai} {ks:List (List fH)} {vs:List V} {ds:List D} {fp:List ai}:F a=none->H a=some (.dT (ks.zip vs))->ks.length=vs.length->OwL R ds vs fp->wK K ct F H R (.dT ks ds) (.ref a) (a::fp)
 |obj {a dx:ai} {c:Nat} {ns:List aX} {vs:List V} {ds:List D} {fp:List ai}:F a=none->H a=some (.ins (ct c) dx (ns.zip vs))->ns.length=vs.length->OwL R ds vs fp->wK K ct F H R (.obj c ns ds) (.ref a) (a::fp)
def Ow (K:ae)(ct:Nat->ai)(F H:Hp):Nat->D->V->List ai->Prop
 |0,d,v,fp=>Dt K ct F d v/\fp=[]
 |n+1,d,v,fp=>(d.sc=true/\Dt K ct F d v/\fp=[])\/wK K ct F H (Ow K ct F H n) d v fp
structure gD (F H F' H':Hp):Prop where
 ff:ce F F'
 hh:ce H H'
 fh:ce F' H'
 nf:∀a o,H a=some o->F a=none->F' a=none
theorem gD.refl {F H:Hp}(h:ce F H):gD F H F H:=⟨.refl _,.refl _,h,λ_ _ _ h=>h⟩
theorem gD.trans {F H F1 H1 F2 H2:Hp}(a:gD F H F1 H1)(b:gD F1 H1 F2 H2):gD F H F2 H2 :=
 ⟨a.ff.trans b.ff,a.hh.trans b.hh,b.fh,λc o h n=>b.nf c o (a.hh _ _ h) (a.nf c o h n)⟩
theorem gD.newO {F H:Hp}{p:ai}(s:ce F H)(h:H p=none)(o:HO):gD F H F (d4 H p o) :=
 ⟨.refl _,IQ h o,s.trans (IQ h o),λ_ _ _ h=>h⟩
theorem gD.newS {F H:Hp}{p:ai}(s:ce F H)(h:H p=none)(o:HO):gD F H (d4 F p o) (d4 H p o) :=
  ⟨IQ (s.free h) o,IQ h o,λb u q=>by
    by_cases e:b=p
    · subst e;rw[yt]at q ⊢;exact q
    · rw[yo e]at q ⊢;exact s _ _ q,
   λb u q n=>by rw[yo (xr q h)];exact n⟩
section
variable {K:ae}{ct:Nat->ai}{F F' G G' H H' B B':Hp}
theorem Al.mono (sF:ce F F')(sG:ce G G'):∀{n:Nat} {d:D} {v:V},Al K ct F G n d v->Al K ct F' G' n d v
 |0,_,_,h=>Dt.mono sF h
 |n+1,_,_,.inl h=>.inl (Dt.mono sF h)
 |n+1,_,_,.inr (.lst h p)=>.inr (.lst (sG _ _ h) (p.mono λ_ _ q=>Al.mono sF sG q))
 |n+1,_,_,.inr (.tup h p)=>.inr (.tup (sF _ _ h) (p.mono λ_ _ q=>Al.mono sF sG q))
 |n+1,_,_,.inr (.dK h l p)=>.inr (.dK (sG _ _ h) l (p.mono λ_ _ q=>Al.mono sF sG q))
 |n+1,_,_,.inr (.dT h l p)=>.inr (.dT (sG _ _ h) l (p.mono λ_ _ q=>Al.mono sF sG q))
 |n+1,_,_,.inr (.obj h l p)=>.inr (.obj (sG _ _ h) l (p.mono λ_ _ q=>Al.mono sF sG q))
theorem Al.of:∀{n:Nat} {d:D} {v:V},Dt K ct F d v->Al K ct F G n d v
 |0,_,_,h=>h
 |_+1,_,_,h=>.inl h
theorem Dt.scal {d:D}{v:V}(h:Dt K ct F d v)(hs:d.sc=true):Dt K ct F' d v:=by
 cases h with
 |non=>exact .non
 |bl b=>exact .bl b
 |int i=>exact .int i
 |str x=>exact .str x
 |lst _ _=>cases hs
 |tup _ _=>cases hs
 |dK _ _ _=>cases hs
 |dT _ _ _=>cases hs
 |obj _ _ _=>cases hs
theorem Al.scal {n:Nat}{d:D}{v:V}(h:Al K ct F G n d v)(hs:d.sc=true):Dt K ct F' d v:=by
 cases n with
 |zero=>exact Dt.scal h hs
 |succ n=>
  rcases h with h|h
  ·exact h.scal hs
  ·cases h<;>cases hs
theorem Al.int {n:Nat}{i:Int}{v:V}(h:Al K ct F G n (.int i) v):v=.int i:=by
 have q:=Al.scal (F':=F) h rfl
 cases q;rfl
theorem Al.bl {n:Nat}{b:Bool}{v:V}(h:Al K ct F G n (.bl b) v):v=.bl b:=by
 have q:=Al.scal (F':=F) h rfl
 cases q;rfl
theorem Al.str {n:Nat}{x:aX}{v:V}(h:Al K ct F G n (.str x) v):v=.str x:=by
 have q:=Al.scal (F':=F) h rfl
 cases q;rfl
theorem Al.non {n:Nat}{v:V}(h:Al K ct F G n .non v):v=.non:=by
 have q:=Al.scal (F':=F) h rfl
 cases q;rfl
theorem Al.lst {n:Nat}{ds:List D}{v:V}(h:Al K ct F G n (.lst ds) v)(s:ce F G):∃a vs,v=.ref a/\fX K G a vs/\Pr (Al K ct F G (n-1)) ds vs:=by
 cases n with
 |zero=>
  have h:Dt K ct F (.lst ds) v:=h
  cases h with
  |lst q t=>exact⟨_,_,rfl,s.seq q,t.pr⟩
 |succ n=>
  rcases h with h|h
  ·cases h with
   |lst q t=>exact⟨_,_,rfl,s.seq q,t.pr.mono λ_ _=>Al.of⟩
  ·cases h with
   |lst q t=>exact⟨_,_,rfl,fX.of q,t⟩
theorem Al.tup {n:Nat}{ds:List D}{v:V}(h:Al K ct F G n (.tup ds) v)(s:ce F G):∃a vs,v=.ref a/\G a=some (.tup vs)/\Pr (Al K ct F G (n-1)) ds vs:=by
 cases n with
 |zero=>
  have h:Dt K ct F (.tup ds) v:=h
  cases h with
  |tup q t=>exact⟨_,_,rfl,s _ _ q,t.pr⟩
 |succ n=>
  rcases h with h|h
  ·cases h with
   |tup q t=>exact⟨_,_,rfl,s _ _ q,t.pr.mono λ_ _=>Al.of⟩
  ·cases h with
   |tup q t=>exact⟨_,_,rfl,s _ _ q,t⟩
theorem Al.dK {n:Nat}{ks:List fH}{ds:List D}{v:V}(h:Al K ct F G n (.dK ks ds) v)(s:ce F G):∃a vs,v=.ref a/\G a=some (.dK (ks.zip vs))/\ks.length=vs.length/\Pr (Al K ct F G (n-1)) ds vs:=by
 cases n with
 |zero=>
  have h:Dt K ct F (.dK ks ds) v:=h
  cases h with
  |dK q l t=>exact⟨_,_,rfl,s _ _ q,l,t.pr⟩
 |succ n=>
  rcases h with h|h
  ·cases h with
   |dK q l t=>exact⟨_,_,rfl,s _ _ q,l,t.pr.mono λ_ _=>Al.of⟩
  ·cases h with
   |dK q l t=>exact⟨_,_,rfl,q,l,t⟩
theorem Al.dT {n:Nat}{ks:List (List fH)}{ds:List D}{v:V}(h:Al K ct F G n (.dT ks ds) v)(s:ce F G):∃a vs,v=.ref a/\G a=some (.dT (ks.zip vs))/\ks.length=vs.length/\Pr (Al K ct F G (n-1)) ds vs:=by
 cases n with
 |zero=>
  have h:Dt K ct F (.dT ks ds) v:=h
  cases h with
  |dT q l t=>exact⟨_,_,rfl,s _ _ q,l,t.pr⟩
 |succ n=>
  rcases h with h|h
  ·cases h with
   |dT q l t=>exact⟨_,_,rfl,s _ _ q,l,t.pr.mono λ_ _=>Al.of⟩
  ·cases h with
   |dT q l t=>exact⟨_,_,rfl,q,l,t⟩
theorem Al.obj {n:Nat}{c:Nat}{ns:List aX}{ds:List D}{v:V}(h:Al K ct F G n (.obj c ns ds) v)(s:ce F G):∃a dx vs,v=.ref a/\G a=some (.ins (ct c) dx (ns.zip vs))/\ns.length=vs.length/\Pr (Al K ct F G (n-1)) ds vs:=by
 cases n with
 |zero=>
  have h:Dt K ct F (.obj c ns ds) v:=h
  cases h with
  |obj q l t=>exact⟨_,_,_,rfl,s _ _ q,l,t.pr⟩
 |succ n=>
  rcases h with h|h
  ·cases h with
   |obj q l t=>exact⟨_,_,_,rfl,s _ _ q,l,t.pr.mono λ_ _=>Al.of⟩
  ·cases h with
   |obj q l t=>exact⟨_,_,_,rfl,q,l,t⟩
theorem OwL.mono {R R':D->V->List ai->Prop}:∀{ds:List D} {vs:List V} {fp:List ai},OwL R ds vs fp->(∀d v f,(∀a∈f,a∈fp)->R d v f->R' d v f)->OwL R' ds vs fp
 |_,_,_,.nil,_=>.nil
 |_,_,_,.cons h t,q=>.cons (q _ _ _ (λa z=>bx _ z) h) (OwL.mono t λd v f i r=>q d v f (λa z=>aH _ (i a z)) r)
theorem OwL.pr {R:D->V->List ai->Prop}{R':D->V->Prop}:∀{ds:List D} {vs:List V} {fp:List ai},OwL R ds vs fp->(∀d v f,(∀a∈f,a∈fp)->R d v f->R' d v)->Pr R' ds vs
 |_,_,_,.nil,_=>.nil
 |_,_,_,.cons h t,q=>.cons (q _ _ _ (λa z=>bx _ z) h) (OwL.pr t λd v f i r=>q d v f (λa z=>aH _ (i a z)) r)
theorem OwL.ofPr {R:D->V->List ai->Prop}:∀{ds:List D} {vs:List V},Pr (λd v=>R d v []) ds vs->OwL R ds vs []
 |_,_,.nil=>.nil
 |_,_,.cons h t=>OwL.cons (f:=[]) (g:=[]) h (OwL.ofPr t)
theorem OwL.append {R:D->V->List ai->Prop}:∀{ds es:List D} {vs us:List V} {f g:List ai},OwL R ds vs f->OwL R es us g->OwL R (ds++es) (vs++us) (f++g)
 |_,_,_,_,_,_,.nil,s=>s
 |_,_,_,_,_,_,.cons h t,s=>by rw[dN];exact .cons h (OwL.append t s)
theorem OwL.length {R:D->V->List ai->Prop}:∀{ds:List D} {vs:List V} {fp:List ai},OwL R ds vs fp->ds.length=vs.length
 |_,_,_,.nil=>rfl
 |_,_,_,.cons _ t=>by simp[OwL.length t]
theorem Ow.frame (sF:ce F F'):∀{n:Nat} {d:D} {v:V} {fp:List ai},Ow K ct F H n d v fp->(∀a∈fp,H' a=H a/\F' a=none)->Ow K ct F' H' n d v fp
 |0,_,_,_,⟨h,e⟩,_=>⟨h.mono sF,e⟩
 |n+1,_,_,_,.inl ⟨c,h,e⟩,_=>.inl ⟨c,h.mono sF,e⟩
 |n+1,_,_,_,.inr (.lst hn h p),k=>.inr (.lst (k _ aa).2 ((k _ aa).1.trans h) (p.mono λ_ _ _ i q=>Ow.frame sF q λa z=>k a (aj _ (i a z))))
 |n+1,_,_,_,.inr (.tup h p),k=>.inr (.tup (sF _ _ h) (p.mono λ_ _ _ i q=>Ow.frame sF q λa z=>k a (i a z)))
 |n+1,_,_,_,.inr (.dK hn h l p),k=>.inr (.dK (k _ aa).2 ((k _ aa).1.trans h) l (p.mono λ_ _ _ i q=>Ow.frame sF q λa z=>k a (aj _ (i a z))))
 |n+1,_,_,_,.inr (.obj hn h l p),k=>.inr (.obj (k _ aa).2 ((k _ aa).1.trans h) l (p.mono λ_ _ _ i q=>Ow.frame sF q λa z=>k a (aj _ (i a z))))
 |n+1,_,_,_,.inr (.dT hn h l p),k=>.inr (.dT (k _ aa).2 ((k _ aa).1.trans h) l (p.mono λ_ _ _ i q=>Ow.frame sF q λa z=>k a (aj _ (i a z))))
theorem Ow.cells:∀{n:Nat} {d:D} {v:V} {fp:List ai},Ow K ct F H n d v fp->∀a∈fp,F a=none/\∃o,H a=some o
 |0,_,_,_,⟨_,e⟩,a,z=>by subst e;cases z
 |n+1,_,_,_,.inl ⟨_,_,e⟩,a,z=>by subst e;cases z
 |n+1,_,_,_,.inr (.lst hn h p),a,z=>by
  rcases aF.mp z with rfl|z
  ·exact⟨hn,_,h⟩
  ·exact OwL.cells (λd v f q=>Ow.cells q) p a z
 |n+1,_,_,_,.inr (.tup h p),a,z=>OwL.cells (λd v f q=>Ow.cells q) p a z
 |n+1,_,_,_,.inr (.dK hn h l p),a,z=>by
  rcases aF.mp z with rfl|z
  ·exact⟨hn,_,h⟩
  ·exact OwL.cells (λd v f q=>Ow.cells q) p a z
 |n+1,_,_,_,.inr (.obj hn h l p),a,z=>by
  rcases aF.mp z with rfl|z
  ·exact⟨hn,_,h⟩
  ·exact OwL.cells (λd v f q=>Ow.cells q) p a z
 |n+1,_,_,_,.inr (.dT hn h l p),a,z=>by
  rcases aF.mp z with rfl|z
  ·exact⟨hn,_,h⟩
  ·exact OwL.cells (λd v f q=>Ow.cells q) p a z
where
 OwL.cells {R:D->V->List ai->Prop} (k:∀d v f,R d v f->∀a∈f,F a=none/\∃o,H a=some o):∀{ds:List D} {vs:List V} {fp:List ai},OwL R ds vs fp->∀a∈fp,F a=none/\∃o,H a=some o
 |_,_,_,.nil,a,z=>by cases z
 |_,_,_,.cons h t,a,z=>(bg.mp z).elim (λz=>k _ _ _ h a z) λz=>OwL.cells k t a z
theorem Ow.ext {n:Nat}{d:D}{v:V}{fp:List ai}(h:Ow K ct F H n d v fp)(e:gD F H F' H'):Ow K ct F' H' n d v fp :=
 h.frame e.ff λa z=>by
  obtain⟨hn,o,ho⟩:=h.cells a z
  exact⟨(e.hh _ _ ho).trans ho.symm,e.nf a o ho hn⟩
theorem Ow.al (s:ce F H):∀{n:Nat} {d:D} {v:V} {fp:List ai},Ow K ct F H n d v fp->Al K ct F H n d v
 |0,_,_,_,⟨h,_⟩=>h
 |n+1,_,_,_,.inl ⟨_,h,_⟩=>.inl h
 |n+1,_,_,_,.inr (.lst hn h p)=>.inr (.lst h (p.pr λ_ _ _ _ q=>Ow.al s q))
 |n+1,_,_,_,.inr (.tup h p)=>.inr (.tup h (p.pr λ_ _ _ _ q=>Ow.al s q))
 |n+1,_,_,_,.inr (.dK hn h l p)=>.inr (.dK h l (p.pr λ_ _ _ _ q=>Ow.al s q))
 |n+1,_,_,_,.inr (.obj hn h l p)=>.inr (.obj h l (p.pr λ_ _ _ _ q=>Ow.al s q))
 |n+1,_,_,_,.inr (.dT hn h l p)=>.inr (.dT h l (p.pr λ_ _ _ _ q=>Ow.al s q))
theorem Ow.dt (sF:ce F F'):∀{n:Nat} {d:D} {v:V} {fp:List ai},Ow K ct F H n d v fp->(∀a∈fp,F' a=H a)->Dt K ct F' d v
 |0,_,_,_,⟨h,_⟩,_=>h.mono sF
 |n+1,_,_,_,.inl ⟨_,h,_⟩,_=>h.mono sF
 |n+1,_,_,_,.inr (.lst hn h p),k=>.lst (fX.of ((k _ aa).trans h)) (.of (p.pr λ_ _ _ i q=>Ow.dt sF q λa z=>k a (aj _ (i a z))))
 |n+1,_,_,_,.inr (.tup h p),k=>.tup (sF _ _ h) (.of (p.pr λ_ _ _ i q=>Ow.dt sF q λa z=>k a (i a z)))
 |n+1,_,_,_,.inr (.dK hn h l p),k=>.dK ((k _ aa).trans h) l (.of (p.pr λ_ _ _ i q=>Ow.dt sF q λa z=>k a (aj _ (i a z))))
 |n+1,_,_,_,.inr (.obj hn h l p),k=>.obj ((k _ aa).trans h) l (.of (p.pr λ_ _ _ i q=>Ow.dt sF q λa z=>k a (aj _ (i a z))))
 |n+1,_,_,_,.inr (.dT hn h l p),k=>.dT ((k _ aa).trans h) l (.of (p.pr λ_ _ _ i q=>Ow.dt sF q λa z=>k a (aj _ (i a z))))
def iF (F H:Hp)(fp:List ai):Hp:=λa=>if a∈fp then H a else F a
theorem jq {fp:List ai}(s:ce F H)(hf:∀a∈fp,F a=none):ce F (iF F H fp)/\ce (iF F H fp) H/\∀a∈fp,iF F H fp a=H a:=by
 refine⟨λa o h=>?_,λa o h=>?_,λa z=>if_pos z⟩
 ·have:¬a∈fp:=λz=>by rw[hf a z]at h;cases h
  unfold iF;rw[if_neg this];exact h
 ·unfold iF at h
  by_cases z:a∈fp
  ·rw[if_pos z]at h;exact h
  ·rw[if_neg z]at h;exact s _ _ h
theorem Ow.freeze {n:Nat}{d:D}{v:V}{fp:List ai}{F0 H0:Hp}(h:Ow K ct F H n d v fp)(e:gD F0 H0 F H)(hf:∀a∈fp,H0 a=none):∃F',gD F0 H0 F' H/\Dt K ct F' d v:=by
 obtain⟨w1,w2,w3⟩:=jq (fp:=fp) e.fh (λa z=>(h.cells a z).1)
 refine⟨iF F H fp,⟨e.ff.trans w1,e.hh,w2,λa o ho hn=>?_⟩,h.dt w1 w3⟩
 have:¬a∈fp:=λz=>by rw[hf a z]at ho;cases ho
 unfold iF;rw[if_neg this];exact e.nf a o ho hn
theorem Ow.zero {d:D}{v:V}(h:Dt K ct F d v):Ow K ct F H 0 d v []:=⟨h,rfl⟩
theorem Ow.scal {n:Nat}{d:D}{v:V}(h:Dt K ct F d v)(hs:d.sc=true):Ow K ct F H n d v []:=by
 cases n with
 |zero=>exact⟨h,rfl⟩
 |succ n=>exact .inl ⟨hs,h,rfl⟩
end
end L3
namespace L3
open PySem PySem.Spec L2
open PyProof.Rows hiding St
abbrev Env:=List (Option D)
inductive Mo where
 |al (n:Nat)|ow (n:Nat)|px (v:V)|so (x:ai)
def Mo.lv:Mo->Nat
 |.al n=>n
 |.ow n=>n
 |.px _=>1
 |.so _=>1
section
variable (K:ae)(ct:Nat->ai)
inductive SL (F B H:Hp):List Mo->Env->St->List ai->Prop
 |nil:SL F B H [] [] [] []
 |no {m:Mo} {o:Option V} {ms:List Mo} {ρ:Env} {σ:St} {fp:List ai}:SL F B H ms ρ σ fp->SL F B H (m::ms) (none::ρ) (o::σ) fp
 |al {n:Nat} {d:D} {v:V} {ms:List Mo} {ρ:Env} {σ:St} {fp:List ai}:Al K ct F B n d v->SL F B H ms ρ σ fp->SL F B H (.al n::ms) (some d::ρ) (some v::σ) fp
 |px {d:D} {v:V} {ms:List Mo} {ρ:Env} {σ:St} {fp:List ai}:Al K ct F B 1 d v->SL F B H ms ρ σ fp->SL F B H (.px v::ms) (some d::ρ) (some v::σ) fp
 |so {d:D} {x:ai} {ms:List Mo} {ρ:Env} {σ:St} {fp:List ai}:Ow K ct F H 1 d (.ref x) [x]->SL F B H ms ρ σ fp->SL F B H (.so x::ms) (some d::ρ) (some (.ref x)::σ) (x::fp)
 |ow {n:Nat} {d:D} {v:V} {ms:List Mo} {ρ:Env} {σ:St} {f fp:List ai}:Ow K ct F H n d v f->SL F B H ms ρ σ fp->SL F B H (.ow n::ms) (some d::ρ) (some v::σ) (f++fp)
structure RS (F0 B:Hp)(ms:List Mo)(F H:Hp)(ρ:Env)(σ:St):Prop where
 f0:ce F0 F
 bh:ce B H
 fh:ce F H
 nf:∀a o,B a=some o->F0 a=none->F a=none
 sl:∃fp,SL K ct F B H ms ρ σ fp/\fp.Nodup/\∀a∈fp,B a=none
end
section
variable {K:ae}{ct:Nat->ai}{F F' G G' H H' B B' F0:Hp}{ms:List Mo}{ρ:Env}{σ:St}
theorem SL.cells {ms:List Mo}{ρ:Env}{σ:St}{fp:List ai}(h:SL K ct F B H ms ρ σ fp):∀a∈fp,F a=none/\∃o,H a=some o:=by
 induction h with
 |nil=>intro a z;cases z
 |no t ih=>exact ih
 |al _ t ih=>exact ih
 |px _ t ih=>exact ih
 |so h t ih=>exactλa z=>(aF.mp z).elim (λz=>h.cells a (by rw[z];exact aa)) (ih a)
 |ow h t ih=>exactλa z=>(bg.mp z).elim (h.cells a) (ih a)
theorem SL.frame (sF:ce F F'){ms:List Mo}{ρ:Env}{σ:St}{fp:List ai}(h:SL K ct F B H ms ρ σ fp):(∀a∈fp,H' a=H a/\F' a=none)->SL K ct F' B H' ms ρ σ fp:=by
 induction h with
 |nil=>exactλ_=>.nil
 |no t ih=>exactλk=>.no (ih k)
 |al h t ih=>exactλk=>.al (h.mono sF (.refl _)) (ih k)
 |px h t ih=>exactλk=>.px (h.mono sF (.refl _)) (ih k)
 |so h t ih=>exactλk=>.so (h.frame sF λa z=>k a (by rw[az]at z;rw[z];exact aa)) (ih λa z=>k a (aj _ z))
 |ow h t ih=>exactλk=>.ow (h.frame sF λa z=>k a (bx _ z)) (ih λa z=>k a (aH _ z))
theorem RS.ext (r:RS K ct F0 B ms F H ρ σ)(e:gD F H F' H'):RS K ct F0 B ms F' H' ρ σ:=by
 obtain⟨fp,s,nd,hb⟩:=r.sl
 refine⟨r.f0.trans e.ff,r.bh.trans e.hh,e.fh,λa o h n=>e.nf a o (r.bh _ _ h) (r.nf a o h n),fp,s.frame e.ff λa z=>?_,nd,hb⟩
 obtain⟨hn,o,ho⟩:=s.cells a z
 exact⟨(e.hh _ _ ho).trans ho.symm,e.nf a o ho hn⟩
theorem SL.get {ms:List Mo}{ρ:Env}{σ:St}{fp:List ai}{i:Nat}{m:Mo}{d:D}(h:SL K ct F B H ms ρ σ fp)(s:ce F H)(s':ce B H):ms[i]?=some m->ρ[i]?=some (some d)->∃v,σ[i]?=some (some v)/\Al K ct F H m.lv d v:=by
 induction h generalizing i with
 |nil=>intro e;simp at e
 |no t ih=>
  intro e e'
  cases i with
  |zero=>simp at e'
  |succ i=>simpa using ih (by simpa using e) (by simpa using e')
 |al h t ih=>
  intro e e'
  cases i with
  |zero=>
   simp at e e';subst e;subst e'
   exact⟨_,rfl,h.mono (.refl _) s'⟩
  |succ i=>simpa using ih (by simpa using e) (by simpa using e')
 |px h t ih=>
  intro e e'
  cases i with
  |zero=>
   simp at e e';subst e;subst e'
   exact⟨_,rfl,h.mono (.refl _) s'⟩
  |succ i=>simpa using ih (by simpa using e) (by simpa using e')
 |so h t ih=>
  intro e e'
  cases i with
  |zero=>
   simp at e e';subst e;subst e'
   exact⟨_,rfl,h.al s⟩
  |succ i=>simpa using ih (by simpa using e) (by simpa using e')
 |ow h t ih=>
  intro e e'
  cases i with
  |zero=>
   simp at e e';subst e;subst e'
   exact⟨_,rfl,h.al s⟩
  |succ i=>simpa using ih (by simpa using e) (by simpa using e')
theorem RS.get (r:RS K ct F0 B ms F H ρ σ){i:Nat}{m:Mo}{d:D}(hm:ms[i]?=some m)(e:ρ[i]?=some (some d)):∃v,σ[i]?=some (some v)/\Al K ct F H m.lv d v:=by
 obtain⟨fp,s,_,_⟩:=r.sl
 exact s.get r.fh r.bh hm e
theorem SL.put {ms:List Mo}{ρ:Env}{σ:St}{fp:List ai}{i k:Nat}(h0:SL K ct F B H ms ρ σ fp):ms[i]?=some (.ow k) ->
  ∃f1 fr:List ai,(∀a∈f1,a∈fp)/\(∀a∈fr,a∈fp)/\(fp.Nodup->f1.Nodup/\fr.Nodup/\∀a∈f1,a∉fr)/\(∀d,ρ[i]?=some (some d)->∃v,σ[i]?=some (some v)/\Ow K ct F H k d v f1) /\
   ∀(F' H':Hp) (d':D) (v':V) (f':List ai),ce F F'->(∀a∈fr,H' a=H a/\F' a=none)->Ow K ct F' H' k d' v' f' ->
    ∃iD,SL K ct F' B H' ms (ρ.set i (some d')) (σ.set i (some v')) iD/\(∀a∈iD,a∈f'\/a∈fr)/\(f'.Nodup->fr.Nodup->(∀a∈f',a∉fr)->iD.Nodup):=by
 induction h0 generalizing i with
 |nil=>
  intro e
  simp at e
 |@no m0 o0 ms ρ σ fp t ih=>
  intro e
  cases i with
  |zero=>
   simp at e;subst e
   refine⟨[],fp,λa z=>(by cases z),λa z=>z,λn=>⟨bQ,n,λa z=>(by cases z)⟩,λd q=>(by simp at q),λF' H' d' v' f' s kf h=>⟨f'++fp,.ow h (t.frame s kf),λa z=>bg.mp z,λn1 n2 dj=>?_⟩⟩
   exact br.mpr ⟨n1,n2,λa z b zb e=>dj a z (e▸zb)⟩
  |succ i=>
   obtain⟨f1,fr,h1,h2,h3,h4,h5⟩:=ih (i:=i) (by simpa using e)
   refine⟨f1,fr,h1,h2,h3,λd q=>by simpa using h4 d (by simpa using q),λF' H' d' v' f' s kf h=>?_⟩
   obtain⟨iD,q1,q2,q3⟩:=h5 F' H' d' v' f' s kf h
   exact⟨iD,.no q1,q2,q3⟩
 |@al n0 d0 v0 ms ρ σ fp h t ih=>
  intro e
  cases i with
  |zero=>
   simp at e
  |succ i=>
   obtain⟨f1,fr,h1,h2,h3,h4,h5⟩:=ih (i:=i) (by simpa using e)
   refine⟨f1,fr,h1,h2,h3,λd q=>by simpa using h4 d (by simpa using q),λF' H' d' v' f' s kf h'=>?_⟩
   obtain⟨iD,q1,q2,q3⟩:=h5 F' H' d' v' f' s kf h'
   exact⟨iD,.al (h.mono s (.refl _)) q1,q2,q3⟩
 |@px d0 v0 ms ρ σ fp h t ih=>
  intro e
  cases i with
  |zero=>
   simp at e
  |succ i=>
   obtain⟨f1,fr,h1,h2,h3,h4,h5⟩:=ih (i:=i) (by simpa using e)
   refine⟨f1,fr,h1,h2,h3,λd q=>by simpa using h4 d (by simpa using q),λF' H' d' v' f' s kf h'=>?_⟩
   obtain⟨iD,q1,q2,q3⟩:=h5 F' H' d' v' f' s kf h'
   exact⟨iD,.px (h.mono s (.refl _)) q1,q2,q3⟩
 |@so d0 x ms ρ σ fp h t ih=>
  intro e
  cases i with
  |zero=>
   simp at e
  |succ i=>
   obtain⟨f1,fr,h1,h2,h3,h4,h5⟩:=ih (i:=i) (by simpa using e)
   refine⟨f1,x::fr,λa z=>aj _ (h1 a z),λa z=>(aF.mp z).elim (λz=>by rw[z];exact aa) λz=>aj _ (h2 a z),λn=>?_,λd q=>by simpa using h4 d (by simpa using q),λF' H' d' v' f' s kf h'=>?_⟩
   ·obtain⟨n1,n2⟩:=bP.mp n
    obtain⟨m1,m2,m3⟩:=h3 n2
    refine⟨m1,bP.mpr ⟨λz=>n1 (h2 x z),m2⟩,λa z zb=>?_⟩
    rcases aF.mp zb with zb|zb
    ·rw[zb]at z;exact n1 (h1 x z)
    ·exact m3 a z zb
   ·obtain⟨iD,q1,q2,q3⟩:=h5 F' H' d' v' f' s (λa z=>kf a (aj _ z)) h'
    refine⟨x::iD,.so (h.frame s λa z=>kf a (by rw[az]at z;rw[z];exact aa)) q1,λa z=>?_,λn1 n2 dj=>?_⟩
    ·rcases aF.mp z with z|z
     ·exact .inr (by rw[z];exact aa)
     ·exact(q2 a z).imp id λz=>aj _ z
    ·obtain⟨m1,m2⟩:=bP.mp n2
     refine bP.mpr ⟨λz=>?_,q3 n1 m2 λa z zb=>dj a z (aj _ zb)⟩
     rcases q2 x z with z|z
     ·exact dj x z aa
     ·exact m1 z
 |@ow n0 d0 v0 ms ρ σ f fp h t ih=>
  intro e
  cases i with
  |zero=>
   simp at e;subst e
   refine⟨f,fp,λa z=>bx _ z,λa z=>aH _ z,λn=>?_,λd q=>?_,λF' H' d' v' f' s kf h=>⟨f'++fp,.ow h (t.frame s kf),λa z=>bg.mp z,λn1 n2 dj=>?_⟩⟩
   ·obtain⟨n1,n2,n3⟩:=br.mp n
    exact⟨n1,n2,λa z zb=>n3 a z a zb rfl⟩
   ·simp at q;subst q;exact⟨_,rfl,h⟩
   ·exact br.mpr ⟨n1,n2,λa z b zb e=>dj a z (e▸zb)⟩
  |succ i=>
   obtain⟨f1,fr,h1,h2,h3,h4,h5⟩:=ih (i:=i) (by simpa using e)
   refine⟨f1,f++fr,λa z=>aH _ (h1 a z),λa z=>(bg.mp z).elim (λz=>bx _ z) λz=>aH _ (h2 a z),λn=>?_,λd q=>by simpa using h4 d (by simpa using q),λF' H' d' v' f' s kf h'=>?_⟩
   ·obtain⟨n1,n2,n3⟩:=br.mp n
    obtain⟨m1,m2,m3⟩:=h3 n2
    refine⟨m1,br.mpr ⟨n1,m2,λa z b zb=>n3 a z b (h2 b zb)⟩,λa z zb=>?_⟩
    rcases bg.mp zb with zb|zb
    ·exact n3 a zb a (h1 a z) rfl
    ·exact m3 a z zb
   ·obtain⟨iD,q1,q2,q3⟩:=h5 F' H' d' v' f' s (λa z=>kf a (aH _ z)) h'
    refine⟨f++iD,.ow (h.frame s λa z=>kf a (bx _ z)) q1,λa z=>?_,λn1 n2 dj=>?_⟩
    ·rcases bg.mp z with z|z
     ·exact .inr (bx _ z)
     ·exact(q2 a z).imp id λz=>aH _ z
    ·obtain⟨m1,m2,m3⟩:=br.mp n2
     refine br.mpr ⟨m1,q3 n1 m2 λa z zb=>dj a z (aH _ zb),λa z b zb e=>?_⟩
     subst e
     rcases q2 a zb with zb|zb
     ·exact dj a zb (bx _ z)
     ·exact m3 a z a zb rfl
end
abbrev EF:=Env->Option D
inductive jF (K:ae)(ct:Nat->ai)(F G:Hp):List Nat->List D->List V->Prop
 |nil:jF K ct F G [] [] []
 |cons {n:Nat} {d:D} {v:V} {ns:List Nat} {ds:List D} {vs:List V}:Al K ct F G n d v->jF K ct F G ns ds vs->jF K ct F G (n::ns) (d::ds) (v::vs)
theorem jF.mono {K:ae}{ct:Nat->ai}{F F' G G':Hp}(sF:ce F F')(sG:ce G G'):∀{ns:List Nat} {ds:List D} {vs:List V},jF K ct F G ns ds vs->jF K ct F' G' ns ds vs
 |_,_,_,.nil=>.nil
 |_,_,_,.cons h t=>.cons (h.mono sF sG) (jF.mono sF sG t)
theorem jF.length {K:ae}{ct:Nat->ai}{F G:Hp}:∀{ns:List Nat} {ds:List D} {vs:List V},jF K ct F G ns ds vs->vs.length=ns.length
 |_,_,_,.nil=>rfl
 |_,_,_,.cons _ t=>by simp[jF.length t]
theorem jF.length' {K:ae}{ct:Nat->ai}{F G:Hp}:∀{ns:List Nat} {ds:List D} {vs:List V},jF K ct F G ns ds vs->ds.length=vs.length
 |_,_,_,.nil=>rfl
 |_,_,_,.cons _ t=>by simp[jF.length' t]
theorem jF.append {K:ae}{ct:Nat->ai}{F G:Hp}{pA:List Nat}{qZ:List D}{J4:List V}(q:jF K ct F G pA qZ J4):∀{ns:List Nat} {ds:List D} {vs:List V},jF K ct F G ns ds vs->jF K ct F G (ns++pA) (ds++qZ) (vs++J4)
 |_,_,_,.nil=>q
 |_,_,_,.cons h t=>.cons h (jF.append q t)
section
variable (X:Cx)(ct:Nat->ai)(ms:List Mo)
def XE (n:Nat)(e:Expr)(f:EF):Prop:=∃t,PE X e t/\∀(F0 B F H:Hp) (ρ:Env) (σ:St) (d:D) (Q:VK),RS X.K ct F0 B ms F H ρ σ->f ρ=some d ->
 (∀v F' H',gD F H F' H'->Al X.K ct F' H' n d v->Q v H')->t σ H Q
def XO (k:Nat)(e:Expr)(f:EF):Prop:=∃t,PE X e t/\∀(F0 B F H:Hp) (ρ:Env) (σ:St) (d:D) (Q:VK),RS X.K ct F0 B ms F H ρ σ->f ρ=some d ->
 (∀v F' H' fp,gD F H F' H'->Ow X.K ct F' H' k d v fp->fp.Nodup->(∀a∈fp,H a=none)->Q v H')->t σ H Q
def XT (e:Expr)(f:Env->Option Bool):Prop:=∃t,PT X e t/\∀(F0 B F H:Hp) (ρ:Env) (σ:St) (b:Bool) (Q:Bool->Hp->Prop),RS X.K ct F0 B ms F H ρ σ->f ρ=some b ->
 (∀F' H',gD F H F' H'->Q b H')->t σ H Q
def XW (e:Expr)(f:Env->Option Bool):Prop:=∃t,PW X e t/\∀(F0 B F H:Hp) (ρ:Env) (σ:St) (b:Bool) (Q:Bool->Hp->Prop),RS X.K ct F0 B ms F H ρ σ->f ρ=some b ->
 (∀F' H',gD F H F' H'->Q b H')->t σ H Q
def XA (es:List Expr)(ns:List Nat)(f:Env->Option (List D)):Prop:=∃t,PA X es t/\(∀ρ ds,f ρ=some ds->ds.length=es.length)/\∀(F0 B F H:Hp) (ρ:Env) (σ:St) (ds:List D) (Q:List V->Hp->Prop),RS X.K ct F0 B ms F H ρ σ->f ρ=some ds ->
 (∀vs F' H',gD F H F' H'->jF X.K ct F' H' ns ds vs->Q vs H')->t σ H Q
end
def e2 (op:D->D->Option D)(f g:EF):EF:=λρ=>(f ρ).bind λx=>(g ρ).bind λy=>op x y
def e1 (op:D->Option D)(f:EF):EF:=λρ=>(f ρ).bind op
def eN (op:List D->Option D)(f:Env->Option (List D)):EF:=λρ=>(f ρ).bind op
def eC (d:D):EF:=λ_=>some d
def eV (i:Nat):EF:=λρ=>(ρ[i]?).join
def aNil:Env->Option (List D):=λ_=>some []
def aCons (f:EF)(g:Env->Option (List D)):Env->Option (List D):=λρ=>(f ρ).bind λx=>(g ρ).bind λxs=>some (x::xs)
theorem dP {α β γ:Type}{o:Option α}{p:Option β}{op:α->β->Option γ}{r:γ}(h:(o.bind λx=>p.bind λy=>op x y)=some r):∃x y,o=some x/\p=some y/\op x y=some r:=by
 cases o with
 |none=>cases h
 |some x=>
  cases p with
  |none=>cases h
  |some y=>exact⟨x,y,rfl,rfl,h⟩
theorem aY {α β:Type}{o:Option α}{op:α->Option β}{r:β}(h:o.bind op=some r):∃x,o=some x/\op x=some r:=by
 cases o with
 |none=>cases h
 |some x=>exact⟨x,rfl,h⟩
theorem yj {α:Type}{o:Option (Option α)}{x:α}(h:o.join=some x):o=some (some x):=by
 cases o with
 |none=>cases h
 |some y=>exact congrArg some h
def lI (K:ae)(ct:Nat->ai)(n m k:Nat)(r:R2)(op:D->D->Option D):Prop :=
 ∀(F H:Hp) (x y:V) (d1 d2 d:D) (Q:VK),ce F H->Al K ct F H n d1 x->Al K ct F H m d2 y->op d1 d2=some d->(∀v F' H',gD F H F' H'->Al K ct F' H' k d v->Q v H')->r x y H Q
def C0 (K:ae)(ct:Nat->ai)(n m k:Nat)(r:R2)(op:D->D->Option D):Prop :=
 ∀(F H:Hp) (x y:V) (d1 d2 d:D) (Q:VK),ce F H->Al K ct F H n d1 x->Al K ct F H m d2 y->op d1 d2=some d ->
  (∀v F' H' fp,gD F H F' H'->Ow K ct F' H' k d v fp->fp.Nodup->(∀a∈fp,H a=none)->Q v H')->r x y H Q
def wJ (K:ae)(ct:Nat->ai)(ns:List Nat)(k:Nat)(r:List V->Hp->VK->Prop)(op:List D->Option D):Prop :=
 ∀(F H:Hp) (vs:List V) (ds:List D) (d:D) (Q:VK),ce F H->jF K ct F H ns ds vs->op ds=some d->(∀v F' H',gD F H F' H'->Al K ct F' H' k d v->Q v H')->r vs H Q
def uA (K:ae)(ct:Nat->ai)(ns:List Nat)(k:Nat)(r:List V->Hp->VK->Prop)(op:List D->Option D):Prop :=
 ∀(F H:Hp) (vs:List V) (ds:List D) (d:D) (Q:VK),ce F H->jF K ct F H ns ds vs->op ds=some d ->
  (∀v F' H' fp,gD F H F' H'->Ow K ct F' H' k d v fp->fp.Nodup->(∀a∈fp,H a=none)->Q v H')->r vs H Q
section
variable {X:Cx}{ct:Nat->ai}{ms:List Mo}{n m k:Nat}{a b c e:Expr}{f g h:EF}{pos:dF}
theorem XO.sh (he:XO X ct ms k e f):XE X ct ms n e f:=by
 obtain⟨t,p,q⟩:=he
 refine⟨t,p,λF0 B F H ρ σ d Q r e w=>q F0 B F H ρ σ d Q r e λv F' H' fp x o nd hf=>?_⟩
 obtain⟨F2,x2,h2⟩:=o.freeze x hf
 exact w v F2 H' x2 (Al.of h2)
theorem XE.ow (he:XE X ct ms 0 e f):XO X ct ms 0 e f:=by
 obtain⟨t,p,q⟩:=he
 exact⟨t,p,λF0 B F H ρ σ d Q r e w=>q F0 B F H ρ σ d Q r e λv F' H' x l=>w v F' H' [] x ⟨l,rfl⟩ bQ λa z=>(by cases z)⟩
theorem za (i n:Nat){x:aX}{m:Mo}(hm:ms[i]?=some m:=by rfl)(hl:m.lv=n:=by rfl)(hN:X.N[i]?=some x:=by rfl)(hv:qF X.env.scope x:=by first|exact Or.inl rfl|exact Or.inr (Or.inl rfl)|exact Or.inr (Or.inr rfl))(hd:(x==("__debug__":aX))=false:=by decide)
  (jT:(x==("__classdict__":aX))=false:=by decide):XE X ct ms n (.Name x pos) (eV i):=by
 subst hl
 refine⟨_,sY hN hv hd jT,λF0 B F H ρ σ d Q r e w=>?_⟩
 obtain⟨v,hv,l⟩:=r.get hm (yj e)
 exact⟨v,hv,w v F H (.refl r.fh) l⟩
theorem zu6 {i:Int}{j}:XE X ct ms n (.Constant (.int i) j pos) (eC (.int i)):=⟨_,zt9,λF0 B F H ρ σ d Q r e w=>by cases e;exact w _ F H (.refl r.fh) (Al.of (.int i))⟩
theorem j6 {i:Bool}{j}:XE X ct ms n (.Constant (.bool i) j pos) (eC (.bl i)):=⟨_,zwe,λF0 B F H ρ σ d Q r e w=>by cases e;exact w _ F H (.refl r.fh) (Al.of (.bl i))⟩
theorem zL {i:aX}{j}:XE X ct ms n (.Constant (.str i) j pos) (eC (.str i)):=⟨_,zub,λF0 B F H ρ σ d Q r e w=>by cases e;exact w _ F H (.refl r.fh) (Al.of (.str i))⟩
theorem zu7 {j}:XE X ct ms n (.Constant .none j pos) (eC .non):=⟨_,zua,λF0 B F H ρ σ d Q r e w=>by cases e;exact w _ F H (.refl r.fh) (Al.of .non)⟩
theorem XE.bin (ha:XE X ct ms n a f)(hb:XE X ct ms m b g):∃ta tb,PE X a ta/\PE X b tb/\∀(F0 B F H:Hp) (ρ:Env) (σ:St) (d1 d2:D) (R:V->V->Hp->Prop),RS X.K ct F0 B ms F H ρ σ->f ρ=some d1->g ρ=some d2 ->
  (∀x y F' H',gD F H F' H'->Al X.K ct F' H' n d1 x->Al X.K ct F' H' m d2 y->R x y H')->ta σ H λx H1=>tb σ H1 λy H2=>R x y H2:=by
 obtain⟨ta,pa,qa⟩:=ha
 obtain⟨tb,pb,qb⟩:=hb
 refine⟨ta,tb,pa,pb,λF0 B F H ρ σ d1 d2 R r e1 e2 w=>qa F0 B F H ρ σ d1 _ r e1 λx F1 H1 x1 l1=>?_⟩
 exact qb F0 B F1 H1 ρ σ d2 _ (r.ext x1) e2 λy F2 H2 x2 l2=>w x y F2 H2 (x1.trans x2) (l1.mono x2.ff x2.hh) l2
theorem yf {op:jZ}{r:R2}{o:D->D->Option D}(ho:gu X (eD op) r)(hs:lI X.K ct n m k r o)(ha:XE X ct ms n a f)(hb:XE X ct ms m b g):XE X ct ms k (.BinOp a op b pos) (e2 o f g):=by
 obtain⟨ta,tb,pa,pb,q⟩:=ha.bin hb
 refine⟨_,PM ho pa pb,λF0 B F H ρ σ d Q rs e w=>?_⟩
 obtain⟨d1,d2,h1,h2,h3⟩:=dP e
 exact q F0 B F H ρ σ d1 d2 _ rs h1 h2 λx y F' H' x1 l1 l2=>hs F' H' x y d1 d2 d Q x1.fh l1 l2 h3 λv F2 H2 x2 l=>w v F2 H2 (x1.trans x2) l
theorem zwp {op:jZ}{r:R2}{o:D->D->Option D}(ho:gu X (eD op) r)(hs:C0 X.K ct n m k r o)(ha:XE X ct ms n a f)(hb:XE X ct ms m b g):XO X ct ms k (.BinOp a op b pos) (e2 o f g):=by
 obtain⟨ta,tb,pa,pb,q⟩:=ha.bin hb
 refine⟨_,PM ho pa pb,λF0 B F H ρ σ d Q rs e w=>?_⟩
 obtain⟨d1,d2,h1,h2,h3⟩:=dP e
 exact q F0 B F H ρ σ d1 d2 _ rs h1 h2 λx y F' H' x1 l1 l2=>hs F' H' x y d1 d2 d Q x1.fh l1 l2 h3 λv F2 H2 fp x2 l nd hf=>w v F2 H2 fp (x1.trans x2) l nd λz hz=>x1.hh.free (hf z hz)
theorem uv {op:kx}{r:R2}{o:D->D->Option D}(ho:gu X (cu op) r)(hs:lI X.K ct n m k r o)(ha:XE X ct ms n a f)(hb:XE X ct ms m b g)(hm:dO op b=false):XE X ct ms k (.Compare a [op] [b] pos) (e2 o f g):=by
 obtain⟨ta,tb,pa,pb,q⟩:=ha.bin hb
 refine⟨_,zrs ho pa pb hm,λF0 B F H ρ σ d Q rs e w=>?_⟩
 obtain⟨d1,d2,h1,h2,h3⟩:=dP e
 exact q F0 B F H ρ σ d1 d2 _ rs h1 h2 λx y F' H' x1 l1 l2=>hs F' H' x y d1 d2 d Q x1.fh l1 l2 h3 λv F2 H2 x2 l=>w v F2 H2 (x1.trans x2) l
theorem wC {r:R2}{o:D->D->Option D}(hr:vM X r)(hs:lI X.K ct n m k r o)(ha:XE X ct ms n a f)(hb:XE X ct ms m b g)(hp:oS b):XE X ct ms k (.Subscript a b pos) (e2 o f g):=by
 obtain⟨ta,tb,pa,pb,q⟩:=ha.bin hb
 refine⟨_,zwl hr pa pb hp,λF0 B F H ρ σ d Q rs e w=>?_⟩
 obtain⟨d1,d2,h1,h2,h3⟩:=dP e
 exact q F0 B F H ρ σ d1 d2 _ rs h1 h2 λx y F' H' x1 l1 l2=>hs F' H' x y d1 d2 d Q x1.fh l1 l2 h3 λv F2 H2 x2 l=>w v F2 H2 (x1.trans x2) l
theorem zwq {op:UnaryOp}{r:V->Hp->VK->Prop}{o:D->Option D}(ho:Jk X (unaryOp op) r)
  (hs:∀(F H:Hp) (x:V) (d1 d:D) (Q:VK),ce F H->Al X.K ct F H n d1 x->o d1=some d->(∀v F' H',gD F H F' H'->Al X.K ct F' H' k d v->Q v H')->r x H Q) (ha:XE X ct ms n a f):XE X ct ms k (.UnaryOp op a pos) (e1 o f):=by
 obtain⟨ta,pa,qa⟩:=ha
 refine⟨_,zwi ho pa,λF0 B F H ρ σ d Q rs e w=>?_⟩
 obtain⟨d1,h1,h2⟩:=aY e
 exact qa F0 B F H ρ σ d1 _ rs h1 λx F' H' x1 l1=>hs F' H' x d1 d Q x1.fh l1 h2 λv F2 H2 x2 l=>w v F2 H2 (x1.trans x2) l
theorem zj:XA X ct ms [] [] aNil:=⟨_,tT,λρ ds e=>(by cases e;rfl),λF0 B F H ρ σ ds Q r e w=>by cases e;exact w [] F H (.refl r.fh) .nil⟩
theorem ze {es:List Expr}{ns:List Nat}{fs:Env->Option (List D)}(ha:XE X ct ms n a f)(hr:XA X ct ms es ns fs)(hs:ay (a::es) X.env=(false,bY a X.env)::ay es X.env:=by rfl):XA X ct ms (a::es) (n::ns) (aCons f fs):=by
 obtain⟨ta,pa,qa⟩:=ha
 obtain⟨tb,pb,lb,qb⟩:=hr
 refine⟨_,v4 pa pb hs,λρ ds e=>(by obtain⟨x,xs,h1,h2,h3⟩:=dP e;cases h3;rw[aI,aI,lb _ _ h2]),λF0 B F H ρ σ ds Q r e w=>?_⟩
 obtain⟨x,xs,h1,h2,h3⟩:=dP e
 cases h3
 refine qa F0 B F H ρ σ x _ r h1 λv F1 H1 x1 l1=>?_
 exact qb F0 B F1 H1 ρ σ xs _ (r.ext x1) h2 λvs F2 H2 x2 l2=>w (v::vs) F2 H2 (x1.trans x2) (.cons (l1.mono x2.ff x2.hh) l2)
def C2 (X:Cx)(ct:Nat->ai)(ms:List Mo)(k:Nat)(es:List Expr)(f:Env->Option (List D)):Prop:=∃t,PA X es t/\(∀ρ ds,f ρ=some ds->ds.length=es.length)/\∀(F0 B F H:Hp) (ρ:Env) (σ:St) (ds:List D) (Q:List V->Hp->Prop),RS X.K ct F0 B ms F H ρ σ->f ρ=some ds ->
 (∀vs F' H' fp,gD F H F' H'->OwL (Ow X.K ct F' H' k) ds vs fp->fp.Nodup->(∀a∈fp,H a=none)->Q vs H')->t σ H Q
theorem xx:C2 X ct ms k [] aNil:=⟨_,tT,λρ ds e=>(by cases e;rfl),λF0 B F H ρ σ ds Q r e w=>by cases e;exact w [] F H [] (.refl r.fh) .nil bQ λa z=>(by cases z)⟩
theorem yb {es:List Expr}{fs:Env->Option (List D)}(ha:XO X ct ms k a f)(hr:C2 X ct ms k es fs)(hs:ay (a::es) X.env=(false,bY a X.env)::ay es X.env:=by rfl):C2 X ct ms k (a::es) (aCons f fs):=by
 obtain⟨ta,pa,qa⟩:=ha
 obtain⟨tb,pb,lb,qb⟩:=hr
 refine⟨_,v4 pa pb hs,λρ ds e=>(by obtain⟨x,xs,h1,h2,h3⟩:=dP e;cases h3;rw[aI,aI,lb _ _ h2]),λF0 B F H ρ σ ds Q r e w=>?_⟩
 obtain⟨x,xs,h1,h2,h3⟩:=dP e
 cases h3
 refine qa F0 B F H ρ σ x _ r h1 λv F1 H1 f1 x1 l1 n1 a1=>?_
 refine qb F0 B F1 H1 ρ σ xs _ (r.ext x1) h2 λvs F2 H2 f2 x2 l2 n2 a2=>w (v::vs) F2 H2 (f1++f2) (x1.trans x2) (.cons (l1.ext x2) l2) (br.mpr ⟨n1,n2,λz hz y hy e=>?_⟩) λz hz=>?_
 ·subst e
  obtain⟨_,o,ho⟩:=l1.cells z hz
  rw[a2 z hy]at ho
  cases ho
 ·rcases bg.mp hz with hz|hz
  ·exact a1 z hz
  ·exact x1.hh.free (a2 z hz)
end
end L3
namespace L3
open PySem PySem.Spec L2
open PyProof.Rows hiding St
def Jn:D->Option Bool
 |.bl b=>some b
 |_=>none
theorem zC {d:D}{b:Bool}(h:Jn d=some b):d=.bl b:=by cases d<;>simp[Jn]at h;subst h;rfl
abbrev BF:=Env->Option Bool
def tb (f:EF):BF:=λρ=>(f ρ).bind Jn
def bNot (f:BF):BF:=λρ=>(f ρ).bind λb=>some (!b)
def bAnd (f g:BF):BF:=λρ=>(f ρ).bind λb=>if b=true then g ρ else some false
def bOr (f g:BF):BF:=λρ=>(f ρ).bind λb=>if b=true then some true else g ρ
def eB (f:BF):EF:=λρ=>(f ρ).bind λb=>some (.bl b)
def eIf (c:BF)(f g:EF):EF:=λρ=>(c ρ).bind λb=>if b=true then f ρ else g ρ
section
variable {X:Cx}{ct:Nat->ai}{ms:List Mo}{n m k:Nat}{a b c e:Expr}{f g h:EF}{p q:BF}{pos:dF}
theorem vc (he:XE X ct ms n e f)(hi:∀whole,tK e X.env whole=(do let v ← whole;iM e.pos;fq [v] (truthy v)):=by intro _;rfl):XT X ct ms e (tb f):=by
 obtain⟨t,pt,qt⟩:=he
 refine⟨_,zuc pt hi,λF0 B F H ρ σ b Q r e w=>?_⟩
 obtain⟨d,h1,h2⟩:=aY e
 rw[zC h2]at h1
 exact qt F0 B F H ρ σ _ _ r h1 λv F' H' x l=>⟨b,l.bl,w F' H' x⟩
theorem zu {op:kx}{r:R2}{o:D->D->Option D}(ho:gu X (cu op) r)(hs:lI X.K ct n m k r o)(ha:XE X ct ms n a f)(hb:XE X ct ms m b g)(hm:dO op b=false):XT X ct ms (.Compare a [op] [b] pos) (tb (e2 o f g)):=by
 obtain⟨ta,tb,pa,pb,q⟩:=ha.bin hb
 refine⟨_,zrt ho pa pb hm,λF0 B F H ρ σ b Q rs e w=>?_⟩
 obtain⟨d,h0,h4⟩:=aY e
 rw[zC h4]at h0
 obtain⟨d1,d2,h1,h2,h3⟩:=dP h0
 exact q F0 B F H ρ σ d1 d2 _ rs h1 h2 λx y F' H' x1 l1 l2=>hs F' H' x y d1 d2 _ _ x1.fh l1 l2 h3 λv F2 H2 x2 l=>⟨b,l.bl,w F2 H2 (x1.trans x2)⟩
theorem XW.t (h:XW X ct ms e p):XT X ct ms e p:=by
 obtain⟨t,pt,qt⟩:=h
 exact⟨t,pt.pt,qt⟩
theorem vW (ha:XT X ct ms a p):XW X ct ms (.BoolOp .And [a] pos) p:=by
 obtain⟨t,pt,qt⟩:=ha
 exact⟨t,zrm pt,qt⟩
theorem jr (ha:XT X ct ms a p):XW X ct ms (.BoolOp .Or [a] pos) p:=by
 obtain⟨t,pt,qt⟩:=ha
 exact⟨t,zud pt,qt⟩
theorem vY {rest:List Expr}(ha:XT X ct ms a p)(hb:XW X ct ms (.BoolOp .And (b::rest) pos) q):XW X ct ms (.BoolOp .And (a::b::rest) pos) (bAnd p q):=by
 obtain⟨t,pt,qt⟩:=ha
 obtain⟨u,pu,qu⟩:=hb
 refine⟨_,zue pt pu,λF0 B F H ρ σ r Q rs e w=>?_⟩
 obtain⟨x,h1,h2⟩:=aY e
 refine qt F0 B F H ρ σ x _ rs h1 λF1 H1 x1=>?_
 cases x with
 |true=>rw[if_pos rfl];exact qu F0 B F1 H1 ρ σ r _ (rs.ext x1) h2 λF2 H2 x2=>w F2 H2 (x1.trans x2)
 |false=>cases h2;rw[if_neg aQ];exact w F1 H1 x1
theorem j7 {rest:List Expr}(ha:XT X ct ms a p)(hb:XW X ct ms (.BoolOp .Or (b::rest) pos) q):XW X ct ms (.BoolOp .Or (a::b::rest) pos) (bOr p q):=by
 obtain⟨t,pt,qt⟩:=ha
 obtain⟨u,pu,qu⟩:=hb
 refine⟨_,zwf pt pu,λF0 B F H ρ σ r Q rs e w=>?_⟩
 obtain⟨x,h1,h2⟩:=aY e
 refine qt F0 B F H ρ σ x _ rs h1 λF1 H1 x1=>?_
 cases x with
 |true=>cases h2;rw[if_pos rfl];exact w F1 H1 x1
 |false=>rw[if_neg aQ];exact qu F0 B F1 H1 ρ σ r _ (rs.ext x1) h2 λF2 H2 x2=>w F2 H2 (x1.trans x2)
theorem v5 (ha:XT X ct ms a p):XT X ct ms (.UnaryOp .Not a pos) (bNot p):=by
 obtain⟨t,pt,qt⟩:=ha
 refine⟨_,zuf pt,λF0 B F H ρ σ r Q rs e w=>?_⟩
 obtain⟨x,h1,h2⟩:=aY e
 cases h2
 exact qt F0 B F H ρ σ x _ rs h1 λF1 H1 x1=>w F1 H1 x1
theorem UI (ha:XE X ct ms n a f):XE X ct ms k (.UnaryOp .Not a pos) (eB (bNot (tb f))):=by
 obtain⟨t,pt,qt⟩:=ha
 refine⟨_,zui pt,λF0 B F H ρ σ r Q rs e w=>?_⟩
 obtain⟨x,h1,h2⟩:=aY e
 obtain⟨y,h3,h4⟩:=aY h1
 obtain⟨z,h5,h6⟩:=aY h3
 cases h2;cases h4
 rw[zC h6]at h5
 exact qt F0 B F H ρ σ _ _ rs h5 λv F1 H1 x1 l=>⟨y,l.bl,w _ F1 H1 x1 (Al.of (.bl _))⟩
theorem tU {op}(ha:XE X ct ms n a f):XE X ct ms k (.BoolOp op [a] pos) (eB (tb f)):=by
 obtain⟨t,pt,qt⟩:=ha
 refine⟨_,zug pt,λF0 B F H ρ σ r Q rs e w=>?_⟩
 obtain⟨y,h3,h4⟩:=aY e
 obtain⟨z,h5,h6⟩:=aY h3
 cases h4
 rw[zC h6]at h5
 exact qt F0 B F H ρ σ _ _ rs h5 λv F1 H1 x1 l=>w _ F1 H1 x1 (by rw[l.bl];exact Al.of (.bl _))
theorem vE {rest:List Expr}(ha:XE X ct ms n a f)(hb:XE X ct ms k (.BoolOp .And (b::rest) pos) (eB q)):XE X ct ms k (.BoolOp .And (a::b::rest) pos) (eB (bAnd (tb f) q)):=by
 obtain⟨t,pt,qt⟩:=ha
 obtain⟨u,pu,qu⟩:=hb
 refine⟨_,zuh pt pu,λF0 B F H ρ σ r Q rs e w=>?_⟩
 obtain⟨y,h3,h4⟩:=aY e
 obtain⟨x,h1,h2⟩:=aY h3
 obtain⟨z,h5,h6⟩:=aY h1
 cases h4
 rw[zC h6]at h5
 refine qt F0 B F H ρ σ _ _ rs h5 λv F1 H1 x1 l=>⟨x,l.bl,?_⟩
 cases x with
 |true=>rw[if_pos rfl];exact qu F0 B F1 H1 ρ σ _ _ (rs.ext x1) (show(q ρ).bind _=_ by rw[if_pos rfl]at h2;rw[h2];rfl) λv F2 H2 x2 l=>w v F2 H2 (x1.trans x2) l
 |false=>rw[if_neg aQ]at h2 ⊢;cases h2;exact w _ F1 H1 x1 (Al.of (.bl _))
theorem zwr {rest:List Expr}(ha:XE X ct ms n a f)(hb:XE X ct ms k (.BoolOp .Or (b::rest) pos) (eB q)):XE X ct ms k (.BoolOp .Or (a::b::rest) pos) (eB (bOr (tb f) q)):=by
 obtain⟨t,pt,qt⟩:=ha
 obtain⟨u,pu,qu⟩:=hb
 refine⟨_,zwg pt pu,λF0 B F H ρ σ r Q rs e w=>?_⟩
 obtain⟨y,h3,h4⟩:=aY e
 obtain⟨x,h1,h2⟩:=aY h3
 obtain⟨z,h5,h6⟩:=aY h1
 cases h4
 rw[zC h6]at h5
 refine qt F0 B F H ρ σ _ _ rs h5 λv F1 H1 x1 l=>⟨x,l.bl,?_⟩
 cases x with
 |true=>rw[if_pos rfl]at h2 ⊢;cases h2;exact w _ F1 H1 x1 (Al.of (.bl _))
 |false=>rw[if_neg aQ];exact qu F0 B F1 H1 ρ σ _ _ (rs.ext x1) (show(q ρ).bind _=_ by rw[if_neg aQ]at h2;rw[h2];rfl) λv F2 H2 x2 l=>w v F2 H2 (x1.trans x2) l
theorem KS (hc:XT X ct ms c p)(ha:XE X ct ms k a f)(hb:XE X ct ms k b g):XE X ct ms k (.IfExp c a b pos) (eIf p f g):=by
 obtain⟨s,ps,qs⟩:=hc
 obtain⟨t,pt,qt⟩:=ha
 obtain⟨u,pu,qu⟩:=hb
 refine⟨_,zon ps pt pu,λF0 B F H ρ σ r Q rs e w=>?_⟩
 obtain⟨x,h1,h2⟩:=aY e
 refine qs F0 B F H ρ σ x _ rs h1 λF1 H1 x1=>?_
 cases x with
 |true=>rw[if_pos rfl]at h2 ⊢;exact qt F0 B F1 H1 ρ σ _ _ (rs.ext x1) h2 λv F2 H2 x2 l=>w v F2 H2 (x1.trans x2) l
 |false=>rw[if_neg aQ]at h2 ⊢;exact qu F0 B F1 H1 ρ σ _ _ (rs.ext x1) h2 λv F2 H2 x2 l=>w v F2 H2 (x1.trans x2) l
theorem vF {es:List Expr}{fs:Env->Option (List D)}{x1}(h:C2 X ct ms k es fs)(hl:es.length<=1000:=by decide):XO X ct ms (k+1) (.Tuple es x1 pos) (λρ=>(fs ρ).bind λds=>some (.tup ds)):=by
 obtain⟨t,pt,lt,qt⟩:=h
 refine⟨_,zuu pt,λF0 B F H ρ σ r Q rs e w=>?_⟩
 obtain⟨ds,h1,h2⟩:=aY e
 cases h2
 refine qt F0 B F H ρ σ ds _ rs h1 λvs F1 H1 fp x1 l nd hf=>⟨?_,λp hp=>?_⟩
 ·rw[←l.length,lt _ _ h1];exact small hl
 ·have x2:=gD.newS x1.fh hp (.tup vs)
  exact w _ _ _ fp (x1.trans x2) (.inr (.tup yt (l.mono λ_ _ _ _ o=>o.ext x2))) nd hf
theorem OwL.cellsOf {K:ae}{F H:Hp}{ds:List D}{vs:List V}{fp:List ai}(l:OwL (Ow K ct F H k) ds vs fp):∀a∈fp,F a=none/\∃o,H a=some o:=Ow.cells.OwL.cells (λd v f q=>Ow.cells q) l
theorem Ua {K:ae}{F H:Hp}{ds:List D}{vs:List V}{fp:List ai}{p:ai}(s:ce F H)(l:OwL (Ow K ct F H k) ds vs fp)(hp:H p=none):Ow K ct F (d4 H p (.lst vs)) (k+1) (.lst ds) (.ref p) (p::fp)/\(fp.Nodup->(p::fp).Nodup) :=
 ⟨.inr (.lst (s.free hp) yt (l.mono λ_ _ _ _ o=>o.ext (gD.newO s hp _))),λnd=>bP.mpr ⟨λz=>(by
  obtain⟨_,o,ho⟩:=OwL.cellsOf l p z
  rw[hp]at ho
  cases ho),nd⟩⟩
theorem rY {es:List Expr}{fs:Env->Option (List D)}(h:C2 X ct ms k es fs)(hl:es.length<=1000:=by decide):XO X ct ms (k+1) (.List es pos) (λρ=>(fs ρ).bind λds=>some (.lst ds)):=by
 obtain⟨t,pt,lt,qt⟩:=h
 refine⟨_,zuv pt,λF0 B F H ρ σ r Q rs e w=>?_⟩
 obtain⟨ds,h1,h2⟩:=aY e
 cases h2
 refine qt F0 B F H ρ σ ds _ rs h1 λvs F1 H1 fp x1 l nd hf=>⟨?_,λp hp=>?_⟩
 ·rw[←l.length,lt _ _ h1];exact small hl
 ·obtain⟨o,n2⟩:=Ua x1.fh l hp
  refine w _ _ _ (p::fp) (x1.trans (gD.newO x1.fh hp _)) o (n2 nd) λz hz=>?_
  rcases aF.mp hz with rfl|hz
  ·exact x1.hh.free hp
  ·exact hf z hz
theorem OH:XO X ct ms (k+1) (.Dict [] [] pos) (eC (.dK [] [])):=by
 refine⟨_,zo2,λF0 B F H ρ σ r Q rs e w p hp=>?_⟩
 cases e
 refine w _ F _ [p] (gD.newO rs.fh hp _) (.inr (wK.dK (vs:=[]) (rs.fh.free hp) yt rfl .nil)) (by simp) λz hz=>?_
 rw[az]at hz;subst hz;exact hp
def gE (K:ae)(ct:Nat->ai)(pm:List Nat)(rk:Nat)(m:List D->Option D):Sp:=λvs H Q _=>∃(F:Hp) (ds:List D) (d:D),ce F H/\jF K ct F H pm ds vs/\m ds=some d /\
 ∀v F' H' fp,gD F H F' H'->Ow K ct F' H' rk d v fp->fp.Nodup->(∀a∈fp,H a=none)->Q v H'
theorem gE.len {K:ae}{ct:Nat->ai}{pm:List Nat}{rk:Nat}{m:List D->Option D}{ps:List aX}(h:pm.length=ps.length):∀vs H Q E,gE K ct pm rk m vs H Q E->vs.length=ps.length:=by
 rintro vs H Q E ⟨F,ds,d,_,l,_⟩
 rw[l.length,h]
variable {kk:Nat}{fa:ai}{fd:aK}{ps:List aX}{pm:List Nat}{rk:Nat}{mf:List D->Option D}{x:aX}{pp:dF}
theorem zsc {es:List Expr}{ns nd:List Nat}{fs:Env->Option (List D)}{jG:List V}{oA:List D}{oB:List af}(Fn:cH X.prog X.w X.K X.mg X.base eU kk fa fd ps (gE X.K ct (ns++nd) rk mf))(hr:eR kk X.A)(hg:Gl X x)(hm:X.mg x=some (.ref fa))(hk:aq X.K (.ref fa)=true)
  (hb:bR X.K fd ps oB) (hd:ck jG oB) (Bc:∀F G,jF X.K ct F G nd oA jG) (ha:XA X ct ms (e::es) ns fs)
  (lU:(x==("__debug__":aX))=false:=by decide) (he:ay (e::es) X.env=(false,bY e X.env)::ay es X.env:=by rfl) (iW:(cQ pos (ay es X.env)).any (·.1)=false:=by rfl) :
  XO X ct ms rk (.Call (.Name x pp) (e::es) [] pos) (λρ=>(fs ρ).bind λds=>mf (ds++oA)):=by
 obtain⟨t,pt,_,qt⟩:=ha
 refine⟨_,TL Fn hr hg hm hk hb hd oG pt lU he iW,λF0 B F H ρ σ r Q rs e w=>?_⟩
 obtain⟨ds,h1,h2⟩:=aY e
 refine qt F0 B F H ρ σ ds _ rs h1 λvs F1 H1 x1 l=>⟨F1,ds++oA,r,x1.fh,jF.append (Bc F1 H1) l,h2,λv F2 H2 fp x2 o nd hf=>?_⟩
 exact w v F2 H2 fp (x1.trans x2) o nd λz hz=>x1.hh.free (hf z hz)
theorem ud {es:List Expr}{ns:List Nat}{fs:Env->Option (List D)}{id:String}{r:List V->Hp->VK->Prop}{op:List D->Option D}(hc:eK X (.builtin id) r)(hs:wJ X.K ct ns k r op)(hg:Gl X x)(hm:X.mg x=none)(hv:bO x=some (.builtin id))(ha:XA X ct ms (e::es) ns fs)
  (hn:x≠"__name__":=by decide) (lU:(x==("__debug__":aX))=false:=by decide) (he:ay (e::es) X.env=(false,bY e X.env)::ay es X.env:=by rfl) (iW:(cQ pos (ay es X.env)).any (·.1)=false:=by rfl) :
  XE X ct ms k (.Call (.Name x pp) (e::es) [] pos) (eN op fs):=by
 obtain⟨t,pt,_,qt⟩:=ha
 refine⟨_,IP hc hg hm hv pt hn lU he iW,λF0 B F H ρ σ r Q rs e w=>?_⟩
 obtain⟨ds,h1,h2⟩:=aY e
 exact qt F0 B F H ρ σ ds _ rs h1 λvs F1 H1 x1 l=>hs F1 H1 vs ds r Q x1.fh l h2 λv F2 H2 x2 l2=>w v F2 H2 (x1.trans x2) l2
theorem OI {es:List Expr}{ns:List Nat}{fs:Env->Option (List D)}{id:String}{r:List V->Hp->VK->Prop}{op:List D->Option D}(hc:eK X (.builtin id) r)(hs:uA X.K ct ns k r op)(hg:Gl X x)(hm:X.mg x=none)(hv:bO x=some (.builtin id))(ha:XA X ct ms (e::es) ns fs)
  (hn:x≠"__name__":=by decide) (lU:(x==("__debug__":aX))=false:=by decide) (he:ay (e::es) X.env=(false,bY e X.env)::ay es X.env:=by rfl) (iW:(cQ pos (ay es X.env)).any (·.1)=false:=by rfl) :
  XO X ct ms k (.Call (.Name x pp) (e::es) [] pos) (eN op fs):=by
 obtain⟨t,pt,_,qt⟩:=ha
 refine⟨_,IP hc hg hm hv pt hn lU he iW,λF0 B F H ρ σ r Q rs e w=>?_⟩
 obtain⟨ds,h1,h2⟩:=aY e
 exact qt F0 B F H ρ σ ds _ rs h1 λvs F1 H1 x1 l=>hs F1 H1 vs ds r Q x1.fh l h2 λv F2 H2 fp x2 l2 nd hf=>w v F2 H2 fp (x1.trans x2) l2 nd λz hz=>x1.hh.free (hf z hz)
theorem zmn {es:List Expr}{ns:List Nat}{fs:Env->Option (List D)}{id:String}{r:List V->Hp->VK->Prop}{op:List D->Option D}(hc:eK X (.type id) r)(hs:wJ X.K ct ns k r op)(hg:Gl X x)(hm:X.mg x=none)(hv:bO x=some (.type id))(ha:XA X ct ms (e::es) ns fs)
  (hn:x≠"__name__":=by decide) (lU:(x==("__debug__":aX))=false:=by decide) (he:ay (e::es) X.env=(false,bY e X.env)::ay es X.env:=by rfl) (iW:(cQ pos (ay es X.env)).any (·.1)=false:=by rfl) :
  XE X ct ms k (.Call (.Name x pp) (e::es) [] pos) (eN op fs):=by
 obtain⟨t,pt,_,qt⟩:=ha
 refine⟨_,Oq hc hg hm hv pt hn lU he iW,λF0 B F H ρ σ r Q rs e w=>?_⟩
 obtain⟨ds,h1,h2⟩:=aY e
 exact qt F0 B F H ρ σ ds _ rs h1 λvs F1 H1 x1 l=>hs F1 H1 vs ds r Q x1.fh l h2 λv F2 H2 x2 l2=>w v F2 H2 (x1.trans x2) l2
theorem OB {es:List Expr}{ns:List Nat}{fs:Env->Option (List D)}{id:String}{r:List V->Hp->VK->Prop}{op:List D->Option D}(hc:eK X (.type id) r)(hs:uA X.K ct ns k r op)(hg:Gl X x)(hm:X.mg x=none)(hv:bO x=some (.type id))(ha:XA X ct ms (e::es) ns fs)
  (hn:x≠"__name__":=by decide) (lU:(x==("__debug__":aX))=false:=by decide) (he:ay (e::es) X.env=(false,bY e X.env)::ay es X.env:=by rfl) (iW:(cQ pos (ay es X.env)).any (·.1)=false:=by rfl) :
  XO X ct ms k (.Call (.Name x pp) (e::es) [] pos) (eN op fs):=by
 obtain⟨t,pt,_,qt⟩:=ha
 refine⟨_,Oq hc hg hm hv pt hn lU he iW,λF0 B F H ρ σ r Q rs e w=>?_⟩
 obtain⟨ds,h1,h2⟩:=aY e
 exact qt F0 B F H ρ σ ds _ rs h1 λvs F1 H1 x1 l=>hs F1 H1 vs ds r Q x1.fh l h2 λv F2 H2 fp x2 l2 nd hf=>w v F2 H2 fp (x1.trans x2) l2 nd λz hz=>x1.hh.free (hf z hz)
def cC (cs:List Nat)(x:aX):D->Option D
 |.obj c ns ds=>if cs.contains c=true then(ns.zip ds).lookup x else none
 |_=>none
theorem Se {R:D->V->Prop}{x:aX}{d:D}:∀{ns:List aX} {ds:List D} {vs:List V},Pr R ds vs->(ns.zip ds).lookup x=some d->∃v,(ns.zip vs).lookup x=some v/\R d v
 |[],_,_,_,e=>by simp at e
 |_::_,_,_,.nil,e=>by simp at e
 |y::ns,_,_,.cons h t,e=>by
  rw[gb,bv]at e
  rw[gb,bv]
  cases q:x==y with
  |true=>rw[q]at e;cases e;exact⟨_,rfl,h⟩
  |false=>rw[q]at e;exact Se t e
theorem OJ {vs:List V}{x:aX}:∀{ns:List aX} {vs:List V},ns.contains x=false->(ns.zip vs).lookup x=none
 |[],_,_=>by simp
 |_::_,[],_=>by simp
 |y::ns,_::vs,h=>by
  rw[sf,qJ]at h
  rw[gb,bv,h.1]
  exact OJ (vs:=vs) h.2
theorem yg {x:aX}{cs:List Nat}(he:XE X ct ms n e f)(hc:∀c∈cs,lH X.K (ct c)/\gj X.K (ct c) x)(hb:fG e x X.env (bY e X.env)=bY e X.env):XE X ct ms (n-1) (.Attribute e x pos) (e1 (cC cs x) f):=by
 obtain⟨t,pt,qt⟩:=he
 refine⟨_,zus pt hb,λF0 B F H ρ σ r Q rs e w=>?_⟩
 obtain⟨o,h1,h2⟩:=aY e
 refine qt F0 B F H ρ σ o _ rs h1 λv F1 H1 x1 l=>?_
 cases o with
 |obj c ns ds=>
  obtain⟨a,dx,vs,rfl,ha,hl,Fu⟩:=l.obj x1.fh
  unfold cC at h2
  dsimp only at h2
  by_cases A8:cs.contains c=true
  ·rw[if_pos A8]at h2
   obtain⟨u,hu,du⟩:=Se Fu h2
   have hh:=hc c (by simpa using A8)
   exact⟨a,_,dx,_,u,rfl,ha,hh.1,hh.2,hu,w u F1 H1 x1 du⟩
  ·rw[if_neg A8]at h2;cases h2
 |_=>cases h2
def kD (c0:Nat)(m:aX)(mf:List D->Option D)(o:D)(ds:List D):Option D:=match o with
 |.obj c ns _=>if c=c0/\ns.contains m=false then mf (o::ds)else none
 |_=>none
theorem zsd {o:Expr}{x:aX}{ez:dF}{pl:pE Bool}{es:List Expr}{ns nd:List Nat}{fs:Env->Option (List D)}{jG:List V}{oA:List D}{oB:List af}{c0:Nat}(ho:XE X ct ms n o f)(c:lH X.K (ct c0))(hm:qW X.K (ct c0) x fa)(Fn:cH X.prog X.w X.K X.mg X.base eU kk fa fd ps (gE X.K ct (n::(ns++nd)) rk mf))(hr:eR kk X.A)
  (hb:bR X.K fd ps oB) (hd:ck jG oB) (Bc:∀F G,jF X.K ct F G nd oA jG) (ha:XA X ct ms (e::es) ns fs)
  (lK:ay (e::es) X.env=(false,bY e X.env)::ay es X.env:=by rfl) (iW:(cQ pos (ay es X.env)).any (·.1)=false:=by rfl)
  (ht:bY (.Call (.Attribute o x ez) (e::es) [] pos) X.env=(do
   let ov ← bY o X.env
   iM ez.atName
   let(f,first) ← fq [ov] (hU ov x pl)
   ka pos f first (cQ pos (ay (e::es) X.env)) (fR pos (dR [] X.env))):=by rfl) :
  XO X ct ms rk (.Call (.Attribute o x ez) (e::es) [] pos) (λρ=>(f ρ).bind λo=>(fs ρ).bind λds=>kD c0 x mf o (ds++oA)):=by
 obtain⟨u,pu,qu⟩:=ho
 obtain⟨t,pt,_,qt⟩:=ha
 refine⟨_,zry pu c hm Fn hr hb hd oG pt lK iW ht,λF0 B F H ρ σ r Q rs e w=>?_⟩
 obtain⟨o,ds,h1,h2,h3⟩:=dP e
 refine qu F0 B F H ρ σ o _ rs h1 λv F1 H1 x1 l=>?_
 cases o with
 |obj c1 pA qZ=>
  unfold kD at h3
  dsimp only at h3
  split at h3
  ·rename_i hc
   obtain⟨rfl,gG⟩:=hc
   obtain⟨a,dx,vs,rfl,ha,hl,Fu⟩:=l.obj x1.fh
   refine⟨a,dx,_,rfl,ha,OJ (vs:=vs) gG,?_⟩
   refine qt F0 B F1 H1 ρ σ ds _ (rs.ext x1) h2 λus F2 H2 x2 l2=>⟨F2,_,r,x2.fh,.cons (l.mono x2.ff x2.hh) (jF.append (Bc F2 H2) l2),h3,λv F3 H3 fp x3 o nd hf=>?_⟩
   exact w v F3 H3 fp ((x1.trans x2).trans x3) o nd λz hz=>(x1.trans x2).hh.free (hf z hz)
  ·cases h3
 |_=>cases h3
theorem zo5 {o:Expr}{x:aX}{ez:dF}{pl:pE Bool}{nd:List Nat}{jG:List V}{oA:List D}{oB:List af}{c0:Nat}(ho:XE X ct ms n o f)(c:lH X.K (ct c0))(hm:qW X.K (ct c0) x fa)(Fn:cH X.prog X.w X.K X.mg X.base eU kk fa fd ps (gE X.K ct (n::nd) rk mf))(hr:eR kk X.A)
  (hb:bR X.K fd ps oB) (hd:ck jG oB) (Bc:∀F G,jF X.K ct F G nd oA jG)
  (ht:bY (.Call (.Attribute o x ez) [] [] pos) X.env=(do
   let ov ← bY o X.env
   iM ez.atName
   let(f,first) ← fq [ov] (hU ov x pl)
   ka pos f first (cQ pos (ay [] X.env)) (fR pos (dR [] X.env))):=by rfl) :
  XO X ct ms rk (.Call (.Attribute o x ez) [] [] pos) (λρ=>(f ρ).bind λo=>kD c0 x mf o oA):=by
 obtain⟨u,pu,qu⟩:=ho
 refine⟨_,zov pu c hm Fn hr hb hd oG ht,λF0 B F H ρ σ r Q rs e w=>?_⟩
 obtain⟨o,h1,h3⟩:=aY e
 refine qu F0 B F H ρ σ o _ rs h1 λv F1 H1 x1 l=>?_
 cases o with
 |obj c1 pA qZ=>
  unfold kD at h3
  dsimp only at h3
  split at h3
  ·rename_i hc
   obtain⟨rfl,gG⟩:=hc
   obtain⟨a,dx,vs,rfl,ha,hl,Fu⟩:=l.obj x1.fh
   refine⟨a,dx,_,rfl,ha,OJ (vs:=vs) gG,F1,_,r,x1.fh,.cons l (Bc F1 H1),h3,λv F3 H3 fp x3 o nd hf=>?_⟩
   exact w v F3 H3 fp (x1.trans x3) o nd λz hz=>x1.hh.free (hf z hz)
  ·cases h3
 |_=>cases h3
end
end L3
namespace L3
open PySem PySem.Spec L2
open PyProof.Rows hiding St
inductive Out where
 |nx (ρ:Env)|rt (d:D)|bk (ρ:Env)|ct (ρ:Env)
abbrev SF:=Env->Option Out
def my (K:ae)(cl:Nat->ai)(F0 B:Hp)(ms:List Mo)(rk:Nat)(E:lQ):Out->Prop
 |.nx ρ=>∀σ F H,RS K cl F0 B ms F H ρ σ->E.nx σ H
 |.bk ρ=>∀σ F H,RS K cl F0 B ms F H ρ σ->E.bk σ H
 |.ct ρ=>∀σ F H,RS K cl F0 B ms F H ρ σ->E.ct σ H
 |.rt d=>∀v F H fp,ce F0 F->ce B H->ce F H->(∀a o,B a=some o->F0 a=none->F a=none)->Ow K cl F H rk d v fp->fp.Nodup->(∀a∈fp,B a=none)->E.rt v H
section
variable (X:Cx)(ct:Nat->ai)(ms:List Mo)(rk:Nat)
def XS (st:bT)(f:SF):Prop:=∃t,PS X st t/\∀(F0 B F H:Hp) (ρ:Env) (σ:St) (o:Out) (E:lQ),RS X.K ct F0 B ms F H ρ σ->f ρ=some o->my X.K ct F0 B ms rk E o->t E σ H
def sJ (st:List bT)(f:SF):Prop:=∃t,qY X st t/\∀(F0 B F H:Hp) (ρ:Env) (σ:St) (o:Out) (E:lQ),RS X.K ct F0 B ms F H ρ σ->f ρ=some o->my X.K ct F0 B ms rk E o->t E σ H
end
def sSkip:SF:=λρ=>some (.nx ρ)
def sSeq (f g:SF):SF:=λρ=>(f ρ).bind λo=>match o with
 |.nx ρ'=>g ρ'
 |o=>some o
def sIf (c:BF)(f g:SF):SF:=λρ=>(c ρ).bind λb=>if b=true then f ρ else g ρ
def sSet (i:Nat)(f:EF):SF:=λρ=>(f ρ).bind λd=>some (.nx (ρ.set i (some d)))
def sRet (f:EF):SF:=λρ=>(f ρ).bind λd=>some (.rt d)
def sRetN:SF:=λ_=>some (.rt .non)
def sDrop (f:EF):SF:=λρ=>(f ρ).bind λ_=>some (.nx ρ)
def o8:SF:=λ_=>none
def mK:Nat:=2 ^ 9000
def iK (c:BF)(b:SF):Nat->SF
 |0,_=>none
 |n+1,ρ=>(c ρ).bind λt=>if t=true then(b ρ).bind λo=>match o with
   |.nx ρ'=>iK c b n ρ'
   |.ct ρ'=>iK c b n ρ'
   |.bk ρ'=>some (.nx ρ')
   |.rt d=>some (.rt d)
  else some (.nx ρ)
def gM (c:BF)(b:SF):SF:=iK c b mK
def fQ (g:D->Env->Option Env)(b:SF):List D->SF
 |[],ρ=>some (.nx ρ)
 |d::ds,ρ=>(g d ρ).bind λρ1=>(b ρ1).bind λo=>match o with
   |.nx ρ'=>fQ g b ds ρ'
   |.ct ρ'=>fQ g b ds ρ'
   |.bk ρ'=>some (.nx ρ')
   |.rt d=>some (.rt d)
def sFor (f:Env->Option (List D))(g:D->Env->Option Env)(b:SF):SF:=λρ=>(f ρ).bind λds=>fQ g b ds ρ
section
variable {X:Cx}{ct:Nat->ai}{ms:List Mo}{rk n m k:Nat}{st:bT}{rest:List bT}{a b c e:Expr}{f g h:EF}{p q:BF}{u w:SF}{pos:dF}
theorem zx:sJ X ct ms rk [] sSkip:=⟨_,zrn,λF0 B F H ρ σ o E rs e w=>by cases e;exact w σ F H rs⟩
theorem zf (h1:XS X ct ms rk st u)(h2:sJ X ct ms rk rest w):sJ X ct ms rk (st::rest) (sSeq u w):=by
 obtain⟨t,pt,qt⟩:=h1
 obtain⟨t2,nE,rA⟩:=h2
 refine⟨_,Te pt nE,λF0 B F H ρ σ o E rs e z=>?_⟩
 obtain⟨o1,e1,e2⟩:=aY e
 refine qt F0 B F H ρ σ o1 _ rs e1 ?_
 cases o1 with
 |nx ρ'=>exactλσ' F' H' ND=>rA F0 B F' H' ρ' σ' o E ND e2 z
 |rt d=>cases e2;exact z
 |bk ρ'=>cases e2;exact z
 |ct ρ'=>cases e2;exact z
theorem zh (h1:XS X ct ms rk st u):sJ X ct ms rk [st] u:=by
 obtain⟨t,pt,qt⟩:=h1
 exact⟨_,TR pt,qt⟩
theorem OK:XS X ct ms rk st o8:=⟨_,zoo,λF0 B F H ρ σ o E rs e w=>by cases e⟩
theorem zl (he:XO X ct ms rk e f):XS X ct ms rk (.Return (some e) pos) (sRet f):=by
 obtain⟨t,pt,qt⟩:=he
 refine⟨_,Po pt,λF0 B F H ρ σ o E rs e w=>?_⟩
 obtain⟨d,h1,h2⟩:=aY e
 cases h2
 refine qt F0 B F H ρ σ d _ rs h1 λv F' H' fp x l nd hf=>?_
 have r:=rs.ext x
 exact w v F' H' fp r.f0 r.bh r.fh r.nf l nd λz hz=>rs.bh.free (hf z hz)
theorem wf {Rw vU:List bT}(hc:XT X ct ms c p)(h1:sJ X ct ms rk Rw u)(h2:sJ X ct ms rk vU w):XS X ct ms rk (.If c Rw vU pos) (sIf p u w):=by
 obtain⟨t,pt,qt⟩:=hc
 obtain⟨t1,BG,BI⟩:=h1
 obtain⟨t2,nE,rA⟩:=h2
 refine⟨_,zwh pt BG nE,λF0 B F H ρ σ o E rs e z=>?_⟩
 obtain⟨x,h1,h2⟩:=aY e
 refine qt F0 B F H ρ σ x _ rs h1 λF1 H1 x1=>?_
 cases x with
 |true=>rw[if_pos rfl]at h2 ⊢;exact BI F0 B F1 H1 ρ σ o E (rs.ext x1) h2 z
 |false=>rw[if_neg aQ]at h2 ⊢;exact rA F0 B F1 H1 ρ σ o E (rs.ext x1) h2 z
theorem RS.put {K:ae}{F0 B F H F' H':Hp}{ρ:Env}{σ:St}{i:Nat}(rs:RS K ct F0 B ms F H ρ σ)(hm:ms[i]?=some (.ow k)) :
  ∃f1 fr:List ai,f1.Nodup/\(∀a∈f1,B a=none)/\(∀a∈f1,a∉fr)/\(∀d,ρ[i]?=some (some d)->∃v,σ[i]?=some (some v)/\Ow K ct F H k d v f1)/\(∀a∈fr,F a=none/\∃o,H a=some o) /\
   ∀(F' H':Hp) (d':D) (v':V) (f':List ai),ce F F'->ce B H'->ce F' H'->(∀a o,B a=some o->F0 a=none->F' a=none)->(∀a∈fr,H' a=H a/\F' a=none)->Ow K ct F' H' k d' v' f'->f'.Nodup->(∀a∈f',a∉fr)->(∀a∈f',B a=none) ->
    RS K ct F0 B ms F' H' (ρ.set i (some d')) (σ.set i (some v')):=by
 obtain⟨fp,sl,nd,hb⟩:=rs.sl
 obtain⟨f1,fr,i1,i2,i3,i4,i5⟩:=sl.put hm
 obtain⟨n1,n2,n3⟩:=i3 nd
 refine⟨f1,fr,n1,λa z=>hb a (i1 a z),n3,i4,λa z=>sl.cells a (i2 a z),λF' H' d' v' f' s1 s2 s3 s4 kf o Yh dj Xc=>?_⟩
 obtain⟨iD,q1,q2,q3⟩:=i5 F' H' d' v' f' s1 kf o
 exact⟨rs.f0.trans s1,s2,s3,s4,iD,q1,q3 Yh n2 dj,λa z=>(q2 a z).elim (Xc a) λz=>hb a (i2 a z)⟩
theorem RS.set {K:ae}{F0 B F H F' H':Hp}{ρ:Env}{σ:St}{i:Nat}{d:D}{v:V}{fp:List ai}(rs:RS K ct F0 B ms F H ρ σ)(hm:ms[i]?=some (.ow k))(x:gD F H F' H')(o:Ow K ct F' H' k d v fp)(nd:fp.Nodup)(hf:∀a∈fp,H a=none) :
  RS K ct F0 B ms F' H' (ρ.set i (some d)) (σ.set i (some v)):=by
 have r:=rs.ext x
 obtain⟨f1,fr,n1,b1,n3,i4,cf,put⟩:=rs.put (F':=F') (H':=H') hm
 refine put F' H' d v fp x.ff r.bh x.fh r.nf (λa z=>?_) o nd (λa z zb=>?_) λa z=>rs.bh.free (hf a z)
 ·obtain⟨hn,o,ho⟩:=cf a z
  exact⟨(x.hh _ _ ho).trans ho.symm,x.nf a o ho hn⟩
 ·obtain⟨hn,o,ho⟩:=cf a zb
  rw[hf a z]at ho
  cases ho
theorem zu8 {i:Nat}{x:aX}{pos':dF}(hm:ms[i]?=some (.ow k))(hN:X.N.Nodup)(hi:X.N[i]?=some x)(hx:Loc X.env.scope x)(he:XO X ct ms k e f)(hs:eh e (some (.Name x pos')) pos.line X.env=pure false:=by rfl)
  (hf:X.fn x=true\/X.env.scope.names.lookup x=some .local:=by first|exact .inl rfl|exact .inr rfl|assumption):XS X ct ms rk (.Assign [.Name x pos'] e pos) (sSet i f):=by
 obtain⟨t,pt,qt⟩:=he
 refine⟨_,UR hN hi hx pt hs hf,λF0 B F H ρ σ o E rs e w=>?_⟩
 obtain⟨d,h1,h2⟩:=aY e
 cases h2
 exact qt F0 B F H ρ σ d _ rs h1 λv F' H' fp x l nd hf=>w _ F' H' (rs.set hm x l nd hf)
theorem CD (hc:XT X ct ms c p)(hb:sJ X ct ms rk rest u)(hp:cn (bi X.prog X.w) X.A X.env X.xe):XS X ct ms rk (.While c rest [] pos) (gM p u):=by
 obtain⟨t,pt,qt⟩:=hc
 obtain⟨t1,BG,BI⟩:=hb
 refine⟨_,zop hp pt BG,λF0 B F H ρ σ o E rs e z=>?_⟩
 refine⟨λm σ H=>∃F ρ,RS X.K ct F0 B ms F H ρ σ/\iK p u m ρ=some o,⟨mK,F,ρ,rs,e⟩,?_⟩
 rintro m σ H ⟨F,ρ,rs,e⟩
 cases m with
 |zero=>cases e
 |succ m=>
  obtain⟨x,h1,h2⟩:=aY e
  refine qt F0 B F H ρ σ x _ rs h1 λF1 H1 x1=>?_
  cases x with
  |true=>
   rw[if_pos rfl]at h2 ⊢
   obtain⟨o1,h3,h4⟩:=aY h2
   refine⟨λσ H=>∃F ρ,RS X.K ct F0 B ms F H ρ σ/\iK p u m ρ=some o,λσ' H' h=>⟨m,jB m,h⟩,?_⟩
   refine BI F0 B F1 H1 ρ σ o1 _ (rs.ext x1) h3 ?_
   cases o1 with
   |nx ρ'=>exactλσ' F' H' r=>⟨F',ρ',r,h4⟩
   |ct ρ'=>exactλσ' F' H' r=>⟨F',ρ',r,h4⟩
   |bk ρ'=>cases h4;exact z
   |rt d=>cases h4;exact z
  |false=>
   rw[if_neg aQ]at h2 ⊢
   cases h2
   exact z σ F1 H1 (rs.ext x1)
theorem RS.re {K:ae}{F0 B F H:Hp}{ρ:Env}{σ:St}(r:RS K ct F0 B ms F H ρ σ):RS K ct F B ms F H ρ σ:=⟨.refl _,r.bh,r.fh,λ_ _ _ h=>h,r.sl⟩
theorem RS.back {K:ae}{F0 B F H F' H':Hp}{ρ ρ':Env}{σ σ':St}(r:RS K ct F0 B ms F H ρ σ)(q:RS K ct F B ms F' H' ρ' σ'):RS K ct F0 B ms F' H' ρ' σ' :=
 ⟨r.f0.trans q.f0,q.bh,q.fh,λa o h n=>q.nf a o h (r.nf a o h n),q.sl⟩
theorem my.re {K:ae}{F0 B F H:Hp}{ρ:Env}{σ:St}{E:lQ}{o:Out}(r:RS K ct F0 B ms F H ρ σ)(z:my K ct F0 B ms rk E o):my K ct F B ms rk E o:=by
 cases o with
 |nx ρ=>exactλσ' F' H' q=>z σ' F' H' (r.back q)
 |bk ρ=>exactλσ' F' H' q=>z σ' F' H' (r.back q)
 |ct ρ=>exactλσ' F' H' q=>z σ' F' H' (r.back q)
 |rt d=>exactλv F' H' fp s1 s2 s3 s4=>z v F' H' fp (r.f0.trans s1) s2 s3 λa o h n=>s4 a o h (r.nf a o h n)
def t9 (K:ae)(ct:Nat->ai)(F B:Hp)(n:Nat)(J:It)(ds:List D):Prop :=
 ∀(i:Nat) (F' H':Hp),ce F F'->ce B H'->ce F' H'->(∀d,ds[i]?=some d->J.go i H'/\∀x H2,J.yld i H' x H2->∃F2,gD F' H' F2 H2/\Al K ct F2 B n d x)/\(ds.length<=i->J.stop i H')
def XI (X:Cx)(ct:Nat->ai)(ms:List Mo)(n:Nat)(tg iter:Expr)(f:Env->Option (List D)):Prop:=∃wi,PI X tg iter wi/\∀(F0 B F H:Hp) (ρ:Env) (σ:St) (ds:List D) (R:It->Hp->Prop),RS X.K ct F0 B ms F H ρ σ->f ρ=some ds ->
 (∀J F' H',gD F H F' H'->t9 X.K ct F' B n J ds->R J H')->wi σ H R
def zU (X:Cx)(ct:Nat->ai)(ms:List Mo)(n:Nat)(tg iter:Expr)(f:Env->Option (List D)):Prop:=∃wi,PI X tg iter wi/\∀(F0 B F H:Hp) (ρ:Env) (σ:St) (ds:List D) (R:It->Hp->Prop),RS X.K ct F0 B ms F H ρ σ->f ρ=some ds ->
 (∀J F' H',gD F H F' H'->t9 X.K ct F' H' n J ds->R J H')->wi σ H R
def XG (X:Cx)(ct:Nat->ai)(ms:List Mo)(n:Nat)(tg:Expr)(g:D->Env->Option Env):Prop:=∃t,PG X tg t/\∀(F0 B F H:Hp) (ρ ρ':Env) (σ:St) (d:D) (v:V) (Q:St->Hp->Prop),RS X.K ct F0 B ms F H ρ σ->Al X.K ct F B n d v->g d ρ=some ρ' ->
 (∀σ',RS X.K ct F0 B ms F H ρ' σ'->Q σ' H)->t v σ H Q
theorem jf {tg iter:Expr}{fi:Env->Option (List D)}{gg:D->Env->Option Env}(hi:XI X ct ms n tg iter fi)(hg:XG X ct ms n tg gg)(hb:sJ X ct ms rk rest u)(hp:cn (bi X.prog X.w) X.A X.env X.xe)(hc:X.calm=true)
  (hs:∀x,dX iter X.env x=pure x:=by intro _;rfl):XS X ct ms rk (.For tg iter rest [] pos) (sFor fi gg u):=by
 obtain⟨wi,pi,qi⟩:=hi
 obtain⟨RA,pg,qg⟩:=hg
 obtain⟨t1,BG,BI⟩:=hb
 refine⟨_,zun hp hc pi pg BG hs,λF0 B F H ρ σ o E rs e z=>?_⟩
 obtain⟨ds,h1,h2⟩:=aY e
 refine qi F0 B F H ρ σ ds _ rs h1 λJ F1 H1 x1 ok=>?_
 refine⟨λi m σ H=>m=ds.length-i/\i<=ds.length/\∃F ρ,ce F1 F/\RS X.K ct F0 B ms F H ρ σ/\fQ gg u (ds.drop i) ρ=some o,⟨ds.length,rfl,dr _,F1,ρ,.refl _,rs.ext x1,h2⟩,?_⟩
 rintro i m σ H ⟨rfl,Co,F,ρ,s1,rs,e⟩
 obtain⟨k1,k2⟩:=ok i F H s1 rs.bh rs.fh
 by_cases gK:i<ds.length
 ·right
  have hd:ds[i]?=some ds[i]:=by simp[gK]
  obtain⟨go,yl⟩:=k1 _ hd
  rw[oo gK]at e
  obtain⟨ρ1,h3,h4⟩:=aY e
  obtain⟨o1,h5,h6⟩:=aY h4
  refine⟨go,λσ H=>i+1<=ds.length/\∃F ρ,ce F1 F/\RS X.K ct F0 B ms F H ρ σ/\fQ gg u (ds.drop (i+1)) ρ=some o,λσ' H' h=>⟨ds.length-(i+1),by omega,rfl,h⟩,λx H2 y=>?_⟩
  obtain⟨F2,x2,l⟩:=yl x H2 y
  refine qg F0 B F2 H2 ρ ρ1 σ _ x _ (rs.ext x2) l h3 λσ' r=>?_
  have s2:=s1.trans x2.ff
  refine BI F2 B F2 H2 ρ1 σ' o1 _ r.re h5 ?_
  cases o1 with
  |nx ρ'=>exactλσ' F' H' q=>⟨gK,F',ρ',s2.trans q.f0,r.back q,h6⟩
  |ct ρ'=>exactλσ' F' H' q=>⟨gK,F',ρ',s2.trans q.f0,r.back q,h6⟩
  |bk ρ'=>cases h6;exactλσ' F' H' q=>z σ' F' H' (r.back q)
  |rt d=>cases h6;exact my.re (o:=.rt d) r z
 ·left
  refine⟨k2 (by omega),?_⟩
  have:ds.drop i=[]:=pC (by omega)
  rw[this]at e
  cases e
  exact z σ F H rs
def gV (i:Nat):D->Env->Option Env:=λd ρ=>some (ρ.set i (some d))
theorem zse {i:Nat}{x:aX}(hm:ms[i]?=some (.ow 0))(hN:X.N.Nodup)(hi:X.N[i]?=some x)(hx:Loc X.env.scope x)
  (hf:X.fn x=true\/X.env.scope.names.lookup x=some .local:=by first|exact .inl rfl|exact .inr rfl|assumption):XG X ct ms 0 (.Name x pos) (gV i):=by
 refine⟨_,TU hN hi hx hf,λF0 B F H ρ ρ' σ d v Q rs l e w=>?_⟩
 cases e
 exact w _ (rs.set hm (.refl rs.fh) (Ow.zero l) bQ λa z=>(by cases z))
def Jm (X:Cx)(ct:Nat->ai)(ms:List Mo)(n:Nat)(lD:List Expr)(g:List D->Env->Option Env):Prop:=∃t,Cb X lD t/\(∀ds ρ ρ',g ds ρ=some ρ'->ds.length=lD.length)/\∀(F0 B F H:Hp) (ρ ρ':Env) (σ:St) (ds:List D) (vs:List V) (Q:St->Hp->Prop),RS X.K ct F0 B ms F H ρ σ->Pr (Al X.K ct F B n) ds vs->g ds ρ=some ρ' ->
 (∀σ',RS X.K ct F0 B ms F H ρ' σ'->Q σ' H)->t vs σ H Q
def gsNil:List D->Env->Option Env:=λds ρ=>match ds with
 |[]=>some ρ
 |_=>none
def gsCons (g:D->Env->Option Env)(gs:List D->Env->Option Env):List D->Env->Option Env:=λds ρ=>match ds with
 |d::ds=>(g d ρ).bind λρ'=>gs ds ρ'
 |[]=>none
theorem BX:Jm X ct ms n [] gsNil:=by
 refine⟨_,TV,λds ρ ρ' e=>?_,λF0 B F H ρ ρ' σ ds vs Q rs l e w=>?_⟩
 ·cases ds with
  |nil=>rfl
  |cons d ds=>cases e
 ·cases l with
  |nil=>cases e;exact⟨rfl,w σ rs⟩
  |cons _ _=>cases e
theorem xt {tg:Expr}{lD:List Expr}{gg:D->Env->Option Env}{gs:List D->Env->Option Env}(h1:XG X ct ms n tg gg)(h2:Jm X ct ms n lD gs)
  (hs:(dw (tg::lD) X.env).map (·.2)=iS tg X.env::(dw lD X.env).map (·.2):=by rfl):Jm X ct ms n (tg::lD) (gsCons gg gs):=by
 obtain⟨t,pt,qt⟩:=h1
 obtain⟨t2,nE,Nn,rA⟩:=h2
 refine⟨_,Tf pt nE hs,λds ρ ρ' e=>?_,λF0 B F H ρ ρ' σ ds vs Q rs l e w=>?_⟩
 ·cases ds with
  |nil=>cases e
  |cons d ds=>
   obtain⟨ρ1,h3,h4⟩:=aY e
   rw[aI,aI,Nn _ _ _ h4]
 ·cases l with
  |nil=>cases e
  |cons h t=>
   obtain⟨ρ1,h3,h4⟩:=aY e
   exact⟨_,_,rfl,qt F0 B F H ρ ρ1 σ _ _ _ rs h h3 λσ1 r1=>rA F0 B F H ρ1 ρ' σ1 _ _ _ r1 t h4 w⟩
def gT (gs:List D->Env->Option Env):D->Env->Option Env:=λd ρ=>match d with
 |.tup ds=>gs ds ρ
 |_=>none
theorem B6 {lD:List Expr}{j:Nat}{gs:List D->Env->Option Env}(hc:X.calm=true)(h:Jm X ct ms (n-1) lD gs)(hl:(dw lD X.env).length=lD.length:=by rfl)(lK:(dw lD X.env).findIdx? (·.1)=none:=by rfl):XG X ct ms n (.Tuple lD j pos) (gT gs):=by
 obtain⟨t,pt,lt,qt⟩:=h
 refine⟨_,UP (n:=lD.length) hc pt hl lK,λF0 B F H ρ ρ' σ d v Q rs l e w=>?_⟩
 cases d with
 |tup ds=>
  have l':Al X.K ct F H n (.tup ds) v:=l.mono (.refl _) rs.bh
  have:∃a vs,v=.ref a/\kX X.K H a vs/\Pr (Al X.K ct F B (n-1)) ds vs:=by
   cases n with
   |zero=>
    have l:Dt X.K ct F (.tup ds) v:=l
    cases l with
    |tup q t=>exact⟨_,_,rfl,kX.of (rs.fh _ _ q),t.pr⟩
   |succ n=>
    rcases l with l|l
    ·cases l with
     |tup q t=>exact⟨_,_,rfl,kX.of (rs.fh _ _ q),t.pr.mono λ_ _=>Al.of⟩
    ·cases l with
     |tup q t=>exact⟨_,_,rfl,kX.of (rs.fh _ _ q),t⟩
  obtain⟨a,vs,rfl,ha,hp⟩:=this
  exact⟨a,vs,rfl,ha,hp.length.symm.trans (lt _ _ _ e),qt F0 B F H ρ ρ' σ ds vs Q rs hp e w⟩
 |_=>cases e
def startD (N:List aX)(ds:List D):Env:=ds.map some++aC (N.length-ds.length) none
def mOf (N:List aX)(b:SF)(ds:List D):Option D:=(b (startD N ds)).bind λo=>match o with
 |.rt d=>some d
 |.nx _=>some .non
 |_=>none
theorem SL.start {K:ae}{F B H:Hp}:∀{pm:List Nat} {ds:List D} {vs:List V} {ms:List Mo} (j:Nat),jF K ct F B pm ds vs->(∀(i n:Nat),pm[i]?=some n->ms[i]?=some (Mo.al n)\/(n=0/\ms[i]?=some (Mo.ow 0)))->ms.length=pm.length+j ->
  SL K ct F B H ms (ds.map some++aC j none) (vs.map some++aC j none) []
 |_,_,_,ms,j,.nil,_,hl=>by
  have:∀(j:Nat) (ms:List Mo),ms.length=j->SL K ct F B H ms (aC j none) (aC j none) []:=by
   intro j
   induction j with
   |zero=>intro ms h;cases ms with
    |nil=>exact .nil
    |cons _ _=>simp at h
   |succ j ih=>intro ms h;cases ms with
    |nil=>simp at h
    |cons m ms=>exact .no (ih ms (by simpa using h))
  simpa using this j ms (by simpa using hl)
 |_,_,_,[],j,.cons h t,_,hl=>by simp at hl;omega
 |_,_,_,m::ms,j,.cons (n:=n) h t,hm,hl=>by
  have ih:=SL.start (ms:=ms) (H:=H) j t (λi n e=>by simpa using hm (i+1) n (by simpa using e)) (by simp at hl;omega)
  rcases hm 0 n rfl with e|⟨rfl,e⟩
  ·simp at e;subst e;exact .al h ih
  ·simp at e;subst e;exact SL.ow (f:=[]) (Ow.zero h) ih
structure Fun2 (K:ae)(x qual:aX)(st:bT)(f:ai)(fd:aK):Prop where
 ex:∃(oc:af) (od:Option ai) (dV kV doc pm:af) (an:Option ai) (iC ct:af) (BD:Array (Option af)),
  fd=gY x qual (mS st) (hE st) (aO st) dV kV doc pm an iC ct/\K.lookup f=some ⟨oc,od,.func fd,BD⟩/\aA K iC qual=true
 kp:aq K (.ref f)=true
theorem Fun2.ok {P:bJ}{w:cw}{K:ae}{mg:aX->Option af}{base:bc}{x qual:aX}{st:bT}{f:ai}{fd:aK}{N ps:List aX}{k:Nat}{sp:Sp}(F:Fun2 K x qual st f fd)(S:bu N ps (aO st))(len:∀vs H Q E,sp vs H Q E->vs.length=ps.length)
    (uH:∀(iC:af) (A:bX) (outer:List PySem.Env) (s:ap) (H:Hp) (vs:List V) (Q:VK) (E:XK),eR k (A.deeper (envOfC qual (aO st) s.heap.objs.size f iC))->sp vs H Q E ->
      ∃t,qY (n6 eU P w K mg base N qual (aO st) f iC A outer s H E).nox (hE st) t/\t { nx:=λ_ H'=>Q .non H',rt:=Q } (L2.start N vs) H):cH P w K mg base eU (k+1) f fd ps sp:=by
  obtain⟨oc,od,dV,kV,doc,pm,an,iC,ct,BD,rfl,lk,jT⟩:=F.ex
  refine zwk lk jT S len λA outer s H vs Q E hr yN=>?_
  obtain⟨t,h,q⟩:=uH iC A outer s H vs Q E hr yN
  exact⟨t,h.nox,q⟩
theorem lift {P:bJ}{w:cw}{K:ae}{mg:aX->Option af}{base:bc}{x qual:aX}{st:bT}{fa:ai}{fd:aK}{N ps:List aX}{kk:Nat}{pm:List Nat}{bf:SF}(Fn:Fun2 K x qual st fa fd)(S:bu N ps (aO st))(Bm:pm.length=ps.length)(JH:ms.length=N.length)(sP:ps.length<=N.length)
  (FF:∀(i n:Nat),pm[i]?=some n->ms[i]?=some (Mo.al n)\/(n=0/\ms[i]?=some (Mo.ow 0)))
  (body:∀(iC:af) (A:bX) (outer:List PySem.Env) (s:ap) (H:Hp) (E:XK),eR kk (A.deeper (envOfC qual (aO st) s.heap.objs.size fa iC))->sJ (n6 eU P w K mg base N qual (aO st) fa iC A outer s H E).nox ct ms rk (hE st) bf) :
  cH P w K mg base eU (kk+1) fa fd ps (gE K ct pm rk (mOf N bf)):=by
 refine Fn.ok S (gE.len Bm) λiC A outer s H vs Q E hr h=>?_
 obtain⟨F,ds,d,sF,l,hm,q⟩:=h
 obtain⟨t,pt,qt⟩:=body iC A outer s H E hr
 refine⟨t,pt,?_⟩
 obtain⟨o,h1,h2⟩:=aY hm
 have hvl:vs.length=pm.length:=l.length
 have uJ:ds.length=vs.length:=l.length'
 refine qt F H F H (startD N ds) (L2.start N vs) o _ ⟨.refl _,.refl _,sF,λ_ _ _ h=>h,[],?_,bQ,λa z=>(by cases z)⟩ h1 ?_
 ·unfold startD L2.start
  rw[uJ]
  exact SL.start _ l FF (by omega)
 ·cases o with
  |nx ρ=>
   cases h2
   exactλσ F' H' r=>q .non F' H' [] ⟨r.f0,r.bh,r.fh,r.nf⟩ (Ow.scal .non rfl) bQ λa z=>(by cases z)
  |rt d'=>
   cases h2
   exactλv F' H' fp s1 s2 s3 s4 o nd hf=>q v F' H' fp ⟨s1,s2,s3,s4⟩ o nd hf
  |bk ρ=>cases h2
  |ct ρ=>cases h2
end
end L3
namespace L3
open PySem PySem.Spec L2
open PyProof.Rows hiding St
theorem gu.or {X:Cx}{f:af->af->pE af}{r r':R2}(h:gu X f r)(h':gu X f r'):gu X f (λx y H Q=>r x y H Q\/r' x y H Q) :=
 λam s σ H x y v u Q I rx ry q=>q.elim (h am s σ H x y v u Q I rx ry) (h' am s σ H x y v u Q I rx ry)
section
variable {K:ae}{ct:Nat->ai}{n m k:Nat}
def i2 (g:Int->Int->D):D->D->Option D
 |.int i,.int j=>some (g i j)
 |_,_=>none
def tR (C:Int->Int->Prop)[∀i j,Decidable (C i j)](g:Int->Int->D):D->D->Option D
 |.int i,.int j=>if C i j then some (g i j)else none
 |_,_=>none
theorem KU {g:Int->Int->D}{gv:Int->Int->V}(hg:∀i j F,Dt K ct F (g i j) (gv i j)):lI K ct n m k (qH gv) (i2 g):=by
 intro F H x y d1 d2 d Q s l1 l2 e w
 cases d1 with
 |int i=>
  cases d2 with
  |int j=>cases e;exact⟨i,j,l1.int,l2.int,w _ F H (.refl s) (Al.of (hg i j F))⟩
  |_=>cases e
 |_=>cases e
theorem KN {C C':Int->Int->Prop}[∀i j,Decidable (C i j)]{g:Int->Int->D}{gv:Int->Int->V}(hC:∀i j,C i j->C' i j)(hg:∀i j F,Dt K ct F (g i j) (gv i j)):lI K ct n m k (rI C' gv) (tR C g):=by
 intro F H x y d1 d2 d Q s l1 l2 e w
 cases d1 with
 |int i=>
  cases d2 with
  |int j=>
   unfold tR at e
   dsimp only at e
   by_cases h:C i j
   ·rw[if_pos h]at e;cases e;exact⟨i,j,l1.int,l2.int,hC i j h,w _ F H (.refl s) (Al.of (hg i j F))⟩
   ·rw[if_neg h]at e;cases e
  |_=>cases e
 |_=>cases e
def K2:Nat:=2 ^ 9000
def CY:Nat:=2 ^ 100000
def rD:D->D->Option D:=i2 λi j=>.int (i-j)
theorem IT:lI K ct n m k (qH λi j=>.int (i-j)) rD:=KU λ_ _ _=>.int _
def lh (i j:Int):Prop:=(-18446744073709551616<i/\i<18446744073709551616)\/(-18446744073709551616<j/\j<18446744073709551616)\/(i.natAbs<CY/\j.natAbs<CY)
instance (i j:Int):Decidable (lh i j):=by unfold lh;infer_instance
def dk:D->D->Option D:=tR lh λi j=>.int (i*j)
theorem lh.ok {i j:Int}(h:lh i j):ou i j:=by
 rcases h with h|h|h
 ·exact .inl (.inl ⟨by have:=h.1;omega,by have:=h.2;omega⟩)
 ·exact .inl (.inr ⟨by have:=h.1;omega,by have:=h.2;omega⟩)
 ·exact .inr h
theorem zsf:lI K ct n m k (rI ou λi j=>.int (i*j)) dk:=KN (λ_ _=>lh.ok) λ_ _ _=>.int _
def D.v:D->V
 |.bl b=>.bl b
 |.int i=>.int i
 |.str x=>.str x
 |_=>.non
theorem Dt.v {F:Hp}{d:D}{v:V}(h:Dt K ct F d v)(hs:d.sc=true):v=d.v:=by
 cases h<;>first|rfl|cases hs
theorem Al.v {F G:Hp}{d:D}{v:V}(h:Al K ct F G n d v)(hs:d.sc=true):v=d.v:=Dt.v (Al.scal (F':=F) h hs) hs
theorem D.flat {d:D}(hs:d.sc=true):iQ d.v=true:=by cases d<;>first|rfl|cases hs
theorem Pr.vs {F G:Hp}:∀{ds:List D} {vs:List V},Pr (Al K ct F G n) ds vs->ds.all D.sc=true->vs=ds.map D.v
 |_,_,.nil,_=>rfl
 |d::ds,v::vs,.cons h t,e=>by
  rw[dG,bG]at e
  rw[aP,Al.v h e.1,Pr.vs t e.2]
def fK:D->D->Option D
 |.int i,.int j=>if 0<j/\j<4611686018427387904 then some (.int (i/j))else if j≠0/\j.natAbs<K2 then some (.int (i.fdiv j))else none
 |_,_=>none
theorem vx:lI K ct n m k (rI (λ_ j=>j≠0/\Sz 9000 j) λi j=>.int (i.fdiv j)) fK:=by
 intro F H x y d1 d2 d Q s l1 l2 e w
 cases d1 with
 |int i=>
  cases d2 with
  |int j=>
   unfold fK at e
   dsimp only at e
   by_cases h:0<j/\j<4611686018427387904
   ·rw[if_pos h]at e
    cases e
    refine⟨i,j,l1.int,l2.int,⟨by omega,?_⟩,?_⟩
    ·have:Sz 62 j:=by unfold Sz;omega
     exact this.mono (by decide)
    ·show Q (.int (i.fdiv j)) H
     rw[iw i (by omega)]
     exact w _ F H (.refl s) (Al.of (.int _))
   ·rw[if_neg h]at e
    by_cases h:j≠0/\j.natAbs<K2
    ·rw[if_pos h]at e
     cases e
     exact⟨i,j,l1.int,l2.int,h,w _ F H (.refl s) (Al.of (.int _))⟩
    ·rw[if_neg h]at e;cases e
  |_=>cases e
 |_=>cases e
def dY:D->D->Option D
 |.int i,.int j=>if 0<j then some (.int (i%j))else if j≠0 then some (.int (i.fmod j))else none
 |_,_=>none
theorem xl:lI K ct n m k (rI (λ_ j=>j≠0) λi j=>.int (i.fmod j)) dY:=by
 intro F H x y d1 d2 d Q s l1 l2 e w
 cases d1 with
 |int i=>
  cases d2 with
  |int j=>
   unfold dY at e
   dsimp only at e
   by_cases h:0<j
   ·rw[if_pos h]at e
    cases e
    refine⟨i,j,l1.int,l2.int,by omega,?_⟩
    show Q (.int (i.fmod j)) H
    rw[oh i (by omega)]
    exact w _ F H (.refl s) (Al.of (.int _))
   ·rw[if_neg h]at e
    by_cases h:j≠0
    ·rw[if_pos h]at e
     cases e
     exact⟨i,j,l1.int,l2.int,h,w _ F H (.refl s) (Al.of (.int _))⟩
    ·rw[if_neg h]at e;cases e
  |_=>cases e
 |_=>cases e
def oH (i j:Int):Prop:=0<=j/\j<=1000000/\i.natAbs<18446744073709551616
instance (i j:Int):Decidable (oH i j):=by unfold oH;infer_instance
def uY:D->D->Option D:=tR oH λi j=>.int (i ^ j.toNat)
theorem Ub:lI K ct n m k (rI wI λi j=>.int (i ^ j.toNat)) uY:=KN (λ_ _ h=>⟨h.1,h.2.1,by have:=h.2.2;omega⟩) λ_ _ _=>.int _
def xH:D->D->Option D:=tR oH λi j=>.int (i*2 ^ j.toNat)
theorem zsg:lI K ct n m k (rI wI λi j=>.int (i*2 ^ j.toNat)) xH:=KN (λ_ _ h=>⟨h.1,h.2.1,by have:=h.2.2;omega⟩) λ_ _ _=>.int _
def sU:D->D->Option D:=tR (λ_ j=>0<=j) λi j=>.int (i/2 ^ j.toNat)
theorem Uc:lI K ct n m k (rI (λ_ j=>0<=j) λi j=>.int (i/2 ^ j.toNat)) sU:=KN (λ_ _ h=>h) λ_ _ _=>.int _
def nD:D->D->Option D:=i2 λi j=>.bl (decide (i<j))
def tQ:D->D->Option D:=i2 λi j=>.bl (decide (j<i))
def yF:D->D->Option D:=i2 λi j=>.bl (decide (j<=i))
theorem sZ:lI K ct n m k (qH λi j=>.bl (decide (i<j))) nD:=KU λ_ _ _=>.bl _
theorem zM:lI K ct n m k (qH λi j=>.bl (decide (j<i))) tQ:=KU λ_ _ _=>.bl _
theorem KO:lI K ct n m k (qH λi j=>.bl (decide (j<=i))) yF:=KU λ_ _ _=>.bl _
def BN:R2:=λx y H Q=>∃i j,x=.str i/\y=.str j/\Q (.bl (!(decide (j.cps.toList<i.cps.toList)))) H
theorem zu9 {X:Cx}:gu X (cu .LtE) BN:=by
 intro am s σ H x y v u Q I rx ry h
 obtain⟨i,j,rfl,rfl,q⟩:=h
 obtain⟨t,rfl⟩:=rx
 obtain⟨t',rfl⟩:=ry
 exact PySem.P.le_str ⟨.bl _,H,I,rfl,q⟩
def xD:D->D->Option D
 |.int i,.int j=>some (.bl (decide (i<=j)))
 |.str i,.str j=>some (.bl (!(decide (j.cps.toList<i.cps.toList))))
 |_,_=>none
theorem BY:lI K ct n m k (λx y H Q=>qH (λi j=>.bl (decide (i<=j))) x y H Q\/BN x y H Q) xD:=by
 intro F H x y d1 d2 d Q s l1 l2 e w
 cases d1 with
 |int i=>
  cases d2 with
  |int j=>cases e;exact .inl ⟨i,j,l1.int,l2.int,w _ F H (.refl s) (Al.of (.bl _))⟩
  |_=>cases e
 |str i=>
  cases d2 with
  |str j=>cases e;exact .inr ⟨i,j,l1.str,l2.str,w _ F H (.refl s) (Al.of (.bl _))⟩
  |_=>cases e
 |_=>cases e
theorem B7 {X:Cx}:gu X (cu .LtE) (λx y H Q=>qH (λi j=>.bl (decide (i<=j))) x y H Q\/BN x y H Q):=gu.or zwj zu9
def D.isN:D->Bool
 |.non=>true
 |_=>false
def D.isB (b:Bool):D->Bool
 |.bl c=>c==b
 |_=>false
def pO (neg:Bool):D->D->Option D
 |d,.non=>some (.bl (if neg then !d.isN else d.isN))
 |d,.bl b=>some (.bl (if neg then !d.isB b else d.isB b))
 |_,_=>none
theorem Al.ref {F G:Hp}{d:D}{v:V}(h:Al K ct F G n d v)(hs:d.sc=false):∃a,v=.ref a:=by
 cases n with
 |zero=>cases(show Dt K ct F d v from h)<;>first|cases hs;done|exact⟨_,rfl⟩
 |succ n=>rcases h with h|h<;>cases h<;>first|cases hs;done|exact⟨_,rfl⟩
theorem Al.isn {F G:Hp}{d:D}{v:V}(h:Al K ct F G n d v):decide (v=.non)=d.isN:=by
 cases hs:d.sc with
 |true=>
  have:=Al.v h hs
  subst this
  cases d<;>first|rfl|cases hs
 |false=>
  obtain⟨a,rfl⟩:=h.ref hs
  cases d<;>first|rfl|cases hs
theorem Al.isb {F G:Hp}{d:D}{v:V}{b:Bool}(h:Al K ct F G n d v):decide (v=.bl b)=d.isB b:=by
 cases hs:d.sc with
 |true=>
  have:=Al.v h hs
  subst this
  cases d<;>first|rfl|(cases hs;done)|(rename_i c;cases b<;>cases c<;>rfl)
 |false=>
  obtain⟨a,rfl⟩:=h.ref hs
  cases d<;>first|rfl|cases hs
def Rr:R2:=λx y H Q=>(y=.non/\Q (.bl (decide (x=.non))) H)\/∃b,y=.bl b/\Q (.bl (decide (x=.bl b))) H
def uZ:R2:=λx y H Q=>(y=.non/\Q (.bl (!decide (x=.non))) H)\/∃b,y=.bl b/\Q (.bl (!decide (x=.bl b))) H
theorem CT {X:Cx}:gu X (cu .Is) Rr:=gu.or zur zu3
theorem IR {X:Cx}:gu X (cu .IsNot) uZ:=gu.or zrr zme
theorem CN:lI K ct n m k Rr (pO false):=by
 intro F H x y d1 d2 d Q s l1 l2 e w
 cases d2 with
 |non=>
  cases e
  refine .inl ⟨l2.non,?_⟩
  rw[l1.isn]
  exact w _ F H (.refl s) (Al.of (.bl _))
 |bl b=>
  cases e
  refine .inr ⟨b,l2.bl,?_⟩
  rw[l1.isb]
  exact w _ F H (.refl s) (Al.of (.bl _))
 |_=>cases e
theorem IH:lI K ct n m k uZ (pO true):=by
 intro F H x y d1 d2 d Q s l1 l2 e w
 cases d2 with
 |non=>
  cases e
  refine .inl ⟨l2.non,?_⟩
  rw[l1.isn]
  exact w _ F H (.refl s) (Al.of (.bl _))
 |bl b=>
  cases e
  refine .inr ⟨b,l2.bl,?_⟩
  rw[l1.isb]
  exact w _ F H (.refl s) (Al.of (.bl _))
 |_=>cases e
mutual
def D.py:D->Option bK
 |.non=>some .none
 |.bl b=>some (.bool b)
 |.int i=>some (.int i)
 |.str x=>some (.str x)
 |.lst xs=>(D.pys xs).bind λys=>some (.list ys)
 |.tup xs=>(D.pys xs).bind λys=>some (.tuple ys)
 |_=>none
def D.pys:List D->Option (List bK)
 |[]=>some []
 |d::ds=>(D.py d).bind λx=>(D.pys ds).bind λxs=>some (x::xs)
end
mutual
theorem Dt.toPy {F H:Hp}(s:ce F H):∀{d:D} {v:V} {e:bK},Dt K ct F d v->d.py=some e->L2.Dt K H v e
 |_,_,_,.non,h=>by simp only[D.py]at h;cases h;exact .non
 |_,_,_,.bl b,h=>by simp only[D.py]at h;cases h;exact .bl b
 |_,_,_,.int b,h=>by simp only[D.py]at h;cases h;exact .int b
 |_,_,_,.str b,h=>by simp only[D.py]at h;cases h;exact .str b
 |_,_,_,.lst q t,h=>by
  simp only[D.py]at h
  obtain⟨ys,h1,h2⟩:=aY h
  cases h2
  exact .lst (s.seq q) (Dts.toPy s t h1)
 |_,_,_,.tup q t,h=>by
  simp only[D.py]at h
  obtain⟨ys,h1,h2⟩:=aY h
  cases h2
  exact .tup (kX.of (s _ _ q)) (Dts.toPy s t h1)
 |_,_,_,.dK _ _ _,h=>by simp only[D.py]at h;cases h
 |_,_,_,.dT _ _ _,h=>by simp only[D.py]at h;cases h
 |_,_,_,.obj _ _ _,h=>by simp only[D.py]at h;cases h
theorem Dts.toPy {F H:Hp}(s:ce F H):∀{ds:List D} {vs:List V} {es:List bK},Dts K ct F ds vs->D.pys ds=some es->L2.Dts K H vs es
 |_,_,_,.nil,h=>by simp only[D.pys]at h;cases h;exact .nil
 |_,_,_,.cons h t,e=>by
  simp only[D.pys]at e
  obtain⟨y,ys,h1,h2,h3⟩:=dP e
  cases h3
  exact .cons (Dt.toPy s h h1) (Dts.toPy s t h2)
end
theorem Pr.toPy {H:Hp}{R:D->V->Prop}(f:∀d v e,R d v->d.py=some e->L2.Dt K H v e):∀{ds:List D} {vs:List V} {es:List bK},Pr R ds vs->D.pys ds=some es->L2.Dts K H vs es
 |_,_,_,.nil,h=>by simp only[D.pys]at h;cases h;exact .nil
 |_,_,_,.cons h t,e=>by
  simp only[D.pys]at e
  obtain⟨y,ys,h1,h2,h3⟩:=dP e
  cases h3
  exact .cons (f _ _ _ h h1) (Pr.toPy f t h2)
theorem Al.toPy {F H:Hp}(s:ce F H):∀{n:Nat} {d:D} {v:V} {e:bK},Al K ct F H n d v->d.py=some e->L2.Dt K H v e
 |0,_,_,_,h,q=>Dt.toPy s h q
 |n+1,_,_,_,.inl h,q=>Dt.toPy s h q
 |n+1,_,_,_,.inr (.lst h t),q=>by
  simp only[D.py]at q
  obtain⟨ys,h1,h2⟩:=aY q
  cases h2
  exact .lst (fX.of h) (Pr.toPy (λ_ _ _=>Al.toPy s) t h1)
 |n+1,_,_,_,.inr (.tup h t),q=>by
  simp only[D.py]at q
  obtain⟨ys,h1,h2⟩:=aY q
  cases h2
  exact .tup (kX.of (s _ _ h)) (Pr.toPy (λ_ _ _=>Al.toPy s) t h1)
 |n+1,_,_,_,.inr (.dK _ _ _),q=>by simp only[D.py]at q;cases q
 |n+1,_,_,_,.inr (.dT _ _ _),q=>by simp only[D.py]at q;cases q
 |n+1,_,_,_,.inr (.obj _ _ _),q=>by simp only[D.py]at q;cases q
def jX (a:bK):Bool:=a.canLay0&&decide (a.depth<=60)
def fZ (neg:Bool)(x y:D):Option D:=x.py.bind λa=>y.py.bind λb=>if jX a=true/\jX b=true then some (.bl (if neg then !bK.eqv a b else bK.eqv a b))else none
theorem xv {neg:Bool}:lI K ct n m k (BL K neg) (fZ neg):=by
 intro F H x y d1 d2 d Q s l1 l2 e w
 obtain⟨a,b,h1,h2,h3⟩:=dP e
 by_cases h:jX a=true/\jX b=true
 ·rw[if_pos h]at h3
  cases h3
  have o1:=h.1
  have o2:=h.2
  unfold jX at o1 o2
  rw[bG,decide_eq_true_iff]at o1 o2
  exact⟨a,b,Al.toPy s l1 h1,Al.toPy s l2 h2,o1.1,o2.1,cB (Nat.min_le_left _ _) o1.2,w _ F H (.refl s) (Al.of (.bl _))⟩
 ·rw[if_neg h]at h3;cases h3
end
end L3
namespace L3
open PySem PySem.Spec L2
open PyProof.Rows hiding St
section
variable {K:ae}{ct:Nat->ai}{n m k:Nat}{X:Cx}
theorem Pr.atI {R:D->V->Prop}{ds:List D}{vs:List V}{i:Int}{d:D}(h:Pr R ds vs)(e:atI ds i=some d):∃v,atI vs i=some v/\R d v:=by
 unfold L2.atI at e ⊢
 rw[←h.length]
 obtain⟨j,h1,h2⟩:=aY e
 obtain⟨v,h3,h4⟩:=h.get' h2
 exact⟨v,by rw[h1];exact h3,h4⟩
def xC:D->Option fH
 |.int i=>some (.inl i)
 |.str x=>some (.inr x)
 |_=>none
def pQ:List D->Option (List fH)
 |[]=>some []
 |d::ds=>(xC d).bind λk=>(pQ ds).bind λks=>some (k::ks)
def jS {κ:Type}[DecidableEq κ](ks:List κ)(ds:List D)(k:κ):Option D:=((ks.zip ds).find? λp=>decide (p.1=k)).map (·.2)
def RO (R:D->V->Prop):Option D->Option V->Prop
 |some d,some u=>R d u
 |none,none=>True
 |_,_=>False
theorem RO.some_of {R:D->V->Prop}{d:D}{q:Option V}(h:RO R (some d) q):∃u,q=some u/\R d u:=by
 cases q with
 |none=>exact h.elim
 |some u=>exact⟨u,rfl,h⟩
theorem RO.none_of {R:D->V->Prop}{q:Option V}(h:RO R none q):q=none:=by
 cases q with
 |none=>rfl
 |some u=>exact h.elim
theorem OM {κ:Type}[DecidableEq κ]{R:D->V->Prop}{k:κ}:∀{ks:List κ} {ds:List D} {vs:List V},Pr R ds vs->RO R (jS ks ds k) (iR (ks.zip vs) k)
 |[],_,_,_=>by simp[jS,iR,RO]
 |_::_,_,_,.nil=>by simp[jS,iR,RO]
 |y::ks,d::ds,v::vs,.cons h t=>by
  by_cases e:y=k
  ·have h1:jS (y::ks) (d::ds) k=some d:=by simp[jS,dq,e]
   have h2:iR ((y::ks).zip (v::vs)) k=some v:=by simp[iR,dq,e]
   rw[h1,h2]
   exact h
  ·have h1:jS (y::ks) (d::ds) k=jS ks ds k:=by simp[jS,dq,e]
   have h2:iR ((y::ks).zip (v::vs)) k=iR (ks.zip vs) k:=by simp[iR,dq,e]
   rw[h1,h2]
   exact OM t
theorem KH {F G:Hp}{d:D}{v:V}{k:fH}(e:xC d=some k)(h:Al K ct F G n d v):v=kV k:=by
 cases d with
 |int i=>cases e;exact h.int
 |str i=>cases e;exact h.str
 |_=>cases e
theorem Kv {F G:Hp}:∀{ds:List D} {vs:List V} {ks:List fH},pQ ds=some ks->Pr (Al K ct F G n) ds vs->vs=ks.map kV
 |[],_,_,e,.nil=>by cases e;rfl
 |d::ds,_,_,e,.cons h t=>by
  unfold pQ at e
  obtain⟨k,ks,h1,h2,h3⟩:=dP e
  cases h3
  rw[KH h1 h,Kv h2 t];rfl
def iP (o y:D):Option (Option D):=match o with
 |.dK ks ds=>(xC y).bind λk=>some (jS ks ds k)
 |.dT ks ds=>(match y with|.tup ys=>(pQ ys).bind λk=>some (jS ks ds k)|_=>none)
 |_=>none
theorem O9 {F G:Hp}{o y:D}{x v:V}(s:ce F G)(l1:Al K ct F G n o x)(l2:Al K ct F G m y v){r:Option D}(e:iP o y=some r) :
  ∃a q,x=.ref a/\kR G a v q/\VS G a/\RO (Al K ct F G (n-1)) r q:=by
 cases o with
 |dK ks ds=>
  obtain⟨a,vs,rfl,ha,hl,hp⟩:=l1.dK s
  obtain⟨k,h1,h2⟩:=aY e
  cases h2
  have hv:=KH h1 l2
  subst hv
  exact⟨a,_,rfl,kR.k ha,.inl ⟨_,.inl ha⟩,OM hp⟩
 |dT ks ds=>
  obtain⟨a,vs,rfl,ha,hl,hp⟩:=l1.dT s
  cases y with
  |tup ys=>
   obtain⟨k,h1,h2⟩:=aY e
   cases h2
   obtain⟨b,us,rfl,hb,FK⟩:=l2.tup s
   have hv:=Kv h1 FK
   subst hv
   exact⟨a,_,rfl,kR.t ha hb,.inr ⟨_,.inl ha⟩,OM hp⟩
  |_=>cases e
 |_=>cases e
def cF:D->D->Option D
 |.lst ds,.int i=>atI ds i
 |.tup ds,.int i=>atI ds i
 |.str x,.int i=>if x.length<=16777216 then(atI x.cps.toList i).bind λc=>some (.str ⟨#[c]⟩)else none
 |_,_=>none
theorem vZ:lI K ct n m (n-1) (Rt K) cF:=by
 intro F H x y d1 d2 d Q s l1 l2 e w
 cases d1 with
 |lst ds=>
  cases d2 with
  |int i=>
   obtain⟨a,vs,rfl,ha,hp⟩:=l1.lst s
   obtain⟨v,h1,h2⟩:=hp.atI e
   exact .inl ⟨a,vs,i,v,rfl,l2.int,ha,h1,w v F H (.refl s) h2⟩
  |_=>cases e
 |tup ds=>
  cases d2 with
  |int i=>
   obtain⟨a,vs,rfl,ha,hp⟩:=l1.tup s
   obtain⟨v,h1,h2⟩:=hp.atI e
   exact .inr (.inl ⟨a,vs,i,v,rfl,l2.int,kX.of ha,h1,w v F H (.refl s) h2⟩)
  |_=>cases e
 |str z=>
  cases d2 with
  |int i=>
   unfold cF at e
   dsimp only at e
   by_cases h:z.length<=16777216
   ·rw[if_pos h]at e
    obtain⟨c,h1,h2⟩:=aY e
    cases h2
    exact .inr (.inr ⟨z,i,c,l1.str,l2.int,by rw[cV];exact h,h1,w _ F H (.refl s) (Al.of (.str _))⟩)
   ·rw[if_neg h]at e;cases e
  |_=>cases e
 |_=>cases e
theorem Pt {ms:List Mo}{a b:Expr}{f g:EF}{pos:dF}(hu:X.A.units+1<gR)(ha:XE X ct ms n a f)(hb:XE X ct ms m b g)(hs:zR b):XE X ct ms (n-1) (.Subscript a b pos) (λρ=>(f ρ).bind λx=>(g ρ).bind λy=>(iP x y).join):=by
 obtain⟨ta,tb,pa,pb,q⟩:=ha.bin hb
 refine⟨_,zr8 hu pa pb hs,λF0 B F H ρ σ d Q rs e w=>?_⟩
 obtain⟨d1,d2,h1,h2,h3⟩:=dP e
 refine q F0 B F H ρ σ d1 d2 _ rs h1 h2 λx y F' H' x1 l1 l2=>?_
 obtain⟨a,o,rfl,g,_,h⟩:=O9 (r:=some d) x1.fh l1 l2 (yj h3)
 obtain⟨u,rfl,FQ⟩:=h.some_of
 exact⟨a,u,rfl,g,w u F' H' x1 FQ⟩
def vP:D->D->Bool
 |.non,.non=>true
 |.bl a,.bl b=>a==b
 |.bl a,.int b=>(if a then 1 else 0)==b
 |.int a,.bl b=>a==(if b then 1 else 0)
 |.int a,.int b=>a==b
 |.str a,.str b=>a==b
 |_,_=>false
theorem U9 {x y:D}(hx:x.sc=true)(hy:y.sc=true):sM x.v y.v=vP x y:=by
 cases x<;>first|cases hx;done|(cases y<;>first|cases hy;done|rfl)
def yP (x:D)(ds:List D):Bool:=ds.any λy=>vP y x
theorem PN {x:D}(hx:x.sc=true):∀{ds:List D},ds.all D.sc=true->JQ x.v (ds.map D.v)=yP x ds
 |[],_=>rfl
 |d::ds,h=>by
  rw[dG,bG]at h
  have ih:=PN hx h.2
  unfold JQ yP at ih ⊢
  rw[aP,dH,dH,ih,U9 h.1 hx]
theorem Kr:∀{ds:List D},ds.all D.sc=true->(ds.map D.v).all iQ=true
 |[],_=>rfl
 |d::ds,h=>by
  rw[dG,bG]at h
  rw[aP,dG,D.flat h.1,Kr h.2];rfl
def inD (neg:Bool)(x y:D):Option D:=match y with
 |.lst ds=>if x.sc=true/\ds.all D.sc=true then some (.bl (if neg then !yP x ds else yP x ds))else none
 |.tup ds=>if x.sc=true/\ds.all D.sc=true then some (.bl (if neg then !yP x ds else yP x ds))else none
 |_=>none
theorem rZ {neg:Bool}:lI K ct n m k (NA K neg) (inD neg):=by
 intro F H x y d1 d2 d Q s l1 l2 e w
 cases d2 with
 |lst ds=>
  unfold inD at e
  dsimp only at e
  by_cases h:d1.sc=true/\ds.all D.sc=true
  ·rw[if_pos h]at e
   cases e
   obtain⟨a,vs,rfl,ha,hp⟩:=l2.lst s
   have hv:=hp.vs h.2
   subst hv
   have hx:=Al.v l1 h.1
   subst hx
   refine⟨a,_,rfl,.inl ha,D.flat h.1,Kr h.2,?_⟩
   rw[PN h.1 h.2]
   exact w _ F H (.refl s) (Al.of (.bl _))
  ·rw[if_neg h]at e;cases e
 |tup ds=>
  unfold inD at e
  dsimp only at e
  by_cases h:d1.sc=true/\ds.all D.sc=true
  ·rw[if_pos h]at e
   cases e
   obtain⟨a,vs,rfl,ha,hp⟩:=l2.tup s
   have hv:=hp.vs h.2
   subst hv
   have hx:=Al.v l1 h.1
   subst hx
   refine⟨a,_,rfl,.inr (kX.of ha),D.flat h.1,Kr h.2,?_⟩
   rw[PN h.1 h.2]
   exact w _ F H (.refl s) (Al.of (.bl _))
  ·rw[if_neg h]at e;cases e
 |_=>cases e
def cX:List D->Option D
 |[.lst ds]=>some (.int ds.length)
 |[.tup ds]=>some (.int ds.length)
 |[.dK ks _]=>some (.int ks.length)
 |[.str x]=>if x.length<=16777216 then some (.int x.length)else none
 |_=>none
def HZ (K:ae):List V->Hp->VK->Prop:=λxs H Q=>(∃p ys,xs=[.ref p]/\(fX K H p ys\/kX K H p ys)/\Q (.int ys.length) H)\/(∃z,xs=[.str z]/\z.length<=sizeLine/\Q (.int z.length) H)\/∃a cP,xs=[V.ref a]/\H a=some (.dK cP)/\Q (.int cP.length) H
theorem zmr:eK X (.builtin "len") (HZ X.K):=zhd.or (zhe.or zmd)
theorem zsi:wJ K ct [n] k (HZ K) cX:=by
 intro F H vs ds d Q s l e w
 cases l with
 |cons h t=>
  cases t
  rename_i d1 v
  cases d1 with
  |lst xs=>
   cases e
   obtain⟨a,us,rfl,ha,hp⟩:=h.lst s
   refine .inl ⟨a,us,rfl,.inl ha,?_⟩
   rw[←hp.length]
   exact w _ F H (.refl s) (Al.of (.int _))
  |tup xs=>
   cases e
   obtain⟨a,us,rfl,ha,hp⟩:=h.tup s
   refine .inl ⟨a,us,rfl,.inr (kX.of ha),?_⟩
   rw[←hp.length]
   exact w _ F H (.refl s) (Al.of (.int _))
  |str x=>
   unfold cX at e
   dsimp only at e
   by_cases hz:x.length<=16777216
   ·rw[if_pos hz]at e
    cases e
    exact .inr (.inl ⟨x,by rw[h.str],by rw[cV];exact hz,w _ F H (.refl s) (Al.of (.int _))⟩)
   ·rw[if_neg hz]at e;cases e
  |dK ks xs=>
   cases e
   obtain⟨a,us,rfl,ha,hl,hp⟩:=h.dK s
   refine .inr (.inr ⟨a,_,rfl,ha,?_⟩)
   rw[eX,←hl,ik]
   exact w _ F H (.refl s) (Al.of (.int _))
  |_=>cases e
end
end L3
namespace L3
open PySem PySem.Spec L2
open PyProof.Rows hiding St
section
variable {ct:Nat->ai}{K:ae}
theorem zws {ι:Type}{Xs:ι->Cx}{ms:List Mo}{n:Nat}{e:Expr}{f:EF}(hK:∀i,(Xs i).K=K)(h:∀i,XO (Xs i) ct ms n e f):∃t,(∀i,PE (Xs i) e t)/\∀(F0 B F H:Hp) (ρ:Env) (σ:St) (d:D) (Q:VK),RS K ct F0 B ms F H ρ σ->f ρ=some d ->
  (∀v F' H' fp,gD F H F' H'->Ow K ct F' H' n d v fp->fp.Nodup->(∀a∈fp,H a=none)->Q v H')->t σ H Q:=by
 refine⟨λσ H Q=>∀i,(h i).choose σ H Q,λi am s σ H Q I q=>(h i).choose_spec.1 am s σ H Q I (q i),λF0 B F H ρ σ d Q rs e w i=>?_⟩
 exact(h i).choose_spec.2 F0 B F H ρ σ d Q (by rw[hK i];exact rs) e λv F' H' fp x l=>w v F' H' fp x (by rw[←hK i];exact l)
def zV (X:Cx)(ct:Nat->ai)(ms:List Mo)(ifs:List Expr)(f:BF):Prop:=∃t,yC X ifs t/\∀(F0 B F H:Hp) (ρ:Env) (σ:St) (b:Bool) (Q:Bool->Hp->Prop),RS X.K ct F0 B ms F H ρ σ->f ρ=some b->(∀F' H',gD F H F' H'->Q b H')->t σ H Q
def fY:BF:=λ_=>some true
theorem ut {X:Cx}{ms:List Mo}:zV X ct ms [] fY:=⟨_,zr9,λF0 B F H ρ σ b Q rs e w=>by cases e;exact w F H (.refl rs.fh)⟩
theorem zH {X:Cx}{ms:List Mo}{c:Expr}{p:BF}(h:XT X ct ms c p):zV X ct ms [c] p:=by
 obtain⟨t,pt,qt⟩:=h
 exact⟨t,zsa pt,qt⟩
theorem zwt {ι:Type}{Xs:ι->Cx}{ms:List Mo}{ifs:List Expr}{f:BF}(hK:∀i,(Xs i).K=K)(h:∀i,zV (Xs i) ct ms ifs f):∃t,(∀i,yC (Xs i) ifs t)/\∀(F0 B F H:Hp) (ρ:Env) (σ:St) (b:Bool) (Q:Bool->Hp->Prop),RS K ct F0 B ms F H ρ σ->f ρ=some b ->
  (∀F' H',gD F H F' H'->Q b H')->t σ H Q:=by
 refine⟨λσ H Q=>∀i,(h i).choose σ H Q,λi am s σ H Q I q=>(h i).choose_spec.1 am s σ H Q I (q i),λF0 B F H ρ σ d Q rs e w i=>?_⟩
 exact(h i).choose_spec.2 F0 B F H ρ σ d Q (by rw[hK i];exact rs) e w
def yR {α:Type}(g:α->St->Hp->(St->Hp->Prop)->Prop):Prop:=∀v σ H Q Q',(∀σ' H',Q σ' H'->Q' σ' H')->g v σ H Q->g v σ H Q'
def wL (X:Cx)(ct:Nat->ai)(ms:List Mo)(own n:Nat)(tg:Expr)(g:D->Env->Option Env):Prop:=∃t,PG X tg t/\gL own t/\yR t/\∀(F0 B F H:Hp) (ρ ρ':Env) (σ:St) (d:D) (v:V) (Q:St->Hp->Prop),RS X.K ct F0 B ms F H ρ σ->Al X.K ct F B n d v->g d ρ=some ρ' ->
 (∀σ',RS X.K ct F0 B ms F H ρ' σ'->Q σ' H)->t v σ H Q
theorem zwu {ι:Type}{Xs:ι->Cx}{ms:List Mo}{own n:Nat}{tg:Expr}{g:D->Env->Option Env}(hK:∀i,(Xs i).K=K)(h:∀i,wL (Xs i) ct ms own n tg g):∃t,(∀i,PG (Xs i) tg t)/\gL own t/\∀(F0 B F H:Hp) (ρ ρ':Env) (σ:St) (d:D) (v:V) (Q:St->Hp->Prop),RS K ct F0 B ms F H ρ σ->Al K ct F B n d v->g d ρ=some ρ' ->
  (∀σ',RS K ct F0 B ms F H ρ' σ'->Q σ' H)->t v σ H Q:=by
 refine⟨λv σ H Q=>∀i,(h i).choose v σ H Q,λi am s σ H v u Q I r q=>(h i).choose_spec.1 am s σ H v u Q I r (q i),λv σ H Q q i=>(h i).choose_spec.2.1 v σ H Q (q i),λF0 B F H ρ ρ' σ d v Q rs l e w i=>?_⟩
 exact(h i).choose_spec.2.2.2 F0 B F H ρ ρ' σ d v Q (by rw[hK i];exact rs) (by rw[hK i];exact l) e λσ' r=>w σ' (by rw[←hK i];exact r)
theorem zo7 {X:Cx}{ms:List Mo}{own i:Nat}{x:aX}{pos:dF}(ho:i<own)(hm:ms[i]?=some (.ow 0))(hN:X.N.Nodup)(hi:X.N[i]?=some x)(hx:Loc X.env.scope x)
  (hf:X.fn x=true\/X.env.scope.names.lookup x=some .local:=by first|exact .inl rfl|exact .inr rfl|assumption):wL X ct ms own 0 (.Name x pos) (gV i):=by
 refine⟨_,TU hN hi hx hf,zk8 i own ho,λv σ H Q Q' m q=>m _ _ q,λF0 B F H ρ ρ' σ d v Q rs l e w=>?_⟩
 cases e
 exact w _ (rs.set hm (.refl rs.fh) (Ow.zero l) bQ λa z=>(by cases z))
def Bv (own:Nat)(g:yD):Prop:=∀v σ H Q,g v σ H Q->g v σ H λσ' H'=>Q σ' H'/\σ'.length = σ.length/\∀i,own<=i->σ'[i]? = σ[i]?
def wM (X:Cx)(ct:Nat->ai)(ms:List Mo)(own n:Nat)(lD:List Expr)(g:List D->Env->Option Env):Prop:=∃t,Cb X lD t/\Bv own t/\yR t/\(∀ds ρ ρ',g ds ρ=some ρ'->ds.length=lD.length)/\∀(F0 B F H:Hp) (ρ ρ':Env) (σ:St) (ds:List D) (vs:List V) (Q:St->Hp->Prop),RS X.K ct F0 B ms F H ρ σ->Pr (Al X.K ct F B n) ds vs->g ds ρ=some ρ' ->
 (∀σ',RS X.K ct F0 B ms F H ρ' σ'->Q σ' H)->t vs σ H Q
theorem Ks {X:Cx}{ms:List Mo}{own n:Nat}:wM X ct ms own n [] gsNil:=by
 refine⟨_,TV,λv σ H Q q=>⟨q.1,q.2,rfl,λ_ _=>rfl⟩,λv σ H Q Q' m q=>⟨q.1,m _ _ q.2⟩,λds ρ ρ' e=>?_,λF0 B F H ρ ρ' σ ds vs Q rs l e w=>?_⟩
 ·cases ds with
  |nil=>rfl
  |cons d ds=>cases e
 ·cases l with
  |nil=>cases e;exact⟨rfl,w σ rs⟩
  |cons _ _=>cases e
theorem jt {X:Cx}{ms:List Mo}{own n:Nat}{tg:Expr}{lD:List Expr}{gg:D->Env->Option Env}{gs:List D->Env->Option Env}(h1:wL X ct ms own n tg gg)(h2:wM X ct ms own n lD gs)
  (hs:(dw (tg::lD) X.env).map (·.2)=iS tg X.env::(dw lD X.env).map (·.2):=by rfl):wM X ct ms own n (tg::lD) (gsCons gg gs):=by
 obtain⟨t,pt,kt,mt,qt⟩:=h1
 obtain⟨t2,nE,Yb,Rb,Nn,rA⟩:=h2
 refine⟨_,Tf pt nE hs,λvs σ H Q q=>?_,λvs σ H Q Q' m q=>?_,λds ρ ρ' e=>?_,λF0 B F H ρ ρ' σ ds vs Q rs l e w=>?_⟩
 ·obtain⟨v,r,e,q⟩:=q
  refine⟨v,r,e,mt _ _ _ _ _ (λσ' H' z=>?_) (kt v σ H _ q)⟩
  obtain⟨z1,z2,z3⟩:=z
  refine Rb _ _ _ _ _ (λσ2 H2 y=>?_) (Yb r σ' H' Q z1)
  exact⟨y.1,y.2.1.trans z2,λi hi=>(y.2.2 i hi).trans (z3 i hi)⟩
 ·obtain⟨v,r,e,q⟩:=q
  exact⟨v,r,e,mt _ _ _ _ _ (λσ' H' z=>Rb _ _ _ _ _ m z) q⟩
 ·cases ds with
  |nil=>cases e
  |cons d ds=>
   obtain⟨ρ1,h3,h4⟩:=aY e
   rw[aI,aI,Nn _ _ _ h4]
 ·cases l with
  |nil=>cases e
  |cons h t'=>
   obtain⟨ρ1,h3,h4⟩:=aY e
   exact⟨_,_,rfl,qt F0 B F H ρ ρ1 σ _ _ _ rs h h3 λσ1 r1=>rA F0 B F H ρ1 ρ' σ1 _ _ _ r1 t' h4 w⟩
theorem Kw {X:Cx}{ms:List Mo}{own n:Nat}{lD:List Expr}{j:Nat}{pos:dF}{gs:List D->Env->Option Env}(hc:X.calm=true)(h:wM X ct ms own (n-1) lD gs)(hl:(dw lD X.env).length=lD.length:=by rfl)(lK:(dw lD X.env).findIdx? (·.1)=none:=by rfl):wL X ct ms own n (.Tuple lD j pos) (gT gs):=by
 obtain⟨t,pt,kt,mt,lt,qt⟩:=h
 refine⟨_,UP (n:=lD.length) hc pt hl lK,λv σ H Q q=>?_,λv σ H Q Q' m q=>?_,λF0 B F H ρ ρ' σ d v Q rs l e w=>?_⟩
 ·obtain⟨a,xs,e,h1,h2,q⟩:=q
  exact⟨a,xs,e,h1,h2,kt _ _ _ _ q⟩
 ·obtain⟨a,xs,e,h1,h2,q⟩:=q
  exact⟨a,xs,e,h1,h2,mt _ _ _ _ _ m q⟩
 cases d with
 |tup ds=>
  have:∃a vs,v=.ref a/\kX X.K H a vs/\Pr (Al X.K ct F B (n-1)) ds vs:=by
   cases n with
   |zero=>
    have l:Dt X.K ct F (.tup ds) v:=l
    cases l with
    |tup q t=>exact⟨_,_,rfl,kX.of (rs.fh _ _ q),t.pr⟩
   |succ n=>
    rcases l with l|l
    ·cases l with
     |tup q t=>exact⟨_,_,rfl,kX.of (rs.fh _ _ q),t.pr.mono λ_ _=>Al.of⟩
    ·cases l with
     |tup q t=>exact⟨_,_,rfl,kX.of (rs.fh _ _ q),t⟩
  obtain⟨a,vs,rfl,ha,hp⟩:=this
  exact⟨a,vs,rfl,ha,hp.length.symm.trans (lt _ _ _ e),qt F0 B F H ρ ρ' σ ds vs Q rs hp e w⟩
 |_=>cases e
def fw (ρ:Env)(cap:List Nat):Env:=cap.map λi=>(ρ[i]?).join
def ig (ms:List Mo)(cap:List Nat):List Mo:=cap.map λi=>.al (((ms[i]?).map Mo.lv).getD 0)
def oz (g:D->Env->Option Env)(p:BF)(f:EF)(ρ0:Env):List D->Option (List D)
 |[]=>some []
 |d::ds=>(g d ρ0).bind λρ1=>(p ρ1).bind λb=>if b=true then(f ρ1).bind λy=>(oz g p f ρ0 ds).bind λys=>some (y::ys)else oz g p f ρ0 ds
def dW (fi:Env->Option (List D))(own:Nat)(cap:List Nat)(g:D->Env->Option Env)(p:BF)(f:EF):EF:=λρ=>(fi ρ).bind λds=>if ds.length<=16777216 then(oz g p f (aC own none++fw ρ cap) ds).bind λys=>some (.lst ys)else none
theorem SL.caps {F B H:Hp}{ms:List Mo}{ρ:Env}{σ:St}(rs:RS K ct F0 B ms F H ρ σ):∀{cap:List Nat},(∀i∈cap,i<ms.length)->SL K ct F H H (ig ms cap) (fw ρ cap) (gJ σ cap) []
 |[],_=>.nil
 |i::cap,h=>by
  have ih:=SL.caps rs (cap:=cap) λj hj=>h j (aj _ hj)
  have hi:i<ms.length:=h i aa
  have hm:ms[i]?=some ms[i]:=by simp[hi]
  show SL K ct F H H (.al (((ms[i]?).map Mo.lv).getD 0)::ig ms cap) ((ρ[i]?).join::fw ρ cap) ((σ[i]?).join::gJ σ cap) []
  cases e:(ρ[i]?).join with
  |none=>exact .no ih
  |some d=>
   obtain⟨v,hv,l⟩:=rs.get hm (yj e)
   rw[hv,hm]
   exact .al l ih
theorem SL.nones {F B H:Hp}{ms Np:List Mo}{ρ:Env}{σ:St}{fp:List ai}(t:SL K ct F B H ms ρ σ fp):∀{om:List Mo},SL K ct F B H (om++ms) (aC om.length none ++ ρ) (aC om.length none ++ σ) fp
 |[]=>t
 |m::om=>.no (SL.nones (Np:=Np) t)
theorem S7 {X:Cx}{ms om:List Mo}{n k:Nat}{kc iter tg:Expr}{ifs:List Expr}{scope:gH}{pos:dF}{N:List aX}{own:Nat}{cap:List Nat}{fi:Env->Option (List D)}{gg:D->Env->Option Env}{p:BF}{f:EF}
  (B:kQ X scope N own cap) (hc:X.calm=true) (ho:om.length=own) (iI:∀i∈cap,i<ms.length) (hi:zU X ct ms n tg iter fi)
  (hg:∀cl C fp s₀ H₀,wL (iV X scope cl N C fp s₀ H₀) ct (om++ig ms cap) own n tg gg) (ht:∀cl C fp s₀ H₀,zV (iV X scope cl N C fp s₀ H₀) ct (om++ig ms cap) ifs p) (he:∀cl C fp s₀ H₀,XO (iV X scope cl N C fp s₀ H₀) ct (om++ig ms cap) k kc f)
  :
  ∃wi g tt te,PI X tg iter wi/\gL own g/\(∀cl C fp s₀ H₀,PG (iV X scope cl N C fp s₀ H₀) tg g)/\(∀cl C fp s₀ H₀,yC (iV X scope cl N C fp s₀ H₀) ifs tt)/\(∀cl C fp s₀ H₀,PE (iV X scope cl N C fp s₀ H₀) kc te) /\
   ∀(F0 B F H:Hp) (ρ:Env) (σ:St) (d:D) (Q:VK),RS X.K ct F0 B ms F H ρ σ->dW fi own cap gg p f ρ=some d->(∀v F' H' fp,gD F H F' H'->Ow X.K ct F' H' (k+1) d v fp->fp.Nodup->(∀a∈fp,H a=none)->Q v H')->rX wi own cap g tt te σ H Q:=by
 obtain⟨wi,pi,qi⟩:=hi
 obtain⟨RA,pg,kg,qg⟩:=zwu (K:=X.K) (Xs:=λz:List (aX×ai)×ai×List ai×ap×Hp=>iV X scope z.1 N z.2.1 z.2.2.1 z.2.2.2.1 z.2.2.2.2) (λ_=>rfl) (λz=>hg z.1 z.2.1 z.2.2.1 z.2.2.2.1 z.2.2.2.2)
 obtain⟨tt,pt,qt⟩:=zwt (K:=X.K) (Xs:=λz:List (aX×ai)×ai×List ai×ap×Hp=>iV X scope z.1 N z.2.1 z.2.2.1 z.2.2.2.1 z.2.2.2.2) (λ_=>rfl) (λz=>ht z.1 z.2.1 z.2.2.1 z.2.2.2.1 z.2.2.2.2)
 obtain⟨te,pe,qe⟩:=zws (K:=X.K) (Xs:=λz:List (aX×ai)×ai×List ai×ap×Hp=>iV X scope z.1 N z.2.1 z.2.2.1 z.2.2.2.1 z.2.2.2.2) (λ_=>rfl) (λz=>he z.1 z.2.1 z.2.2.1 z.2.2.2.1 z.2.2.2.2)
 refine⟨wi,RA,tt,te,pi,kg,(λcl C fp s₀ H₀=>pg (cl,C,fp,s₀,H₀)),(λcl C fp s₀ H₀=>pt (cl,C,fp,s₀,H₀)),(λcl C fp s₀ H₀=>pe (cl,C,fp,s₀,H₀)),λF0 B F H ρ σ r Q rs e w=>?_⟩
 obtain⟨ds,h1,h2⟩:=aY e
 by_cases hz:ds.length<=16777216
 case neg=>rw[if_neg hz]at h2;cases h2
 rw[if_pos hz]at h2
 obtain⟨ys,h3,h4⟩:=aY h2
 cases h4
 refine qi F0 B F H ρ σ ds _ rs h1 λJ F1 H1 x1 ok A hA=>?_
 have lM:=rs.ext x1
 refine⟨λi m us H2=>m=ds.length-i/\i<=ds.length/\us.length<=i/\H2 A=some (.lst us)/\∃F2 yd zd fp,gD F1 H1 F2 H2/\F2 A=none/\OwL (Ow X.K ct F2 H2 k) yd us fp/\fp.Nodup/\(∀a∈fp,H1 a=none/\a≠A)/\oz gg p f (aC own none++fw ρ cap) (ds.drop i)=some zd/\yd++zd=ys,
  ⟨ds.length,rfl,dr _,aM _,yt,F1,[],ys,[],gD.newO x1.fh hA _,x1.fh.free hA,.nil,bQ,λa z=>(by cases z),h3,rfl⟩,?_⟩
 rintro i m us H2 ⟨rfl,Co,QW,Jz,F2,yd,zd,fp,x2,fA,ol,nd,hf,jT,JP⟩
 refine⟨Jz,?_⟩
 have ZI:=lM.ext x2
 obtain⟨k1,k2⟩:=ok i F2 H2 x2.ff x2.hh x2.fh
 by_cases gK:i<ds.length
 ·right
  have hd:ds[i]?=some ds[i]:=by simp[gK]
  obtain⟨go,yl⟩:=k1 _ hd
  rw[oo gK]at jT
  obtain⟨ρ1,h5,h6⟩:=aY jT
  obtain⟨b,h7,h8⟩:=aY h6
  refine⟨go,by rw[cV];omega,λx H3 y=>?_⟩
  obtain⟨F3,x3,l⟩:=yl x H3 y
  have ZJ:=ZI.ext x3
  have sl:=SL.nones (Np:=[]) (SL.caps ZJ iI) (om:=om)
  rw[ho]at sl
  have ZK:RS X.K ct F3 H3 (om++ig ms cap) F3 H3 (aC own none++fw ρ cap) (aC own none++gJ σ cap):=⟨.refl _,.refl _,x3.fh,λ_ _ _ h=>h,[],sl,bQ,λa z=>(by cases z)⟩
  have A3:H3 A=some (.lst us):=x3.hh _ _ Jz
  have Qx:F3 A=none:=x3.nf A _ Jz fA
  refine qg F3 H3 F3 H3 _ ρ1 _ _ x _ ZK (l.mono (.refl _) (x2.trans x3).hh) h5 λσ1 r1=>?_
  refine qt F3 H3 F3 H3 ρ1 σ1 b _ r1 h7 λF4 H4 x4=>?_
  cases b with
  |false=>
   rw[if_neg aQ]at h8 ⊢
   have RE:=x3.trans x4
   refine⟨ds.length-(i+1),by omega,rfl,gK,by omega,x4.hh _ _ A3,F4,yd,zd,fp,x2.trans RE,x4.nf A _ A3 Qx,ol.mono λ_ _ _ _ o=>o.ext RE,nd,hf,h8,JP⟩
  |true=>
   rw[if_pos rfl]at h8 ⊢
   obtain⟨yv,h9,WS⟩:=aY h8
   obtain⟨zs,WT,WU⟩:=aY WS
   cases WU
   refine qe F3 H3 F4 H4 ρ1 σ1 yv _ (r1.ext x4) h9 λv F5 H5 f5 x5 o5 n5 MM=>?_
   have NZ:=(x3.trans x4).trans x5
   have RF:=x4.trans x5
   have A5:H5 A=some (.lst us):=RF.hh _ _ A3
   have Qy:F5 A=none:=RF.nf A _ A3 Qx
   have A4:H4 A=some (.lst us):=x4.hh _ _ A3
   have QA:∀a∈f5,a≠A:=λa z e=>by rw[e]at z;rw[MM A z]at A4;cases A4
   refine⟨A5,ds.length-(i+1),by omega,rfl,gK,by rw[aZ,cO];omega,yt,F5,yd++[yv],zs,fp++(f5++[]),?_,Qy,?_,?_,?_,WT,by rw[dN];exact JP⟩
   ·have J5:=x2.trans NZ
    refine⟨J5.ff,λa o h=>?_,λa o h=>?_,J5.nf⟩
    ·rw[yo (xr h hA)];exact J5.hh _ _ h
    ·rw[yo (λz=>by rw[z]at h;rw[Qy]at h;cases h)];exact J5.fh _ _ h
   ·refine(ol.mono λ_ _ f Xk o=>?_).append (.cons ?_ .nil)
    ·refine(o.ext NZ).frame (.refl _) λa z=>⟨yo (hf a (Xk a z)).2,((o.ext NZ).cells a z).1⟩
    ·exact o5.frame (.refl _) λa z=>⟨yo (QA a z),(o5.cells a z).1⟩
   ·rw[cA]
    refine br.mpr ⟨nd,n5,λa z c hc e=>?_⟩
    subst e
    have:∃o,H2 a=some o:=(OwL.cellsOf ol a z).2
    obtain⟨o,ho⟩:=this
    have:=x4.hh _ _ (x3.hh _ _ ho)
    rw[MM a hc]at this
    cases this
   ·intro a z
    rw[cA]at z
    rcases bg.mp z with z|z
    ·exact hf a z
    ·refine⟨?_,QA a z⟩
     have x14:=x2.trans (x3.trans x4)
     exact x14.hh.free (MM a z)
 ·left
  refine⟨k2 (by omega),?_⟩
  have:ds.drop i=[]:=pC (by omega)
  rw[this]at jT
  cases jT
  rw[cA]at JP
  subst JP
  refine w _ F2 H2 (A::fp) (x1.trans x2) (.inr (.lst fA Jz ol)) (bP.mpr ⟨λz=>(hf A z).2 rfl,nd⟩) λa z=>?_
  rcases aF.mp z with rfl|z
  ·exact x1.hh.free hA
  ·exact x1.hh.free (hf a z).1
theorem zsj {X:Cx}{ms om:List Mo}{n k:Nat}{kc iter tg:Expr}{ifs:List Expr}{scope:gH}{pos:dF}{N:List aX}{own:Nat}{cap:List Nat}{fi:Env->Option (List D)}{gg:D->Env->Option Env}{p:BF}{f:EF}
  (B:kQ X scope N own cap) (hc:X.calm=true) (ho:om.length=own) (iI:∀i∈cap,i<ms.length) (hi:zU X ct ms n tg iter fi)
  (hg:∀cl C fp s₀ H₀,wL (iV X scope cl N C fp s₀ H₀) ct (om++ig ms cap) own n tg gg) (ht:∀cl C fp s₀ H₀,zV (iV X scope cl N C fp s₀ H₀) ct (om++ig ms cap) ifs p) (he:∀cl C fp s₀ H₀,XO (iV X scope cl N C fp s₀ H₀) ct (om++ig ms cap) k kc f)
  (hs:∀x,dX iter X.env x=pure x:=by intro _;rfl):XO X ct ms (k+1) (.ListComp kc [⟨tg,iter,ifs,0⟩] scope pos) (dW fi own cap gg p f):=by
 obtain⟨wi,g,tt,te,pi,kg,pg,pt,pe,q⟩:=S7 (k:=k) (pos:=pos) B hc ho iI hi hg ht he
 exact⟨_,zsb B hc pi kg pg pt pe hs,q⟩
end
end L3
namespace L3
open PySem PySem.Spec L2
open PyProof.Rows hiding St
section
variable {X:Cx}{ct:Nat->ai}{ms:List Mo}{rk n m k:Nat}{st:bT}{rest:List bT}{a b c e tg:Expr}{f g h:EF}{p q:BF}{u w:SF}{pos:dF}
def Jo:D->Option (List D)
 |.lst ds=>some ds
 |_=>none
theorem S8 {d:D}{ds:List D}(h:Jo d=some ds):d=.lst ds:=by cases d<;>simp[Jo]at h;subst h;rfl
def lsD (f:EF):Env->Option (List D):=λρ=>(f ρ).bind Jo
theorem UJ {K:ae}{F B G:Hp}{a:ai}{vs:List V}{ds:List D}(hp:Pr (Al K ct F B n) ds vs)(keep:∀F' H',ce F F'->ce B H'->ce F' H'->fX K H' a vs):t9 K ct F B n (K8 K a) ds:=by
 intro i F' H' s1 s2 s3
 have hs:fX K H' a vs:=keep F' H' s1 s2 s3
 refine⟨λd hd=>?_,λhl=>⟨vs,hs,by rw[←hp.length];exact hl⟩⟩
 obtain⟨v,hv,l⟩:=hp.get' hd
 refine⟨⟨vs,v,hs,hv⟩,λx H2 y=>?_⟩
 obtain⟨e,y⟩:=y
 subst e
 have:=y vs hs
 rw[hv]at this
 cases this
 exact⟨F',.refl s3,l.mono s1 (.refl _)⟩
theorem Dt.lst_inv {K:ae}{F:Hp}{ds:List D}{v:V}(h:Dt K ct F (.lst ds) v):∃a vs,v=.ref a/\fX K F a vs/\Dts K ct F ds vs:=by
 cases h with
 |lst q t=>exact⟨_,_,rfl,q,t⟩
theorem xQ (he:XE X ct ms 0 e f):XI X ct ms 0 tg e (lsD f):=by
 obtain⟨t,pt,qt⟩:=he
 refine⟨_,TX pt,λF0 B F H ρ σ ds R rs e w=>?_⟩
 obtain⟨d,h1,h2⟩:=aY e
 rw[S8 h2]at h1
 refine qt F0 B F H ρ σ _ _ rs h1 λv F' H' x l=>?_
 obtain⟨a,vs,rfl,ha,hp⟩:=Dt.lst_inv l
 exact⟨a,rfl,⟨vs,x.fh.seq ha⟩,w _ F' H' x (UJ (G:=H') (n:=0) (hp.pr) λF2 H2 s1 s2 s3=>s3.seq (s1.seq ha))⟩
theorem vk (he:XE X ct ms n e f):zU X ct ms (n-1) tg e (lsD f):=by
 obtain⟨t,pt,qt⟩:=he
 refine⟨_,TX pt,λF0 B F H ρ σ ds R rs e w=>?_⟩
 obtain⟨d,h1,h2⟩:=aY e
 rw[S8 h2]at h1
 refine qt F0 B F H ρ σ _ _ rs h1 λv F' H' x l=>?_
 obtain⟨a,vs,rfl,ha,hp⟩:=l.lst x.fh
 exact⟨a,rfl,⟨vs,ha⟩,w _ F' H' x (UJ (G:=H') hp λF2 H2 s1 s2 s3=>s2.seq ha)⟩
theorem XI.cc {fi:Env->Option (List D)}(h:XI X ct ms n tg e fi):zU X ct ms n tg e fi:=by
 obtain⟨t,pt,qt⟩:=h
 refine⟨t,pt,λF0 B F H ρ σ ds R rs e w=>qt F0 B F H ρ σ ds R rs e λJ F' H' x ok=>w J F' H' x λi F2 H2 s1 s2 s3=>?_⟩
 obtain⟨k1,k2⟩:=ok i F2 H2 s1 ((rs.ext x).bh.trans s2) s3
 refine⟨λd hd=>?_,k2⟩
 obtain⟨go,yl⟩:=k1 d hd
 refine⟨go,λv H3 y=>?_⟩
 obtain⟨F3,x3,l⟩:=yl v H3 y
 exact⟨F3,x3,l.mono (.refl _) (rs.ext x).bh⟩
def fJ (lo:Int)(j:Nat):List D:=(aw j).map λ(t:Nat)=>.int (lo+(t:Int))
def hJ:List D->Option (List D)
 |[.int j]=>if -4611686018427387904<=j/\j<4611686018427387904 then some (fJ 0 j.toNat)else none
 |_=>none
theorem zvb {K:ae}{F B:Hp}{lo:Int}{j:Nat}:t9 K ct F B n (Jj lo j) (fJ lo j):=by
 intro i F' H' s1 s2 s3
 unfold fJ
 refine⟨λd hd=>?_,λhl=>(show j<=i by simpa using hl)⟩
 rw[aD]at hd
 by_cases h:i<j
 ·rw[eM h]at hd
  cases hd
  refine⟨h,λx H2 y=>?_⟩
  obtain⟨e,y⟩:=y
  subst e
  subst y
  exact⟨F',.refl s3,Al.of (.int _)⟩
 ·rw[cY (by simpa using h)]at hd
  cases hd
theorem v6 {fs:Env->Option (List D)}{pp:dF}(hm:X.mg "range"=none)(ha:XA X ct ms [a] [m] fs)(hg:Gl X "range":=by rfl)(hs:ay [a] X.env=[(false,bY a X.env)]:=by rfl):XI X ct ms n tg (.Call (.Name "range" pp) [a] [] pos) (λρ=>(fs ρ).bind hJ):=by
 obtain⟨t,pt,_,qt⟩:=ha
 refine⟨_,zlx hg hm pt hs,λF0 B F H ρ σ ds R rs e w=>?_⟩
 obtain⟨qZ,h1,h2⟩:=aY e
 refine qt F0 B F H ρ σ _ _ rs h1 λvs F' H' x l=>?_
 cases l with
 |cons h t=>
  cases t
  rename_i d v
  cases d with
  |int j=>
   unfold hJ at h2
   dsimp only at h2
   by_cases hj:-4611686018427387904<=j/\j<4611686018427387904
   ·rw[if_pos hj]at h2
    cases h2
    exact⟨j,by rw[h.int],by omega,by omega,w _ F' H' x zvb⟩
   ·rw[if_neg hj]at h2;cases h2
  |_=>cases h2
def eA (i:Nat):List D->List D
 |[]=>[]
 |d::ds=>.tup [.int i,d]::eA (i+1) ds
theorem OC:∀{ds:List D} {j i:Nat} {d:D},(eA j ds)[i]?=some d->∃x,ds[i]?=some x/\d=.tup [.int (j+i:Nat),x]
 |[],_,_,_,h=>by simp[eA]at h
 |x::ds,j,0,d,h=>by simp[eA]at h;subst h;exact⟨x,rfl,rfl⟩
 |x::ds,j,i+1,d,h=>by
  obtain⟨y,h1,h2⟩:=OC (ds:=ds) (j:=j+1) (i:=i) (d:=d) (by simpa[eA]using h)
  exact⟨y,by simpa using h1,by rw[h2,Nat.add_assoc,Nat.add_comm 1 i]⟩
theorem SI:∀{ds:List D} {j:Nat},(eA j ds).length=ds.length
 |[],_=>rfl
 |_::ds,j=>by simp[eA,SI (ds:=ds)]
theorem UK {K:ae}{F B:Hp}{a:ai}{vs:List V}{ds:List D}(hp:Pr (Al K ct F B n) ds vs)(keep:∀F' H',ce F F'->ce B H'->ce F' H'->fX K H' a vs):t9 K ct F B (n+1) (K7 K a) (eA 0 ds):=by
 intro i F' H' s1 s2 s3
 have hs:fX K H' a vs:=keep F' H' s1 s2 s3
 refine⟨λd hd=>?_,λhl=>⟨vs,hs,by rw[←hp.length];rw[SI]at hl;exact hl⟩⟩
 obtain⟨x,hx,rfl⟩:=OC hd
 obtain⟨v,hv,l⟩:=hp.get' hx
 refine⟨⟨vs,v,hs,hv⟩,λz H2 y=>?_⟩
 obtain⟨r,y',hr,rfl,rfl,y⟩:=y
 have:=y vs hs
 rw[hv]at this
 cases this
 refine⟨_,gD.newS s3 hr _,.inr (.tup yt (.cons (Al.of ?_) (.cons (l.mono (s1.trans (IQ (s3.free hr) _)) (.refl _)) .nil)))⟩
 rw[p7]
 exact .int _
theorem zsk {fs:Env->Option (List D)}{pN:List Expr}{kt:Nat}{pt pp:dF}(hm:X.mg "enumerate"=none)(ha:XA X ct ms [a] [0] fs)(hg:Gl X "enumerate":=by rfl)(hs:ay [a] X.env=[(false,bY a X.env)]:=by rfl) :
  XI X ct ms 1 (.Tuple pN kt pt) (.Call (.Name "enumerate" pp) [a] [] pos) (λρ=>(fs ρ).bind λds=>match ds with|[.lst xs]=>some (eA 0 xs)|_=>none):=by
 obtain⟨t,pt,_,qt⟩:=ha
 refine⟨_,T9 hg hm pt hs,λF0 B F H ρ σ ds R rs e w=>?_⟩
 obtain⟨qZ,h1,h2⟩:=aY e
 refine qt F0 B F H ρ σ _ _ rs h1 λvs F' H' x l=>?_
 cases l with
 |cons h t=>
  cases t
  rename_i d v
  cases d with
  |lst xs=>
   cases h2
   obtain⟨a,vs,rfl,ha,hp⟩:=Dt.lst_inv h
   exact⟨a,rfl,⟨vs,x.fh.seq ha⟩,w _ F' H' x (UK (n:=0) hp.pr λF2 H2 s1 s2 s3=>s3.seq (s1.seq ha))⟩
  |_=>cases h2
theorem Kt {fs:Env->Option (List D)}{pN:List Expr}{kt:Nat}{pt pp:dF}(hm:X.mg "enumerate"=none)(ha:XA X ct ms [a] [n] fs)(hg:Gl X "enumerate":=by rfl)(hs:ay [a] X.env=[(false,bY a X.env)]:=by rfl) :
  zU X ct ms (n-1+1) (.Tuple pN kt pt) (.Call (.Name "enumerate" pp) [a] [] pos) (λρ=>(fs ρ).bind λds=>match ds with|[.lst xs]=>some (eA 0 xs)|_=>none):=by
 obtain⟨t,pt,_,qt⟩:=ha
 refine⟨_,T9 hg hm pt hs,λF0 B F H ρ σ ds R rs e w=>?_⟩
 obtain⟨qZ,h1,h2⟩:=aY e
 refine qt F0 B F H ρ σ _ _ rs h1 λvs F' H' x l=>?_
 cases l with
 |cons h t=>
  cases t
  rename_i d v
  cases d with
  |lst xs=>
   cases h2
   obtain⟨a,vs,rfl,ha,hp⟩:=h.lst x.fh
   exact⟨a,rfl,⟨vs,ha⟩,w _ F' H' x (UK hp λF2 H2 s1 s2 s3=>s2.seq ha)⟩
  |_=>cases h2
end
end L3
namespace L3
open PySem PySem.Spec L2
open PyProof.Rows hiding St
section
variable {X:Cx}{ct:Nat->ai}{ms:List Mo}{rk n m k:Nat}{st:bT}{rest:List bT}{a b c e tg:Expr}{f g h:EF}{p q:BF}{u w:SF}{pos:dF}
theorem Ow.lst_inv {K:ae}{F H:Hp}{ds:List D}{v:V}{fp:List ai}(h:Ow K ct F H (k+1) (.lst ds) v fp):∃a vs fr,v=.ref a/\fp=a::fr/\F a=none/\H a=some (.lst vs)/\OwL (Ow K ct F H k) ds vs fr:=by
 rcases h with⟨h,_⟩|h
 ·cases h
 ·cases h with
  |lst h1 h2 h3=>exact⟨_,_,_,rfl,rfl,h1,h2,h3⟩
theorem Ow.dK_inv {K:ae}{F H:Hp}{ks:List fH}{ds:List D}{v:V}{fp:List ai}(h:Ow K ct F H (k+1) (.dK ks ds) v fp):∃a vs fr,v=.ref a/\fp=a::fr/\F a=none/\H a=some (.dK (ks.zip vs))/\ks.length=vs.length/\OwL (Ow K ct F H k) ds vs fr:=by
 rcases h with⟨h,_⟩|h
 ·cases h
 ·cases h with
  |dK h1 h2 h3 h4=>exact⟨_,_,_,rfl,rfl,h1,h2,h3,h4⟩
theorem Ow.dT_inv {K:ae}{F H:Hp}{ks:List (List fH)}{ds:List D}{v:V}{fp:List ai}(h:Ow K ct F H (k+1) (.dT ks ds) v fp):∃a vs fr,v=.ref a/\fp=a::fr/\F a=none/\H a=some (.dT (ks.zip vs))/\ks.length=vs.length/\OwL (Ow K ct F H k) ds vs fr:=by
 rcases h with⟨h,_⟩|h
 ·cases h
 ·cases h with
  |dT h1 h2 h3 h4=>exact⟨_,_,_,rfl,rfl,h1,h2,h3,h4⟩
theorem RS.change {K:ae}{F0 B F H F' H':Hp}{ρ:Env}{σ:St}{i:Nat}{d':D}{v:V}{f1 fr fn:List ai}{ad:ai}{o:HO}(rs:RS K ct F0 B ms F H ρ σ)(hm:ms[i]?=some (.ow k))(x:gD F H F' H')
  (hσ:σ[i]?=some (some v)) (b1:∀a∈f1,B a=none) (dj:∀a∈f1,a∉fr) (cf:∀a∈fr,F a=none/\∃o,H a=some o)
  (put:∀(F' H':Hp) (d':D) (v':V) (f':List ai),ce F F'->ce B H'->ce F' H'->(∀a o,B a=some o->F0 a=none->F' a=none)->(∀a∈fr,H' a=H a/\F' a=none)->Ow K ct F' H' k d' v' f'->f'.Nodup->(∀a∈f',a∉fr)->(∀a∈f',B a=none) ->
    RS K ct F0 B ms F' H' (ρ.set i (some d')) (σ.set i (some v')))
  (iN:ad∈f1) (Mi:F' ad=none) (o':Ow K ct F' (d4 H' ad o) k d' v fn) (nd:fn.Nodup) (Cm:∀a∈fn,a∈f1\/H a=none):RS K ct F0 B ms F' (d4 H' ad o) (ρ.set i (some d')) σ:=by
 have r:=rs.ext x
 have hB:B ad=none:=b1 ad iN
 have res:=put F' (d4 H' ad o) d' v fn x.ff (λz u h=>by rw[yo (λe=>by rw[e,hB]at h;cases h)];exact r.bh _ _ h) (λz u h=>by rw[yo (λe=>by rw[e,Mi]at h;cases h)];exact x.fh _ _ h) r.nf
  (λz hz=>by
   obtain⟨hn,o,ho⟩:=cf z hz
   refine⟨?_,x.nf z o ho hn⟩
   have ne:z≠ad:=λe=>dj ad iN (by rw[←e];exact hz)
   rw[yo ne]
   exact(x.hh _ _ ho).trans ho.symm) o' nd
  (λz hz zr=>by
   rcases Cm z hz with h|h
   ·exact dj z h zr
   ·obtain⟨_,o,ho⟩:=cf z zr
    rw[h]at ho
    cases ho)
  (λz hz=>(Cm z hz).elim (b1 z) λh=>rs.bh.free h)
 have e:σ.set i (some v) = σ:=by
  apply fk
  intro j
  by_cases hj:i=j
  ·subst hj
   rw[jD (by
    have:=aW.mp hσ
    exact this.1),hσ]
  ·rw[df hj]
 rw[e]at res
 exact res
def sApp (i:Nat)(f:EF):SF:=λρ=>(eV i ρ).bind λo=>(f ρ).bind λd=>match o with
 |.lst ds=>if ds.length<16777216 then some (.nx (ρ.set i (some (.lst (ds++[d])))))else none
 |_=>none
theorem ju (i:Nat){x:aX}{p1 ez e7:dF}(hm:ms[i]?=some (.ow (k+1)))(he:XO X ct ms k e f)(hN:X.N[i]?=some x:=by rfl)(hv:qF X.env.scope x:=by first|exact Or.inl rfl|exact Or.inr (Or.inl rfl)|exact Or.inr (Or.inr rfl))(hd:(x==("__debug__":aX))=false:=by decide)
  (jT:(x==("__classdict__":aX))=false:=by decide) (lK:ay [e] X.env=(false,bY e X.env)::ay [] X.env:=by rfl)
  (ny:fG (.Name x p1) "append" X.env (bY (.Name x p1) X.env)=bY (.Name x p1) X.env:=by rfl)
  (rh:((cQ e7 (ay [e] X.env)).all (λx=>!x.1)&&(fR e7 (dR [] X.env)).all (λx=>x.1.isSome)
   && decide ([e].length+([]:List hZ).length+(if([]:List hZ).isEmpty then 0 else 1)<30))=true:=by rfl)
  (nz:(ez.endLine==e7.line)=true:=by rfl) (kB:(cQ e7 (ay [] X.env)).any (·.1)=false:=by rfl)
  (xA:eh (.Call (.Attribute (.Name x p1) "append" ez) [e] [] e7) none pos.line X.env=pure false:=by rfl) :
  XS X ct ms rk (.Expr (.Call (.Attribute (.Name x p1) "append" ez) [e] [] e7) pos) (sApp i f):=by
 obtain⟨t,pt,qt⟩:=he
 refine⟨_,O6 (KY PySem.F.plainAttrs_list PySem.F.slot_list_append PySem.F.type_list_append Kj (sY hN hv hd jT) (v4 pt tT lK) ny rh nz lK kB) xA,λF0 B F H ρ σ o E rs e z=>?_⟩
 obtain⟨d1,d2,h1,h2,h3⟩:=dP e
 obtain⟨f1,fr,n1,b1,dj,i4,cf,put⟩:=rs.put (F':=F) (H':=H) hm
 obtain⟨v,hσ,ow⟩:=i4 d1 (yj h1)
 refine⟨v,hσ,?_⟩
 cases d1 with
 |lst ds=>
  dsimp only at h3
  by_cases hz:ds.length<16777216
  ·rw[if_pos hz]at h3
   cases h3
   obtain⟨ad,vs,oT,rfl,rfl,hF,hH,ol⟩:=ow.lst_inv
   refine⟨.inl ⟨rfl,_,fX.of hH⟩,qt F0 B F H ρ σ d2 _ rs h2 λv2 F' H' fp x1 o2 BB ML=>?_⟩
   have hA:H' ad=some (.lst vs):=x1.hh _ _ hH
   have fA:F' ad=none:=x1.nf ad _ hH hF
   have nA:∀a∈fp,a≠ad:=λa hz e=>by rw[e]at hz;rw[ML ad hz]at hH;cases hH
   have Nr:=bP.mp n1
   refine⟨ad,vs,v2,rfl,rfl,hA,by rw[←ol.length,cV];exact hz,?_⟩
   refine z σ F' _ (rs.change hm x1 hσ b1 dj cf put aa fA (.inr (.lst fA yt ((ol.mono λ_ _ f' hi o'=>?_).append (.cons (f:=fp) ?_ .nil)))) (fn:=ad::(oT++(fp++[]))) ?_ ?_)
   ·refine(o'.ext x1).frame (.refl _) λa ha=>⟨yo λe=>Nr.1 (e▸hi a ha),((o'.ext x1).cells a ha).1⟩
   ·exact o2.frame (.refl _) λa ha=>⟨yo (nA a ha),(o2.cells a ha).1⟩
   ·rw[cA]
    refine bP.mpr ⟨λhz=>?_,br.mpr ⟨Nr.2,BB,λa ha b hb e=>?_⟩⟩
    ·rcases bg.mp hz with hz|hz
     ·exact Nr.1 hz
     ·exact nA ad hz rfl
    ·subst e
     obtain⟨_,o,ho⟩:=OwL.cellsOf ol a ha
     rw[ML a hb]at ho
     cases ho
   ·intro a ha
    rw[cA]at ha
    rcases aF.mp ha with rfl|ha
    ·exact .inl aa
    ·rcases bg.mp ha with ha|ha
     ·exact .inl (aj _ ha)
     ·exact .inr (ML a ha)
  ·rw[if_neg hz]at h3;cases h3
 |_=>cases h3
def pU (ds:List D)(i:Int)(d:D):Option (List D):=(ixN ds.length i).bind λj=>some (ds.set j d)
def gq {κ:Type}[DecidableEq κ](ks:List κ)(ds:List D)(k:κ)(d:D):List κ×List D:=if ks.contains k=true then(ks,(ks.zip ds).map λp=>if p.1=k then d else p.2)else(ks++[k],ds++[d])
def pT (i:Nat)(fj f:EF):SF:=λρ=>(f ρ).bind λd=>(eV i ρ).bind λo=>(fj ρ).bind λj=>match o,j with
 |.lst ds,.int z=>(pU ds z d).bind λqZ=>some (.nx (ρ.set i (some (.lst qZ))))
 |_,_=>none
theorem OwL.set0 {R:D->V->List ai->Prop}{d:D}{v:V}(r:R d v [])(z:∀d v f,R d v f->f=[]):∀{ds:List D} {vs:List V} {fp:List ai} (i:Nat),OwL R ds vs fp->OwL R (ds.set i d) (vs.set i v) []
 |_,_,_,_,.nil=>.nil
 |_,_,_,0,.cons h t=>by
  have:=OwL.cons (f:=[]) (g:=[]) r (OwL.ofPr (t.pr λd v f _ q=>by have:=z _ _ _ q;subst this;exact q))
  exact this
 |_,_,_,i+1,.cons h t=>by
  have e:=z _ _ _ h
  subst e
  exact OwL.cons (f:=[]) (g:=[]) h (OwL.set0 r z i t)
theorem Ow.nil0 {K:ae}{F H:Hp}{d:D}{v:V}{fp:List ai}(h:Ow K ct F H 0 d v fp):fp=[]:=h.2
theorem OwL.nil0 {K:ae}{F H:Hp}:∀{ds:List D} {vs:List V} {fp:List ai},OwL (Ow K ct F H 0) ds vs fp->fp=[]
 |_,_,_,.nil=>rfl
 |_,_,_,.cons h t=>by rw[h.nil0,OwL.nil0 t];rfl
end
end L3
namespace L3
open PySem PySem.Spec L2
open PyProof.Rows hiding St
section
variable {X:Cx}{ct:Nat->ai}{ms:List Mo}{rk n m k:Nat}{st:bT}{rest:List bT}{a b c e tg:Expr}{f g h:EF}{p q:BF}{u w:SF}{pos:dF}{K:ae}
theorem Nm {am:List (ai×d8)}{σ:St}{H:Hp}{s:ap}{l:ai}{xs:List V}(I:Inv X am σ H s)(hH:Rd H l (.lst xs)):xs.length<=sizeLine/\∃(cv:List af) (n:Nat),ck xs cv/\xs.length=cv.length/\s.heap.get? l=some { cls:=.type "list",data:=.seq cv.toArray n }:=by
  obtain⟨z,cv,n,r,e⟩:=hH.ok I.hok
  exact⟨z,cv,n,r,r.length,e⟩
def yT (K:ae):R2:=λx y H Q=>∃l b xs zs,x=.ref l/\y=.ref b/\fX K H l xs/\fX K H b zs/\xs.length+zs.length<=sizeLine/\∀p,H p=none->Q (.ref p) (d4 H p (.lst (xs++zs)))
theorem zsl:gu X (eD .Add) (yT X.K):=by
 intro am s σ H x y v u Q I rx ry h
 obtain⟨l,b,xs,zs,rfl,rfl,hH,hB,hz,q⟩:=h
 cases rx
 cases ry
 obtain⟨cv,r,⟨⟨cls,dd,data,sl⟩,n,e,c1,c2,c3⟩,z⟩:=I.list hH
 obtain⟨xB,r2,⟨⟨Lq,Js,data2,Ih⟩,n2,e2,c4,c5,c6⟩,z2⟩:=I.list hB
 simp only at c1 c3 c4 c6
 subst c1 c3 c4 c6
 have hl:=r.length
 have vS:=r2.length
 refine tJ ⟨_,e,rfl⟩ ⟨_,e2,rfl⟩ noFill_list_add seq_list_add PySem.F.slot_list_add PySem.F.entry_list_add (PySem.F.args_list_add_2 _ _) (list_addW l b cv.toArray xB.toArray n n2 dd Js sl Ih (by rw[aL,aL];omega)) ⟨e,e2,?_⟩
 have ea:cv.toArray++xB.toArray=(cv++xB).toArray:=by simp
 rw[ea]
 exact⟨.ref _,_,I.lnew (t':=s.toks) (r.append r2) (by rw[aZ];omega),rfl,q _ I.fresh⟩
def HS:R2:=λx y H Q=>∃i j,x=.str i/\y=.str j/\i.length+j.length<=sizeLine/\Q (.str (i++j)) H
def BK (K:ae):R2:=λx y H Q=>qH (λi j=>.int (i+j)) x y H Q\/HS x y H Q\/yT K x y H Q\/yU K x y H Q
theorem zsm:gu X (eD .Add) (BK X.K):=gu.or zuo (gu.or zky (gu.or zsl zr2))
def e6:D->D->Option D
 |.int i,.int j=>some (.int (i+j))
 |.str x,.str y=>if x.length+y.length<=16777216 then some (.str (x++y))else none
 |.lst xs,.lst ys=>if xs.length+ys.length<=16777216 then some (.lst (xs++ys))else none
 |.tup xs,.tup ys=>if xs.isEmpty=false/\ys.isEmpty=false/\xs.length+ys.length<=1000000 then some (.tup (xs++ys))else none
 |_,_=>none
theorem Pr.ow0 {F G H:Hp}{ds:List D}{vs:List V}(h:Pr (Al K ct F G 0) ds vs):OwL (Ow K ct F H 0) ds vs []:=OwL.ofPr (h.mono λ_ _ q=>⟨q,rfl⟩)
theorem Al.lst1 {F G:Hp}{ds:List D}{v:V}(hn:n<=1)(h:Al K ct F G n (.lst ds) v)(s:ce F G):∃a vs,v=.ref a/\fX K G a vs/\Pr (Al K ct F G 0) ds vs:=by
 obtain⟨a,vs,e,h1,h2⟩:=h.lst s
 have:n-1=0:=by omega
 rw[this]at h2
 exact⟨a,vs,e,h1,h2⟩
theorem Al.tup1 {F G:Hp}{ds:List D}{v:V}(hn:n<=1)(h:Al K ct F G n (.tup ds) v)(s:ce F G):∃a vs,v=.ref a/\G a=some (.tup vs)/\Pr (Al K ct F G 0) ds vs:=by
 obtain⟨a,vs,e,h1,h2⟩:=h.tup s
 have:n-1=0:=by omega
 rw[this]at h2
 exact⟨a,vs,e,h1,h2⟩
theorem zI {F H:Hp}{ds:List D}{vs:List V}{Q:VK}(s:ce F H)(hp:Pr (Al K ct F H 0) ds vs)(w:∀v F' H' fp,gD F H F' H'->Ow K ct F' H' 1 (.lst ds) v fp->fp.Nodup->(∀a∈fp,H a=none)->Q v H'):∀p,H p=none->Q (.ref p) (d4 H p (.lst vs)):=λp h0=>by
 obtain⟨o,nd⟩:=Ua s (hp.ow0 (H:=H)) h0
 exact w _ F _ [p] (gD.newO s h0 _) o (nd bQ) λa z=>by rw[az]at z;subst z;exact h0
theorem zsn (hn:n<=1)(hm:m<=1):C0 K ct n m 1 (BK K) e6:=by
 intro F H x y d1 d2 d Q s l1 l2 e w
 have ws:∀d v,d.sc=true->Dt K ct F d v->(∀v F' H' fp,gD F H F' H'->Ow K ct F' H' 1 d v fp->fp.Nodup->(∀a∈fp,H a=none)->Q v H')->Q v H:=λd v hs hd w=>w v F H [] (.refl s) (Ow.scal hd hs) bQ λa z=>(by cases z)
 cases d1 with
 |int i=>
  cases d2 with
  |int j=>cases e;exact .inl ⟨i,j,l1.int,l2.int,ws _ _ rfl (.int _) w⟩
  |_=>cases e
 |str i=>
  cases d2 with
  |str j=>
   unfold e6 at e
   dsimp only at e
   by_cases hz:i.length+j.length<=16777216
   ·rw[if_pos hz]at e
    cases e
    exact .inr (.inl ⟨i,j,l1.str,l2.str,by rw[cV];exact hz,ws _ _ rfl (.str _) w⟩)
   ·rw[if_neg hz]at e;cases e
  |_=>cases e
 |lst xs=>
  cases d2 with
  |lst ys=>
   unfold e6 at e
   dsimp only at e
   by_cases hz:xs.length+ys.length<=16777216
   ·rw[if_pos hz]at e
    cases e
    obtain⟨a,vs,rfl,ha,hp⟩:=Al.lst1 hn l1 s
    obtain⟨b,us,rfl,hb,hq⟩:=Al.lst1 hm l2 s
    exact .inr (.inr (.inl ⟨a,b,vs,us,rfl,rfl,ha,hb,by rw[←hp.length,←hq.length,cV];exact hz,zI s (hp.append hq) w⟩))
   ·rw[if_neg hz]at e;cases e
  |_=>cases e
 |tup xs=>
  cases d2 with
  |tup ys=>
   unfold e6 at e
   dsimp only at e
   by_cases hz:xs.isEmpty=false/\ys.isEmpty=false/\xs.length+ys.length<=1000000
   ·rw[if_pos hz]at e
    cases e
    obtain⟨a,vs,rfl,ha,hp⟩:=Al.tup1 hn l1 s
    obtain⟨b,us,rfl,hb,hq⟩:=Al.tup1 hm l2 s
    have hl:=hp.length
    have vS:=hq.length
    have e1:vs≠[]:=λz=>by
     rw[z]at hl
     have:=pv.mp hl
     rw[this]at hz
     exact absurd hz.1 (by decide)
    have e2:us≠[]:=λz=>by
     rw[z]at vS
     have:=pv.mp vS
     rw[this]at hz
     exact absurd hz.2.1 (by decide)
    refine .inr (.inr (.inr ⟨a,b,vs,us,rfl,rfl,kX.of ha,kX.of hb,e1,by rw[←hl,←vS,cV];omega,λz=>absurd z e2,λ_ p h0=>?_⟩))
    have x2:=gD.newS s h0 (.tup (vs++us))
    exact w _ _ _ [] x2 (.inr (.tup yt (OwL.ofPr ((hp.append hq).mono λ_ _ q=>⟨Dt.mono x2.ff q,rfl⟩)))) bQ λa z=>(by cases z)
   ·rw[if_neg hz]at e;cases e
  |_=>cases e
 |_=>cases e
def Ia:R2:=λx y H Q=>∃l k xs,x=.ref l/\y=.int k/\Rd H l (.lst xs)/\-(2 ^ 63)<=k/\k<2 ^ 63/\xs.length*k.toNat<=sizeLine /\
 ∀p,H p=none->Q (.ref p) (d4 H p (.lst (aC k.toNat xs).flatten))
theorem zso:gu X (eD .Mult) Ia:=by
 intro am s σ H x y v u Q I rx ry h
 obtain⟨l,k,xs,rfl,rfl,hH,h1,h2,hz,q⟩:=h
 cases rx
 obtain⟨t,rfl⟩:=ry
 obtain⟨z,cv,n,r,hl,e⟩:=Nm I hH
 have dB:cv.toArray.size*k.toNat<=sizeLine:=by rw[aL,←hl];exact hz
 have iI:¬cv.toArray.size*k.toNat > (2 ^ 63-1)/8:=by
  have:(sizeLine:Nat)<=(2 ^ 63-1)/8:=by decide
  omega
 have MN:¬(!fV.List.listFitsIndex k)=true:=by
  rw[fitsIndex_both h1 h2]
  exact aQ
 have FA:¬fV.List.listTooLong (cv.toArray.size*k.toNat)=true:=by
  rw[uU dB]
  exact aQ
 have MV:si (λx1 x2=>x1++x2) #[] (aC (if cv.toArray.isEmpty=true then 0 else k.toNat) cv.toArray)=(aC k.toNat cv).flatten.toArray:=by
  have f0:∀m:Nat,si (λx1 x2=>x1++x2) #[] (aC m cv.toArray)=(aC m cv).flatten.toArray:=λm=>by
   have:=SE cv m []
   rw[nh]at this
   exact this
  rw[f0]
  cases cv with
  |nil=>simp
  |cons a r'=>rw[if_neg (by simp)]
 refine wpAny_binaryOp_repeat_ref (T:="list") (U:="int") (by decide) ⟨_,e,rfl⟩ (λs'=>yA s' k t) noFill_list_mul F.fills_int_mul F.slot_int_rmul repeat_list F.slot_int_index.lookup
  (mR F.slot_int_rmul (yA s k t) F.entry_int_rmul (F.args_int_rmul_2 _ _) (int___rmul___int_list k t l cv.toArray n)
   ⟨e,rfl,⟨_,e,rfl⟩,mR F.slot_list_mul ⟨_,e,rfl⟩ F.entry_list_mul (F.args_list_mul_2 _ _) (AutoListH.list___mul___list_int_3 l cv.toArray n k t MN iI FA) ⟨e,?_⟩⟩)
 rw[MV]
 exact⟨.ref _,_,I.lnew (t':=s.toks) (r.rep k.toNat) (by rw[zr5,Nat.mul_comm];exact hz),rfl,q _ I.fresh⟩
theorem yn:lI K ct n m k (rI ou λi j=>.int (i*j)) dk:=zsf
def rB:D->D->Option D
 |.lst xs,.int j=>if -1000000<j/\j<1000000/\xs.length<=16 then some (.lst (aC j.toNat xs).flatten)else none
 |_,_=>none
theorem UL (ha:XO X ct ms 1 a f)(hb:XE X ct ms m b g):XO X ct ms 1 (.BinOp a .Mult b pos) (e2 rB f g):=by
 obtain⟨ta,pa,qa⟩:=ha
 obtain⟨tb,pb,qb⟩:=hb
 refine⟨_,PM zso pa pb,λF0 B F H ρ σ d Q rs e w=>?_⟩
 obtain⟨d1,d2,h1,h2,h3⟩:=dP e
 refine qa F0 B F H ρ σ d1 _ rs h1 λv F1 H1 fp x1 o nd hf=>?_
 refine qb F0 B F1 H1 ρ σ d2 _ (rs.ext x1) h2 λv2 F2 H2 x2 l2=>?_
 cases d1 with
 |lst xs=>
  cases d2 with
  |int j=>
   unfold rB at h3
   dsimp only at h3
   by_cases hz:-1000000<j/\j<1000000/\xs.length<=16
   ·rw[if_pos hz]at h3
    cases h3
    obtain⟨ad,vs,fr,rfl,rfl,hF,hH,ol⟩:=(o.ext x2).lst_inv
    have hp:Pr (Al X.K ct F2 H2 0) xs vs:=ol.pr λ_ _ _ _ q=>q.1
    have Cz:=x1.trans x2
    refine⟨ad,j,vs,rfl,l2.int,.inl hH,by omega,by omega,?_,zI x2.fh (hp.rep _) λv F' H' fp x o nd hf=>w v F' H' fp (Cz.trans x) o nd λz hz=>Cz.hh.free (hf z hz)⟩
    rw[←hp.length,cV]
    have h1:j.toNat<=1000000:=by omega
    have h2:xs.length*j.toNat<=16*1000000:=xX hz.2.2 h1
    omega
   ·rw[if_neg hz]at h3;cases h3
  |_=>cases h3
 |_=>cases h3
def rz:D->Option D
 |.int i=>some (.int (-i))
 |_=>none
theorem Ja (ha:XE X ct ms n a f):XE X ct ms k (.UnaryOp .USub a pos) (e1 rz f):=by
 refine zwq zuq (λF H x d1 d Q s l e w=>?_) ha
 cases d1 with
 |int i=>cases e;exact⟨i,l.int,w _ F H (.refl s) (Al.of (.int _))⟩
 |_=>cases e
theorem IU {x:aX}{d:D}{u:af}(hg:Gl X x)(hm:X.mg x=some u)(hs:d.sc=true)(r:RelV d.v u)(hd:(x==("__debug__":aX))=false:=by decide):XE X ct ms n (.Name x pos) (eC d):=by
 refine⟨_,TQ hg hm r hd,λF0 B F H ρ σ d' Q rs e w=>?_⟩
 cases e
 refine w _ F H (.refl rs.fh) (Al.of ?_)
 cases d with
 |non=>exact .non
 |bl b=>exact .bl b
 |int b=>exact .int b
 |str b=>exact .str b
 |_=>cases hs
def mC:List D->Option D
 |[.lst ds]=>some (.lst ds)
 |[.tup ds]=>some (.lst ds)
 |_=>none
theorem OP (hn:n<=1):uA K ct [n] 1 (λxs H Q=>∃p ys,xs=[.ref p]/\(fX K H p ys\/kX K H p ys)/\∀l,H l=none->Q (.ref l) (d4 H l (.lst ys))) mC:=by
 intro F H vs ds d Q s l e w
 cases l with
 |cons h t=>
  cases t
  rename_i d1 v
  cases d1 with
  |lst xs=>
   cases e
   obtain⟨a,us,rfl,ha,hp⟩:=Al.lst1 hn h s
   exact⟨a,us,rfl,.inl ha,zI s hp w⟩
  |tup xs=>
   cases e
   obtain⟨a,us,rfl,ha,hp⟩:=Al.tup1 hn h s
   exact⟨a,us,rfl,.inr (kX.of ha),zI s hp w⟩
  |_=>cases e
abbrev PF:=Env->Option (Option Int)
def pNo:PF:=λ_=>some none
def pInt (f:EF):PF:=λρ=>(f ρ).bind λd=>match d with
 |.int i=>some (some i)
 |_=>none
def XP (X:Cx)(ct:Nat->ai)(ms:List Mo)(e:Option Expr)(f:PF):Prop:=∃t,PO X e t/\∀(F0 B F H:Hp) (ρ:Env) (σ:St) (o:Option Int) (Q:Option Int->Hp->Prop),RS X.K ct F0 B ms F H ρ σ->f ρ=some o->(∀F' H',gD F H F' H'->Q o H')->t σ H Q
theorem PQ:XP X ct ms none pNo:=⟨_,zr0,λF0 B F H ρ σ o Q rs e w=>by cases e;exact w F H (.refl rs.fh)⟩
theorem IV (h:XE X ct ms n e f):XP X ct ms (some e) (pInt f):=by
 obtain⟨t,pt,qt⟩:=h
 refine⟨_,zr1 pt,λF0 B F H ρ σ o Q rs e w=>?_⟩
 obtain⟨d,h1,h2⟩:=aY e
 refine qt F0 B F H ρ σ d _ rs h1 λv F' H' x l=>?_
 cases d with
 |int i=>cases h2;exact⟨i,l.int,w F' H' x⟩
 |_=>cases h2
def cutD (xs:List D)(lo hi:Option Int):List D:=(xs.drop (HT.sIx xs.length 0 lo)).take (HT.sIx xs.length xs.length hi-HT.sIx xs.length 0 lo)
theorem zsq {R:D->V->Prop}{ds:List D}{vs:List V}{lo hi:Option Int}(h:Pr R ds vs):Pr R (cutD ds lo hi) (sK vs lo hi):=by
 unfold cutD sK
 rw[h.length]
 exact(h.drop _).take _
def kF (d:D)(lo hi:Option Int):Option D:=match d with
 |.lst xs=>some (.lst (cutD xs lo hi))
 |_=>none
theorem Kk {lo hi:Option Expr}{pl ph:PF}{p1}(hn:n<=1)(he:XE X ct ms n e f)(hl:XP X ct ms lo pl)(hh:XP X ct ms hi ph):XO X ct ms 1 (.Subscript e (.Slice lo hi none p1) pos) (λρ=>(f ρ).bind λd=>(pl ρ).bind λl=>(ph ρ).bind λh=>kF d l h):=by
 obtain⟨t,pt,qt⟩:=he
 obtain⟨t1,BG,BI⟩:=hl
 obtain⟨t2,nE,rA⟩:=hh
 refine⟨_,zox zr4 pt BG nE,λF0 B F H ρ σ r Q rs e w=>?_⟩
 obtain⟨d,l,h1,h2,h3⟩:=dP e
 obtain⟨hh,h4,h5⟩:=aY h3
 refine qt F0 B F H ρ σ d _ rs h1 λv F1 H1 x1 l1=>?_
 refine BI F0 B F1 H1 ρ σ l _ (rs.ext x1) h2 λF2 H2 x2=>?_
 refine rA F0 B F2 H2 ρ σ hh _ ((rs.ext x1).ext x2) h4 λF3 H3 x3=>?_
 cases d with
 |lst xs=>
  cases h5
  have vV:=x2.trans x3
  obtain⟨a,vs,rfl,ha,hp⟩:=Al.lst1 hn (l1.mono vV.ff vV.hh) vV.fh
  exact⟨a,vs,rfl,ha,zI vV.fh (zsq hp) λv F' H' fp x o nd hf=>w v F' H' fp ((x1.trans vV).trans x) o nd λz hz=>(x1.trans vV).hh.free (hf z hz)⟩
 |_=>cases h5
def uC:List D->Option D
 |[.int i]=>some (.int (if i<0 then -i else i))
 |_=>none
theorem Ud:wJ K ct [n] k (λxs H Q=>∃i,xs=[.int i]/\Q (.int (if i<0 then -i else i)) H) uC:=by
 intro F H vs ds d Q s l e w
 cases l with
 |cons h t=>
  cases t
  rename_i d1 v
  cases d1 with
  |int i=>cases e;exact⟨i,by rw[h.int],w _ F H (.refl s) (Al.of (.int _))⟩
  |_=>cases e
def ii (g:Int->Int->D):List D->Option D
 |[.int i,.int j]=>some (g i j)
 |_=>none
def G0:List D->Option D:=ii λi j=>.int (if j > i then j else i)
def G2:List D->Option D:=ii λi j=>.int (if j<i then j else i)
def vA (i:Nat)(o:D->D->Option D)(f:EF):SF:=λρ=>(eV i ρ).bind λx=>(f ρ).bind λy=>(o x y).bind λd=>some (.nx (ρ.set i (some d)))
theorem UM {op:jZ}{i:Nat}{x:aX}{pos':dF}{gi:Int->Int->Int}(ho:Cc X op (JR gi))(hm:ms[i]?=some (.ow k))(hN:X.N.Nodup)(hi:X.N[i]?=some x)(hx:Loc X.env.scope x)(he:XE X ct ms n e f)(hf:X.fn x=true\/X.env.scope.names.lookup x=some .local:=by first|exact .inl rfl|exact .inr rfl|assumption) :
  XS X ct ms rk (.AugAssign (.Name x pos') op e pos) (vA i (i2 λi j=>.int (gi i j)) f):=by
 obtain⟨t,pt,qt⟩:=he
 refine⟨_,zul hN hi hx pt ho hf,λF0 B F H ρ σ o E rs e z=>?_⟩
 obtain⟨d1,d2,h1,h2,h3⟩:=dP e
 obtain⟨d,h4,h5⟩:=aY h3
 cases h5
 obtain⟨v,hv,l⟩:=rs.get hm (yj h1)
 refine⟨v,hv,qt F0 B F H ρ σ d2 _ rs h2 λy F' H' x1 l2=>?_⟩
 cases d1 with
 |int i'=>
  cases d2 with
  |int j'=>
   cases h4
   exact⟨i',j',l.int,l2.int,z _ F' H' (rs.set hm x1 (Ow.scal (.int _) rfl) bQ λa z=>(by cases z))⟩
  |_=>cases h4
 |_=>cases h4
def sPar (i j:Nat)(fs:Env->Option (List D)):SF:=λρ=>(fs ρ).bind λds=>match ds with
 |[x,y]=>some (.nx ((ρ.set i (some x)).set j (some y)))
 |_=>none
theorem zvc {i j:Nat}{x y:aX}{fs:Env->Option (List D)}{px py pt:dF}{kt k2 nE}(Cp:ms[i]?=some (.ow 0))(yK:ms[j]?=some (.ow 0))(hc:X.calm=true)(hN:X.N.Nodup)(hi:X.N[i]?=some x)(hj:X.N[j]?=some y)(rR:i≠j)
  (hx:X.env.scope.names.lookup x=some .local) (hy:X.env.scope.names.lookup y=some .local) (ha:XA X ct ms [a,b] [0,0] fs)
  (hw:jK [.Tuple [.Name x px,.Name y py] kt pt] (.Tuple [a,b] k2 nE) X.env=pure (some [x,y]))
  (hs:jL [.Tuple [.Name x px,.Name y py] kt pt] (.Tuple [a,b] k2 nE) pos.line X.env=pure false:=by rfl) :
  XS X ct ms rk (.Assign [.Tuple [.Name x px,.Name y py] kt pt] (.Tuple [a,b] k2 nE) pos) (sPar i j fs):=by
 obtain⟨t,pt,_,qt⟩:=ha
 refine⟨_,zuk hc hN hi hj rR hx hy pt hw hs,λF0 B F H ρ σ o E rs e z=>?_⟩
 obtain⟨ds,h1,h2⟩:=aY e
 refine qt F0 B F H ρ σ ds _ rs h1 λvs F' H' x1 l=>?_
 cases l with
 |cons l1 l=>
  cases l with
  |cons l2 l=>
   cases l
   cases h2
   have r1:=rs.set Cp x1 (Ow.zero l1) bQ λa z=>(by cases z)
   exact⟨_,_,rfl,z _ F' H' (r1.set yK (.refl x1.fh) (Ow.zero l2) bQ λa z=>(by cases z))⟩
def sAsg (g:D->Env->Option Env)(f:EF):SF:=λρ=>(f ρ).bind λd=>(g d ρ).bind λρ'=>some (.nx ρ')
theorem KI {gg:D->Env->Option Env}(he:XE X ct ms 0 e f)(hg:XG X ct ms 0 tg gg)(hs:jL [tg] e pos.line X.env=pure false:=by rfl)(hw:jK [tg] e X.env=pure none:=by rfl)
  (h1:(dw [tg] X.env).map (·.2)=[iS tg X.env]:=by rfl):XS X ct ms rk (.Assign [tg] e pos) (sAsg gg f):=by
 obtain⟨t,pt,qt⟩:=he
 obtain⟨t2,nE,rA⟩:=hg
 refine⟨_,UQ pt nE hs hw h1,λF0 B F H ρ σ o E rs e z=>?_⟩
 obtain⟨d,h1,h2⟩:=aY e
 obtain⟨ρ',h3,h4⟩:=aY h2
 cases h4
 exact qt F0 B F H ρ σ d _ rs h1 λv F' H' x l=>rA F0 B F' H' ρ ρ' σ d v _ (rs.ext x) l h3 λσ' r=>z σ' F' H' r
end
end L3
namespace L3
open PySem PySem.Spec L2
open PyProof.Rows hiding St
def iE:List Nat->List Mo->Bool
 |[],_=>true
 |n::ns,.al m::ms=>decide (n=m)&&iE ns ms
 |n::ns,.ow m::ms=>decide (n=0)&&decide (m=0)&&iE ns ms
 |_,_=>false
theorem zD:∀{pm:List Nat} {ms:List Mo},iE pm ms=true->∀(i n:Nat),pm[i]?=some n->ms[i]?=some (Mo.al n)\/(n=0/\ms[i]?=some (Mo.ow 0))
 |[],_,_,i,n,e=>by simp at e
 |x::ns,.al m::ms,h,i,n,e=>by
  simp only[iE,bG,decide_eq_true_eq]at h
  cases i with
  |zero=>simp at e;subst e;rw[h.1];exact .inl rfl
  |succ i=>simpa using zD h.2 i n (by simpa using e)
 |x::ns,.ow m::ms,h,i,n,e=>by
  simp only[iE,bG,decide_eq_true_eq]at h
  cases i with
  |zero=>simp at e;subst e;rw[h.1.1,h.1.2];exact .inr ⟨rfl,rfl⟩
  |succ i=>simpa using zD h.2 i n (by simpa using e)
 |_::_,[],h,_,_,_=>by simp[iE]at h
 |_::_,.px _::_,h,_,_,_=>by simp[iE]at h
 |_::_,.so _::_,h,_,_,_=>by simp[iE]at h
def yE (X:Cx)(scope:gH)(N:List aX)(own:Nat)(cap:List Nat):Bool :=
 decide (scope.kind=.function)&&scope.names.all (λx=>(decide (x.2≠.cell) || decide (scope.names.lookup x.1=some .cell))&&(decide (x.2≠.local) || decide (scope.names.lookup x.1=some .local))&&(decide (x.2≠.free) || (decide (X.env.kindOf x.1=some .cell) || decide (X.env.kindOf x.1=some .free)))) &&
 decide (N.length=own+cap.length)&&(aw cap.length).all λj=>match N[own+j]?,cap[j]? with
  |some x,some i=>decide (X.N[i]?=some x)&&decide (scope.names.lookup x=some .free)
  |_,_=>false
theorem xT {X:Cx}{scope:gH}{N:List aX}{own:Nat}{cap:List Nat}(h:yE X scope N own cap=true):kQ X scope N own cap:=by
 unfold yE at h
 simp only[bG,decide_eq_true_eq,eO,Bool.or_eq_true]at h
 obtain⟨⟨⟨h1,h2⟩,h3⟩,h4⟩:=h
 refine⟨h1,λx hx hl=>((h2 x hx).1.1).elim (λz=>absurd hl z) id,λx hx hl=>((h2 x hx).1.2).elim (λz=>absurd hl z) id,λx hx hf=>((h2 x hx).2).elim (λz=>absurd hf z) id,h3,λj x hj=>?_⟩
 have sO:j<cap.length:=by
  have:=(aW.mp hj).1
  omega
 have q:=h4 j (bM.mpr sO)
 rw[hj]at q
 have hc:cap[j]?=some cap[j]:=by simp[sO]
 rw[hc]at q
 simp only[bG,decide_eq_true_eq]at q
 exact⟨_,hc,q.1,q.2⟩
def J3:D->Option String
 |.non=>some "NoneType"
 |.bl _=>some "bool"
 |.int _=>some "int"
 |.str _=>some "str"
 |.lst _=>some "list"
 |.tup _=>some "tuple"
 |.dK _ _=>some "dict"
 |_=>none
def RB (K:ae)(H:Hp)(v:V)(t:String):Prop:=kA K H v (.type t)\/(t = "list"/\∃a xs,v=.ref a/\fX K H a xs)
theorem Al.ty {K:ae}{ct:Nat->ai}{F H:Hp}{n:Nat}{d:D}{v:V}{t:String}(s:ce F H)(h:Al K ct F H n d v)(e:J3 d=some t):RB K H v t:=by
 cases d with
 |non=>cases e;rw[h.non];exact .inl .non
 |bl b=>cases e;rw[h.bl];exact .inl (.bl b)
 |int b=>cases e;rw[h.int];exact .inl (.int b)
 |str b=>cases e;rw[h.str];exact .inl (.str b)
 |lst xs=>
  cases e
  obtain⟨a,vs,rfl,ha,_⟩:=h.lst s
  exact .inr ⟨rfl,a,vs,rfl,ha⟩
 |tup xs=>
  cases e
  obtain⟨a,vs,rfl,ha,_⟩:=h.tup s
  exact .inl (.tup ha)
 |dK ks xs=>
  cases e
  obtain⟨a,vs,rfl,ha,_⟩:=h.dK s
  exact .inl (.dK ha)
 |_=>cases e
theorem zmt {X:Cx}:eK X (.builtin "isinstance") (λxs H Q=>∃x c t b,xs=[x,.ty c]/\RB X.K H x t/\bU X.K (.type t) (.type c)=some b/\Q (.bl b) H):=by
 intro am s σ H xs us Q I r h
 obtain⟨x,c,t,b,rfl,ty,e,q⟩:=h
 rcases ty with ty|⟨rfl,a,ys,rfl,hq⟩
 ·exact zo3 am s σ H _ us Q I r ⟨x,c,_,b,rfl,ty,e,q⟩
 ·obtain⟨u,w',rfl,ru,oe⟩:=vals2 r
  cases(show w'=af.type c from oe)
  cases(show u=af.ref a from ru)
  obtain⟨cv,rv,⟨o,n,h1,h2,_⟩,_⟩:=I.list hq
  exact cT kI I.kIn ⟨o,h1,h2⟩ e (λz=>nomatch z) λtk=>⟨.bl b,H,I.tok tk,rfl,q⟩
def FY (t c:String):Bool:=t==c || (t == "bool" && c == "int")
theorem zsr {K:ae}:∀t∈(["NoneType","bool","int","str","list","tuple","dict"]:List String),∀c∈(["bool","int","str","list","tuple","dict"]:List String),bU K (.type t) (.type c)=some (FY t c):=by
 intro t ht c hc
 simp only[aF,dE,or_false]at ht hc
 rcases ht with rfl|rfl|rfl|rfl|rfl|rfl|rfl<;>rcases hc with rfl|rfl|rfl|rfl|rfl|rfl<;>rfl
theorem zss {d:D}{t:String}(e:J3 d=some t):t∈(["NoneType","bool","int","str","list","tuple","dict"]:List String):=by
 cases d<;>simp[J3]at e<;>subst e<;>decide
section
variable {X:Cx}{ct:Nat->ai}{ms:List Mo}{rk n m k:Nat}{a b c e tg:Expr}{f g h:EF}{pos:dF}
def jU (c:String)(d:D):Option D:=(J3 d).bind λt=>some (.bl (FY t c))
theorem wA {c:String}{pp p2:dF}(hc:c∈(["bool","int","str","list","tuple","dict"]:List String))(hm:X.mg "isinstance"=none)(n8:X.mg c=none)(hb:bO c=some (.type c))(he:XE X ct ms n e f)(hg:Gl X "isinstance":=by rfl)(oE:Gl X c:=by rfl)(yL:aX.ofString c≠"__name__":=by decide)(hd2:(aX.ofString c==("__debug__":aX))=false:=by decide)
  (FM:ay [e,.Name c p2] X.env=(false,bY e X.env)::ay [.Name c p2] X.env:=by rfl) (nP:ay [.Name c p2] X.env=(false,bY (.Name c p2) X.env)::ay [] X.env:=by rfl) (iW:(cQ pos (ay [.Name c p2] X.env)).any (·.1)=false:=by rfl) :
  XE X ct ms k (.Call (.Name "isinstance" pp) [e,.Name c p2] [] pos) (e1 (jU c) f):=by
 obtain⟨t,pt,qt⟩:=he
 refine⟨_,IP zmt hg hm RR (v4 pt (v4 (zrl (v:=.ty c) oE n8 hb rfl yL hd2) tT nP) FM) (by decide) (by decide) FM iW,λF0 B F H ρ σ d Q rs e w=>?_⟩
 obtain⟨d1,h1,h2⟩:=aY e
 obtain⟨ty,h3,h4⟩:=aY h2
 cases h4
 exact qt F0 B F H ρ σ d1 _ rs h1 λv F' H' x l=>⟨v,c,ty,_,rfl,l.ty x.fh h3,zsr _ (zss h3) _ hc,w _ F' H' x (Al.of (.bl _))⟩
end
end L3
namespace L3
open PySem PySem.Spec L2
open PyProof.Rows hiding St
def oJ (K:ae):Sp:=λvs H Q _=>∃(a:ai) (ns:List Int),vs=[.ref a]/\fX K H a (ns.map V.int)/\ns.length<=63/\∀H',Q (.bl true) H'
theorem Dts.ints {K:ae}{ct:Nat->ai}{F:Hp}:∀ns:List Int,Dts K ct F (ns.map D.int) (ns.map V.int)
 |[]=>.nil
 |n::ns=>.cons (.int n) (Dts.ints ns)
theorem zvd {P:bJ}{w:cw}{K:ae}{mg:aX->Option af}{base:bc}{k:Nat}{f:ai}{fd:aK}{ps:List aX}{ct:Nat->ai}{m:List D->Option D}(Fn:cH P w K mg base eU k f fd ps (gE K ct [0] 0 m))
  (h:∀ns:List Int,ns.length<=63->m [.lst (ns.map .int)]=some (.bl true)):cH P w K mg base eU k f fd ps (oJ K):=by
 have to:∀vs H Q E,oJ K vs H Q E->gE K ct [0] 0 m vs H Q E:=by
  rintro vs H Q E ⟨a,ns,rfl,hS,hl,q⟩
  refine⟨H,[.lst (ns.map .int)],.bl true,.refl _,.cons (Dt.lst hS (Dts.ints ns)) .nil,h ns hl,λv F' H' fp x o nd hf=>?_⟩
  have hv:v=.bl true:=by
   have o:Dt K ct F' (.bl true) v/\fp=[]:=o
   cases o.1
   rfl
  subst hv
  exact q H'
 exact⟨λvs H Q E z=>Fn.len vs H Q E (to vs H Q E z),λA outer s H args us vs Q E hr e0 hb hv z=>Fn.run A outer s H args us vs Q E hr e0 hb hv (to vs H Q E z)⟩
theorem SJ {g:D->Env->Option Env}{b:SF}(I:List D->Env->Prop)(all:List D)(st:∀pre d post ρ,all=pre++d::post->I pre ρ->∃ρ1 ρ2,g d ρ=some ρ1/\(b ρ1=some (.nx ρ2)\/b ρ1=some (.ct ρ2))/\I (pre++[d]) ρ2):∀(ds pre:List D) (ρ:Env),all=pre++ds->I pre ρ ->
  ∃ρ',fQ g b ds ρ=some (.nx ρ')/\I all ρ'
 |[],pre,ρ,e,h=>⟨ρ,rfl,by rw[e,cA];exact h⟩
 |d::ds,pre,ρ,e,h=>by
  obtain⟨ρ1,ρ2,h1,h2,h3⟩:=st pre d ds ρ e h
  obtain⟨ρ',h4,h5⟩:=SJ I all st ds (pre++[d]) ρ2 (by rw[e];simp) h3
  refine⟨ρ',?_,h5⟩
  show(g d ρ).bind _=_
  rw[h1]
  show(b ρ1).bind _=_
  rcases h2 with h2|h2<;>(rw[h2];exact h4)
theorem S9 {g:D->Env->Option Env}{b:SF}(I:List D->Env->Prop){ds:List D}{ρ:Env}(h:I [] ρ)(st:∀pre d post ρ,ds=pre++d::post->I pre ρ->∃ρ1 ρ2,g d ρ=some ρ1/\(b ρ1=some (.nx ρ2)\/b ρ1=some (.ct ρ2))/\I (pre++[d]) ρ2) :
  ∃ρ',fQ g b ds ρ=some (.nx ρ')/\I ds ρ':=SJ I ds st ds [] ρ rfl h
theorem zve {α:Type}{all pre post:List α}{d:α}(h:all=pre++d::post):all[pre.length]?=some d:=by subst h;simp
theorem SK {α S:Type}{g:D->Env->Option Env}{b:SF}(enc:α->D)(st:S->Env)(f:S->α->S)(P:S->Prop):∀(xs:List α) (s:S),P s ->
  (∀s x,x∈xs->P s->∃ρ1,g (enc x) (st s)=some ρ1/\(b ρ1=some (.nx (st (f s x)))\/b ρ1=some (.ct (st (f s x))))/\P (f s x))->fQ g b (xs.map enc) (st s)=some (.nx (st (xs.foldl f s)))/\P (xs.foldl f s)
 |[],s,hp,_=>⟨rfl,hp⟩
 |x::xs,s,hp,h=>by
  obtain⟨ρ1,h1,h2,h3⟩:=h s x aa hp
  have ih:=SK enc st f P xs (f s x) h3 λs y hy=>h s y (aj _ hy)
  refine⟨?_,ih.2⟩
  show(g (enc x) (st s)).bind _=_
  rw[h1]
  show(b ρ1).bind _=_
  rcases h2 with h2|h2<;>(rw[h2];exact ih.1)
theorem SN {g:D->Env->Option Env}{b:SF}(I:Nat->Env->Prop)(lo:Int):∀(n k:Nat) (ρ:Env),I k ρ ->
  (∀j ρ,k<=j->j<k+n->I j ρ->∃ρ1 ρ2,g (.int (lo+(j:Int))) ρ=some ρ1/\(b ρ1=some (.nx ρ2)\/b ρ1=some (.ct ρ2))/\I (j+1) ρ2) ->
  ∃ρ',fQ g b ((fD k n).map λ(t:Nat)=>D.int (lo+(t:Int))) ρ=some (.nx ρ')/\I (k+n) ρ'
 |0,k,ρ,h,_=>⟨ρ,rfl,h⟩
 |n+1,k,ρ,h,st=>by
  obtain⟨ρ1,ρ2,h1,h2,h3⟩:=st k ρ (aM _) (by omega) h
  obtain⟨ρ',h4,h5⟩:=SN I lo n (k+1) ρ2 h3 λj ρ hj hl hI=>st j ρ (by omega) (by omega) hI
  refine⟨ρ',?_,by rw[show k+(n+1)=k+1+n by omega];exact h5⟩
  rw[tW,aP]
  show(g _ ρ).bind _=_
  rw[h1]
  show(b ρ1).bind _=_
  rcases h2 with h2|h2<;>(rw[h2];exact h4)
theorem Sf {g:D->Env->Option Env}{b:SF}(I:Nat->Env->Prop){lo:Int}{n:Nat}{ρ:Env}(h:I 0 ρ)
  (st:∀j ρ,j<n->I j ρ->∃ρ1 ρ2,g (.int (lo+(j:Int))) ρ=some ρ1/\(b ρ1=some (.nx ρ2)\/b ρ1=some (.ct ρ2))/\I (j+1) ρ2):∃ρ',fQ g b (fJ lo n) ρ=some (.nx ρ')/\I n ρ':=by
 obtain⟨ρ',h1,h2⟩:=SN (g:=g) (b:=b) I lo n 0 ρ h λj ρ _ hj hI=>st j ρ (by omega) hI
 rw[p7]at h2
 exact⟨ρ',by unfold fJ;rw[de];exact h1,h2⟩
theorem Ol {S:Type}{c:BF}{b:SF}(st:S->Env)(t:S->Bool)(f:S->S)(μ:S->Nat)(P:S->Prop)(hc:∀s,P s->c (st s)=some (t s))(hb:∀s,P s->t s=true->(b (st s)=some (.nx (st (f s)))\/b (st s)=some (.ct (st (f s))))/\P (f s)/\μ (f s) < μ s) :
  ∀(n:Nat) (s:S),P s->μ s<n->∃s',iK c b n (st s)=some (.nx (st s'))/\P s'/\t s'=false/\∃j,s'=Nat.repeat f j s
 |0,s,_,h=>absurd h (by omega)
 |n+1,s,hp,h=>by
  cases ht:t s with
  |false=>
   refine⟨s,?_,hp,ht,0,rfl⟩
   show(c (st s)).bind _=_
   rw[hc s hp,ht]
   rfl
  |true=>
   obtain⟨h1,h2,h3⟩:=hb s hp ht
   obtain⟨s',h4,h5,h6,j,h7⟩:=Ol st t f μ P hc hb n (f s) h2 (by omega)
   refine⟨s',?_,h5,h6,j+1,?_⟩
   ·show(c (st s)).bind _=_
    rw[hc s hp,ht]
    show(b (st s)).bind _=_
    rcases h1 with h1|h1<;>(rw[h1];exact h4)
   ·rw[h7]
    clear h4 h5 h6 h7
    induction j with
    |zero=>rfl
    |succ j ih=>show f (Nat.repeat f j (f s))=f (Nat.repeat f (j+1) s);rw[ih]
theorem Ov {c:BF}{b:SF}(I:Env->Prop)(μ:Env->Nat)(st:∀ρ,I ρ->∃t,c ρ=some t/\(t=true->∃ρ',(b ρ=some (.nx ρ')\/b ρ=some (.ct ρ'))/\I ρ'/\μ ρ' < μ ρ)) :
  ∀(n:Nat) (ρ:Env),I ρ->μ ρ<n->∃ρ',iK c b n ρ=some (.nx ρ')/\I ρ'/\c ρ'=some false
 |0,_,_,h=>absurd h (by omega)
 |n+1,ρ,hI,h=>by
  obtain⟨t,h1,h2⟩:=st ρ hI
  cases t with
  |false=>exact⟨ρ,by show(c ρ).bind _=_;rw[h1];rfl,hI,h1⟩
  |true=>
   obtain⟨ρ',h3,h4,h5⟩:=h2 rfl
   obtain⟨ρ2,h6,h7,h8⟩:=Ov I μ st n ρ' h4 (by omega)
   refine⟨ρ2,?_,h7,h8⟩
   show(c ρ).bind _=_
   rw[h1]
   show(b ρ).bind _=_
   rcases h3 with h3|h3<;>(rw[h3];exact h6)
theorem Pa {n k:Nat}(h:n<2 ^ k)(hk:k<=9000):n<mK:=bp h (dL (by decide) hk)
theorem KB {n:Nat}(h:n<1048576):n<mK:=Pa (k:=20) h (by decide)
theorem Ue {i j:Int}(h:j≠0):dY (.int i) (.int j)=some (.int (i.fmod j)):=by
 unfold dY
 by_cases h0:0<j
 ·simp[h0,oh i (by omega:0<=j)]
 ·simp[h0,h]
theorem Ta {i j:Int}(h:j≠0)(hz:Sz 9000 j):fK (.int i) (.int j)=some (.int (i.fdiv j)):=by
 unfold fK
 by_cases h0:0<j/\j<4611686018427387904
 ·simp[h0,iw i (by omega:0<=j)]
 ·have hz:j.natAbs<K2:=hz
  simp[h0,h,hz]
theorem zmv {i j:Int}(h1:0<j)(h2:j<4611686018427387904):fK (.int i) (.int j)=some (.int (i/j)):=by unfold fK;simp[h1,h2]
theorem j8 {i j:Int}(h:0<j):dY (.int i) (.int j)=some (.int (i%j)):=by unfold dY;simp[h]
theorem zc0 {i j:Int}(h1:-18446744073709551616<j)(h2:j<18446744073709551616):dk (.int i) (.int j)=some (.int (i*j)):=by simp[dk,tR,lh,h1,h2]
theorem zem {i j:Int}(h1:-18446744073709551616<i)(h2:i<18446744073709551616):dk (.int i) (.int j)=some (.int (i*j)):=by simp[dk,tR,lh,h1,h2]
theorem zo8 {i j:Int}(h1:0<=j)(h2:j<=1000000)(h3:i.natAbs<18446744073709551616):uY (.int i) (.int j)=some (.int (i ^ j.toNat)):=by simp[uY,tR,oH,h1,h2,h3]
theorem zo9 {i j:Int}(h1:0<=j)(h2:j<=1000000)(h3:i.natAbs<18446744073709551616):xH (.int i) (.int j)=some (.int (i*2 ^ j.toNat)):=by simp[xH,tR,oH,h1,h2,h3]
theorem zj6 {i j:Int}(h1:0<=j):sU (.int i) (.int j)=some (.int (i/2 ^ j.toNat)):=by simp[sU,tR,h1]
theorem zpa (i j:Int):e6 (.int i) (.int j)=some (.int (i+j)):=rfl
theorem Tb {xs ys:List D}(h:xs.length+ys.length<=16777216):e6 (.lst xs) (.lst ys)=some (.lst (xs++ys)):=by simp[e6,h]
theorem zpb {x y:aX}(h:x.length+y.length<=16777216):e6 (.str x) (.str y)=some (.str (x++y)):=by simp[e6,h]
theorem zpc (i j:Int):rD (.int i) (.int j)=some (.int (i-j)):=rfl
theorem zmw (i j:Int):nD (.int i) (.int j)=some (.bl (decide (i<j))):=rfl
theorem zst (i j:Int):xD (.int i) (.int j)=some (.bl (decide (i<=j))):=rfl
theorem zix (i j:Int):tQ (.int i) (.int j)=some (.bl (decide (j<i))):=rfl
theorem zsu (i j:Int):yF (.int i) (.int j)=some (.bl (decide (j<=i))):=rfl
theorem zpd (i:Int):rz (.int i)=some (.int (-i)):=rfl
theorem wx (ds:List D):cX [.lst ds]=some (.int ds.length):=rfl
theorem zpe (ds:List D):cX [.tup ds]=some (.int ds.length):=rfl
theorem zj8 (i:Int):uC [.int i]=some (.int (if i<0 then -i else i)):=rfl
theorem zmx (i j:Int):G0 [.int i,.int j]=some (.int (if j > i then j else i)):=rfl
theorem zmy (i j:Int):G2 [.int i,.int j]=some (.int (if j<i then j else i)):=rfl
theorem zsv (neg:Bool)(d:D):pO neg d .non=some (.bl (if neg then !d.isN else d.isN)):=by cases d<;>rfl
theorem zvf (neg b:Bool)(d:D):pO neg d (.bl b)=some (.bl (if neg then !d.isB b else d.isB b)):=by cases d<;>rfl
theorem zvg (b:Bool):Jn (.bl b)=some b:=rfl
theorem zsw (ds:List D):Jo (.lst ds)=some ds:=rfl
theorem zfj (ds:List D)(l h:Option Int):kF (.lst ds) l h=some (.lst (cutD ds l h)):=rfl
theorem zE {j:Int}(h1:-4611686018427387904<=j)(h2:j<4611686018427387904):hJ [.int j]=some (fJ 0 j.toNat):=by simp[hJ,h1,h2]
theorem zsx {α:Type}(enc:α->D){xs:List α}{i:Int}{j:Nat}{x:α}(hi:i=(j:Int)\/i=(j:Int)-xs.length)(h:xs[j]?=some x):atI (xs.map enc) i=some (enc x):=by
 have hj:=(aW.mp h).1
 unfold L2.atI L2.ixN
 rw[ah]
 rcases hi with rfl|rfl
 ·rw[if_pos (by omega),if_pos (by omega)]
  simp[h]
 ·rw[if_neg (by omega),if_pos (by omega)]
  have:((j:Int)-(xs.length:Int)+(xs.length:Int)).toNat=j:=by omega
  simp[this,h]
theorem zmz (xs:List D)(k:Nat):cutD xs (some (k:Int)) none=xs.drop k:=by
 unfold cutD
 rw[HT.sIx_none,HT.sIx_nat]
 rcases p6 k xs.length with h|h
 ·rw[nI h,eT (by rw[cU];omega)]
 ·rw[mQ h,gx (aM _),gx h]
  simp
theorem zpf (xs:List D)(k l:Nat):cutD xs (some (k:Int)) (some (l:Int))=(xs.drop k).take (l-k):=by
 unfold cutD
 rw[HT.sIx_nat,HT.sIx_nat]
 rcases p6 k xs.length with h|h
 ·rw[nI h]
  rcases p6 l xs.length with g|g
  ·rw[nI g]
  ·rw[mQ g,eT (by rw[cU];omega),eT (by rw[cU];omega)]
 ·rw[mQ h,gx (aM _),gx h]
  simp
theorem zpg {i j:Int}{n m:Nat}(h:Sz n i)(h':Sz m j)(hn:n<=100000)(hm:m<=100000):lh i j:=.inr (.inr ⟨h.mono hn,h'.mono hm⟩)
theorem u7 {i j:Int}{n m:Nat}(h:Sz n i)(h':Sz m j)(hn:n<=100000)(hm:m<=100000):dk (.int i) (.int j)=some (.int (i*j)):=by
 have:=zpg h h' hn hm
 simp[dk,tR,this]
theorem SO {α:Type}{g:D->Env->Option Env}{p:BF}{f:EF}{ρ0:Env}(enc:α->D)(q:α->Bool)(h:α->D):∀(xs:List α),(∀x∈xs,∃ρ1,g (enc x) ρ0=some ρ1/\p ρ1=some (q x)/\(q x=true->f ρ1=some (h x)))->oz g p f ρ0 (xs.map enc)=some ((xs.filter q).map h)
 |[],_=>rfl
 |x::xs,H=>by
  obtain⟨ρ1,h1,h2,h3⟩:=H x aa
  have ih:=SO enc q h xs λy hy=>H y (aj _ hy)
  show(g (enc x) ρ0).bind _=_
  rw[h1]
  show(p ρ1).bind _=_
  rw[h2]
  cases hq:q x with
  |false=>
   rw[cz,if_neg aQ,pj (by rw[hq];exact aQ)]
   exact ih
  |true=>
   rw[cz,if_pos rfl,h3 hq,pq hq]
   show(oz g p f ρ0 (xs.map enc)).bind _=_
   rw[ih]
   rfl
end L3
namespace L3
open PySem PySem.Spec L2
structure jP (α:Type)[DecidableEq α] where
 enc:α->D
 py:α->bK
 dep:Nat
 is:∀x,(enc x).py=some (py x)
 lay:∀x,(py x).canLay0=true
 dp:∀x,(py x).depth<=dep
 eqv:∀x y,bK.eqv (py x) (py y)=decide (x=y)
section
variable {α β γ δ ε:Type}[DecidableEq α][DecidableEq β][DecidableEq γ][DecidableEq δ][DecidableEq ε]
theorem jP.eq (E:jP α)(h:E.dep<=60){neg:Bool}(x y:α):fZ neg (E.enc x) (E.enc y)=some (.bl (if neg then !decide (x=y)else decide (x=y))):=by
 have h1:jX (E.py x)=true:=by unfold jX;rw[E.lay x,decide_eq_true (cB (E.dp x) h)];rfl
 have h2:jX (E.py y)=true:=by unfold jX;rw[E.lay y,decide_eq_true (cB (E.dp y) h)];rfl
 unfold fZ
 rw[E.is x,E.is y]
 simp only[cz]
 rw[if_pos ⟨h1,h2⟩,E.eqv]
def Ei:jP Int:=⟨.int,.int,0,λ_=>by simp[D.py],λ_=>rfl,λ_=>by simp[bK.depth],λx y=>by show(x==y)=_;by_cases h:x=y<;>simp[h]⟩
def Eb:jP Bool:=⟨.bl,.bool,0,λ_=>by simp[D.py],λ_=>rfl,λ_=>by simp[bK.depth],λx y=>by cases x<;>cases y<;>rfl⟩
theorem Pb (E:jP α):∀xs:List α,D.pys (xs.map E.enc)=some (xs.map E.py)
 |[]=>by simp[D.pys]
 |x::xs=>by simp[D.pys,E.is x,Pb E xs]
theorem Sg (E:jP α):∀xs:List α,bK.canLayAll0 (xs.map E.py)=true
 |[]=>by simp[bK.canLayAll0]
 |x::xs=>by simp[bK.canLayAll0,E.lay x,Sg E xs]
theorem Sh (E:jP α):∀xs:List α,bK.depthAll (xs.map E.py)<=E.dep
 |[]=>by simp[bK.depthAll]
 |x::xs=>by
  have:=Sh E xs
  have:=E.dp x
  simp only[aP,bK.depthAll]
  omega
theorem Si (E:jP α):∀xs ys:List α,bK.eqvAll (xs.map E.py) (ys.map E.py)=decide (xs=ys)
 |[],[]=>by simp[bK.eqvAll]
 |[],_::_=>by simp[bK.eqvAll]
 |_::_,[]=>by simp[bK.eqvAll]
 |x::xs,y::ys=>by
  simp only[aP,bK.eqvAll,E.eqv,Si E xs ys]
  by_cases h:x=y<;>by_cases g:xs=ys<;>simp[h,g]
def El (E:jP α):jP (List α):=⟨λxs=>.lst (xs.map E.enc),λxs=>.list (xs.map E.py),E.dep+1,λxs=>by simp[D.py,Pb],λxs=>by simp[bK.canLay0,Sg],λxs=>by have:=Sh E xs;simp only[bK.depth];omega,λxs ys=>by simp only[bK.eqv,Si]⟩
def E2 (A:jP α)(B:jP β):jP (α×β):=⟨λp=>.tup [A.enc p.1,B.enc p.2],λp=>.tuple [A.py p.1,B.py p.2],max A.dep B.dep+1,λp=>by simp[D.py,D.pys,A.is,B.is],λp=>by simp[bK.canLay0,bK.canLayAll0,A.lay,B.lay],
 λp=>by have:=A.dp p.1;have:=B.dp p.2;simp only[bK.depth,bK.depthAll];omega,λp q=>by
  simp only[bK.eqv,bK.eqvAll,A.eqv,B.eqv]
  obtain⟨a,b⟩:=p
  obtain⟨c,d⟩:=q
  by_cases h:a=c<;>by_cases g:b=d<;>simp[h,g]⟩
end
theorem zdd {neg:Bool}(a b:Int):fZ neg (.int a) (.int b)=some (.bl (if neg then !decide (a=b)else decide (a=b))):=Ei.eq (by decide) a b
theorem zvh {neg:Bool}(a b:Bool):fZ neg (.bl a) (.bl b)=some (.bl (if neg then !decide (a=b)else decide (a=b))):=Eb.eq (by decide) a b
end L3
namespace L3
open PySem PySem.Spec L2
open PyProof.Rows hiding St
section
variable {X:Cx}{ct:Nat->ai}{K:ae}{n m k:Nat}
theorem IntsAre.of {ns:List Int}{us:List af}(h:ck (ns.map V.int) us):IntsAre us ns:=zk3 h
theorem II (hc:X.calm=true):eK X (.builtin "sum") (λxs H Q=>∃(a:ai) (ns:List Int),xs=[.ref a]/\fX X.K H a (ns.map V.int)/\Q (.int ns.sum) H):=by
 intro am s σ H xs us Q I r h
 obtain⟨a,ns,rfl,hq,q⟩:=h
 obtain⟨u,rfl,ru⟩:=r.one
 cases(show u=af.ref a from ru)
 obtain⟨cv,rv,pl,hz⟩:=I.list hq
 have hi:=IntsAre.of rv
 obtain⟨ys,hx⟩:=hi.allInts.items
 have Bd:s.heap.IsList a (intItems ys):=hx▸pl.isList
 refine sum_intListG (I.ok.hd hc) Bd λh' tk t' hk=>?_
 have e1:ns=ys.toList.map (·.1):=by
  rw[←rK,←hx]
  exact(show numsOf cv.toArray.toList=ns from hi.numsOf).symm
 have e2:preSum (numAt ys) ys.size=ns.sum:=by
  rw[preSum_eq,eT (by simp),e1]
 rw[e2]
 exact⟨.int ns.sum,H,I.kept (t':=tk) hk,⟨_,rfl⟩,q⟩
theorem SQ (hc:X.calm=true):eK X (.builtin "max") (λxs H Q=>∃(a:ai) (ns:List Int),xs=[.ref a]/\fX X.K H a (ns.map V.int)/\ns≠[]/\∀M,M∈ns->(∀z∈ns,z<=M)->Q (.int M) H):=by
 intro am s σ H xs us Q I r h
 obtain⟨a,ns,rfl,hq,i7,q⟩:=h
 obtain⟨u,rfl,ru⟩:=r.one
 cases(show u=af.ref a from ru)
 obtain⟨cv,rv,pl,hz⟩:=I.list hq
 have hi:=IntsAre.of rv
 obtain⟨ys,e⟩:=hi.allInts.items
 have gG:ns=ys.toList.map (·.1):=by rw[←hi.numsOf,←rK,←e]
 have hsz:0<ys.size:=by
  have h3:0<ns.length:=dm.mpr i7
  rw[gG,ah,cN]at h3;exact h3
 have Bd:s.heap.IsList a (intItems ys):=e▸pl.isList
 refine max_intList (I.ok.hd hc) Bd hsz λv h' tk hv hk=>?_
 obtain⟨t,rfl⟩:=intItems_at hv
 obtain⟨h1,h2⟩:=argBest_gt (numAt ys) (ys.size-1)
 refine⟨.int (numAt ys (argBest (λi j=>decide (numAt ys i > numAt ys j)) (ys.size-1))),H,I.kept (t':=tk) hk,⟨_,rfl⟩,q _ ?_ λz hz=>?_⟩
 ·rw[gG,numAt_eq];exact getD_mem (by rw[ah,cN];omega)
 ·rw[gG]at hz
  obtain⟨j,hj,rfl⟩:=mem_getD hz
  rw[ah,cN]at hj
  rw[←numAt_eq];exact h2 j (by omega)
theorem zm0 (hc:X.calm=true):eK X (.builtin "min") (λxs H Q=>∃(a:ai) (ns:List Int),xs=[.ref a]/\fX X.K H a (ns.map V.int)/\ns≠[]/\∀M,M∈ns->(∀z∈ns,M<=z)->Q (.int M) H):=by
 intro am s σ H xs us Q I r h
 obtain⟨a,ns,rfl,hq,i7,q⟩:=h
 obtain⟨u,rfl,ru⟩:=r.one
 cases(show u=af.ref a from ru)
 obtain⟨cv,rv,pl,hz⟩:=I.list hq
 have hi:=IntsAre.of rv
 obtain⟨ys,e⟩:=hi.allInts.items
 have gG:ns=ys.toList.map (·.1):=by rw[←hi.numsOf,←rK,←e]
 have hsz:0<ys.size:=by
  have h3:0<ns.length:=dm.mpr i7
  rw[gG,ah,cN]at h3;exact h3
 have Bd:s.heap.IsList a (intItems ys):=e▸pl.isList
 refine min_intList (I.ok.hd hc) Bd hsz λv h' tk hv hk=>?_
 obtain⟨t,rfl⟩:=intItems_at hv
 obtain⟨h1,h2⟩:=argBest_lt (numAt ys) (ys.size-1)
 refine⟨.int (numAt ys (argBest (λi j=>decide (numAt ys i<numAt ys j)) (ys.size-1))),H,I.kept (t':=tk) hk,⟨_,rfl⟩,q _ ?_ λz hz=>?_⟩
 ·rw[gG,numAt_eq];exact getD_mem (by rw[ah,cN];omega)
 ·rw[gG]at hz
  obtain⟨j,hj,rfl⟩:=mem_getD hz
  rw[ah,cN]at hj
  rw[←numAt_eq];exact h2 j (by omega)
theorem SR:∀{bs:List Bool} {us:List af},ck (bs.map V.bl) us->us=bs.map af.bool
 |[],_,.nil=>rfl
 |b::bs,_,.cons r t=>by rw[SR t];cases(show _=af.bool b from r);rfl
theorem SS (hc:X.calm=true):eK X (.builtin "all") (λxs H Q=>∃(a:ai) (bs:List Bool),xs=[.ref a]/\fX X.K H a (bs.map V.bl)/\Q (.bl (bs.all id)) H):=by
 intro am s σ H xs us Q I r h
 obtain⟨a,bs,rfl,hq,q⟩:=h
 obtain⟨u,rfl,ru⟩:=r.one
 cases(show u=af.ref a from ru)
 obtain⟨cv,rv,pl,hz⟩:=I.list hq
 have hb:=SR rv
 subst hb
 have hl:=pl.isList
 have gK:a<s.heap.objs.size:=by obtain⟨_,e,_⟩:=hl;exact aR e
 refine PySem.call_all_walk (wpAny_pyIter_list hl ?_)
 refine⟨s.heap.objs.size,[s.heap.objs.size,a],[s.heap.objs.size],(bs.map af.bool).toArray.size,_,_,λi=>(bs[i]?).getD true,rfl,Walks.list (A:=X.A.in1) (I.ok.hd hc) _ a (bE gK) (bs.map af.bool).toArray,
  ⟨⟨_,bW _ rfl,rfl,rfl⟩,hl.push _⟩,λi v s' Q' E' hP hQ=>?_,λh' tk hk=>?_⟩
 ·have hP:(bs.map af.bool)[i]?=some v:=by simpa using hP
  rw[aD]at hP
  obtain⟨b,hb,rfl⟩:=dS.mp hP
  simp only[hb,Option.getD_some]at hQ
  exact dz hQ
 ·have e:((aw (bs.map af.bool).toArray.size).all λi=>(bs[i]?).getD true)=bs.all id:=by
   rw[aL,ah];exact PyProof.Rows.LSm.range_all bs
  rw[e]
  refine⟨.bl (bs.all id),H,I.kept (t':=tk) λb o MH=>hk b o (λhm=>?_) (aJ _ MH),rfl,q⟩
  rw[az.mp hm]at MH
  exact eJ _ (aR MH)
theorem Od:eK X (.builtin "sorted") (λxs H Q=>∃(a:ai) (ns:List Int),xs=[.ref a]/\fX X.K H a (ns.map V.int)/\ns.length<64/\∀pA:List Int,pA.Perm ns->pA.Pairwise (·<=·)->∀p,H p=none->Q (.ref p) (d4 H p (.lst (pA.map V.int)))):=by
 intro am s σ H xs us Q I r h
 obtain⟨a,ns,rfl,hq,WW,q⟩:=h
 obtain⟨u,rfl,ru⟩:=r.one
 cases(show u=af.ref a from ru)
 obtain⟨cv,rv,pl,hz⟩:=I.list hq
 have hi:=IntsAre.of rv
 have dB:cv.length=ns.length:=by rw[←rv.length,ah]
 refine sorted_ints pl.isList hi (by omega) λout pA a1 a2 a3=>?_
 obtain⟨e,he⟩:=sortedAll_at s.heap cv out
 have vS:pA.length<=sizeLine:=by
  rw[a2.length_eq,←ah (f:=V.int)];exact hz
 refine⟨.ref _,_,I.laid (a:=s.heap.objs.size+1) (o:=.lst (pA.map V.int)) (t':=s.toks) (λb u=>sortedAll_old) (iO _) ?_,rfl,q pA a2 a3 _ (I.hok.fresh (iO _))⟩
 exact⟨by rw[ah];exact vS,out.toList,e,Oz a1,by simpa[seqObj]using he⟩
def eL:List D->Option (List Int)
 |[]=>some []
 |.int i::ds=>(eL ds).bind λns=>some (i::ns)
 |_=>none
theorem Ox:∀{ds:List D} {ns:List Int},eL ds=some ns->ds=ns.map .int
 |[],_,e=>by cases e;rfl
 |d::ds,ns,e=>by
  cases d with
  |int i=>
   obtain⟨ms,h1,h2⟩:=aY (show(eL ds).bind _=_ from e)
   cases h2
   rw[Ox h1];rfl
  |_=>cases e
theorem CA:∀ns:List Int,eL (ns.map .int)=some ns
 |[]=>rfl
 |n::ns=>by show(eL (ns.map .int)).bind _=_;rw[CA ns];rfl
theorem Pr.intV {F G:Hp}:∀{ns:List Int} {vs:List V},Pr (Al K ct F G n) (ns.map .int) vs->vs=ns.map V.int
 |[],_,.nil=>rfl
 |i::ns,_,.cons h t=>by rw[Pr.intV t,h.int];rfl
def jR:List D->Option (List Bool)
 |[]=>some []
 |.bl i::ds=>(jR ds).bind λns=>some (i::ns)
 |_=>none
theorem R7:∀{ds:List D} {ns:List Bool},jR ds=some ns->ds=ns.map .bl
 |[],_,e=>by cases e;rfl
 |d::ds,ns,e=>by
  cases d with
  |bl i=>
   obtain⟨ms,h1,h2⟩:=aY (show(jR ds).bind _=_ from e)
   cases h2
   rw[R7 h1];rfl
  |_=>cases e
theorem Pr.blV {F G:Hp}:∀{ns:List Bool} {vs:List V},Pr (Al K ct F G n) (ns.map .bl) vs->vs=ns.map V.bl
 |[],_,.nil=>rfl
 |i::ns,_,.cons h t=>by rw[Pr.blV t,h.bl];rfl
def G1:List Int->Option Int
 |[]=>none
 |x::xs=>some (xs.foldl max x)
def G3:List Int->Option Int
 |[]=>none
 |x::xs=>some (xs.foldl min x)
theorem SU:∀(xs:List Int) (x:Int),(xs.foldl max x=x\/xs.foldl max x∈xs)/\x<=xs.foldl max x/\∀z∈xs,z<=xs.foldl max x
 |[],x=>⟨.inl rfl,eS _,λz h=>by cases h⟩
 |y::xs,x=>by
  obtain⟨h1,h2,h3⟩:=SU xs (max x y)
  refine⟨?_,by show x<=xs.foldl max (max x y);omega,λz hz=>?_⟩
  ·rcases h1 with h1|h1
   ·show xs.foldl max (max x y)=x\/xs.foldl max (max x y)∈y::xs
    rw[h1]
    rcases pX x y with h|h
    ·rw[Int.max_eq_right h];exact .inr aa
    ·rw[Int.max_eq_left h];exact .inl rfl
   ·exact .inr (aj _ h1)
  ·rcases aF.mp hz with rfl|hz
   ·show z<=xs.foldl max (max x z);omega
   ·exact h3 z hz
theorem SV:∀(xs:List Int) (x:Int),(xs.foldl min x=x\/xs.foldl min x∈xs)/\xs.foldl min x<=x/\∀z∈xs,xs.foldl min x<=z
 |[],x=>⟨.inl rfl,eS _,λz h=>by cases h⟩
 |y::xs,x=>by
  obtain⟨h1,h2,h3⟩:=SV xs (min x y)
  refine⟨?_,by show xs.foldl min (min x y)<=x;omega,λz hz=>?_⟩
  ·rcases h1 with h1|h1
   ·show xs.foldl min (min x y)=x\/xs.foldl min (min x y)∈y::xs
    rw[h1]
    rcases pX x y with h|h
    ·rw[Int.min_eq_left h];exact .inl rfl
    ·rw[Int.min_eq_right h];exact .inr aa
   ·exact .inr (aj _ h1)
  ·rcases aF.mp hz with rfl|hz
   ·show xs.foldl min (min x z)<=z;omega
   ·exact h3 z hz
theorem OQ {ns:List Int}{M:Int}(h:G1 ns=some M):M∈ns/\∀z∈ns,z<=M:=by
 cases ns with
 |nil=>cases h
 |cons x xs=>
  cases h
  obtain⟨h1,h2,h3⟩:=SU xs x
  refine⟨?_,λz hz=>?_⟩
  ·rcases h1 with h1|h1
   ·rw[h1];exact aa
   ·exact aj _ h1
  ·rcases aF.mp hz with rfl|hz
   ·exact h2
   ·exact h3 z hz
theorem Tc {ns:List Int}{M:Int}(h:G3 ns=some M):M∈ns/\∀z∈ns,M<=z:=by
 cases ns with
 |nil=>cases h
 |cons x xs=>
  cases h
  obtain⟨h1,h2,h3⟩:=SV xs x
  refine⟨?_,λz hz=>?_⟩
  ·rcases h1 with h1|h1
   ·rw[h1];exact aa
   ·exact aj _ h1
  ·rcases aF.mp hz with rfl|hz
   ·exact h2
   ·exact h3 z hz
def o9:List D->Option D
 |[.lst ds]=>(eL ds).bind λns=>some (.int ns.sum)
 |_=>none
def uS:List D->Option D
 |[.lst ds]=>(eL ds).bind λns=>(G1 ns).bind λM=>some (.int M)
 |_=>none
def BA:List D->Option D
 |[.lst ds]=>(eL ds).bind λns=>(G3 ns).bind λM=>some (.int M)
 |_=>none
def wO:List D->Option D
 |[.lst ds]=>(jR ds).bind λbs=>some (.bl (bs.all id))
 |_=>none
def insI (x:Int):List Int->List Int
 |[]=>[x]
 |y::ys=>if x<=y then x::y::ys else y::insI x ys
def mD:List Int->List Int
 |[]=>[]
 |x::xs=>insI x (mD xs)
theorem OD (x:Int):∀ys,(insI x ys).Perm (x::ys)
 |[]=>.refl _
 |y::ys=>by
  unfold insI
  by_cases h:x<=y
  ·rw[if_pos h]
  ·rw[if_neg h]
   exact((OD x ys).cons y).trans (.swap x y ys)
theorem IE:∀xs,(mD xs).Perm xs
 |[]=>.refl _
 |x::xs=>(OD x _).trans ((IE xs).cons x)
theorem R8 (x:Int):∀{ys:List Int},ys.Pairwise (·<=·)->(insI x ys).Pairwise (·<=·)
 |[],_=>List.pairwise_singleton _ _
 |y::ys,h=>by
  obtain⟨h1,h2⟩:=ga.mp h
  unfold insI
  by_cases hx:x<=y
  ·rw[if_pos hx]
   exact ga.mpr ⟨λz hz=>by
    rcases aF.mp hz with rfl|hz
    ·exact hx
    ·exact pY hx (h1 z hz),h⟩
  ·rw[if_neg hx]
   refine ga.mpr ⟨λz hz=>?_,R8 x h2⟩
   have:=(OD x ys).mem_iff.mp hz
   rcases aF.mp this with rfl|hz
   ·omega
   ·exact h1 z hz
theorem jv:∀xs,(mD xs).Pairwise (·<=·)
 |[]=>fS.nil
 |x::xs=>R8 x (jv xs)
theorem J9:∀{xs ys:List Int},xs.Perm ys->xs.Pairwise (·<=·)->ys.Pairwise (·<=·)->xs=ys
 |[],ys,p,_,_=>(p.nil_eq).symm▸rfl
 |x::xs,[],p,_,_=>absurd p.symm.nil_eq (by simp)
 |x::xs,y::ys,p,hx,hy=>by
  obtain⟨h1,h2⟩:=ga.mp hx
  obtain⟨h3,h4⟩:=ga.mp hy
  have e:x=y:=by
   have a:=p.mem_iff.mp (aa:x∈x::xs)
   have b:=p.mem_iff.mpr (aa:y∈y::ys)
   have a':y<=x:=by
    rcases aF.mp a with rfl|a
    ·exact eS _
    ·exact h3 x a
   have b':x<=y:=by
    rcases aF.mp b with rfl|b
    ·exact eS _
    ·exact h1 y b
   omega
  subst e
  rw[J9 ((List.perm_cons x).mp p) h2 h4]
def lC:List D->Option D
 |[.lst ds]=>(eL ds).bind λns=>if ns.length<64 then some (.lst ((mD ns).map .int))else none
 |_=>none
theorem Kl {F H:Hp}{vs:List V}{ds:List D}{ns:List Int}(s:ce F H)(l:jF K ct F H [n] [.lst ds] vs)(e:eL ds=some ns):∃a,vs=[.ref a]/\fX K H a (ns.map V.int):=by
 cases l with
 |cons h t=>
  cases t
  obtain⟨a,us,rfl,ha,hp⟩:=h.lst s
  have:=Ox e
  subst this
  have:=hp.intV
  subst this
  exact⟨a,rfl,ha⟩
theorem IW:wJ K ct [n] k (λxs H Q=>∃(a:ai) (ns:List Int),xs=[.ref a]/\fX K H a (ns.map V.int)/\Q (.int ns.sum) H) o9:=by
 intro F H vs ds d Q s l e w
 match ds,l,e with
 |[.lst xs],l,e=>
  obtain⟨ns,h1,h2⟩:=aY (show(eL xs).bind _=_ from e)
  cases h2
  obtain⟨a,rfl,ha⟩:=Kl s l h1
  exact⟨a,ns,rfl,ha,w _ F H (.refl s) (Al.of (.int _))⟩
theorem TY:wJ K ct [n] k (λxs H Q=>∃(a:ai) (ns:List Int),xs=[.ref a]/\fX K H a (ns.map V.int)/\ns≠[]/\∀M,M∈ns->(∀z∈ns,z<=M)->Q (.int M) H) uS:=by
 intro F H vs ds d Q s l e w
 match ds,l,e with
 |[.lst xs],l,e=>
  obtain⟨ns,h1,h2⟩:=aY (show(eL xs).bind _=_ from e)
  obtain⟨M,h3,h4⟩:=aY h2
  cases h4
  obtain⟨a,rfl,ha⟩:=Kl s l h1
  obtain⟨m1,m2⟩:=OQ h3
  refine⟨a,ns,rfl,ha,(λz=>by rw[z]at m1;cases m1),λM' h5 h6=>?_⟩
  have:M'=M:=wG (m2 M' h5) (h6 M m1)
  subst this
  exact w _ F H (.refl s) (Al.of (.int _))
theorem zsy:wJ K ct [n] k (λxs H Q=>∃(a:ai) (ns:List Int),xs=[.ref a]/\fX K H a (ns.map V.int)/\ns≠[]/\∀M,M∈ns->(∀z∈ns,M<=z)->Q (.int M) H) BA:=by
 intro F H vs ds d Q s l e w
 match ds,l,e with
 |[.lst xs],l,e=>
  obtain⟨ns,h1,h2⟩:=aY (show(eL xs).bind _=_ from e)
  obtain⟨M,h3,h4⟩:=aY h2
  cases h4
  obtain⟨a,rfl,ha⟩:=Kl s l h1
  obtain⟨m1,m2⟩:=Tc h3
  refine⟨a,ns,rfl,ha,(λz=>by rw[z]at m1;cases m1),λM' h5 h6=>?_⟩
  have:M'=M:=wG (h6 M m1) (m2 M' h5)
  subst this
  exact w _ F H (.refl s) (Al.of (.int _))
theorem TZ:wJ K ct [n] k (λxs H Q=>∃(a:ai) (bs:List Bool),xs=[.ref a]/\fX K H a (bs.map V.bl)/\Q (.bl (bs.all id)) H) wO:=by
 intro F H vs ds d Q s l e w
 match ds,l,e with
 |[.lst xs],l,e=>
  obtain⟨bs,h1,h2⟩:=aY (show(jR xs).bind _=_ from e)
  cases h2
  cases l with
  |cons h t=>
   cases t
   obtain⟨a,us,rfl,ha,hp⟩:=h.lst s
   have:=R7 h1
   subst this
   have:=hp.blV
   subst this
   exact⟨a,bs,rfl,ha,w _ F H (.refl s) (Al.of (.bl _))⟩
theorem Pr.ofInts {F H:Hp}:∀ns:List Int,Pr (Al K ct F H 0) (ns.map .int) (ns.map V.int)
 |[]=>.nil
 |n::ns=>.cons (show Dt K ct F (.int n) (.int n)from .int n) (Pr.ofInts ns)
theorem OR:uA K ct [n] 1 (λxs H Q=>∃(a:ai) (ns:List Int),xs=[.ref a]/\fX K H a (ns.map V.int)/\ns.length<64/\∀pA:List Int,pA.Perm ns->pA.Pairwise (·<=·)->∀p,H p=none->Q (.ref p) (d4 H p (.lst (pA.map V.int)))) lC:=by
 intro F H vs ds d Q s l e w
 match ds,l,e with
 |[.lst xs],l,e=>
  obtain⟨ns,h1,h2⟩:=aY (show(eL xs).bind _=_ from e)
  by_cases hz:ns.length<64
  ·rw[if_pos hz]at h2
   cases h2
   obtain⟨a,rfl,ha⟩:=Kl s l h1
   refine⟨a,ns,rfl,ha,hz,λpA p1 p2=>?_⟩
   have:pA=mD ns:=J9 (p1.trans (IE ns).symm) p2 (jv ns)
   subst this
   exact zI s (Pr.ofInts _) w
  ·rw[if_neg hz]at h2;cases h2
end
end L3
namespace L3
open PySem PySem.Spec L2
open PyProof.Rows hiding St
def mB (H:Hp)(x:ai):Hp:=λb=>if b=x then none else H b
theorem Km (H:Hp)(x:ai):ce (mB H x) H:=λb o h=>by
 unfold mB at h
 by_cases e:b=x
 ·rw[if_pos e]at h;cases h
 ·rw[if_neg e]at h;exact h
theorem KP (H:Hp)(x:ai):mB H x x=none:=if_pos rfl
theorem qr {H:Hp}{x b:ai}(h:b≠x):mB H x b=H b:=if_neg h
def t8 (K:ae)(ct:Nat->ai)(cs:List Nat)(pm:List Nat)(mi:Nat->List D->Option D):Sp:=λvs H Q _=>∃(F:Hp) (c:Nat) (ds:List D) (d:D) (x dx:ai) (us:List V),c∈cs/\vs=.ref x::us/\H x=some (.ins (ct c) dx [])/\F x=none/\ce F H/\jF K ct F (mB H x) pm ds us/\mi c ds=some d /\
 ∀F' H',ce F F'->ce (mB H x) H'->ce F' H'->(∀a o,mB H x a=some o->F a=none->F' a=none)->F' x=none->Ow K ct F' H' 1 d (.ref x) [x]->Q .non H'
theorem t8.len {K:ae}{ct:Nat->ai}{cs pm:List Nat}{mi:Nat->List D->Option D}{ps:List aX}(h:pm.length+1=ps.length):∀vs H Q E,t8 K ct cs pm mi vs H Q E->vs.length=ps.length:=by
 rintro vs H Q E ⟨F,c,ds,d,x,dx,us,_,rfl,_,_,_,l,_⟩
 rw[aI,l.length,h]
def Bs (N:List aX)(b:SF)(c:Nat)(ds:List D):Option D:=(b (some (.obj c [] [])::startD N.tail ds)).bind λo=>match o with
 |.nx ρ=>(ρ[0]?).join
 |_=>none
section
variable {X:Cx}{ct:Nat->ai}{ms:List Mo}{rk n m k:Nat}{a b c e tg:Expr}{f g h:EF}{u w:SF}{pos:dF}
theorem IJ {P:bJ}{w:cw}{K:ae}{mg:aX->Option af}{base:bc}{x qual:aX}{st:bT}{fa:ai}{fd:aK}{N0:aX}{N ps:List aX}{kk:Nat}{cs pm:List Nat}{bf:SF}(Fn:Fun2 K x qual st fa fd)(S:bu (N0::N) ps (aO st))(Bm:pm.length+1=ps.length)(JH:ms.length=N.length)(sP:pm.length<=N.length)
  (FF:∀(i n:Nat),pm[i]?=some n->ms[i]?=some (Mo.al n)\/(n=0/\ms[i]?=some (Mo.ow 0)))
  (body:∀(x:ai) (iC:af) (A:bX) (outer:List PySem.Env) (s:ap) (H:Hp) (E:XK),eR kk (A.deeper (envOfC qual (aO st) s.heap.objs.size fa iC))->sJ (n6 eU P w K mg base (N0::N) qual (aO st) fa iC A outer s H E).nox ct (.so x::ms) rk (hE st) bf) :
  cH P w K mg base eU (kk+1) fa fd ps (t8 K ct cs pm (Bs (N0::N) bf)):=by
 refine Fn.ok S (t8.len Bm) λiC A outer s H vs Q E hr h=>?_
 obtain⟨F,c,ds,d,x,dx,us,hc,rfl,hx,hF,sF,l,hm,q⟩:=h
 obtain⟨t,pt,qt⟩:=body x iC A outer s H E hr
 refine⟨t,pt,?_⟩
 obtain⟨o,h1,h2⟩:=aY hm
 have uJ:ds.length=us.length:=l.length'
 have QW:us.length=pm.length:=l.length
 have ow:Ow K ct F H 1 (.obj c [] []) (.ref x) [x]:=.inr (wK.obj (vs:=[]) hF hx rfl .nil)
 have ZM:ce F (mB H x):=λb o hb=>by
  rw[qr (λe=>by rw[e,hF]at hb;cases hb)]
  exact sF _ _ hb
 refine qt F (mB H x) F H (some (.obj c [] [])::startD N ds) (L2.start (N0::N) (.ref x::us)) o _ ⟨.refl _,Km H x,sF,λ_ _ _ h=>h,[x],?_,by simp,λa z=>by rw[az]at z;subst z;exact KP H _⟩ h1 ?_
 ·have e:L2.start (N0::N) (.ref x::us)=some (.ref x)::(us.map some++aC (N.length-us.length) none):=by
   unfold L2.start
   simp
  rw[e]
  unfold startD
  rw[uJ]
  exact SL.so (fp:=[]) ow (SL.start _ l FF (by omega))
 ·cases o with
  |nx ρ=>
   intro σ F' H' r
   obtain⟨fp,sl,nd,hb⟩:=r.sl
   cases sl with
   |no _=>cases h2
   |so JW _=>
    cases h2
    exact q F' H' r.f0 r.bh r.fh r.nf (JW.cells x aa).1 JW
  |rt d'=>cases h2
  |bk ρ=>cases h2
  |ct ρ=>cases h2
end
end L3
namespace L3
open PySem PySem.Spec L2
open PyProof.Rows hiding St
theorem Tn {f:aX}{y:V}:∀{ns:List aX} {vs:List V},ns.length=vs.length->ns.contains f=false->jH f y (ns.zip vs)=(ns++[f]).zip (vs++[y])
 |[],[],_,_=>rfl
 |[],_::_,h,_=>by simp at h
 |_::_,[],h,_=>by simp at h
 |n::ns,v::vs,h,hc=>by
  rw[sf,qJ]at hc
  have hn:¬n=f:=λe=>by rw[e]at hc;simp at hc
  have ih:=Tn (f:=f) (y:=y) (ns:=ns) (vs:=vs) (by simpa using h) hc.2
  show jH f y ((n,v)::ns.zip vs)=(n,v)::(ns++[f]).zip (vs++[y])
  rw[←ih]
  show(if n=f then _ else _)=_
  rw[if_neg hn]
theorem Ow.obj_inv {ct:Nat->ai}{K:ae}{F H:Hp}{c k:Nat}{ns:List aX}{ds:List D}{v:V}{fp:List ai}(h:Ow K ct F H (k+1) (.obj c ns ds) v fp):∃a dx vs fr,v=.ref a/\fp=a::fr/\F a=none/\H a=some (.ins (ct c) dx (ns.zip vs))/\ns.length=vs.length/\OwL (Ow K ct F H k) ds vs fr:=by
 rcases h with⟨h,_⟩|h
 ·cases h
 ·cases h with
  |obj h1 h2 h3 h4=>exact⟨_,_,_,_,rfl,rfl,h1,h2,h3,h4⟩
section
variable {X:Cx}{ct:Nat->ai}{ms:List Mo}{rk n m k:Nat}{a b c e tg:Expr}{f g h:EF}{u w:SF}{pos:dF}{x0:ai}
def lA (cs:List Nat)(x:aX)(f:EF):SF:=λρ=>(f ρ).bind λd=>(eV 0 ρ).bind λo=>match o with
 |.obj c ns ds=>if cs.contains c=true/\ns.contains x=false/\ns.length<900 then some (.nx (ρ.set 0 (some (.obj c (ns++[x]) (ds++[d])))))else none
 |_=>none
theorem RS.self {K:ae}{F0 B F H F' H':Hp}{ρ:Env}{σ:St}{d:D}(rs:RS K ct F0 B (.so x0::ms) F H ρ σ)(hd:ρ[0]?=some (some d)):σ[0]?=some (some (.ref x0))/\Ow K ct F H 1 d (.ref x0) [x0]/\B x0=none /\
  ∀(F' H':Hp) (d':D),ce F F'->ce B H'->ce F' H'->(∀a o,B a=some o->F0 a=none->F' a=none)->(∀a o,H a=some o->a≠x0->H' a=some o)->(∀a o,H a=some o->a≠x0->F a=none->F' a=none)->Ow K ct F' H' 1 d' (.ref x0) [x0]->RS K ct F0 B (.so x0::ms) F' H' (ρ.set 0 (some d')) σ:=by
 obtain⟨fp,sl,nd,hb⟩:=rs.sl
 cases sl with
 |no _=>simp at hd
 |so ow t=>
  simp at hd
  subst hd
  refine⟨rfl,ow,hb _ aa,λF' H' d' s1 s2 s3 s4 k1 k2 o'=>⟨rs.f0.trans s1,s2,s3,s4,_,.so o' (t.frame s1 λa z=>?_),nd,hb⟩⟩
  obtain⟨hn,o,ho⟩:=t.cells a z
  have ne:a≠x0:=λe=>(bP.mp nd).1 (by rw[←e];exact z)
  exact⟨(k1 a o ho ne).trans ho.symm,k2 a o ho ne hn⟩
theorem CO {x s:aX}{cs:List Nat}{p1 pos':dF}(hc:∀c∈cs,lH X.K (ct c)/\gj X.K (ct c) x)(he:XE X ct (.so x0::ms) 0 e f)(hN:X.N[0]?=some s:=by rfl)(hv:qF X.env.scope s:=by first|exact Or.inl rfl|exact Or.inr (Or.inl rfl)|exact Or.inr (Or.inr rfl))(hd:(s==("__debug__":aX))=false:=by decide)
  (jT:(s==("__classdict__":aX))=false:=by decide) (hs:eh e (some (.Attribute (.Name s p1) x pos')) pos.line X.env=pure false:=by rfl):XS X ct (.so x0::ms) rk (.Assign [.Attribute (.Name s p1) x pos'] e pos) (lA cs x f):=by
 obtain⟨t,pt,qt⟩:=he
 refine⟨_,zut (sY hN hv hd jT) pt hs,λF0 B F H ρ σ o E rs e z=>?_⟩
 obtain⟨d,h1,h2⟩:=aY e
 obtain⟨ob,h3,h4⟩:=aY h2
 refine qt F0 B F H ρ σ d _ rs h1 λy F1 H1 x1 l=>?_
 have lM:=rs.ext x1
 obtain⟨hσ,ow,hB,put⟩:=lM.self (F':=F) (H':=H) (yj h3)
 refine⟨_,hσ,?_⟩
 cases ob with
 |obj c ns ds=>
  dsimp only at h4
  by_cases hz:cs.contains c=true/\ns.contains x=false/\ns.length<900
  ·rw[if_pos hz]at h4
   cases h4
   obtain⟨a,dx,vs,fr,e1,e2,hF,hH,hl,ol⟩:=ow.obj_inv
   cases e1
   cases e2
   have hh:=hc c (by simpa using hz.1)
   refine⟨x0,_,dx,_,rfl,hH,hh.1,hh.2,by rw[eX,←hl,ik];omega,?_⟩
   rw[Tn hl hz.2.1]
   refine z σ F1 _ (put F1 _ _ (.refl _) (λb o h=>?_) (λb o h=>?_) lM.nf (λb o h ne=>by rw[yo ne];exact h) (λb o h ne hn=>hn) (.inr (wK.obj (vs:=vs++[y]) hF yt (by simp[hl]) ?_)))
   ·rw[yo (λe=>by rw[e,hB]at h;cases h)];exact lM.bh _ _ h
   ·rw[yo (λe=>by rw[e,hF]at h;cases h)];exact lM.fh _ _ h
   ·have o1:OwL (Ow X.K ct F1 (d4 H1 x0 (.ins (ct c) dx ((ns++[x]).zip (vs++[y])))) 0) ds vs []:=ol.mono λ_ _ _ _ q=>⟨q.1,q.2⟩
    have:=o1.append (OwL.cons (f:=[]) (g:=[]) (R:=Ow X.K ct F1 (d4 H1 x0 (.ins (ct c) dx ((ns++[x]).zip (vs++[y])))) 0) ⟨l,rfl⟩ .nil)
    exact this
  ·rw[if_neg hz]at h4;cases h4
 |_=>cases h4
variable {kk:Nat}{fa:ai}{fd:aK}{ps:List aX}{pm cs:List Nat}{mi:Nat->List D->Option D}{x:aX}{pp:dF}
theorem KC {c0:Nat}{es:List Expr}{ns nd:List Nat}{fs:Env->Option (List D)}{jG:List V}{oA:List D}{oB:List af}(M:Mk X.K (ct c0) fa)(A8:c0∈cs)(Fn:cH X.prog X.w X.K X.mg X.base eU kk fa fd ps (t8 X.K ct cs (ns++nd) mi))(hr:eR (kk+1) X.A)(hg:Gl X x)(hm:X.mg x=some (.ref (ct c0)))
  (hb:bR X.K fd ps oB) (hd:ck jG oB) (Bc:∀F G,jF X.K ct F G nd oA jG) (ha:XA X ct ms (e::es) ns fs)
  (lU:(x==("__debug__":aX))=false:=by decide) (he:ay (e::es) X.env=(false,bY e X.env)::ay es X.env:=by rfl) (iW:(cQ pos (ay es X.env)).any (·.1)=false:=by rfl) :
  XO X ct ms 1 (.Call (.Name x pp) (e::es) [] pos) (λρ=>(fs ρ).bind λds=>mi c0 (ds++oA)):=by
 obtain⟨t,pt,_,qt⟩:=ha
 refine⟨_,zrz M Fn hr hg hm hb hd oG pt lU he iW,λF0 B F H ρ σ r Q rs e w=>?_⟩
 obtain⟨ds,h1,h2⟩:=aY e
 refine qt F0 B F H ρ σ ds _ rs h1 λvs F1 H1 x1 l y dy hy Xh i7=>?_
 have sH:ce H1 (mB (d4 (d4 H1 dy (.own y)) y (.ins (ct c0) dy [])) y):=λb o h=>by
  have n1:b≠y:=xr h hy
  rw[qr n1,yo n1,yo (xr h Xh)]
  exact h
 have ZN:ce H1 (d4 (d4 H1 dy (.own y)) y (.ins (ct c0) dy [])):=sH.trans (Km _ _)
 refine⟨F1,c0,ds++oA,r,y,dy,vs++jG,A8,rfl,yt,x1.fh.free hy,x1.fh.trans ZN,jF.mono (.refl _) sH (jF.append (Bc F1 H1) l),h2,λF' H' s1 s2 s3 s4 hn ow=>⟨rfl,?_⟩⟩
 refine w _ F' H' [y] ⟨x1.ff.trans s1,(x1.hh.trans sH).trans s2,s3,λb o h n=>s4 b o (sH _ _ (x1.hh _ _ h)) (x1.nf b o h n)⟩ ow (by simp) λb z=>?_
 rw[az]at z
 subst z
 exact x1.hh.free hy
theorem zph {C:ai}{sp:Sp}{jG:List V}{ds:List af}{E:XK}{m:aX}{p ez:dF}{es:List Expr}{t:TA}{pl:pE Bool}{mc:af}(Fn:cH X.prog X.w X.K X.mg X.base eU kk fa fd ps sp)(hr:eR kk X.A)(hg:Gl X x)(hm:X.mg x=some (.ref C))
  (h1:eo X.K (.ref C) "__getattribute__"=some (some (.builtin "type.__getattribute__"))) (h2:i6 X.K C mc=true) (h3:iZ X.K (.ref C) mc m=some (.val (.ref fa))) (hk:aq X.K (.ref fa)=true) (hb:bR X.K fd ps ds) (hd:ck jG ds) (hx:jQ eU X E) (ha:PA X (e::es) t)
  (lU:(x==("__debug__":aX))=false:=by decide) (lK:ay (e::es) X.env=(false,bY e X.env)::ay es X.env:=by rfl) (iW:(cQ pos (ay es X.env)).any (·.1)=false:=by rfl)
  (ht:bY (.Call (.Attribute (.Name x p) m ez) (e::es) [] pos) X.env=(do
   let ov ← bY (.Name x p) X.env
   iM ez.atName
   let(f,first) ← fq [ov] (hU ov m pl)
   ka pos f first (cQ pos (ay (e::es) X.env)) (fR pos (dR [] X.env))):=by rfl) :
  PE X (.Call (.Attribute (.Name x p) m ez) (e::es) [] pos) (yX sp jG E t):=by
 intro am s σ H Q I h
 refine gz (pl:=pl) (Kx I hg hm ?_ lU) ht
 refine PySem.W.method_cls I.kIn h1 (PySem.W.cls_value I.kIn h2 h3 rfl ?_)
 have I1:Inv X am σ H { s with toks:=s.toks+1 }:=I.tok _
 refine hV (first:=[]) (h₀:=X.base) I.ok.mod.kin hk (dC (ha pos am _ σ H _ I1 h) λus s2 ⟨vs,H2,I2,r,q2⟩=>⟨I2.kIn,?_⟩) lK iW
 exact KL (us:=us) (vs:=vs) Fn hr hb hd hx I2 r q2
theorem jF.flat {K:ae}{F G G':Hp}:∀{ns:List Nat} {ds:List D} {vs:List V},jF K ct F G ns ds vs->ns.all (· == 0)=true->jF K ct F G' ns ds vs
 |_,_,_,.nil,_=>.nil
 |n::_,_,_,.cons h t,e=>by
  rw[dG,bG]at e
  have:n=0:=by simpa using e.1
  subst this
  exact .cons h (jF.flat t e.2)
def o7 (cs:List Nat)(fs:Env->Option (List D))(mi:Nat->List D->Option D):SF:=λρ=>(eV 0 ρ).bind λo=>(fs ρ).bind λds=>match o with
 |.obj c [] []=>if cs.contains c=true then(mi c ds).bind λd=>some (.nx (ρ.set 0 (some d)))else none
 |_=>none
theorem Pc {C:ai}{s m:aX}{p p1 e7 ez:dF}{es:List Expr}{ns:List Nat}{fs:Env->Option (List D)}{pl:pE Bool}{mc:af}(Fn:cH X.prog X.w X.K X.mg X.base eU kk fa fd ps (t8 X.K ct cs ns mi))(hr:eR kk X.A)(hm:X.mg x=some (.ref C))
  (h1:eo X.K (.ref C) "__getattribute__"=some (some (.builtin "type.__getattribute__"))) (h2:i6 X.K C mc=true) (h3:iZ X.K (.ref C) mc m=some (.val (.ref fa))) (hk:aq X.K (.ref fa)=true) (hb:bR X.K fd ps []) (hz:ns.all (· == 0)=true) (ha:XA X ct (.so x0::ms) es ns fs)
  (hg:Gl X x:=by rfl) (hN:X.N[0]?=some s:=by rfl) (hv:qF X.env.scope s:=by first|exact Or.inl rfl|exact Or.inr (Or.inl rfl)|exact Or.inr (Or.inr rfl)) (hd:(s==("__debug__":aX))=false:=by decide)
  (jT:(s==("__classdict__":aX))=false:=by decide) (lU:(x==("__debug__":aX))=false:=by decide) (lK:ay (.Name s p1::es) X.env=(false,bY (.Name s p1) X.env)::ay es X.env:=by rfl) (iW:(cQ e7 (ay es X.env)).any (·.1)=false:=by rfl)
  (ht:bY (.Call (.Attribute (.Name x p) m ez) (.Name s p1::es) [] e7) X.env=(do
   let ov ← bY (.Name x p) X.env
   iM ez.atName
   let(f,first) ← fq [ov] (hU ov m pl)
   ka e7 f first (cQ e7 (ay (.Name s p1::es) X.env)) (fR e7 (dR [] X.env))):=by rfl)
  (xA:eh (.Call (.Attribute (.Name x p) m ez) (.Name s p1::es) [] e7) none pos.line X.env=pure false:=by rfl) :
  XS X ct (.so x0::ms) rk (.Expr (.Call (.Attribute (.Name x p) m ez) (.Name s p1::es) [] e7) pos) (o7 cs fs mi):=by
 obtain⟨t,pt,_,qt⟩:=ha
 refine⟨_,O6 (zph (E:=E0) Fn hr hg hm h1 h2 h3 hk hb .nil oG (v4 (sY hN hv hd jT) pt lK) lU lK iW ht) xA,λF0 B F H ρ σ o E rs e z=>?_⟩
 obtain⟨ob,ds,g1,g2,g3⟩:=dP e
 obtain⟨hσ,ow,hB,put⟩:=rs.self (F':=F) (H':=H) (yj g1)
 refine⟨_,hσ,qt F0 B F H ρ σ ds _ rs g2 λvs F1 H1 x1 l=>?_⟩
 have lM:=rs.ext x1
 obtain⟨hσ,ow,hB,put⟩:=lM.self (F':=F) (H':=H) (yj g1)
 match ob,g3,ow with
 |.obj c [] [],g3,ow=>
  dsimp only at g3
  by_cases hc:cs.contains c=true
  ·rw[if_pos hc]at g3
   obtain⟨d,g4,g5⟩:=aY g3
   cases g5
   obtain⟨a,dx,us,fr,e1,e2,hF,hH,hl,ol⟩:=ow.obj_inv
   cases e1
   cases e2
   refine⟨F1,c,ds,d,x0,dx,vs++[],by simpa using hc,rfl,hH,hF,x1.fh,?_,g4,λF' H' s1 s2 s3 s4 hn o'=>?_⟩
   ·rw[cA];exact l.flat hz
   ·have sB:ce B (mB H1 x0):=λb o h=>by
     rw[qr (λe=>by rw[e,hB]at h;cases h)]
     exact lM.bh _ _ h
    exact z σ F' H' (put F' H' d s1 (sB.trans s2) s3 (λb o h n=>s4 b o (sB _ _ h) (lM.nf b o h n)) (λb o h ne=>s2 _ _ (by rw[qr ne];exact h)) (λb o h ne FG=>s4 b o (by rw[qr ne];exact h) FG) o')
  ·rw[if_neg hc]at g3;cases g3
end
end L3
namespace L3
open PySem PySem.Spec L2
open PyProof.Rows hiding St
structure ir (K:ae)(mg:aX->Option af)(x:aX)(st:bT)(ps:List aX)(f:ai)(fd:aK):Prop where
 fn:Fun2 K x x st f fd
 mgx:mg x=some (.ref f)
 bd:bR K fd ps []
structure Dm (K:ae)(C:ai)(m qual:aX)(st:bT)(ps:List aX)(f:ai)(fd:aK):Prop where
 fn:Fun2 K m qual st f fd
 me:qW K C m f
 bd:bR K fd ps []
structure Dc (K:ae)(mg:aX->Option af)(x:aX)(C:ai):Prop where
 cl:lH K C
 mgx:mg x=some (.ref C)
 mks:ed K C=true
 kp:aq K (.ref C)=true
structure Dq (K:ae)(C:ai)(m:aX)(f:ai):Prop where
 sp:eo K (.ref C) "__getattribute__"=some (some (.builtin "type.__getattribute__"))
 rd:i6 K C (.type "type")=true
 fc:iZ K (.ref C) (.type "type") m=some (.val (.ref f))
theorem zw {K:ae}{x qual:aX}{st:bT}{f:ai}{oc:af}{od an:Option ai}{BD:Array (Option af)}{dV kV doc pm iC ct:af}(l:K.lookup f=some ⟨oc,od,.func (gY x qual (mS st) (hE st) (aO st) dV kV doc pm an iC ct),BD⟩)
  (c:aA K iC qual=true) (k:aq K (.ref f)=true):Fun2 K x qual st f (gY x qual (mS st) (hE st) (aO st) dV kV doc pm an iC ct):=⟨⟨oc,od,dV,kV,doc,pm,an,iC,ct,BD,rfl,l,c⟩,k⟩
theorem KD {K:ae}{fd:aK}{ps:List aX}{ds:List af}{T:ai}{o:d8}{items:Array af}{n:Nat}(hd:fd.defaults=.ref T)(ho:K.lookup T=some o)(hs:o.data=.seq items n)
  (h:∀us:List af,(us++ds).length=ps.length->∃k,bindArgs fd ⟨us,[]⟩=seqItems? fd.defaults >>= k/\k (some items)=pure (ps.zip (us++ds))):bR K fd ps ds:=λs us X hl=>by
 obtain⟨k,h1,h2⟩:=h us hl
 exact PySem.W.binds_K X hd ho hs h1 h2
end L3
namespace L3
open PySem PySem.Spec L2
open PyProof.Rows hiding St
def K9 (x:aX):It:=⟨λi _=>∃c,x.cps[i]?=some c,λi H v H'=>H'=H/\∃c,x.cps[i]?=some c/\v=.str ⟨#[c]⟩,λi _=>x.cps[i]?=none⟩
theorem zpi {P:bJ}{w:cw}{K:ae}{tg:Expr}(x:aX)(t:Tok)(it:ai):Turn P w K tg (K9 x) [it] it (λi h=>h.IsStrIter it (dc x) x t i) where
 mem:=by simp
 obj:=λi h st b hb=>by
  have e:b=it:=by simpa using hb
  subst e
  obtain⟨o,e,c,d⟩:=st
  exact⟨o,e,λv z=>by rw[d]at z;cases z⟩
 keep:=λi h h' st k=>by
  obtain⟨o,e,c,d⟩:=st
  exact⟨o,k it (by simp) o e,c,d⟩
 item:=by
  intro X hP hw hK hc i am s σ H E I hf st hg
  subst hP hw hK
  obtain⟨c,hx⟩:=hg
  obtain⟨f0,f1,f2,f3,f4,f5⟩:=hf it (by simp)
  have fin:∀h':bc,h'.IsStrIter it (dc x) x t (i+1)->hX it s.heap h'->bj (bi X.prog X.w) X.A (iA tg (.ref it) (.str ⟨#[c]⟩ s.toks)) (λ_ s2=>∃v H',Inv X am σ H' s2/\RelV v (.str ⟨#[c]⟩ s.toks)/\(K9 x).yld i H v H'/\s2.heap.IsStrIter it (dc x) x t (i+1)/\∀b∈[it],H' b=none) E { s with heap:=h',toks:=s.toks+1 }:=λh' tS sb=>by
   have I1:Inv X am σ H { s with heap:=h',toks:=s.toks+1 }:=I.turned (t':=s.toks+1) (λb o hb e=>(sb.2 b hb).trans e) f0 f1 f3 f4 f5
   obtain⟨o,e,cc,d⟩:=id tS
   refine PK (s:={ s with heap:=h',toks:=s.toks+1 }) e cc d ?_ ⟨.str ⟨#[c]⟩,H,I1,⟨_,rfl⟩,⟨rfl,c,hx,rfl⟩,tS,λb hb=>(hf b hb).1⟩
   unfold dc
   split<;>decide
  cases ha:x.cps.all (·<128)with
  |true=>
   have e:dc x = "str_ascii_iterator":=by unfold dc;rw[ha];rfl
   rw[e]at st fin
   exact wpAny_pyNext_ascii_item st hx λh' tS sb=>⟨_,rfl,by rw[e];exact fin h' tS sb⟩
  |false=>
   have e:dc x = "str_iterator":=by unfold dc;rw[ha];rfl
   rw[e]at st fin
   exact wpAny_pyNext_wide_item st hx λh' tS sb=>⟨_,rfl,by rw[e];exact fin h' tS sb⟩
 done:=by
  intro X hP hw hK hc i am s σ H E I hf st hg
  subst hP hw hK
  obtain⟨f0,f1,f2,f3,f4,f5⟩:=hf it (by simp)
  cases ha:x.cps.all (·<128)with
  |true=>
   have e:dc x = "str_ascii_iterator":=by unfold dc;rw[ha];rfl
   rw[e]at st
   exact wpAny_pyNext_ascii_end (I.ok.hd hc) st hg λh' eb=>⟨rfl,I.turned (t':=s.toks) (λb o hb e=>eb b o hb e) f0 f1 f3 f4 f5⟩
  |false=>
   have e:dc x = "str_iterator":=by unfold dc;rw[ha];rfl
   rw[e]at st
   exact wpAny_pyNext_wide_end (I.ok.hd hc) st hg λh' eb=>⟨rfl,I.turned (t':=s.toks) (λb o hb e=>eb b o hb e) f0 f1 f3 f4 f5⟩
 self:=λA i s Q E st h=>by
  cases ha:x.cps.all (·<128)with
  |true=>
   have e:dc x = "str_ascii_iterator":=by unfold dc;rw[ha];rfl
   rw[e]at st
   exact wpAny_pyIter_striter_ascii st h
  |false=>
   have e:dc x = "str_iterator":=by unfold dc;rw[ha];rfl
   rw[e]at st
   exact wpAny_pyIter_striter_wide st h
def Na (tl:TE):TI:=λσ H R=>tl σ H λx H1=>∃z,x=.str z/\R (K9 z) H1
section
variable {X:Cx}{ct:Nat->ai}{ms:List Mo}{rk n m k:Nat}{st:bT}{rest:List bT}{a b c e tg:Expr}{f g h:EF}{p q:BF}{u w:SF}{pos:dF}
theorem zvi {l:Expr}{tl:TE}(hl:PE X l tl):PI X tg l (Na tl):=by
 intro am s σ H R I h
 refine dC (hl am s σ H _ I h) λv s1 ⟨x,H1,I1,r,z,e,q⟩=>?_
 subst e
 obtain⟨t,rfl⟩:=r
 refine wpAny_pyIter_strU ?_
 refine⟨s1.heap.objs.size,[s1.heap.objs.size],_,_,H1,rfl,I1.kept (t':=s1.toks) λb o e=>aJ _ e,zpi z t _,⟨_,bW _ rfl,rfl,rfl⟩,λb hb=>?_,q⟩
 have e:b=s1.heap.objs.size:=by simpa using hb
 subst e
 exact I1.fpOk (aM _) (I1.hok.fresh (aM _))
def rC (x:aX):List D:=x.cps.toList.map λc=>.str ⟨#[c]⟩
def Qc:D->Option (List D)
 |.str x=>some (rC x)
 |_=>none
theorem zvj (he:XE X ct ms m e f):XI X ct ms n tg e (λρ=>(f ρ).bind Qc):=by
 obtain⟨t,pt,qt⟩:=he
 refine⟨_,zvi pt,λF0 B F H ρ σ ds R rs e w=>?_⟩
 obtain⟨d,h1,h2⟩:=aY e
 refine qt F0 B F H ρ σ _ _ rs h1 λv F' H' x l=>?_
 cases d with
 |str z=>
  cases h2
  refine⟨z,l.str,w _ F' H' x λi F2 H2 s1 s2 s3=>⟨λd hd=>?_,λhl=>?_⟩⟩
  ·unfold rC at hd
   rw[aD]at hd
   obtain⟨c,hc,rfl⟩:=dS.mp hd
   have yH:z.cps[i]?=some c:=by simpa using hc
   refine⟨⟨c,yH⟩,λy H3 hy=>?_⟩
   obtain⟨rfl,c2,h3,rfl⟩:=hy
   rw[yH]at h3
   cases h3
   exact⟨F2,.refl s3,Al.of (.str _)⟩
  ·unfold rC at hl
   rw[ah,cN]at hl
   exact Array.getElem?_eq_none hl
 |_=>cases h2
theorem zpj {κ:Type}[DecidableEq κ](k:κ)(v:V):∀{ks:List κ} {vs:List V},ks.length=vs.length->putK (ks.zip vs) k v=(if ks.contains k=true then ks.zip ((ks.zip vs).map λp=>if p.1=k then v else p.2)else(ks++[k]).zip (vs++[v])):=by
 intro ks vs hl
 unfold putK
 have e:((ks.zip vs).any λkv=>decide (kv.1=k))=ks.contains k:=by
  rw[Bool.eq_iff_iff,mE,List.contains_iff_mem]
  constructor
  ·rintro⟨p,hp,he⟩
   have:=decide_eq_true_iff.mp he
   rw[←this]
   exact(gZ hp).1
  ·intro hk
   obtain⟨i,hi,rfl⟩:=List.getElem_of_mem hk
   exact⟨(ks[i],vs[i]'(by omega)),dI.mpr ⟨i,by simp;omega,by simp⟩,by simp⟩
 rw[e]
 by_cases h:ks.contains k=true
 ·rw[if_pos h,if_pos h]
  clear e h
  induction ks generalizing vs with
  |nil=>simp
  |cons y ks ih=>
   cases vs with
   |nil=>simp at hl
   |cons u vs=>
    simp only[gb,aP,ih (by simpa using hl)]
    by_cases hy:y=k<;>simp[hy]
 ·rw[if_neg h,if_neg h,vK hl]
  rfl
end
end L3
namespace L3
open PySem PySem.Spec L2
open PyProof.Rows hiding St
section
variable {X:Cx}{ct:Nat->ai}{ms:List Mo}{rk n m k:Nat}{st:bT}{rest:List bT}{a b c e tg:Expr}{f g h:EF}{p q:BF}{u w:SF}{pos:dF}
def lB (i:Nat)(fj f:EF):SF:=λρ=>(f ρ).bind λd=>(eV i ρ).bind λo=>(fj ρ).bind λj=>match o with
 |.dK ks ds=>(xC j).bind λk=>if ks.length<16777216 then some (.nx (ρ.set i (some (.dK (gq ks ds k d).1 (gq ks ds k d).2))))else none
 |.dT ks ds=>(match j with
  |.tup js=>(pQ js).bind λk=>if ks.length<16777216 then some (.nx (ρ.set i (some (.dT (gq ks ds k d).1 (gq ks ds k d).2))))else none
  |_=>none)
 |_=>none
theorem Kn {κ:Type}[DecidableEq κ]{R:D->V->Prop}{d:D}{v:V}(r:R d v)(k:κ){ks:List κ}{ds:List D}{vs:List V}(hl:ks.length=vs.length)(hp:Pr R ds vs) :
  ∃us,putK (ks.zip vs) k v=(gq ks ds k d).1.zip us/\(gq ks ds k d).1.length=us.length/\Pr R (gq ks ds k d).2 us:=by
 rw[zpj k v hl]
 unfold gq
 by_cases h:ks.contains k=true
 ·rw[if_pos h,if_pos h]
  refine⟨_,rfl,by simp[hl],?_⟩
  clear h
  induction ks generalizing ds vs with
  |nil=>simp;exact .nil
  |cons y ks ih=>
   cases hp with
   |nil=>simp at hl
   |cons h t=>
    simp only[gb,aP]
    refine .cons ?_ (ih (by simpa using hl) t)
    by_cases hy:y=k
    ·rw[if_pos hy,if_pos hy];exact r
    ·rw[if_neg hy,if_neg hy];exact h
 ·rw[if_neg h,if_neg h]
  exact⟨_,rfl,by simp[hl],hp.append (.cons r .nil)⟩
theorem T1 (i:Nat){x:aX}{j:Expr}{p1 jA:dF}{fj:EF}(hm:ms[i]?=some (.ow 1))(hu:X.A.units+1<gR)(hj:XE X ct ms 0 j fj)(he:XE X ct ms 0 e f)(hN:X.N[i]?=some x:=by rfl)(hv:qF X.env.scope x:=by first|exact Or.inl rfl|exact Or.inr (Or.inl rfl)|exact Or.inr (Or.inr rfl))(hd:(x==("__debug__":aX))=false:=by decide)
  (jT:(x==("__classdict__":aX))=false:=by decide) (hs:eh e (some (.Subscript (.Name x p1) j jA)) pos.line X.env=pure false:=by rfl) :
  XS X ct ms rk (.Assign [.Subscript (.Name x p1) j jA] e pos) (lB i fj f):=by
 obtain⟨t,pt,qt⟩:=he
 obtain⟨tj,BH,BJ⟩:=hj
 refine⟨_,T6 hu (sY hN hv hd jT) BH pt hs,λF0 B F H ρ σ o E rs e z=>?_⟩
 obtain⟨d,g1,g2⟩:=aY e
 obtain⟨d1,uD,g3,g4,g5⟩:=dP g2
 refine qt F0 B F H ρ σ d _ rs g1 λv0 F1 H1 x1 l0=>?_
 have lM:=rs.ext x1
 obtain⟨f1,fr,n1,b1,dj,i4,cf,put⟩:=lM.put (F':=F) (H':=H) hm
 obtain⟨v,hσ,ow⟩:=i4 d1 (yj g3)
 refine⟨v,hσ,BJ F0 B F1 H1 ρ σ uD _ lM g4 λvj F2 H2 x2 lj=>?_⟩
 have GY:Dt X.K ct F2 d v0:=Dt.mono x2.ff l0
 cases d1 with
 |dK ks ds=>
  dsimp only at g5
  obtain⟨key,g6,g7⟩:=aY g5
  by_cases hz:ks.length<16777216
  ·rw[if_pos hz]at g7
   cases g7
   obtain⟨ad,vs,oT,rfl,rfl,hF,hH,hl,ol⟩:=ow.dK_inv
   have hA:=x2.hh _ _ hH
   have fA:F2 ad=none:=x2.nf ad _ hH hF
   have e0:=ol.nil0
   subst e0
   have hp:Pr (Dt X.K ct F2) ds vs:=ol.pr λ_ _ _ _ q=>q.1.mono x2.ff
   obtain⟨us,Bo,Bp,Bq⟩:=Kn GY key hl hp
   have hk:=KH g6 lj
   subst hk
   refine⟨ad,_,rfl,nS.k hA (by rw[eX,←hl,ik,cV];exact hz),?_⟩
   rw[Bo]
   refine z σ F2 _ (lM.change hm x2 hσ b1 dj cf put aa fA (.inr (.dK fA yt Bp (OwL.ofPr (Bq.mono λ_ _ q=>⟨q,rfl⟩)))) (fn:=[ad]) (by simp) ?_)
   intro a ha
   rw[az]at ha
   subst ha
   exact .inl aa
  ·rw[if_neg hz]at g7;cases g7
 |dT ks ds=>
  cases uD with
  |tup js=>
   dsimp only at g5
   obtain⟨key,g6,g7⟩:=aY g5
   by_cases hz:ks.length<16777216
   ·rw[if_pos hz]at g7
    cases g7
    obtain⟨ad,vs,oT,rfl,rfl,hF,hH,hl,ol⟩:=ow.dT_inv
    have hA:=x2.hh _ _ hH
    have fA:F2 ad=none:=x2.nf ad _ hH hF
    have e0:=ol.nil0
    subst e0
    have hp:Pr (Dt X.K ct F2) ds vs:=ol.pr λ_ _ _ _ q=>q.1.mono x2.ff
    obtain⟨us,Bo,Bp,Bq⟩:=Kn GY key hl hp
    obtain⟨bd,ws,rfl,hb,FK⟩:=lj.tup x2.fh
    have hk:=Kv g6 FK
    subst hk
    refine⟨ad,_,rfl,nS.t hA hb (by rw[eX,←hl,ik,cV];exact hz),?_⟩
    rw[Bo]
    refine z σ F2 _ (lM.change hm x2 hσ b1 dj cf put aa fA (.inr (.dT fA yt Bp (OwL.ofPr (Bq.mono λ_ _ q=>⟨q,rfl⟩)))) (fn:=[ad]) (by simp) ?_)
    intro a ha
    rw[az]at ha
    subst ha
    exact .inl aa
   ·rw[if_neg hz]at g7;cases g7
  |_=>cases g5
 |_=>cases g5
def HU (K:ae):V->V->Hp->VK->Prop:=λo i H Q=>∃p xs k v,o=.ref p/\i=.int k/\fX K H p xs/\atI xs k=some v/\Q v H
theorem zm5:C1 X (HU X.K):=by
 intro am s σ H o i ov iv Q I ro ri h
 obtain⟨p,xs,k,z,rfl,rfl,hq,he,q⟩:=h
 cases ro
 obtain⟨t,rfl⟩:=ri
 obtain⟨cv,r,pl,hz⟩:=I.list hq
 obtain⟨j,h1,h2,h3,h4,h5⟩:=Kz he
 obtain⟨w,ew,oe⟩:=r.get h2
 have hl:=r.length
 have hn:=kC
 have fin:EP X am σ Q w s:=⟨z,H,I,oe,q⟩
 by_cases h0:0<=k
 ·have hj:k.toNat=j:=by
   rw[oN h0 h5]at h1
   exact Option.some.inj h1
  exact wpAny_getItem_list pl.isList h0 (by omega) (by rw[hj];simpa using ew) fin
 ·have hj:(k+(cv.toArray.size:Int)).toNat=j:=by
   rw[nM (by omega) h4]at h1
   rw[aL,←hl]
   exact Option.some.inj h1
  exact wpAny_getItem_list_neg pl.isList (by omega) (by rw[aL]<;>omega) (by omega) (by rw[hj];simpa using ew) fin
def pS (i:Nat)(fj:EF)(gi:Int->Int->Int)(f:EF):SF:=λρ=>(eV i ρ).bind λo=>(fj ρ).bind λj=>(f ρ).bind λy=>match o,j with
 |.lst ds,.int z=>(atI ds z).bind λx=>(match x,y with
  |.int a,.int b=>(pU ds z (.int (gi a b))).bind λqZ=>some (.nx (ρ.set i (some (.lst qZ))))
  |_,_=>none)
 |_,_=>none
theorem T3 (i:Nat){x:aX}{op:jZ}{j:Expr}{p1 jA:dF}{fj:EF}{gi:Int->Int->Int}(ho:Cc X op (JR gi))(hm:ms[i]?=some (.ow 1))(hj:XE X ct ms n j fj)(he:XE X ct ms m e f)(hN:X.N[i]?=some x:=by rfl)(hv:qF X.env.scope x:=by first|exact Or.inl rfl|exact Or.inr (Or.inl rfl)|exact Or.inr (Or.inr rfl))(hd:(x==("__debug__":aX))=false:=by decide)
  (jT:(x==("__classdict__":aX))=false:=by decide) (ha:∀ov iv new,augStore j ov iv new=(do fq [new,ov,iv] (pF ov iv new);release [new,ov,iv] [];pure .next):=by intros;rfl) :
  XS X ct ms rk (.AugAssign (.Subscript (.Name x p1) j jA) op e pos) (pS i fj gi f):=by
 obtain⟨t,pt,qt⟩:=he
 obtain⟨tj,BH,BJ⟩:=hj
 refine⟨_,zro (sY hN hv hd jT) BH zm5 pt ho Ti ha,λF0 B F H ρ σ o E rs e z=>?_⟩
 obtain⟨d1,uD,g3,g4,g5⟩:=dP e
 obtain⟨d2,g6,g7⟩:=aY g5
 obtain⟨f1,fr,n1,b1,dj,i4,cf,put⟩:=rs.put (F':=F) (H':=H) hm
 obtain⟨v,hσ,ow⟩:=i4 d1 (yj g3)
 refine⟨v,hσ,BJ F0 B F H ρ σ uD _ rs g4 λvj F2 H2 x2 lj=>?_⟩
 match d1,uD,g7,ow,lj with
 |.lst ds,.int zi,g7,ow,lj=>
  dsimp only at g7
  obtain⟨da,g8,g9⟩:=aY g7
  obtain⟨ad,vs,oT,rfl,rfl,hF,hH,ol⟩:=ow.lst_inv
  have hA:H2 ad=some (.lst vs):=x2.hh _ _ hH
  have hp:Pr (Al X.K ct F2 H2 0) ds vs:=ol.pr λ_ _ _ _ q=>q.1.mono x2.ff
  obtain⟨va,W9,MG⟩:=hp.atI g8
  refine⟨ad,vs,zi,va,rfl,lj.int,fX.of hA,W9,qt F0 B F2 H2 ρ σ d2 _ (rs.ext x2) g6 λvy F3 H3 x3 ly=>?_⟩
  have vV:=x2.trans x3
  match da,d2,g9,MG,ly with
  |.int ia,.int ib,g9,MG,ly=>
   dsimp only at g9
   obtain⟨qZ,WL,WM⟩:=aY g9
   cases WM
   obtain⟨jn,WN,WO⟩:=aY WL
   cases WO
   have WX:H3 ad=some (.lst vs):=x3.hh _ _ hA
   have fA:F3 ad=none:=vV.nf ad _ hH hF
   have e0:=ol.nil0
   subst e0
   refine⟨ia,ib,MG.int,ly.int,ad,vs,zi,jn,rfl,lj.int,WX,by rw[←ol.length];exact WN,?_⟩
   refine z σ F3 _ (rs.change hm vV hσ b1 dj cf put aa fA (.inr (.lst fA yt (OwL.set0 ⟨.int _,rfl⟩ (λ_ _ _ q=>q.2) jn (ol.mono λ_ _ _ _ q=>⟨q.1.mono vV.ff,q.2⟩)))) (fn:=[ad]) (by simp) ?_)
   intro a ha
   rw[az]at ha
   subst ha
   exact .inl aa
structure Ic (K:ae)(C:ai):Prop where
 cl:lH K C
 ha:aE K (.ref C) "__class__"=some (some (.builtin "object.__class__"))
 hn:eo K (.builtin "object.__class__") "__get__"=some (some (.builtin "getset_descriptor.__get__"))
 ht:mq K (.builtin "object.__class__")=some true
 hm:fM K C (.type "object")=some true
def uP (all sub:List Nat):D->Option D
 |.obj c _ _=>if all.contains c=true then some (.bl (sub.contains c))else none
 |_=>none
theorem T4 {C:ai}{x:aX}{all sub:List Nat}{pp p2:dF}(hI:∀c∈all,Ic X.K (ct c)/\bU X.K (.ref (ct c)) (.ref C)=some (sub.contains c))(hm:X.mg "isinstance"=none)(n8:X.mg x=some (.ref C))(he:XE X ct ms n e f)(hg:Gl X "isinstance":=by rfl)(oE:Gl X x:=by rfl)(hd2:(x==("__debug__":aX))=false:=by decide)
  (FM:ay [e,.Name x p2] X.env=(false,bY e X.env)::ay [.Name x p2] X.env:=by rfl) (nP:ay [.Name x p2] X.env=(false,bY (.Name x p2) X.env)::ay [] X.env:=by rfl) (iW:(cQ pos (ay [.Name x p2] X.env)).any (·.1)=false:=by rfl) :
  XE X ct ms k (.Call (.Name "isinstance" pp) [e,.Name x p2] [] pos) (e1 (uP all sub) f):=by
 obtain⟨t,pt,qt⟩:=he
 refine⟨_,IP zmf hg hm RR (v4 pt (v4 (TQ (v:=.ref C) oE n8 rfl hd2) tT nP) FM) (by decide) (by decide) FM iW,λF0 B F H ρ σ d Q rs e w=>?_⟩
 obtain⟨d1,h1,h2⟩:=aY e
 refine qt F0 B F H ρ σ d1 _ rs h1 λv F' H' x l=>?_
 cases d1 with
 |obj c ns ds=>
  unfold uP at h2
  dsimp only at h2
  by_cases hc:all.contains c=true
  ·rw[if_pos hc]at h2
   cases h2
   obtain⟨a,dx,vs,rfl,ha,_⟩:=l.obj x.fh
   obtain⟨ic,Ya⟩:=hI c (by simpa using hc)
   exact⟨_,C,_,_,rfl,.ins ha ic.cl ic.ha ic.hn ic.ht ic.hm,Ya,w _ F' H' x (Al.of (.bl _))⟩
  ·rw[if_neg hc]at h2;cases h2
 |_=>cases h2
end
end L3
namespace L3
open PySem PySem.Spec L2
section
variable {K:ae}{ct:Nat->ai}{n m k:Nat}
def yQ (i:Int):aX:=((toString i:String):aX)
def sW:List D->Option D
 |[.int i]=>if i.natAbs.log2<1920 then some (.str (yQ i))else none
 |_=>none
theorem zsz:wJ K ct [n] k (λxs H Q=>∃i,xs=[.int i]/\i.natAbs.log2<1920/\Q (.str (toString i)) H) sW:=by
 intro F H vs ds d Q s l e w
 cases l with
 |cons h t=>
  cases t
  rename_i d1 v
  cases d1 with
  |int i=>
   unfold sW at e
   dsimp only at e
   by_cases hz:i.natAbs.log2<1920
   ·rw[if_pos hz]at e
    cases e
    exact⟨i,by rw[h.int],hz,w _ F H (.refl s) (Al.of (.str _))⟩
   ·rw[if_neg hz]at e;cases e
  |_=>cases e
end
theorem zpk {i:Int}(h:Sz 1900 i):sW [.int i]=some (.str (yQ i)):=by
 unfold sW
 dsimp only
 rw[if_pos]
 by_cases h0:i.natAbs=0
 ·rw[h0];decide
 ·rw[ni h0]
  exact bp h (dL (by decide) (by decide))
theorem zs0 {i:Int}(h:Sz 1900 i):(yQ i).length<=1921:=by
 refine PyProof.Rows.int_text_len_1921 ?_
 by_cases h0:i.natAbs=0
 ·rw[h0];decide
 ·rw[ni h0]
  exact bp h (dL (by decide) (by decide))
end L3
namespace PySem
section
variable {prog:bJ}{w:cw}{A:bX}{R:Result->ap->Prop}{I:ai}{fp wr:List ai}{n:Nat}{P:Nat->af->Prop}{St:Nat->bc->Prop}{kw:List (aX×af)}
end
section
variable {prog:bJ}{w:cw}{A:bX}{E:af->ap->Prop}{s:ap}
end
end PySem
namespace L3
open PySem PySem.Spec L2
section
variable {X:Cx}{ct:Nat->ai}{ms:List Mo}{e b:Expr}{f g:EF}{n m k:Nat}
end
end L3
namespace L3
open PySem PySem.Spec L2
open PyProof.Rows hiding St
section
variable {X:Cx}{ct:Nat->ai}{ms:List Mo}{rk n m k:Nat}{a b c e o:Expr}{f g h:EF}{pos:dF}
def BM (K:ae):V->List V->Hp->VK->Prop:=λx vs H Q=>∃p ys y j,x=.ref p/\vs=[y]/\fX K H p ys/\iQ y=true/\ys.all iQ=true/\ys.findIdx? (λz=>sM z y)=some j/\Q (.int (j:Nat)) H
theorem T5:∀{xs:List V} {us:List af} {x:V},ck xs us->xs.all iQ=true->us.map (pz x)=xs.map λy=>sM y x
 |_,_,_,.nil,_=>rfl
 |y::xs,u::us,x,.cons r t,f=>by
  rw[dG,bG]at f
  rw[aP,aP,Pn r f.1,T5 t f.2]
theorem zpl:PZ X "list.index" (BM X.K):=by
 intro am s σ H x vs v us Q I rx rv h
 obtain⟨p,ys,y,j,rfl,rfl,hq,fy,fs,hj,q⟩:=h
 cases rx
 obtain⟨u,rfl,ru⟩:=rv.one
 obtain⟨cv,r,pl,hz⟩:=I.list hq
 obtain⟨⟨cls,dd,data,sl⟩,ho,hc,n,hd⟩:=pl.isList
 simp only at hc hd
 subst hc hd
 have hm:=T5 (x:=y) r fs
 have dB:=r.length
 obtain⟨j1,j2,j3⟩:=List.findIdx?_eq_some_iff_getElem.mp hj
 have QE:∀i (hi:i<cv.length),pz y cv[i]=sM (ys[i]'(by omega)) y:=λi hi=>by
  have:=congrArg (λl=>l[i]?) hm
  simp only[aD]at this
  rw[aT hi,aT (by omega)]at this
  simpa using this
 have X2:ys.length<=16777216:=hz
 refine mR PySem.F.slot_list_index ⟨_,ho,rfl⟩ PySem.F.entry_list_index (PySem.F.args_list_index_2 _ _)
  (SeqAt.list_indexAt p cv.toArray n dd sl u (pz y) j (by simp;omega) (by omega) ?_ ?_) ⟨ho,λw hw=>CC ru fy r fs w (by simpa using hw),.int (j:Nat),H,I.tok _,⟨_,rfl⟩,q⟩
 ·simp only[qK];rw[QE j (by omega)];exact j2
 ·intro i hi gK
  simp only[qK]
  rw[QE i (by simpa using hi)]
  simpa using j3 i gK
def uO:D->D->Option D
 |.lst ds,x=>if x.sc=true/\ds.all D.sc=true then(ds.findIdx? λy=>vP y x).bind λj=>some (.int (j:Nat))else none
 |_,_=>none
theorem UN {x:D}(hx:x.sc=true):∀{ds:List D},ds.all D.sc=true->(ds.map D.v).findIdx? (λz=>sM z x.v)=ds.findIdx? λy=>vP y x
 |[],_=>rfl
 |d::ds,h=>by
  rw[dG,bG]at h
  rw[aP,kM,kM,U9 h.1 hx,UN hx h.2]
theorem zpm {ez e7:dF}(ho:XE X ct ms n o f)(he:XE X ct ms m e g)(lK:ay [e] X.env=(false,bY e X.env)::ay [] X.env:=by rfl)
  (ny:fG o "index" X.env (bY o X.env)=bY o X.env:=by rfl)
  (rh:((cQ e7 (ay [e] X.env)).all (λx=>!x.1)&&(fR e7 (dR [] X.env)).all (λx=>x.1.isSome)
   && decide ([e].length+([]:List hZ).length+(if([]:List hZ).isEmpty then 0 else 1)<30))=true:=by rfl)
  (nz:(ez.endLine==e7.line)=true:=by rfl) (kB:(cQ e7 (ay [] X.env)).any (·.1)=false:=by rfl) :
  XE X ct ms k (.Call (.Attribute o "index" ez) [e] [] e7) (e2 uO f g):=by
 obtain⟨ta,pa,qa⟩:=ho
 obtain⟨tb,pb,qb⟩:=he
 refine⟨_,KY PySem.F.plainAttrs_list PySem.F.slot_list_index PySem.F.type_list_index zpl pa (v4 pb tT lK) ny rh nz lK kB,λF0 B F H ρ σ d Q rs e w=>?_⟩
 obtain⟨d1,d2,h1,h2,h3⟩:=dP e
 refine qa F0 B F H ρ σ d1 _ rs h1 λv1 F1 H1 x1 l1=>?_
 cases d1 with
 |lst ds=>
  unfold uO at h3
  dsimp only at h3
  by_cases hz:d2.sc=true/\ds.all D.sc=true
  ·rw[if_pos hz]at h3
   obtain⟨j,hj,h4⟩:=aY h3
   cases h4
   obtain⟨p,vs,rfl,hp,XU⟩:=l1.lst x1.fh
   refine⟨.inl ⟨rfl,_,hp⟩,qb F0 B F1 H1 ρ σ d2 _ (rs.ext x1) h2 λv2 F2 H2 x2 l2=>?_⟩
   have hv:=XU.vs hz.2
   subst hv
   have hx:=Al.v l2 hz.1
   subst hx
   exact⟨p,_,_,j,rfl,rfl,x2.hh.seq hp,D.flat hz.1,Kr hz.2,by rw[UN hz.1 hz.2];exact hj,w _ F2 H2 (x1.trans x2) (Al.of (.int _))⟩
  ·rw[if_neg hz]at h3;cases h3
 |_=>cases h3
theorem O1:∀{xs:List V} {us:List af},xs.length=us.length->(∀(i:Nat) (x:V) (u:af),xs[i]?=some x->us[i]?=some u->L2.RelV x u)->ck xs us
 |[],[],_,_=>.nil
 |[],_::_,h,_=>by cases h
 |_::_,[],h,_=>by cases h
 |x::xs,u::us,h,r=>.cons (r 0 x u rfl rfl) (O1 (by simpa using h) λi y w hy hw=>r (i+1) y w (by simpa using hy) (by simpa using hw))
def yW:List V->Hp->VK->Prop:=λvs H Q=>∃j:Int,vs=[.int j]/\0<=j/\j<=16777216/\∀l,H l=none->Q (.ref l) (d4 H l (.lst ((fJ 0 j.toNat).map D.v)))
def kr:List D->Option D
 |[.int j]=>if 0<=j/\j<=16777216 then some (.lst (fJ 0 j.toNat))else none
 |_=>none
theorem zpn {lo:Int}{n i:Nat}{d:D}(h:(fJ lo n)[i]?=some d):d=.int (lo+(i:Int)):=by
 unfold fJ at h
 rw[aD]at h
 obtain⟨t,ht,rfl⟩:=dS.mp h
 have:=aW.mp ht
 obtain⟨h1,h2⟩:=this
 rw[List.getElem_range]at h2
 rw[h2]
theorem zs1 {ta:TA}{p1 p2 gX:dF}(hc:X.calm=true)(hg:Gl X "list")(hm:X.mg "list"=none)(oE:Gl X "range")(n8:X.mg "range"=none)(ha:PA X [a] ta)(hs:ay [a] X.env=[(false,bY a X.env)]:=by rfl)
    (nP:ay [.Call (.Name "range" p2) [a] [] gX] X.env=[(false,bY (.Call (.Name "range" p2) [a] [] gX) X.env)]:=by rfl) :
    PE X (.Call (.Name "list" p1) [.Call (.Name "range" p2) [a] [] gX] [] pos) (NJ yW ta):=by
  intro am s σ H Q I h
  refine dM (xR I hg hm zG ?_ (by decide) (by decide))
  refine cK ?_ nP rfl
  rw[nP]
  show bj _ _ (spliced ((false,bY (.Call (.Name "range" p2) [a] [] gX) X.env)::[])) _ _ s
  refine Calls.spliced_cons ?_
  refine dM (xR I oE n8 boot_range ?_ (by decide) (by decide))
  refine cK (dC (ha gX am s σ H _ I h) λus s1 ⟨vs,H1,I1,r1,q1⟩=>?_) hs rfl
  obtain⟨j,rfl,h1,h2,q⟩:=q1
  obtain⟨u,rfl,t,rfl⟩:=nG r1
  refine call_range_1 (Calls.spliced_nil ?_)
  have I2:L2.Inv X am σ H1 { s1 with heap:=s1.heap.push { cls:=.type "range",data:=.fields #[.int 0 s1.toks,.int j t,.int 1 (s1.toks+1)] },toks:=s1.toks+1+1 }:=I1.kept λb o e=>aJ _ e
  have hsz:fV.Range.rangeSize 0 j 1=(j.toNat:Int):=by rw[rangeSize_one];split<;>omega
  refine call_list_range (n:=j.toNat) (I2.ok.hd hc) (IsRange.new ..) (small_one (by omega) (by omega) (by omega) (by omega)) hsz (by omega) λh' tk kh c' kp hS rc=>?_
  have hv:ck ((fJ 0 j.toNat).map D.v) kh.toList:=by
    obtain⟨e1,e2⟩:=rc
    refine O1 (by simp[fJ,e1]) λi x u hx hu=>?_
    obtain⟨t,rfl⟩:=e2 i u (by simpa using hu)
    rw[aD]at hx
    obtain⟨d,hd,rfl⟩:=dS.mp hx
    have hd:=zpn hd
    subst hd
    exact⟨t,by rw[mV]⟩
  have hl:((fJ 0 j.toNat).map D.v).length<=sizeLine:=by rw[cV];simp[fJ];omega
  exact⟨.ref _,_,I2.laid (t':=tk) kp (aM _) (show eu X.prog X.w _ h' _ (.lst _)from⟨hl,kh.toList,c',hv,hS⟩),rfl,q _ (I2.hok.fresh (aM _))⟩
theorem zs2 (lo:Int)(n:Nat):(fJ lo n).all D.sc=true:=by
 rw[eO]
 intro d hd
 unfold fJ at hd
 obtain⟨t,_,rfl⟩:=bm.mp hd
 rfl
theorem HR {K:ae}{F G:Hp}:∀{ds:List D},ds.all D.sc=true->Pr (Al K ct F G 0) ds (ds.map D.v)
 |[],_=>.nil
 |d::ds,h=>by
  rw[dG,bG]at h
  refine .cons ?_ (HR h.2)
  cases d with
  |non=>exact Al.of .non
  |bl b=>exact Al.of (.bl b)
  |int b=>exact Al.of (.int b)
  |str b=>exact Al.of (.str b)
  |_=>cases h.1
theorem zpo {K:ae}:uA K ct [n] 1 yW kr:=by
 intro F H vs ds d Q s l e w
 cases l with
 |cons h t=>
  cases t
  rename_i d1 v
  cases d1 with
  |int j=>
   unfold kr at e
   dsimp only at e
   by_cases hz:0<=j/\j<=16777216
   ·rw[if_pos hz]at e
    cases e
    exact⟨j,by rw[h.int],hz.1,hz.2,zI s (HR (zs2 0 j.toNat)) w⟩
   ·rw[if_neg hz]at e;cases e
  |_=>cases e
theorem O2 {fs:Env->Option (List D)}{p1 p2 gX:dF}(hc:X.calm=true)(hg:Gl X "list")(hm:X.mg "list"=none)(oE:Gl X "range")(n8:X.mg "range"=none)(ha:XA X ct ms [a] [n] fs)(hs:ay [a] X.env=[(false,bY a X.env)]:=by rfl)
  (nP:ay [.Call (.Name "range" p2) [a] [] gX] X.env=[(false,bY (.Call (.Name "range" p2) [a] [] gX) X.env)]:=by rfl) :
  XO X ct ms 1 (.Call (.Name "list" p1) [.Call (.Name "range" p2) [a] [] gX] [] pos) (eN kr fs):=by
 obtain⟨t,pt,_,qt⟩:=ha
 refine⟨_,zs1 hc hg hm oE n8 pt hs nP,λF0 B F H ρ σ r Q rs e w=>?_⟩
 obtain⟨ds,h1,h2⟩:=aY e
 exact qt F0 B F H ρ σ ds _ rs h1 λvs F1 H1 x1 l=>zpo F1 H1 vs ds r Q x1.fh l h2 λv F2 H2 fp x2 l2 nd hf=>w v F2 H2 fp (x1.trans x2) l2 nd λz hz=>x1.hh.free (hf z hz)
def o6 (i j:Nat)(f:EF):SF:=λρ=>(eV i ρ).bind λo=>(eV j ρ).bind λq=>(f ρ).bind λz=>match o,q,z with
 |.lst ds,.lst es,.int y=>if ds.length<16777216/\es.length<=16777216 then(ixN es.length y).bind λt=>es[t]?.bind λd=>some (.nx ((ρ.set j (some (.lst (es.eraseIdx t)))).set i (some (.lst (ds++[d])))))else none
 |_,_,_=>none
theorem Pr.erase {R:D->V->Prop}:∀{ds:List D} {vs:List V} (i:Nat),Pr R ds vs->Pr R (ds.eraseIdx i) (vs.eraseIdx i)
 |_,_,_,.nil=>.nil
 |_,_,0,.cons h t=>t
 |_,_,i+1,.cons h t=>.cons h (t.erase i)
theorem zm9 (i j:Nat){x y:aX}{p1 p2 ez e7 nu kn:dF}(hm:ms[i]?=some (.ow 1))(n8:ms[j]?=some (.ow 1))(rR:i≠j)(he:XE X ct ms n e f)
  (hN:X.N[i]?=some x:=by rfl) (hv:qF X.env.scope x:=by first|exact Or.inl rfl|exact Or.inr (Or.inl rfl)|exact Or.inr (Or.inr rfl)) (hd:(x==("__debug__":aX))=false:=by decide) (jT:(x==("__classdict__":aX))=false:=by decide)
  (MB:X.N[j]?=some y:=by rfl) (M5:qF X.env.scope y:=by first|exact Or.inl rfl|exact Or.inr (Or.inl rfl)|exact Or.inr (Or.inr rfl)) (hd2:(y==("__debug__":aX))=false:=by decide) (A6:(y==("__classdict__":aX))=false:=by decide)
  (lK:ay [e] X.env=(false,bY e X.env)::ay [] X.env:=by rfl)
  (AZ:fG (.Name y p2) "pop" X.env (bY (.Name y p2) X.env)=bY (.Name y p2) X.env:=by rfl)
  (Fv:((cQ kn (ay [e] X.env)).all (λx=>!x.1)&&(fR kn (dR [] X.env)).all (λx=>x.1.isSome)
   && decide ([e].length+([]:List hZ).length+(if([]:List hZ).isEmpty then 0 else 1)<30))=true:=by rfl)
  (Be:(nu.endLine==kn.line)=true:=by rfl) (wY:(cQ kn (ay [] X.env)).any (·.1)=false:=by rfl)
  (FO:ay [.Call (.Attribute (.Name y p2) "pop" nu) [e] [] kn] X.env=(false,bY (.Call (.Attribute (.Name y p2) "pop" nu) [e] [] kn) X.env)::ay [] X.env:=by rfl)
  (ny:fG (.Name x p1) "append" X.env (bY (.Name x p1) X.env)=bY (.Name x p1) X.env:=by rfl)
  (rh:((cQ e7 (ay [.Call (.Attribute (.Name y p2) "pop" nu) [e] [] kn] X.env)).all (λx=>!x.1)&&(fR e7 (dR [] X.env)).all (λx=>x.1.isSome)
   && decide ([Expr.Call (.Attribute (.Name y p2) "pop" nu) [e] [] kn].length+([]:List hZ).length+(if([]:List hZ).isEmpty then 0 else 1)<30))=true:=by rfl)
  (nz:(ez.endLine==e7.line)=true:=by rfl) (kB:(cQ e7 (ay [] X.env)).any (·.1)=false:=by rfl)
  (xA:eh (.Call (.Attribute (.Name x p1) "append" ez) [.Call (.Attribute (.Name y p2) "pop" nu) [e] [] kn] [] e7) none pos.line X.env=pure false:=by rfl) :
  XS X ct ms rk (.Expr (.Call (.Attribute (.Name x p1) "append" ez) [.Call (.Attribute (.Name y p2) "pop" nu) [e] [] kn] [] e7) pos) (o6 i j f):=by
 obtain⟨t,pt,qt⟩:=he
 refine⟨_,O6 (KY PySem.F.plainAttrs_list PySem.F.slot_list_append PySem.F.type_list_append Kj (sY hN hv hd jT)
  (v4 (KY PySem.F.plainAttrs_list PySem.F.slot_list_pop PySem.F.type_list_pop zoz (sY MB M5 hd2 A6) (v4 pt tT lK) AZ Fv Be lK wY) tT FO) ny rh nz FO kB) xA,λF0 B F H ρ σ o E rs e z=>?_⟩
 obtain⟨d1,d2,h1,h2,h3⟩:=dP e
 obtain⟨d3,h4,h5⟩:=aY h3
 cases d1 with
 |lst ds=>
  cases d2 with
  |lst es=>
   cases d3 with
   |int w=>
    dsimp only at h5
    by_cases hz:ds.length<16777216/\es.length<=16777216
    ·rw[if_pos hz]at h5
     obtain⟨t2,h6,h7⟩:=aY h5
     obtain⟨d,h8,h9⟩:=aY h7
     cases h9
     obtain⟨g1,gr,gn1,gb1,gdj,WP,gcf,WR⟩:=rs.put (F':=F) (H':=H) hm
     obtain⟨v,hσ,ow⟩:=WP _ (yj h1)
     obtain⟨ad,vs,oT,rfl,rfl,hF,hH,ol⟩:=ow.lst_inv
     obtain⟨f1,fr,n1,b1,dj,i4,cf,put⟩:=rs.put (F':=F) (H':=H) n8
     obtain⟨v2,vT,G9⟩:=i4 _ (yj h2)
     obtain⟨bd,us,WJ,rfl,rfl,W1,MA,Nv⟩:=G9.lst_inv
     have z2:=OwL.nil0 Nv
     subst z2
     refine⟨_,hσ,.inl ⟨rfl,_,fX.of hH⟩,_,vT,.inl ⟨rfl,_,fX.of MA⟩,qt F0 B F H ρ σ _ _ rs h4 λv3 F' H' x1 l3=>?_⟩
     have XR:=l3.int
     subst XR
     obtain⟨s1,s2,s3,s4⟩:=O7 h6
     have Mw:H' bd=some (.lst us):=x1.hh _ _ MA
     have fB:F' bd=none:=x1.nf bd _ MA W1
     have lu:=Nv.length
     have Rq:Pr (λd v=>Dt X.K ct F' d v) es us:=Nv.pr λd v f _ q=>q.1.mono x1.ff
     obtain⟨u,hu,ru⟩:=Rq.get' h8
     refine⟨bd,us,w,t2,u,rfl,rfl,Mw,by omega,by omega,by rw[←lu];exact s1,hu,?_⟩
     have lM:=rs.change n8 x1 vT b1 dj cf put aa fB (d':=.lst (es.eraseIdx t2)) (o:=.lst (us.eraseIdx t2)) (.inr (.lst fB yt (OwL.ofPr ((Rq.erase t2).mono λ_ _ q=>Ow.zero q)))) (fn:=[bd]) (by simp) (λa ha=>by
      rw[az]at ha;subst ha;exact .inl aa)
     obtain⟨g1',gr',WQ,Ms,Mu,Mv,Mt,Fj⟩:=lM.put (F':=F') (H':=d4 H' bd (.lst (us.eraseIdx t2))) hm
     have i7:(ρ.set j (some (D.lst (es.eraseIdx t2))))[i]? = ρ[i]?:=df (λe=>rR e.symm)
     obtain⟨v',Br,JW⟩:=Mv (.lst ds) (by rw[i7];exact yj h1)
     rw[hσ]at Br
     cases Br
     obtain⟨ad',J4,WI,e1,rfl,QB,W2,Nu⟩:=JW.lst_inv
     cases e1
     have zn:=OwL.nil0 Nu
     subst zn
     refine⟨ad,J4,u,rfl,rfl,W2,by rw[←Nu.length,cV];exact hz.1,?_⟩
     refine z σ F' _ (lM.change hm (.refl lM.fh) hσ Ms Mu Mt Fj aa QB (.inr (.lst QB yt ((Nu.mono λ_ _ f' hi o'=>?_).append (.cons (f:=[]) (Ow.zero ru) .nil)))) (fn:=[ad]) (by simp) λa ha=>by
      rw[az]at ha;subst ha;exact .inl aa)
     exact o'
    ·rw[if_neg hz]at h5;cases h5
   |_=>cases h5
  |_=>cases h5
 |_=>cases h5
end
end L3
namespace L2
open PySem PyProof.Rows
theorem zpp {X:Cx}{am:List (ai×d8)}{σ:St}{H:Hp}{s:ap}{QV:VK}{use:Option (af->pE Unit)}{Q0:af->ap->Prop}{kc iter tg:Expr}{ifs:List Expr}{scope:gH}{pos gX:dF}{N:List aX}{own:Nat}{cap:List Nat}{wi:TI}{g:TG}{tt:TT}{te:TE}(B:kQ X scope N own cap)(hc:X.calm=true)(hi:PI X tg iter wi)
    (kg:gL own g)
    (hg:∀cl C fp s₀ H₀,PG (iV X scope cl N C fp s₀ H₀) tg g) (ht:∀cl C fp s₀ H₀,yC (iV X scope cl N C fp s₀ H₀) ifs tt) (he:∀cl C fp s₀ H₀,PE (iV X scope cl N C fp s₀ H₀) kc te)
    (hs:∀x,dX iter X.env x=pure x) (I:Inv X am σ H s) (h:rX wi own cap g tt te σ H QV)
    (fin:∀(D C:ai) (H5:Hp) (s6:ap) (r:Flow),QV (.ref D) H5->Inv X am σ H5 s6->kS X am H5 C->(∃m,s6.heap.Ns C m)->qC (bi X.prog X.w) X.A X.xe use Q0 (.ref D) C (.ok r) s6) :
    bj (bi X.prog X.w) X.A (comprehension (.ListComp kc [⟨tg,iter,ifs,0⟩] scope pos) scope X.env gX (newList []) false (bY iter X.env) use) Q0 X.xe s:=by
  obtain⟨cl,A7,c1,c2,_⟩:=Kb (env:=X.env) scope.names [] (λx hx hf=>I.ok.has x.1 (B.free x hx hf)) (λy c e=>by simp at e)
  have uI:qA scope X.env=pure cl:=by
    have e:qA scope X.env=(forIn scope.names ([]:List (aX×ai)) (λ(x:aX×bw) (cs:List (aX×ai))=>if(x.2==bw.free)=true then do let a ← cellOf X.env x.1;pure (ForInStep.yield ((x.1,a)::cs))else pure (ForInStep.yield cs)) >>= pure:pE (List (aX×ai))):=rfl
    rw[e,A7]
    rfl
  refine wpAny_comprehension_free (use:=use) rfl hs uI B.kind B.locs (dC (hi am s σ H _ I h) λv s1 h1=>dC h1 λJS s2 h2=>?_)
  obtain⟨it,fp,tn,J,H2,e,I2,T,vU,f2,W0⟩:=h2
  subst e
  obtain⟨W,⟨m0,w0⟩,cI⟩:=W0 s2.heap.objs.size (I2.hok.fresh (aM _))
  refine nO ?_
  have I3:Inv X am σ (d4 H2 s2.heap.objs.size (.lst [])) { s2 with heap:=s2.heap.push { cls:=.type "list",data:=.seq ([]:List af).toArray } }:=I2.lnew .nil (dr _)
  generalize FN:({ s2 with heap:=s2.heap.push { cls:=.type "list",data:=.seq ([]:List af).toArray } }:ap)=s3 at I3
  have k3:∀b o,s2.heap.get? b=some o->s3.heap.get? b=some o:=λb o e=>by rw[←FN];exact aJ _ e
  have z3:s3.heap.objs.size=s2.heap.objs.size+1:=by rw[←FN];exact gw _ _
  have rj:∀b∈fp,b<s2.heap.objs.size:=λb hb=>by
    obtain⟨o,e,_⟩:=T.obj _ _ vU b hb
    exact aR e
  have i7:∀b∈fp,b≠s2.heap.objs.size:=λb hb=>bE (rj b hb)
  have f3:∀b∈fp,kS X am (d4 H2 s2.heap.objs.size (.lst [])) b:=λb hb=>⟨by rw[yo (i7 b hb)];exact(f2 b hb).1,(f2 b hb).2⟩
  have J1:tn 0 s3.heap:=T.keep _ _ _ vU λb _ o e=>k3 b o e
  show bj _ _ (lG scope X.env.globals cl [] X.env.qual none .none (some X.env)) _ _ _
  refine RY λh₁ kk Bk A9=>?_
  have IB:=SH (t':=s3.toks) B I3 c1 c2 f3 (λb hb=>by rw[z3];exact fu (rj b hb)) Bk kk A9
  generalize cellsFrom (s3.heap.objs.size+1) scope.names cl=cl at IB ⊢
  generalize M3:({ s3 with heap:=h₁,toks:=s3.toks }:ap)=s4 at IB
  have IA:tn 0 s4.heap:=T.keep _ _ _ J1 λb _ o e=>by rw[←M3];exact kk b o e
  show gS (bi X.prog X.w) X.A (.compStart (.ListComp kc [⟨tg,iter,ifs,0⟩] scope pos) 0 (.ref it) (.ref s2.heap.objs.size) (qB scope cl s3.heap.objs.size X.env))
      (qC (bi X.prog X.w) X.A X.xe use Q0 (.ref s2.heap.objs.size) s3.heap.objs.size) s4
  have nF:∀{H':Hp},(∀b∈fp,H' b=none)->∀b∈fp,kS (iV X scope cl N s3.heap.objs.size fp s3 (d4 H2 s2.heap.objs.size (.lst []))) [] H' b:=λhn b hb=>
    ⟨hn b hb,bE (by show b<s3.heap.objs.size;rw[z3];exact fu (rj b hb)),IB.ok.exfs b hb,.inl hb,λx c e=>(IB.ok.exf b hb).2 x c e,λp hp=>(nomatch hp)⟩
  have loop:gS (bi X.prog X.w) X.A (.compLoop (.ListComp kc [⟨tg,iter,ifs,0⟩] scope pos) 0 (.ref it) (.ref s2.heap.objs.size) (qB scope cl s3.heap.objs.size X.env))
      (qC (bi X.prog X.w) X.A X.xe use Q0 (.ref s2.heap.objs.size) s3.heap.objs.size) s4:=by
    refine RX (λn s'=>∃i ys H',Inv (iV X scope cl N s3.heap.objs.size fp s3 (d4 H2 s2.heap.objs.size (.lst []))) [] (aC own none++gJ σ cap) H' s'/\tn i s'.heap/\(∀b∈fp,H' b=none)/\W i n ys H') ?_ m0
      ⟨0,[],_,IB,IA,λb hb=>(f3 b hb).1,w0⟩
    rintro n s5 ⟨i,ys,H5,I5,xI,AU,w5⟩
    obtain⟨hD,MO⟩:=cI i n ys H5 w5
    rcases MO with⟨stop,qn⟩|⟨go,gK,step⟩
    · refine dC (T.done (iV X scope cl N s3.heap.objs.size fp s3 (d4 H2 s2.heap.objs.size (.lst []))) rfl rfl rfl hc i [] s5 _ H5 (λ_ _=>False) I5 (nF AU) xI stop) λr s6 ⟨hr,I6⟩=>?_
      subst hr
      obtain⟨m,hm,_⟩:=id I6.loc
      refine fin s2.heap.objs.size s3.heap.objs.size H5 s6 _ qn ?_ (I3.fpOk (aM _) I6.free) ⟨m,hm⟩
      have sb:hX s3.heap.objs.size s6.heap s6.heap:=⟨rfl,λ_ _=>rfl⟩
      have U:=I6.base
      have nC:∀b o,s3.heap.get? b=some o->b≠s3.heap.objs.size:=λb o e=>bE (aR e)
      have nT:∀b o,H5 b=some o->b≠s3.heap.objs.size:=λb o e z=>by
        have q:H5 s3.heap.objs.size=none:=I6.free
        rw[z,q]at e
        cases e
      refine I3.call' (ch:=fp) I6.os ?_ (λa o e=>(I6.hok a o e).stay (λb u hb q=>sb.extBut b u ?_ q) (λ_ q=>q) λ_ _ q=>q) I6.bare (λb hb=>⟨(f3 b hb).2.2.2.1,(f3 b hb).2.1,(f3 b hb).2.2.2.2.1,(f3 b hb).2.2.2.2.2⟩)
      · exact{
          keep:=λb o e z hb he=>sb.extBut b o (nC b o e) (U.keep b o e z hb he)
          slot:=λb o e z hb he=>by
            obtain⟨sl,q⟩:=U.slot b o e z hb he
            exact⟨sl,sb.extBut b _ (nC b o e) q⟩
          free:=U.free
          there:=λb o e he=>by
            obtain⟨o',q⟩:=U.there b o e he
            exact⟨o',sb.extBut b o' (nC b o e) q⟩
          tups:=U.tups
          frzs:=U.frzs
          tbls:=U.tbls }
      · rcases hb with rfl|hb
        · exact nT _ _ e
        · exact nT _ _ hb
    · refine dC (T.item (iV X scope cl N s3.heap.objs.size fp s3 (d4 H2 s2.heap.objs.size (.lst []))) rfl rfl rfl hc i [] s5 _ H5 (λ_ _=>False) I5 (nF AU) xI go) λr s6 ⟨u,hr,h6⟩=>?_
      subst hr
      refine dC h6 λ_ s7 ⟨x,H7,I7,r7,y7,BP,Mn⟩=>?_
      have K6:=I7.pinned (nF Mn) (T.obj _ _ BP)
      refine dC (hg cl s3.heap.objs.size fp s3 _ _ s7 _ H7 x u _ K6 r7 (kg _ _ _ _ (step x H7 y7))) λ_ s8 ⟨σ8,H8,I8,q8,l8,p8⟩=>?_
      have back:∀{H9:Hp} {s9:ap},Inv (iV X scope cl N s3.heap.objs.size fp s3 (d4 H2 s2.heap.objs.size (.lst []))) ([]++lW fp s7.heap) σ8 H9 s9 ->
          Inv (iV X scope cl N s3.heap.objs.size fp s3 (d4 H2 s2.heap.objs.size (.lst []))) [] (aC own none++gJ σ cap) H9 s9/\tn (i+1) s9.heap/\∀b∈fp,H9 b=none:=λ{H9 s9} I9=>by
        refine⟨(I9.unpinned).weak l8.symm (λj v e=>?_),T.keep _ _ _ BP λb hb o e=>(I9.pin (b,o) (aH _ (aH _ (qp hb e)))).1,λb hb=>?_⟩
        · by_cases hj:j<own
          · rw[cE (by rw[cZ];exact hj),eP,if_pos hj]at e
            cases e
          · rw[p8 j (by omega)];exact e
        · obtain⟨o,e,d⟩:=T.obj _ _ BP b hb
          exact(I9.pin (b,o) (aH _ (aH _ (qp hb e)))).2.1
      refine dC (ht cl s3.heap.objs.size fp s3 _ _ s8 σ8 H8 _ I8 q8) λok s9 ⟨H9,I9,q9⟩=>?_
      cases ok with
      |false=>
        rw[if_neg aQ]
        rw[if_neg aQ]at q9
        obtain⟨m',Bf,w'⟩:=q9
        obtain⟨b1,b2,b3⟩:=back I9
        exact⟨m',Bf,i+1,ys,H9,b1,b2,b3,w'⟩
      |true=>
        rw[if_pos rfl]
        rw[if_pos rfl]at q9
        refine dC (he cl s3.heap.objs.size fp s3 _ _ s9 σ8 H9 _ I9 q9) λuy NE ⟨y,CV,K4,r10,AW,m',Bf,w'⟩=>?_
        refine dC (Kj _ NE σ8 CV (.ref s2.heap.objs.size) [y] (.ref s2.heap.objs.size) [uy] (λ_ CW=>CW=d4 CV s2.heap.objs.size (.lst (ys++[y]))) K4 rfl (.cons r10 .nil) ⟨_,ys,y,rfl,rfl,AW,gK,rfl⟩) λ_ ZL ⟨_,CW,K5,_,Ly⟩=>?_
        subst Ly
        obtain⟨b1,b2,b3⟩:=back K5
        exact⟨m',Bf,i+1,ys++[y],_,b1,b2,b3,w'⟩
  exact codeAny_compStart_list loop (T.self X.A 0 s4 _ _ IA loop)
theorem zla {X:Cx}{i:Nat}{x:aX}{pos' vB:dF}{kc iter tg:Expr}{ifs:List Expr}{scope:gH}{pos:dF}{N:List aX}{own:Nat}{cap:List Nat}{wi:TI}{g:TG}{tt:TT}{te:TE}(B:kQ X scope N own cap)(hc:X.calm=true)(hi:PI X tg iter wi)
  (kg:gL own g)
  (hg:∀cl C fp s₀ H₀,PG (iV X scope cl N C fp s₀ H₀) tg g) (ht:∀cl C fp s₀ H₀,yC (iV X scope cl N C fp s₀ H₀) ifs tt) (he:∀cl C fp s₀ H₀,PE (iV X scope cl N C fp s₀ H₀) kc te)
  (hN:X.N.Nodup) (yJ:X.N[i]?=some x) (hx:Loc X.env.scope x) (xA:eh (.ListComp kc [⟨tg,iter,ifs,0⟩] scope pos) (some (.Name x pos')) vB.line X.env=pure true)
  (hs:∀x,dX iter X.env x=pure x:=by intro _;rfl) (hf:X.fn x=true\/X.env.scope.names.lookup x=some .local:=by first|exact .inl rfl|exact .inr rfl|assumption) :
  PS X (.Assign [.Name x pos'] (.ListComp kc [⟨tg,iter,ifs,0⟩] scope pos) vB) (BQ (rX wi own cap g tt te) (rO i)):=by
 intro am s σ H D I h
 rw[exec_Assign_Name_used _ _ _ _ xA]
 refine aV (mJ (aV ?_))
 show bj _ X.A (do let _ ← comprehension (.ListComp kc [⟨tg,iter,ifs,0⟩] scope pos) scope X.env _ (newList []) false (bY iter X.env) (some (iS (.Name x pos') X.env))) _ _ s
 refine aV (dZ (zpp (use:=some (iS (.Name x pos') X.env)) (Q0:=λ_ s'=>∃σ' H',Inv X am σ' H' s'/\D.nx σ' H') B hc hi kg hg ht he hs I h λDa C H5 s6 r q I6 fo hm=>?_) (λ_ s' hq=>bZ (bZ hq)) λ_ _ e=>e)
 show bj _ X.A (iS (.Name x pos') X.env (.ref Da)) _ _ _
 refine wpAny_assign_Name (Sr (v:=.ref Da) I6 hN yJ hx rfl (λs7 I7 XH=>?_) hf)
 obtain⟨m,hm⟩:=hm
 obtain⟨a,sb,ha⟩:=XH
 obtain⟨f0,f1,f2,f3,f4,f5⟩:=fo
 have i7:C≠a:=by
  rcases ha with rfl|ha
  ·exact f1
  ·exactλz=>f4 x a ha z.symm
 refine⟨m,hm.sameBut sb i7,λh' ZO=>⟨_,H5,I7.turned (t':=s7.toks) (it:=C) (λb o hb e=>ZO.extBut b o hb e) f0 f1 f3 f4 f5,q⟩⟩
end L2
namespace L3
open PySem PySem.Spec L2
open PyProof.Rows hiding St
section
variable {X:Cx}{ct:Nat->ai}{ms:List Mo}{rk n m k:Nat}{a b c e o:Expr}{f g h:EF}{pos:dF}
theorem uw {om:List Mo}{kc iter tg:Expr}{ifs:List Expr}{scope:gH}{N:List aX}{own:Nat}{cap:List Nat}{fi:Env->Option (List D)}{gg:D->Env->Option Env}{p:BF}{i:Nat}{x:aX}{pos' vB:dF}
  (hm:ms[i]?=some (.ow k)) (hN:X.N.Nodup) (yJ:X.N[i]?=some x) (hx:Loc X.env.scope x)
  (B:kQ X scope N own cap) (hc:X.calm=true) (ho:om.length=own) (iI:∀i∈cap,i<ms.length) (hi:zU X ct ms n tg iter fi)
  (hg:∀cl C fp s₀ H₀,wL (iV X scope cl N C fp s₀ H₀) ct (om++ig ms cap) own n tg gg) (ht:∀cl C fp s₀ H₀,zV (iV X scope cl N C fp s₀ H₀) ct (om++ig ms cap) ifs p) (he:∀cl C fp s₀ H₀,XO (iV X scope cl N C fp s₀ H₀) ct (om++ig ms cap) (k-1) kc f)
  (xA:eh (.ListComp kc [⟨tg,iter,ifs,0⟩] scope pos) (some (.Name x pos')) vB.line X.env=pure true:=by rfl)
  (hs:∀x,dX iter X.env x=pure x:=by intro _;rfl) (hf:X.fn x=true\/X.env.scope.names.lookup x=some .local:=by first|exact .inl rfl|exact .inr rfl|assumption) :
  XS X ct ms rk (.Assign [.Name x pos'] (.ListComp kc [⟨tg,iter,ifs,0⟩] scope pos) vB) (sSet i (dW fi own cap gg p f)):=by
 obtain⟨wi,g,tt,te,pi,kg,pg,pt,pe,q⟩:=S7 (k:=k-1) (pos:=pos) B hc ho iI hi hg ht he
 refine⟨_,zla B hc pi kg pg pt pe hN yJ hx xA hs hf,λF0 B F H ρ σ o E rs e w=>?_⟩
 obtain⟨d,h1,h2⟩:=aY e
 cases h2
 cases k with
 |succ k=>exact q F0 B F H ρ σ d _ rs h1 λv F' H' fp x l nd hf=>w _ F' H' (rs.set hm x l nd hf)
 |zero=>
  refine q F0 B F H ρ σ d _ rs h1 λv F' H' fp x l nd hf=>?_
  obtain⟨F2,x2,l2⟩:=l.freeze x hf
  exact w _ F2 H' (rs.set hm x2 (Ow.zero l2) bQ λa z=>by cases z)
theorem zs3 {i:Nat}{x:aX}{pos':dF}(hm:ms[i]?=some (.ow k))(hN:X.N[i]?=some x:=by rfl)(hv:qF X.env.scope x:=by first|exact Or.inl rfl|exact Or.inr (Or.inl rfl)|exact Or.inr (Or.inr rfl))(hd:(x==("__debug__":aX))=false:=by decide)
  (jT:(x==("__classdict__":aX))=false:=by decide):XS X ct ms 0 (.Return (some (.Name x pos')) pos) (sRet (eV i)):=by
 refine⟨_,Po (sY hN hv hd jT),λF0 B F H ρ σ o E rs e w=>?_⟩
 obtain⟨d,h1,h2⟩:=aY e
 cases h2
 obtain⟨fp,sl,nd,hb⟩:=rs.sl
 obtain⟨f1,fr,i1,i2,i3,i4,i5⟩:=sl.put hm
 obtain⟨v,M4,l⟩:=i4 d (yj h1)
 obtain⟨F',x,l2⟩:=l.freeze (⟨rs.f0,rs.bh,rs.fh,rs.nf⟩:gD F0 B F H) (λz hz=>hb z (i1 z hz))
 exact⟨v,M4,w v F' H [] x.ff x.hh x.fh x.nf (Ow.zero l2) bQ λz hz=>by cases hz⟩
theorem zvk (hu:X.A.units+1<gR)(ha:XE X ct ms n a f)(hb:XE X ct ms m b g)(hm:dO .In b=false):XT X ct ms (.Compare a [.In] [b] pos) (tb λρ=>(f ρ).bind λx=>(g ρ).bind λy=>(iP y x).bind λr=>some (.bl r.isSome)):=by
 obtain⟨ta,Iw,pa,pb,q⟩:=ha.bin hb
 refine⟨_,UO (zu2 hu pa pb) hm,λF0 B F H ρ σ t Q rs e w=>?_⟩
 obtain⟨d0,h0,h9⟩:=aY e
 obtain⟨d1,d2,h1,h2,h3⟩:=dP h0
 obtain⟨r,h4,h5⟩:=aY h3
 cases h5
 cases h9
 refine q F0 B F H ρ σ d1 d2 _ rs h1 h2 λx y F' H' x1 l1 l2=>?_
 obtain⟨a,o,rfl,g,_,h⟩:=O9 (r:=r) x1.fh l2 l1 h4
 refine⟨a,o,rfl,g,?_⟩
 cases r with
 |none=>rw[h.none_of];exact⟨_,rfl,w F' H' x1⟩
 |some d=>obtain⟨u,rfl,FQ⟩:=h.some_of;exact⟨_,rfl,w F' H' x1⟩
theorem zna (hu:X.A.units+1<gR)(ha:XE X ct ms n a f)(hb:XE X ct ms m b g)(hm:dO .NotIn b=false):XT X ct ms (.Compare a [.NotIn] [b] pos) (tb λρ=>(f ρ).bind λx=>(g ρ).bind λy=>(iP y x).bind λr=>some (.bl (!r.isSome))):=by
 obtain⟨ta,Iw,pa,pb,q⟩:=ha.bin hb
 refine⟨_,UO (zmb hu pa pb) hm,λF0 B F H ρ σ t Q rs e w=>?_⟩
 obtain⟨d0,h0,h9⟩:=aY e
 obtain⟨d1,d2,h1,h2,h3⟩:=dP h0
 obtain⟨r,h4,h5⟩:=aY h3
 cases h5
 cases h9
 refine q F0 B F H ρ σ d1 d2 _ rs h1 h2 λx y F' H' x1 l1 l2=>?_
 obtain⟨a,o,rfl,g,_,h⟩:=O9 (r:=r) x1.fh l2 l1 h4
 refine⟨a,o,rfl,g,?_⟩
 cases r with
 |none=>rw[h.none_of];exact⟨_,rfl,w F' H' x1⟩
 |some d=>obtain⟨u,rfl,FQ⟩:=h.some_of;exact⟨_,rfl,w F' H' x1⟩
end
end L3
namespace L2
open PySem PyProof.Rows
end L2
namespace L3
open PySem PySem.Spec L2
open PyProof.Rows hiding St
section
variable {X:Cx}{ct:Nat->ai}{ms:List Mo}{rk n m k:Nat}{st:bT}{rest:List bT}{a b c e tg:Expr}{f g h:EF}{p q:BF}{u w:SF}{pos:dF}
end
end L3
namespace L3
open PySem PySem.Spec L2
open PyProof.Rows hiding St
section
variable {X:Cx}{ct:Nat->ai}{ms:List Mo}{rk n m k:Nat}{st:bT}{rest:List bT}{a b c e tg:Expr}{f g h:EF}{p q:BF}{u w:SF}{pos:dF}
end
end L3
namespace L3
open PySem PySem.Spec L2
open PyProof.Rows hiding St
section
variable {K:ae}{ct:Nat->ai}{F F' H B F0:Hp}
theorem SL.fz {ms:List Mo}{ρ:Env}{σ:St}{fp:List ai}{i k:Nat}(h0:SL K ct F B H ms ρ σ fp)(s:ce F H):fp.Nodup->ms[i]?=some (.ow k)->∃f1:List ai,(∀a∈f1,a∈fp) /\
  ∃iD,SL K ct (iF F H f1) B H (ms.set i (.ow 0)) ρ σ iD/\iD.Nodup/\∀a∈iD,a∈fp/\a∉f1:=by
 induction h0 generalizing i with
 |nil=>
  intro _ e
  simp at e
 |@no m0 o0 ms ρ σ fp t ih=>
  intro nd e
  cases i with
  |zero=>
   obtain⟨w1,w2,w3⟩:=jq (F:=F) (H:=H) (fp:=[]) s (λa z=>by cases z)
   exact⟨[],λa z=>(by cases z),fp,.no (t.frame w1 λa z=>⟨rfl,by unfold iF;rw[if_neg (by simp)];exact(t.cells a z).1⟩),nd,λa z=>⟨z,by simp⟩⟩
  |succ i=>
   obtain⟨f1,h1,iD,q1,q2,q3⟩:=ih (i:=i) nd (by simpa using e)
   exact⟨f1,h1,iD,.no q1,q2,q3⟩
 |@al n0 d0 v0 ms ρ σ fp h t ih=>
  intro nd e
  cases i with
  |zero=>
   simp at e
  |succ i=>
   obtain⟨f1,h1,iD,q1,q2,q3⟩:=ih (i:=i) nd (by simpa using e)
   obtain⟨w1,w2,w3⟩:=jq (F:=F) (H:=H) (fp:=f1) s (λa z=>(t.cells a (h1 a z)).1)
   exact⟨f1,h1,iD,.al (h.mono w1 (.refl _)) q1,q2,q3⟩
 |@px d0 v0 ms ρ σ fp h t ih=>
  intro nd e
  cases i with
  |zero=>
   simp at e
  |succ i=>
   obtain⟨f1,h1,iD,q1,q2,q3⟩:=ih (i:=i) nd (by simpa using e)
   obtain⟨w1,w2,w3⟩:=jq (F:=F) (H:=H) (fp:=f1) s (λa z=>(t.cells a (h1 a z)).1)
   exact⟨f1,h1,iD,.px (h.mono w1 (.refl _)) q1,q2,q3⟩
 |@so d0 x ms ρ σ fp h t ih=>
  intro nd e
  cases i with
  |zero=>
   simp at e
  |succ i=>
   obtain⟨n1,n2⟩:=bP.mp nd
   obtain⟨f1,h1,iD,q1,q2,q3⟩:=ih (i:=i) n2 (by simpa using e)
   obtain⟨w1,w2,w3⟩:=jq (F:=F) (H:=H) (fp:=f1) s (λa z=>(t.cells a (h1 a z)).1)
   refine⟨f1,λa z=>aj _ (h1 a z),x::iD,.so (h.frame w1 λa z=>⟨rfl,?_⟩) q1,bP.mpr ⟨λz=>n1 (q3 x z).1,q2⟩,λa z=>?_⟩
   ·rw[az]at z
    unfold iF
    rw[if_neg λq=>n1 (z▸h1 a q)]
    exact(h.cells a (by rw[z];exact aa)).1
   ·rcases aF.mp z with z|z
    ·exact⟨z▸aa,λq=>n1 (z▸h1 a q)⟩
    ·exact⟨aj _ (q3 a z).1,(q3 a z).2⟩
 |@ow n0 d0 v0 ms ρ σ f fp h t ih=>
  intro nd e
  cases i with
  |zero=>
   obtain⟨w1,w2,w3⟩:=jq (F:=F) (H:=H) (fp:=f) s (λa z=>(h.cells a z).1)
   obtain⟨n1,n2,n3⟩:=br.mp nd
   refine⟨f,λa z=>bx _ z,[]++fp,.ow ⟨h.dt w1 w3,rfl⟩ (t.frame w1 λa z=>⟨rfl,?_⟩),n2,λa z=>⟨aH _ z,λq=>n3 a q a z rfl⟩⟩
   unfold iF
   rw[if_neg λq=>n3 a q a z rfl]
   exact(t.cells a z).1
  |succ i=>
   obtain⟨n1,n2,n3⟩:=br.mp nd
   obtain⟨f1,h1,iD,q1,q2,q3⟩:=ih (i:=i) n2 (by simpa using e)
   obtain⟨w1,w2,w3⟩:=jq (F:=F) (H:=H) (fp:=f1) s (λa z=>(t.cells a (h1 a z)).1)
   refine⟨f1,λa z=>aH _ (h1 a z),f++iD,.ow (h.frame w1 λa z=>⟨rfl,?_⟩) q1,br.mpr ⟨n1,q2,λa z b zb=>n3 a z b (q3 b zb).1⟩,λa z=>?_⟩
   ·unfold iF
    rw[if_neg λq=>n3 a z a (h1 a q) rfl]
    exact(h.cells a z).1
   ·rcases bg.mp z with z|z
    ·exact⟨bx _ z,λq=>n3 a z a (h1 a q) rfl⟩
    ·exact⟨aH _ (q3 a z).1,(q3 a z).2⟩
theorem SL.forget (m':Mo){ms:List Mo}{ρ:Env}{σ:St}{fp:List ai}(i:Nat)(h0:SL K ct F B H ms ρ σ fp):∃iD,SL K ct F B H (ms.set i m') (ρ.set i none) σ iD/\iD.Sublist fp:=by
 induction h0 generalizing i with
 |nil=>
  exact⟨[],.nil,.refl _⟩
 |@no m0 o0 ms ρ σ fp t ih=>
  cases i with
  |zero=>
   exact⟨fp,.no t,.refl _⟩
  |succ i=>
   obtain⟨iD,q1,q2⟩:=ih i
   exact⟨iD,.no q1,q2⟩
 |@al n0 d0 v0 ms ρ σ fp h t ih=>
  cases i with
  |zero=>
   exact⟨fp,.no t,.refl _⟩
  |succ i=>
   obtain⟨iD,q1,q2⟩:=ih i
   exact⟨iD,.al h q1,q2⟩
 |@px d0 v0 ms ρ σ fp h t ih=>
  cases i with
  |zero=>
   exact⟨fp,.no t,.refl _⟩
  |succ i=>
   obtain⟨iD,q1,q2⟩:=ih i
   exact⟨iD,.px h q1,q2⟩
 |@so d0 x ms ρ σ fp h t ih=>
  cases i with
  |zero=>
   exact⟨fp,.no t,List.sublist_cons_self _ _⟩
  |succ i=>
   obtain⟨iD,q1,q2⟩:=ih i
   exact⟨_,.so h q1,q2.cons₂ _⟩
 |@ow n0 d0 v0 ms ρ σ f fp h t ih=>
  cases i with
  |zero=>
   exact⟨fp,.no t,List.sublist_append_right _ _⟩
  |succ i=>
   obtain⟨iD,q1,q2⟩:=ih i
   exact⟨_,.ow h q1,(List.Sublist.refl _).append q2⟩
theorem RS.fz {ms:List Mo}{ρ:Env}{σ:St}{i k:Nat}(rs:RS K ct F0 B ms F H ρ σ)(hm:ms[i]?=some (.ow k)):∃F',RS K ct F0 B (ms.set i (.ow 0)) F' H ρ σ:=by
 obtain⟨fp,sl,nd,hb⟩:=rs.sl
 obtain⟨f1,h1,iD,q1,q2,q3⟩:=sl.fz rs.fh nd hm
 obtain⟨w1,w2,w3⟩:=jq (F:=F) (H:=H) (fp:=f1) rs.fh (λa z=>(sl.cells a (h1 a z)).1)
 refine⟨iF F H f1,rs.f0.trans w1,rs.bh,w2,λa o ho hn=>?_,iD,q1,q2,λa z=>hb a (q3 a z).1⟩
 have:¬a∈f1:=λz=>by rw[hb a (h1 a z)]at ho;cases ho
 unfold iF;rw[if_neg this];exact rs.nf a o ho hn
theorem RS.forget {ms:List Mo}{ρ:Env}{σ:St}(m':Mo)(i:Nat)(rs:RS K ct F0 B ms F H ρ σ):RS K ct F0 B (ms.set i m') F H (ρ.set i none) σ:=by
 obtain⟨fp,sl,nd,hb⟩:=rs.sl
 obtain⟨iD,q1,q2⟩:=sl.forget m' i
 exact⟨rs.f0,rs.bh,rs.fh,rs.nf,iD,q1,q2.nodup nd,λa z=>hb a (q2.subset z)⟩
end
def uV (i:Nat):Out->Out
 |.nx ρ=>.nx (ρ.set i none)
 |.rt d=>.rt d
 |.bk ρ=>.bk (ρ.set i none)
 |.ct ρ=>.ct (ρ.set i none)
def sFz (i:Nat)(u:SF):SF:=λρ=>(u ρ).bind λo=>some (uV i o)
section
variable {X:Cx}{ct:Nat->ai}{ms:List Mo}{rk k:Nat}
theorem zlb {ms:List Mo}{i k:Nat}(hm:ms[i]?=some (.ow k)):(ms.set i (.ow 0)).set i (.ow k)=ms:=by
 rw[List.set_set]
 apply fk
 intro j
 rw[tE]
 split
 ·next h=>
  subst h
  rw[hm]
  have:=(aW.mp hm).1
  rw[if_pos this]
 ·rfl
theorem zwv {i:Nat}{t:lQ->St->Hp->Prop}{w:SF}(hm:ms[i]?=some (.ow k))
  (q:∀(F0 B F H:Hp) (ρ:Env) (σ:St) (o:Out) (E:lQ),RS X.K ct F0 B (ms.set i (.ow 0)) F H ρ σ->w ρ=some o->my X.K ct F0 B (ms.set i (.ow 0)) rk E o->t E σ H)
  (F0 B F H:Hp) (ρ:Env) (σ:St) (o:Out) (E:lQ) (rs:RS X.K ct F0 B ms F H ρ σ) (e:sFz i w ρ=some o) (z:my X.K ct F0 B ms rk E o):t E σ H:=by
 obtain⟨F',r2⟩:=rs.fz hm
 obtain⟨o1,e1,e2⟩:=aY e
 refine q F0 B F' H ρ σ o1 E r2 e1 ?_
 have back:∀{ρ':Env} {σ':St} {F2 H2:Hp},RS X.K ct F0 B (ms.set i (.ow 0)) F2 H2 ρ' σ'->RS X.K ct F0 B ms F2 H2 (ρ'.set i none) σ':=λr=>by
  have:=r.forget (.ow k) i
  rw[zlb hm]at this
  exact this
 cases o1 with
 |nx ρ'=>cases e2;exactλσ' F2 H2 r=>z σ' F2 H2 (back r)
 |rt d=>cases e2;exact z
 |bk ρ'=>cases e2;exactλσ' F2 H2 r=>z σ' F2 H2 (back r)
 |ct ρ'=>cases e2;exactλσ' F2 H2 r=>z σ' F2 H2 (back r)
theorem Px {Ry:List bT}{w:SF}{i:Nat}(hm:ms[i]?=some (.ow k))(h:sJ X ct (ms.set i (.ow 0)) rk Ry w):sJ X ct ms rk Ry (sFz i w):=by
 obtain⟨t,pt,qt⟩:=h
 exact⟨t,pt,zwv hm qt⟩
theorem zpq {i:Nat}{d:D}:uV i (.rt d)=.rt d:=rfl
theorem zpr {i:Nat}{ρ:Env}:uV i (.nx ρ)=.nx (ρ.set i none):=rfl
end
end L3
namespace L3
open PySem PySem.Spec L2
open PyProof.Rows hiding St
section
variable {X:Cx}{ct:Nat->ai}{ms:List Mo}{rk n m k:Nat}{a b c tg:Expr}{pos:dF}
end
end L3
namespace L2
open PySem PySem.Spec PyProof.Rows
section
variable {X:Cx}{pN:List Expr}{kt:Nat}{pt:dF}
end
end L2
namespace L3
open PySem PySem.Spec L2
open PyProof.Rows hiding St
section
variable {X:Cx}{ct:Nat->ai}{ms:List Mo}{n:Nat}{a b:Expr}{pos:dF}
end
end L3
namespace L3
open PySem PySem.Spec L2
open PyProof.Rows hiding St
section
variable {K:ae}{ct:Nat->ai}{n m k:Nat}
end
end L3
namespace L2
open PySem PySem.Spec PyProof.Rows
section
variable {X:Cx}{e sp:Expr}{te:TE}{tp:TO}{pos p2:dF}
end
end L2
namespace L3
open PySem PySem.Spec L2
open PyProof.Rows hiding St
section
variable {X:Cx}{ct:Nat->ai}{ms:List Mo}{n m:Nat}{e sp:Expr}{f g:EF}{pos p1:dF}
end
end L3
namespace L3
open PySem PySem.Spec L2
open PyProof.Rows hiding St
def kg {α:Type}(p q:Nat)(rv:Bool)(us ws:List α):List α:=if us.length=p/\ws.length=q then us++(if rv then ws.reverse else ws)else[]
section
variable {X:Cx}{ct:Nat->ai}{ms:List Mo}{rk n m k kk:Nat}{e a:Expr}{f:EF}{x:aX}{pp pos Bw:dF}{fa:ai}{fd:aK}{ps ks:List aX}{mf:List D->Option D}
end
end L3
namespace L3
open PySem PySem.Spec L2
open PyProof.Rows hiding St
section
variable {X:Cx}{ct:Nat->ai}{ms:List Mo}{rk n m k:Nat}{st:bT}{rest:List bT}{a b c e tg:Expr}{f g h:EF}{p q:BF}{u w:SF}{pos:dF}
end
end L3
namespace L3
open PySem PySem.Spec L2
open PyProof.Rows hiding St
theorem zs4:qD (af.type "list_reverseiterator") (aX.ofString "__len__")=pure none:=by with_unfolding_all rfl
theorem zps:qD (af.type "list_reverseiterator") (aX.ofString "__length_hint__")=pure (some (af.builtin "list_reverseiterator.__length_hint__")):=by with_unfolding_all rfl
theorem znc:splitId "list_reverseiterator.__length_hint__"=some ("list_reverseiterator","__length_hint__"):=by with_unfolding_all rfl
theorem zs5:isSubtype (af.type "list_reverseiterator") (af.type "list_reverseiterator")=pure true:=by with_unfolding_all rfl
theorem zpt {prog:bJ}{w:cw}{A:bX}{E:af->ap->Prop}{s:ap}{it l:ai}{i:Int}{Q:Bool->ap->Prop}(st:s.heap.IsRevIter it l i)(h:Q false s):bj (bi prog w) A (fV.List.listLengthHint (af.ref it)) Q E s:=by
 unfold fV.List.listLengthHint
 refine aV (pw st.typeIs zs4 ?_)
 simp only[]
 refine aV (pw st.typeIs zps ?_)
 simp only[znc]
 refine aV (wpAny_isInstance st.typeIs zs5 ?_)
 rw[if_neg (by decide)]
 rw[if_pos (by with_unfolding_all decide),if_neg (by decide)]
 exact bZ h
theorem zlc {prog:bJ}{w:cw}{A:bX}{s:ap}{R:Result->ap->Prop}{it l:ai}{items:Array af}(hh:A.handled=none)(st:s.heap.IsRevIter it l ((items.size:Int)-1))(hl:s.heap.IsList l items)(i7:l≠it)(hsz:items.size<=sizeLine)(S:ai)(res:af)(c₀:Nat)(hS:s.heap.get? S=some { cls:=af.type "list",data:=kG.seq #[] c₀ })(W5:S≠l)
    (hR:∀(h':bc) (tk:Nat) (kh:Array af) (c':Nat),(∀(b:ai) (o:d8),b≠S->b≠it->s.heap.get? b=some o->h'.get? b=some o)->h'.get? S=some { cls:=af.type "list",data:=kG.seq kh c' }->ItemsOf (λi v=>items[items.size-1-i]?=some v) kh items.size->R (Except.ok (Flow.ret res)) { s with heap:=h',toks:=tk }) :
    bj (bi prog w) A.in1 (fV.List.listExtendWith (af.ref S) (af.ref it) res) (λfin s'=>match fin with|Fin.done f=>R (Except.ok f) s'|Fin.again c'=>c'.quiet=true/\gS (bi prog w) A c' R s') (λe s'=>R (Except.error e) s') s:=by
  have Fm:S≠it:=λe=>by
    obtain⟨o,h1,h2,h3⟩:=st
    rw[←e,hS]at h1
    cases h1
    simp at h2
  have W:=(Walks.listRev (prog:=prog) (w:=w) (A:=A.in1) hh it l i7 items).toS
  have key:gS (bi prog w) A (rJ.builtin "list.extend.loop" { pos:=[af.ref S,af.ref it,res] }) R s:=by
    refine codeAny_extend_loopS W hsz S (by simp[Fm,W5]) res items.size 0 s #[] c₀ rfl (dr _) ⟨dr _,by simpa using st,hl⟩ hS (ItemsOf.nil _) λs' kh c' hm MF rc=>?_
    rw[Moved.eq_with hm]
    exact hR s'.heap s'.toks kh c' (λb o hb hi e=>hm.heap b o (by simp[hb,hi]) e) MF rc
  unfold fV.List.listExtendWith
  refine aV (wpAny_typeOf st.typeIs ?_)
  have h1:fV.List.listSameRef (af.ref S) (af.ref it)=false:=by simp[fV.List.listSameRef,Fm]
  have h2:(af.type "list_reverseiterator" == af.type "list")=false:=by decide
  have h3:(af.type "list_reverseiterator" == af.type "tuple")=false:=by decide
  simp only[h1,h2,h3,xV,dD,if_false]
  refine aV (wpAny_pyIter_revIter st ?_)
  refine aV (mI (zpt st ?_))
  rw[if_neg (by with_unfolding_all decide)]
  exact bZ ⟨plainId_quiet F.plain_extend_loop _,key⟩
theorem zgg {prog:bJ}{w:cw}{A:bX}{E:af->ap->Prop}{s:ap}{Q:af->ap->Prop}{it l:ai}{items:Array af}(hh:A.handled=none)(st:s.heap.IsRevIter it l ((items.size:Int)-1))(hl:s.heap.IsList l items)(i7:l≠it)(hsz:items.size<=sizeLine)
    (hQ:∀(h':bc) (tk:Nat) (kh:Array af) (c':Nat),(∀(b:ai) (o:d8),b≠it->s.heap.get? b=some o->h'.get? b=some o)->h'.get? s.heap.objs.size=some { cls:=af.type "list",data:=kG.seq kh c' }->ItemsOf (λi v=>items[items.size-1-i]?=some v) kh items.size->Q (af.ref s.heap.objs.size) { s with heap:=h',toks:=tk }) :
    bj (bi prog w) A (call (af.type "list") [af.ref it]) Q E s:=by
  refine callType_codes (Q₁:=λobj s₁=>obj=af.ref s.heap.objs.size/\s₁ = { s with heap:=s.heap.push { cls:=af.type "list",data:=kG.seq #[] } }) F.called_list (F.typeCall_list_1 (af.ref it)) F.entry_list_init (code_list_new (af.ref it) ⟨rfl,rfl⟩) λobj s₁ h₁=>?_
  obtain⟨rfl,rfl⟩:=h₁
  have hS:=bW s.heap (o:={ cls:=af.type "list",data:=kG.seq #[] }) rfl
  refine⟨⟨_,hS,rfl⟩,F.args_list_init_2 (af.ref s.heap.objs.size) (af.ref it),?_⟩
  have GZ:∀b o,s.heap.get? b=some o->b≠s.heap.objs.size:=λb o e=>bE (aR e)
  have Xr:s.heap.objs.size≠l:=λe=>by
    obtain⟨o,h1,_⟩:=hl
    exact GZ l o h1 e.symm
  have X1:(#[]:Array af).size<=sizeLine:=dr _
  have rn:(#[]:Array af).size<=sizeLine+1:=dr _
  show bj _ _ (fV.List.listItems (af.ref s.heap.objs.size) >>= _) _ _ _
  refine aV ?_
  show bj _ _ (seqItems? (af.ref s.heap.objs.size) >>= _) _ _ _
  refine aV (wpAny_seqItems hS rfl ?_)
  refine bZ ?_
  show bj _ _ (updateSeq s.heap.objs.size (λ_=>#[]) >>= _) _ _ _
  refine aV (wpAny_updateSeq hS rfl ?_ X1 rn)
  have W6:((s.heap.push { cls:=af.type "list",data:=kG.seq #[] }).update s.heap.objs.size (d8.mapSeq λ_=>#[])).get? s.heap.objs.size=some { cls:=af.type "list",data:=kG.seq #[] 0 }:=pV (d8.mapSeq λ_=>#[]) hS rfl
  have Nw:∀(b:ai) (o:d8),b≠s.heap.objs.size->s.heap.get? b=some o->((s.heap.push { cls:=af.type "list",data:=kG.seq #[] }).update s.heap.objs.size (d8.mapSeq λ_=>#[])).get? b=some o:=λb o hb e=>(jC _ _ (Ne.symm hb)).trans (aJ _ e)
  refine aV (wpAny_letGo ?_)
  obtain⟨oi,i1,i2,i3⟩:=st
  obtain⟨ol,l1,l2,l3⟩:=hl
  refine zlc (A:=A.in1) (R:=wants (λr s₂=>r=af.none/\Q (af.ref s.heap.objs.size) s₂) E) (s:={ s with heap:=(s.heap.push { cls:=af.type "list",data:=kG.seq #[] }).update s.heap.objs.size (d8.mapSeq λ_=>#[]) }) (l:=l) (items:=items) hh ⟨oi,Nw it oi (GZ it oi i1) i1,i2,i3⟩ ⟨ol,Nw l ol (GZ l ol l1) l1,l2,l3⟩ i7 hsz s.heap.objs.size af.none _ W6 Xr λh' tk kh c' hk MF rc=>⟨rfl,hQ h' tk kh c' (λb o hb e=>hk b o (GZ b o e) hb (Nw b o (GZ b o e) e)) MF rc⟩
section
variable {X:Cx}{ct:Nat->ai}{ms:List Mo}{rk n m k:Nat}{a e:Expr}{f:EF}{pos:dF}
def yV (K:ae):V->Hp->VK->Prop:=λx H Q=>∃a xs,x=.ref a/\fX K H a xs/\∀p,H p=none->Q (.ref p) (d4 H p (.lst xs.reverse))
def Io (K:ae)(te:TE):TE:=λσ H Q=>te σ H λx H1=>yV K x H1 Q
theorem zs6 {te:TE}{p1 p2 gX:dF}(hc:X.calm=true)(hg:Gl X "list")(hm:X.mg "list"=none)(oE:Gl X "reversed")(n8:X.mg "reversed"=none)(he:PE X e te)(hs:ay [e] X.env=[(false,bY e X.env)]:=by rfl)
  (nP:ay [.Call (.Name "reversed" p2) [e] [] gX] X.env=[(false,bY (.Call (.Name "reversed" p2) [e] [] gX) X.env)]:=by rfl) :
  PE X (.Call (.Name "list" p1) [.Call (.Name "reversed" p2) [e] [] gX] [] pos) (Io X.K te):=by
 intro am s σ H Q I h
 refine dM (xR I hg hm zG ?_ (by decide) (by decide))
 refine cK ?_ nP rfl
 rw[nP]
 show bj _ _ (spliced ((false,bY (.Call (.Name "reversed" p2) [e] [] gX) X.env)::[])) _ _ s
 refine Calls.spliced_cons ?_
 refine dM (xR (u:=.type "reversed") I oE n8 (by rfl) ?_ (by decide) (by decide))
 refine cK (dC ((v4 he tT hs) gX am s σ H (λvs H1=>match vs with|[x]=>yV X.K x H1 Q|_=>False) I h) λus s1 ⟨vs,H1,I1,r,q⟩=>?_) hs rfl
 match vs,q with
 |[x],q=>
  obtain⟨a,xs,rfl,hq,q⟩:=q
  obtain⟨u,rfl,ru⟩:=r.one
  cases ru
  obtain⟨cv,rv,pl,hz⟩:=I1.list hq
  have hl:=rv.length
  refine call_reversed_list pl.isList (Calls.spliced_nil ?_)
  have I2:L2.Inv X am σ H1 { s1 with heap:=s1.heap.push (xZ a ((cv.toArray.size:Int)-1)) }:=I1.kept (t':=s1.toks) λb o e=>aJ _ e
  have st:(s1.heap.push (xZ a ((cv.toArray.size:Int)-1))).IsRevIter s1.heap.objs.size a ((cv.toArray.size:Int)-1):=⟨_,bW _ rfl,rfl,by simp[xZ]⟩
  have ZF:(s1.heap.push (xZ a ((cv.toArray.size:Int)-1))).IsList a cv.toArray:=by
   obtain⟨o,h1,h2⟩:=pl.isList
   exact⟨o,aJ _ h1,h2⟩
  have VT:a≠s1.heap.objs.size:=by
   obtain⟨o,h1,h2⟩:=pl.isList
   exact bE (aR h1)
  refine zgg (I2.ok.hd hc) st ZF VT (by rw[aL,←hl];exact hz) λh' tk kh c' kp hS rc=>?_
  have yM:(s1.heap.push (xZ a ((cv.toArray.size:Int)-1))).objs.size=s1.heap.objs.size+1:=by simp[bc.push]
  have hv:ck xs.reverse kh.toList:=by
   obtain⟨e1,e2⟩:=rc
   have e3:kh.size=cv.length:=by rw[e1,aL]
   refine O1 ((fN).trans (hl.trans (e3.symm.trans cN.symm))) λi x u hx hu=>?_
   have hi:i<xs.length:=by
    have:=(aW.mp hx).1
    rwa[fN]at this
   rw[List.getElem?_reverse hi]at hx
   obtain⟨u',FQ,ru⟩:=rv.get hx
   have:=e2 i u (by simpa using hu)
   rw[aL,←hl]at this
   have h3:cv[xs.length-1-i]?=some u:=by simpa using this
   rw[FQ]at h3
   cases h3
   exact ru
  have dB:xs.reverse.length<=sizeLine:=by rw[fN];exact hz
  refine⟨.ref _,_,I1.laid (t':=tk) (λb o e=>kp b o (bE (aR e)) (aJ _ e)) (by rw[yM];omega) (show eu X.prog X.w _ h' _ (.lst _)from⟨dB,kh.toList,c',hv,hS⟩),rfl,q _ (I1.hok.fresh (by rw[yM];omega))⟩
def uR:D->Option D
 |.lst ds=>some (.lst ds.reverse)
 |_=>none
theorem zs7 {p1 p2 gX:dF}(hn:n<=1)(hc:X.calm=true)(hg:Gl X "list")(hm:X.mg "list"=none)(oE:Gl X "reversed")(n8:X.mg "reversed"=none)(he:XE X ct ms n e f)(hs:ay [e] X.env=[(false,bY e X.env)]:=by rfl)
  (nP:ay [.Call (.Name "reversed" p2) [e] [] gX] X.env=[(false,bY (.Call (.Name "reversed" p2) [e] [] gX) X.env)]:=by rfl) :
  XO X ct ms 1 (.Call (.Name "list" p1) [.Call (.Name "reversed" p2) [e] [] gX] [] pos) (e1 uR f):=by
 obtain⟨t,pt,qt⟩:=he
 refine⟨_,zs6 hc hg hm oE n8 pt hs nP,λF0 B F H ρ σ r Q rs e w=>?_⟩
 obtain⟨d,h1,h2⟩:=aY e
 refine qt F0 B F H ρ σ d _ rs h1 λv F1 H1 x1 l=>?_
 cases d with
 |lst ds=>
  cases h2
  obtain⟨a,vs,rfl,ha,hp⟩:=Al.lst1 hn l x1.fh
  exact⟨a,vs,rfl,ha,zI x1.fh (Pr.reverse hp) λv F2 H2 fp x2 l2 nd hf=>w v F2 H2 fp (x1.trans x2) l2 nd λz hz=>x1.hh.free (hf z hz)⟩
 |_=>cases h2
end
end L3
namespace L3
open PySem PySem.Spec L2
open PyProof.Rows hiding St
section
variable {X:Cx}{ct:Nat->ai}{ms:List Mo}{n m l k:Nat}{a b c:Expr}{f g h:EF}{pos:dF}
theorem zpu {r r':R2}{o o':D->D->Option D}{ta Iw tc:TE}(hs:lI X.K ct n m k r o)(FL:lI X.K ct m l k r' o')
  (qa:∀(F0 B F H:Hp) (ρ:Env) (σ:St) (d:D) (Q:VK),RS X.K ct F0 B ms F H ρ σ->f ρ=some d->(∀v F' H',gD F H F' H'->Al X.K ct F' H' n d v->Q v H')->ta σ H Q)
  (qb:∀(F0 B F H:Hp) (ρ:Env) (σ:St) (d:D) (Q:VK),RS X.K ct F0 B ms F H ρ σ->g ρ=some d->(∀v F' H',gD F H F' H'->Al X.K ct F' H' m d v->Q v H')->Iw σ H Q)
  (qc:∀(F0 B F H:Hp) (ρ:Env) (σ:St) (d:D) (Q:VK),RS X.K ct F0 B ms F H ρ σ->h ρ=some d->(∀v F' H',gD F H F' H'->Al X.K ct F' H' l d v->Q v H')->tc σ H Q)
  {F0 B F H:Hp} {ρ:Env} {σ:St} {t:Bool} {Q:VK} (rs:RS X.K ct F0 B ms F H ρ σ) (e:bAnd (tb (e2 o f g)) (tb (e2 o' g h)) ρ=some t) (w:∀F' H',gD F H F' H'->Q (.bl t) H'):vC r r' ta Iw tc σ H Q:=by
 obtain⟨b1,e1,e3⟩:=aY e
 obtain⟨z1,z2,z3⟩:=aY e1
 rw[zC z3]at z2
 obtain⟨d1,d2,h1,h2,h3⟩:=dP z2
 refine qa F0 B F H ρ σ d1 _ rs h1 λx F1 H1 x1 l1=>?_
 refine qb F0 B F1 H1 ρ σ d2 _ (rs.ext x1) h2 λy F2 H2 x2 l2=>?_
 refine hs F2 H2 x y d1 d2 _ _ x2.fh (l1.mono x2.ff x2.hh) l2 h3 λv F3 H3 x3 l3=>⟨b1,l3.bl,?_⟩
 have Cz:=x1.trans (x2.trans x3)
 cases b1 with
 |false=>
  rw[if_neg aQ]at e3 ⊢
  cases e3
  exact w F3 H3 Cz
 |true=>
  rw[if_pos rfl]at e3 ⊢
  obtain⟨z1',RI,z3'⟩:=aY e3
  rw[zC z3']at RI
  obtain⟨d2',d3,h4,h5,h6⟩:=dP RI
  rw[h2]at h4
  cases h4
  refine qc F0 B F3 H3 ρ σ d3 _ (rs.ext Cz) h5 λu F4 H4 x4 l4=>?_
  exact FL F4 H4 y u d2 d3 _ _ x4.fh ((l2.mono x3.ff x3.hh).mono x4.ff x4.hh) l4 h6 λv' F5 H5 x5 l5=>by
   rw[l5.bl]
   exact w F5 H5 (Cz.trans (x4.trans x5))
theorem zpv {op BC:kx}{r r':R2}{o o':D->D->Option D}(ho:gu X (cu op) r)(hs:lI X.K ct n m k r o)(uL:gu X (cu BC) r')(FL:lI X.K ct m l k r' o')(ha:XE X ct ms n a f)(hb:XE X ct ms m b g)(hc:XE X ct ms l c h)
  (hm:lastMarks [op,BC] [b,c]=false:=by with_unfolding_all rfl):XT X ct ms (.Compare a [op,BC] [b,c] pos) (bAnd (tb (e2 o f g)) (tb (e2 o' g h))):=by
 obtain⟨ta,pa,qa⟩:=ha
 obtain⟨Iw,pb,qb⟩:=hb
 obtain⟨tc,pc,qc⟩:=hc
 refine⟨_,zos ho uL pa pb pc hm,λF0 B F H ρ σ t Q rs e w=>?_⟩
 exact zpu hs FL qa qb qc rs e λF' H' x=>⟨t,rfl,w F' H' x⟩
end
end L3
namespace L3
open PySem PySem.Spec L2
open PyProof.Rows hiding St
def Ce (f:EF):EF:=λρ=>(f ρ).bind λd=>if d.sc=true then some d else none
section
variable {X:Cx}{ct:Nat->ai}{ms:List Mo}{rk n m k:Nat}{a b c e tg:Expr}{f g h:EF}{pos:dF}
theorem Va (he:XE X ct ms n e f):XO X ct ms k e (Ce f):=by
 obtain⟨t,p,q⟩:=he
 refine⟨t,p,λF0 B F H ρ σ d Q r e w=>?_⟩
 obtain⟨d0,h1,h2⟩:=aY e
 by_cases hs:d0.sc=true
 ·rw[if_pos hs]at h2
  cases h2
  exact q F0 B F H ρ σ d Q r h1 λv F' H' x l=>w v F' H' [] x (Ow.scal (Al.scal l hs) hs) bQ λa z=>(by cases z)
 ·rw[if_neg hs]at h2;cases h2
end
end L3
namespace L3
open PySem PySem.Spec L2
open PyProof.Rows hiding St
section
variable {X:Cx}{ct:Nat->ai}{ms:List Mo}{n:Nat}{e tg:Expr}{f:EF}{pos:dF}
end
end L3
namespace L3
open PySem PySem.Spec L2
open PyProof.Rows hiding St
section
variable {X:Cx}{K:ae}{ct:Nat->ai}{ms:List Mo}{n k:Nat}
end
end L3
namespace L3
open PySem PySem.Spec L2
open PyProof.Rows hiding St
def rN (ns:List Int):List Int:=firstMet (λi=>ns.getD i 0) ns.length
section
variable {X:Cx}{ct:Nat->ai}{ms:List Mo}{rk n m k:Nat}{a b c e:Expr}{f g h:EF}{pos:dF}
theorem znd (hc:X.calm=true):eK X (.type "set") (λxs H Q=>∃(a:ai) (ns:List Int),xs=[.ref a]/\fX X.K H a (ns.map V.int)/\ns.length<4000/\∀p,H p=none->Q (.ref p) (d4 H p (.set (λk=>(rN ns).any (· == k)) (rN ns).length))):=by
 intro am s σ H xs us Q I r h
 obtain⟨a,ns,rfl,hq,WW,q⟩:=h
 obtain⟨u,rfl,ru⟩:=r.one
 cases(show u=af.ref a from ru)
 obtain⟨cv,rv,pl,hz⟩:=I.list hq
 have hi:=IntsAre.of rv
 have dB:cv.length=ns.length:=by rw[←rv.length,ah]
 have hsz:cv.toArray.size=ns.length:=by rw[aL,dB]
 refine call_set_list (items:=cv.toArray) (ns:=ns) (I.ok.hd hc) pl.isList (by simpa using hi) (by rw[hsz];unfold scanBound;omega) λh' tk hS hk=>?_
 rw[hsz]at hS
 exact⟨.ref _,_,I.laid (a:=s.heap.objs.size) (o:=.set (λk=>(rN ns).any (· == k)) (rN ns).length) (t':=tk) (λb u hb=>hk b u (aR hb) hb) (aM _) hS,rfl,q _ (I.hok.fresh (aM _))⟩
theorem zne:eK X (.builtin "len") (λxs H Q=>∃(p:ai) (S:Int->Bool) (n:Nat),xs=[.ref p]/\H p=some (.set S n)/\Q (.int n) H):=by
 intro am s σ H xs us Q I r h
 obtain⟨p,S,n,rfl,hp,q⟩:=h
 obtain⟨u,rfl,ru⟩:=r.one
 cases(show u=af.ref p from ru)
 obtain⟨o,es,ep,t,h1,h2,h3,h4,h5,h6,h7,h8⟩:=(show s.heap.SetOf (intKind X.prog X.w) p S n from I.hok p _ hp)
 refine call_len_set h1 h2 h3 h7 (by unfold scanBound at h6;omega) ?_
 refine⟨.int n,H,I.kept (t':=s.toks+1+1) (λ_ _ h=>h),⟨s.toks+1,by rw[h8]⟩,q⟩
def oY:D->Option D
 |.lst ds=>(eL ds).bind λns=>if ns.length<4000 then some (.int ((rN ns).length:Int))else none
 |_=>none
theorem znf {p1 p2 gX:dF}(hc:X.calm=true)(hg:Gl X "len")(hm:X.mg "len"=none)(oE:Gl X "set")(n8:X.mg "set"=none)(he:XE X ct ms n e f)(hs:ay [e] X.env=[(false,bY e X.env)]:=by rfl)
  (nP:ay [.Call (.Name "set" p2) [e] [] gX] X.env=[(false,bY (.Call (.Name "set" p2) [e] [] gX) X.env)]:=by rfl) :
  XE X ct ms k (.Call (.Name "len" p1) [.Call (.Name "set" p2) [e] [] gX] [] pos) (e1 oY f):=by
 obtain⟨t,pt,qt⟩:=he
 refine⟨_,IP zne hg hm UW (v4 (Oq (znd hc) oE n8 zu4 (v4 pt tT hs) (by decide) (by decide) hs (by rfl)) tT nP) (by decide) (by decide) nP (by rfl),λF0 B F H ρ σ d Q rs e w=>?_⟩
 obtain⟨d1,h1,h2⟩:=aY e
 cases d1 with
 |lst ds=>
  obtain⟨ns,h3,h4⟩:=aY (show(eL ds).bind _=_ from h2)
  by_cases hz:ns.length<4000
  ·rw[if_pos hz]at h4
   cases h4
   refine qt F0 B F H ρ σ _ _ rs h1 λv F1 H1 x1 l1=>?_
   have Fu:=Ox h3
   subst Fu
   obtain⟨a,vs,rfl,ha,hp⟩:=l1.lst x1.fh
   have hv:=hp.intV
   subst hv
   refine⟨a,ns,rfl,ha,hz,λp MZ=>⟨p,_,_,rfl,yt,?_⟩⟩
   exact w _ F1 _ (x1.trans (gD.newO x1.fh MZ _)) (Al.of (.int _))
  ·rw[if_neg hz]at h4;cases h4
 |_=>cases h2
end
end L3
namespace L3
open PySem PySem.Spec L2
open PyProof.Rows hiding St
def i9:D->Bool
 |.lst _=>true
 |.dK _ _=>true
 |.dT _ _=>true
 |_=>false
theorem Ow.cell {K:ae}{ct:Nat->ai}{F H:Hp}{d:D}{v:V}{fp:List ai}(h:Ow K ct F H 1 d v fp)(hc:i9 d=true):∃a,v=.ref a/\fp=[a]:=by
 cases d with
 |lst ds=>obtain⟨a,vs,fr,rfl,rfl,_,_,ol⟩:=h.lst_inv;have e0:=ol.nil0;subst e0;exact⟨_,rfl,rfl⟩
 |dK ks ds=>obtain⟨a,vs,fr,rfl,rfl,_,_,_,ol⟩:=h.dK_inv;have e0:=ol.nil0;subst e0;exact⟨_,rfl,rfl⟩
 |dT ks ds=>obtain⟨a,vs,fr,rfl,rfl,_,_,_,ol⟩:=h.dT_inv;have e0:=ol.nil0;subst e0;exact⟨_,rfl,rfl⟩
 |_=>cases hc
section
variable {K:ae}{ct:Nat->ai}{F F' H H' B F0:Hp}
theorem SL.putS {x:ai}{d:D}{ms:List Mo}{ρ:Env}{σ:St}{fp:List ai}{i:Nat}(h0:SL K ct F B H ms ρ σ fp):fp.Nodup->ms[i]?=some (.so x)->ρ[i]?=some (some d) ->
  σ[i]?=some (some (.ref x))/\Ow K ct F H 1 d (.ref x) [x]/\x∈fp/\∀(F' H':Hp) (d':D),ce F F'->(∀a∈fp,a≠x->H' a=H a/\F' a=none)->Ow K ct F' H' 1 d' (.ref x) [x]->SL K ct F' B H' ms (ρ.set i (some d')) σ fp:=by
 induction h0 generalizing i with
 |nil=>
  intro _ e _
  simp at e
 |@no m0 o0 ms ρ σ fp t ih=>
  intro nd e e'
  cases i with
  |zero=>
   have e:=e'
   simp at e
  |succ i=>
   obtain⟨h1,h2,h3,h4⟩:=ih (i:=i) nd (by simpa using e) (by simpa using e')
   exact⟨by simpa using h1,h2,h3,λF' H' d' s k o=>.no (h4 F' H' d' s k o)⟩
 |@al n0 d0 v0 ms ρ σ fp h t ih=>
  intro nd e e'
  cases i with
  |zero=>
   simp at e
  |succ i=>
   obtain⟨h1,h2,h3,h4⟩:=ih (i:=i) nd (by simpa using e) (by simpa using e')
   exact⟨by simpa using h1,h2,h3,λF' H' d' s k o=>.al (h.mono s (.refl _)) (h4 F' H' d' s k o)⟩
 |@px d0 v0 ms ρ σ fp h t ih=>
  intro nd e e'
  cases i with
  |zero=>
   simp at e
  |succ i=>
   obtain⟨h1,h2,h3,h4⟩:=ih (i:=i) nd (by simpa using e) (by simpa using e')
   exact⟨by simpa using h1,h2,h3,λF' H' d' s k o=>.px (h.mono s (.refl _)) (h4 F' H' d' s k o)⟩
 |@so d0 y ms ρ σ Mm h t ih=>
  intro nd e e'
  cases i with
  |zero=>
   simp at e e'
   subst e
   subst e'
   obtain⟨n1,n2⟩:=bP.mp nd
   exact⟨rfl,h,aa,λF' H' d' s k o=>.so o (t.frame s λa z=>k a (aj _ z) λe=>n1 (e▸z))⟩
  |succ i=>
   obtain⟨n1,n2⟩:=bP.mp nd
   obtain⟨h1,h2,h3,h4⟩:=ih (i:=i) n2 (by simpa using e) (by simpa using e')
   refine⟨by simpa using h1,h2,aj _ h3,λF' H' d' s k o=>.so (h.frame s λa z=>?_) (h4 F' H' d' s (λa z=>k a (aj _ z)) o)⟩
   rw[az]at z
   subst z
   exact k a aa λe=>n1 (e▸h3)
 |@ow n0 d0 v0 ms ρ σ f Mm h t ih=>
  intro nd e e'
  cases i with
  |zero=>
   simp at e
  |succ i=>
   obtain⟨n1,n2,n3⟩:=br.mp nd
   obtain⟨h1,h2,h3,h4⟩:=ih (i:=i) n2 (by simpa using e) (by simpa using e')
   refine⟨by simpa using h1,h2,aH _ h3,λF' H' d' s k o=>.ow (h.frame s λa z=>?_) (h4 F' H' d' s (λa z=>k a (aH _ z)) o)⟩
   exact k a (bx _ z) λe=>n3 a z x h3 e
theorem RS.changeS {ms:List Mo}{ρ:Env}{σ:St}{i:Nat}{d d':D}{ad:ai}{o:HO}(rs:RS K ct F0 B ms F H ρ σ)(hm:ms[i]?=some (.so ad))(hρ:ρ[i]?=some (some d))(x:gD F H F' H')(Mi:F' ad=none)(o':Ow K ct F' (d4 H' ad o) 1 d' (.ref ad) [ad]) :
  RS K ct F0 B ms F' (d4 H' ad o) (ρ.set i (some d')) σ:=by
 have r:=rs.ext x
 obtain⟨fp,sl,nd,hb⟩:=rs.sl
 obtain⟨h1,h2,h3,h4⟩:=sl.putS nd hm hρ
 have hB:B ad=none:=hb ad h3
 refine⟨r.f0,λz u h=>?_,λz u h=>?_,r.nf,fp,h4 F' _ d' x.ff (λa z ne=>?_) o',nd,hb⟩
 ·rw[yo (λe=>by rw[e,hB]at h;cases h)];exact r.bh _ _ h
 ·rw[yo (λe=>by rw[e,Mi]at h;cases h)];exact x.fh _ _ h
 ·obtain⟨hn,o,ho⟩:=sl.cells a z
  rw[yo ne]
  exact⟨(x.hh _ _ ho).trans ho.symm,x.nf a o ho hn⟩
theorem RS.so_at {ms:List Mo}{ρ:Env}{σ:St}{i:Nat}{d:D}{ad:ai}(rs:RS K ct F0 B ms F H ρ σ)(hm:ms[i]?=some (.so ad))(hρ:ρ[i]?=some (some d)):σ[i]?=some (some (.ref ad))/\Ow K ct F H 1 d (.ref ad) [ad]/\B ad=none:=by
 obtain⟨fp,sl,nd,hb⟩:=rs.sl
 obtain⟨h1,h2,h3,h4⟩:=sl.putS nd hm hρ
 exact⟨h1,h2,hb _ h3⟩
end
section
variable {X:Cx}{ct:Nat->ai}{ms:List Mo}{rk n m k:Nat}{st:bT}{rest:List bT}{a b c e tg:Expr}{f g h:EF}{p q:BF}{u w:SF}{pos:dF}
theorem zpw (i:Nat){xa:ai}{x:aX}{j:Expr}{p1 jA:dF}{fj:EF}(hm:ms[i]?=some (.so xa))(hj:XE X ct ms n j fj)(he:XE X ct ms 0 e f)(hN:X.N[i]?=some x:=by rfl)(hv:qF X.env.scope x:=by first|exact Or.inl rfl|exact Or.inr (Or.inl rfl)|exact Or.inr (Or.inr rfl))(hd:(x==("__debug__":aX))=false:=by decide)
  (jT:(x==("__classdict__":aX))=false:=by decide)
  (ha:∀v,iS (.Subscript (.Name x p1) j jA) X.env v=(do
   let ov ← fq [v] (bY (.Name x p1) X.env)
   let iv ← fq [v,ov] (bY j X.env)
   iM jA
   fq [v,ov,iv] (pF ov iv v)
   release [v,ov,iv] []):=by intro _;rfl)
  (hs:jL [.Subscript (.Name x p1) j jA] e pos.line X.env=pure false:=by rfl) (hw:jK [.Subscript (.Name x p1) j jA] e X.env=pure none:=by rfl)
  (h1:(dw [.Subscript (.Name x p1) j jA] X.env).map (·.2)=[iS (.Subscript (.Name x p1) j jA) X.env]:=by rfl) :
  XS X ct ms rk (.Assign [.Subscript (.Name x p1) j jA] e pos) (pT i fj f):=by
 obtain⟨t,pt,qt⟩:=he
 obtain⟨tj,BH,BJ⟩:=hj
 refine⟨_,UQ pt (zuj (sY hN hv hd jT) BH Ti ha) hs hw h1,λF0 B F H ρ σ o E rs e z=>?_⟩
 obtain⟨d,g1,g2⟩:=aY e
 obtain⟨d1,uD,g3,g4,g5⟩:=dP g2
 refine qt F0 B F H ρ σ d _ rs g1 λv0 F1 H1 x1 l0=>?_
 have lM:=rs.ext x1
 obtain⟨hσ,ow,hB⟩:=lM.so_at hm (yj g3)
 refine⟨_,hσ,BJ F0 B F1 H1 ρ σ uD _ lM g4 λvj F2 H2 x2 lj=>?_⟩
 cases d1 with
 |lst ds=>
  cases uD with
  |int zi=>
   obtain⟨qZ,g6,g7⟩:=aY g5
   cases g7
   obtain⟨jn,g8,g9⟩:=aY g6
   cases g9
   obtain⟨ad,vs,oT,ea,ef,hF,hH,ol⟩:=ow.lst_inv
   cases ea
   cases ef
   have hA:H2 xa=some (.lst vs):=x2.hh _ _ hH
   have fA:F2 xa=none:=x2.nf xa _ hH hF
   refine⟨xa,vs,zi,jn,rfl,lj.int,hA,by rw[←ol.length];exact g8,?_⟩
   exact z σ F2 _ (lM.changeS hm (yj g3) x2 fA (.inr (.lst fA yt (OwL.set0 ⟨Dt.mono x2.ff l0,rfl⟩ (λ_ _ _ q=>q.2) jn (ol.mono λ_ _ _ _ q=>⟨q.1.mono x2.ff,q.2⟩)))))
  |_=>cases g5
 |_=>cases g5
theorem zpx (i:Nat){xa:ai}{x:aX}{j:Expr}{p1 jA:dF}{fj:EF}(hm:ms[i]?=some (.so xa))(hu:X.A.units+1<gR)(hj:XE X ct ms 0 j fj)(he:XE X ct ms 0 e f)(hN:X.N[i]?=some x:=by rfl)(hv:qF X.env.scope x:=by first|exact Or.inl rfl|exact Or.inr (Or.inl rfl)|exact Or.inr (Or.inr rfl))(hd:(x==("__debug__":aX))=false:=by decide)
  (jT:(x==("__classdict__":aX))=false:=by decide) (hs:eh e (some (.Subscript (.Name x p1) j jA)) pos.line X.env=pure false:=by rfl) :
  XS X ct ms rk (.Assign [.Subscript (.Name x p1) j jA] e pos) (lB i fj f):=by
 obtain⟨t,pt,qt⟩:=he
 obtain⟨tj,BH,BJ⟩:=hj
 refine⟨_,T6 hu (sY hN hv hd jT) BH pt hs,λF0 B F H ρ σ o E rs e z=>?_⟩
 obtain⟨d,g1,g2⟩:=aY e
 obtain⟨d1,uD,g3,g4,g5⟩:=dP g2
 refine qt F0 B F H ρ σ d _ rs g1 λv0 F1 H1 x1 l0=>?_
 have lM:=rs.ext x1
 obtain⟨hσ,ow,hB⟩:=lM.so_at hm (yj g3)
 refine⟨_,hσ,BJ F0 B F1 H1 ρ σ uD _ lM g4 λvj F2 H2 x2 lj=>?_⟩
 have GY:Dt X.K ct F2 d v0:=Dt.mono x2.ff l0
 cases d1 with
 |dK ks ds=>
  dsimp only at g5
  obtain⟨key,g6,g7⟩:=aY g5
  by_cases hz:ks.length<16777216
  ·rw[if_pos hz]at g7
   cases g7
   obtain⟨ad,vs,oT,ea,ef,hF,hH,hl,ol⟩:=ow.dK_inv
   cases ea
   cases ef
   have hA:=x2.hh _ _ hH
   have fA:F2 xa=none:=x2.nf xa _ hH hF
   have hp:Pr (Dt X.K ct F2) ds vs:=ol.pr λ_ _ _ _ q=>q.1.mono x2.ff
   obtain⟨us,Bo,Bp,Bq⟩:=Kn GY key hl hp
   have hk:=KH g6 lj
   subst hk
   refine⟨xa,_,rfl,nS.k hA (by rw[eX,←hl,ik,cV];exact hz),?_⟩
   rw[Bo]
   exact z σ F2 _ (lM.changeS hm (yj g3) x2 fA (.inr (.dK fA yt Bp (OwL.ofPr (Bq.mono λ_ _ q=>⟨q,rfl⟩)))))
  ·rw[if_neg hz]at g7;cases g7
 |dT ks ds=>
  cases uD with
  |tup js=>
   dsimp only at g5
   obtain⟨key,g6,g7⟩:=aY g5
   by_cases hz:ks.length<16777216
   ·rw[if_pos hz]at g7
    cases g7
    obtain⟨ad,vs,oT,ea,ef,hF,hH,hl,ol⟩:=ow.dT_inv
    cases ea
    cases ef
    have hA:=x2.hh _ _ hH
    have fA:F2 xa=none:=x2.nf xa _ hH hF
    have hp:Pr (Dt X.K ct F2) ds vs:=ol.pr λ_ _ _ _ q=>q.1.mono x2.ff
    obtain⟨us,Bo,Bp,Bq⟩:=Kn GY key hl hp
    obtain⟨bd,ws,rfl,hb,FK⟩:=lj.tup x2.fh
    have hk:=Kv g6 FK
    subst hk
    refine⟨xa,_,rfl,nS.t hA hb (by rw[eX,←hl,ik,cV];exact hz),?_⟩
    rw[Bo]
    exact z σ F2 _ (lM.changeS hm (yj g3) x2 fA (.inr (.dT fA yt Bp (OwL.ofPr (Bq.mono λ_ _ q=>⟨q,rfl⟩)))))
   ·rw[if_neg hz]at g7;cases g7
  |_=>cases g5
 |_=>cases g5
abbrev EM:=Env->Option (D×Env)
def wN (X:Cx)(ct:Nat->ai)(ms:List Mo)(st:List bT)(f:EM):Prop:=∃t,qY X st t/\∀(F0 B F H:Hp) (ρ ρ':Env) (σ:St) (d:D) (E:lQ),RS X.K ct F0 B ms F H ρ σ->f ρ=some (d,ρ')->(∀v σ' F' H',RS X.K ct F0 B ms F' H' ρ' σ'->Dt X.K ct F' d v->E.rt v H')->t E σ H
def xE (f:SF)(g:EM):EM:=λρ=>(f ρ).bind λo=>match o with
 |.nx ρ'=>g ρ'
 |_=>none
def Bz (f:EF):EM:=λρ=>(f ρ).bind λd=>some (d,ρ)
theorem zvm (he:XE X ct ms 0 e f):wN X ct ms [.Return (some e) pos] (Bz f):=by
 obtain⟨t,pt,qt⟩:=he
 refine⟨_,TR (Po pt),λF0 B F H ρ ρ' σ d E rs e z=>?_⟩
 obtain⟨d',h1,h2⟩:=aY e
 cases h2
 exact qt F0 B F H ρ σ _ _ rs h1 λv F' H' x l=>z v σ F' H' (rs.ext x) l
theorem Um {gm:EM}(h1:XS X ct ms 0 st u)(h2:wN X ct ms rest gm):wN X ct ms (st::rest) (xE u gm):=by
 obtain⟨t,pt,qt⟩:=h1
 obtain⟨t2,nE,rA⟩:=h2
 refine⟨_,Te pt nE,λF0 B F H ρ ρ' σ d E rs e z=>?_⟩
 obtain⟨o1,e1,e2⟩:=aY e
 refine qt F0 B F H ρ σ o1 _ rs e1 ?_
 cases o1 with
 |nx ρ1=>exactλσ' F' H' ND=>rA F0 B F' H' ρ1 ρ' σ' d E ND e2 z
 |rt d=>cases e2
 |bk ρ'=>cases e2
 |ct ρ'=>cases e2
end
theorem SL.app {K:ae}{ct:Nat->ai}{F B H:Hp}{Ra:List Mo}{ρ2:Env}{σ2:St}{Qz:List ai}(h2:SL K ct F B H Ra ρ2 σ2 Qz){ms:List Mo}{ρ:Env}{σ:St}{fp:List ai}(h0:SL K ct F B H ms ρ σ fp):SL K ct F B H (ms++Ra) (ρ ++ ρ2) (σ ++ σ2) (fp++Qz):=by
 induction h0 with
 |nil=>
  exact h2
 |@no m0 o0 ms ρ σ fp t ih=>
  exact .no ih
 |@al n0 d0 v0 ms ρ σ fp h t ih=>
  exact .al h ih
 |@px d0 v0 ms ρ σ fp h t ih=>
  exact .px h ih
 |@so d0 x0 ms ρ σ Mm h t ih=>
  exact .so h ih
 |@ow n0 d0 v0 ms ρ σ f0 Mm h t ih=>
  rw[dN]
  exact .ow h ih
theorem SL.none {K:ae}{ct:Nat->ai}{F B H:Hp}:∀(ms:List Mo),SL K ct F B H ms (aC ms.length none) (aC ms.length none) []
 |[]=>.nil
 |m::ms=>.no (SL.none ms)
theorem SL.start0 {K:ae}{ct:Nat->ai}{F B H:Hp}:∀{ds:List D} {us:List V},Pr (Dt K ct F) ds us->SL K ct F B H (aC ds.length (Mo.ow 0)) (ds.map some) (us.map some) []
 |_,_,.nil=>.nil
 |_,_,.cons h t=>SL.ow (f:=[]) (Ow.zero h) (SL.start0 t)
def Ca (K:ae)(ct:Nat->ai)(n:Nat)(mf:List D->Option D):Sp:=λvs H Q _=>∃(F:Hp) (ds:List D) (us:List V) (d p q p' q':D) (a b:ai),vs=us++[.ref a,.ref b]/\ds.length=n/\ce F H/\Pr (Dt K ct F) ds us/\a≠b/\Ow K ct F H 1 p (.ref a) [a]/\Ow K ct F H 1 q (.ref b) [b]/\mf (ds++[p,q])=some (.tup [d,p',q']) /\
 ∀v F' H',ce F F'->(∀x o,H x=some o->x≠a->x≠b->H' x=some o)->ce F' H'->(∀x o,H x=some o->F x=none->F' x=none)->Ow K ct F' H' 1 p' (.ref a) [a]->Ow K ct F' H' 1 q' (.ref b) [b]->Dt K ct F' d v->Q v H'
theorem Ca.len {K:ae}{ct:Nat->ai}{n:Nat}{mf:List D->Option D}{ps:List aX}(h:n+2=ps.length):∀vs H Q E,Ca K ct n mf vs H Q E->vs.length=ps.length:=by
 rintro vs H Q E ⟨F,ds,us,d,p,q,p',q',a,b,rfl,hn,_,l,_⟩
 rw[←h,←hn,l.length,aZ]
 rfl
def By (n:Nat)(N:List aX)(bf:EM)(ds:List D):Option D:=(bf (startD N ds)).bind λr=>(r.2[n]?).join.bind λp=>(r.2[n+1]?).join.bind λq=>some (.tup [r.1,p,q])
theorem zpy {ct:Nat->ai}{P:bJ}{w:cw}{K:ae}{mg:aX->Option af}{base:bc}{x qual:aX}{st:bT}{fa:ai}{fd:aK}{N ps:List aX}{kk n:Nat}{ms:List Mo}{bf:EM}(Fn:Fun2 K x qual st fa fd)(S:bu N ps (aO st))(Bm:n+2=ps.length)(JH:n+2+ms.length=N.length)
  (body:∀(a b:ai) (iC:af) (A:bX) (outer:List PySem.Env) (s:ap) (H:Hp) (E:XK),eR kk (A.deeper (envOfC qual (aO st) s.heap.objs.size fa iC))->wN (n6 eU P w K mg base N qual (aO st) fa iC A outer s H E).nox ct (aC n (Mo.ow 0) ++ .so a::.so b::ms) (hE st) bf) :
  cH P w K mg base eU (kk+1) fa fd ps (Ca K ct n (By n N bf)):=by
 refine Fn.ok S (Ca.len Bm) λiC A outer s H vs Q E hr h=>?_
 obtain⟨F,ds,us,d,p,q,p',q',a,b,rfl,hn,sF,l,wV,oa,ob,hm,z⟩:=h
 subst hn
 obtain⟨t,pt,qt⟩:=body a b iC A outer s H E hr
 refine⟨t,pt,?_⟩
 obtain⟨⟨d1,ρ'⟩,h1,h2⟩:=aY hm
 obtain⟨p1,h3,h4⟩:=aY h2
 obtain⟨q1,h5,h6⟩:=aY h4
 cases h6
 have QW:us.length=ds.length:=l.length.symm
 have Mh:=(oa.cells a aa).1
 have Mj:=(ob.cells b aa).1
 have ZM:ce F (mB (mB H a) b):=λy o hy=>by
  rw[qr (λe=>by rw[e,Mj]at hy;cases hy),qr (λe=>by rw[e,Mh]at hy;cases hy)]
  exact sF _ _ hy
 have hB:ce (mB (mB H a) b) H:=(Km _ _).trans (Km _ _)
 refine qt F (mB (mB H a) b) F H (startD N (ds++[p,q])) ρ' (L2.start N (us++[.ref a,.ref b])) d1 _ ⟨.refl _,hB,sF,λ_ _ _ h=>h,[a,b],?_,by simp[wV],λy hy=>?_⟩ h1 ?_
 ·have e1:startD N (ds++[p,q])=ds.map some++(some p::some q::aC ms.length none):=by
   unfold startD
   rw[show N.length-(ds++[p,q]).length=ms.length by rw[aZ];simp;omega]
   simp
  have e2:L2.start N (us++[.ref a,.ref b])=us.map some++(some (.ref a)::some (.ref b)::aC ms.length none):=by
   unfold L2.start
   rw[show N.length-(us++[V.ref a,V.ref b]).length=ms.length by rw[aZ];simp;omega]
   simp
  rw[e1,e2]
  have:=SL.app (.so oa (.so ob (SL.none (K:=K) (ct:=ct) (F:=F) (B:=mB (mB H a) b) (H:=H) ms))) (SL.start0 (B:=mB (mB H a) b) (H:=H) l)
  have h7:SL K ct F (mB (mB H a) b) H (aC ds.length (Mo.ow 0)++Mo.so a::Mo.so b::ms) (ds.map some++(some p::some q::aC ms.length none)) (us.map some++(some (.ref a)::some (.ref b)::aC ms.length none)) [a,b]:=by simpa using this
  exact h7
 ·simp at hy
  rcases hy with rfl|rfl
  ·rw[qr wV];exact KP _ _
  ·exact KP _ _
 ·intro v σ' F' H' r dt
  obtain⟨_,o1,_⟩:=r.so_at (i:=ds.length) (ad:=a) (by simp) (yj h3)
  obtain⟨_,o2,_⟩:=r.so_at (i:=ds.length+1) (ad:=b) (by simp) (yj h5)
  refine z v F' H' r.f0 (λy o hy n1 n2=>r.bh _ _ (by rw[qr n2,qr n1];exact hy)) r.fh (λy o hy hn=>?_) o1 o2 dt
  by_cases ea:y=a
  ·subst ea;exact(o1.cells _ aa).1
  by_cases eb:y=b
  ·subst eb;exact(o2.cells _ aa).1
  exact r.nf y o (by rw[qr eb,qr ea];exact hy) hn
section
variable {X:Cx}{ct:Nat->ai}{ms:List Mo}{rk n m k:Nat}{st:bT}{rest:List bT}{a b c e tg:Expr}{f g h:EF}{p q:BF}{u w:SF}{pos:dF}{i j:Nat}
def Jl (X:Cx)(ct:Nat->ai)(ms:List Mo)(i j:Nat)(es:List Expr)(f:Env->Option (List D)):Prop:=∃t,PA X es t/\∀(F0 B F H:Hp) (ρ:Env) (σ:St) (ds:List D) (a b:ai) (Q:List V->Hp->Prop),RS X.K ct F0 B ms F H ρ σ->f ρ=some ds->σ[i]?=some (some (.ref a))->σ[j]?=some (some (.ref b)) ->
 (∀us F' H',gD F H F' H'->Pr (Dt X.K ct F') ds us->Q (us++[.ref a,.ref b]) H')->t σ H Q
theorem zs8 {x y:aX}{p1 p2:dF}(hN:X.N[i]?=some x:=by rfl)(hv:qF X.env.scope x:=by first|exact Or.inl rfl|exact Or.inr (Or.inl rfl)|exact Or.inr (Or.inr rfl))(hd:(x==("__debug__":aX))=false:=by decide)(jT:(x==("__classdict__":aX))=false:=by decide)
  (MB:X.N[j]?=some y:=by rfl) (M5:qF X.env.scope y:=by first|exact Or.inl rfl|exact Or.inr (Or.inl rfl)|exact Or.inr (Or.inr rfl)) (hd2:(y==("__debug__":aX))=false:=by decide) (A6:(y==("__classdict__":aX))=false:=by decide) :
  Jl X ct ms i j [.Name x p1,.Name y p2] aNil:=by
 refine⟨_,v4 (sY hN hv hd jT) (v4 (sY MB M5 hd2 A6) tT),λF0 B F H ρ σ ds a b Q rs e ha hb z=>?_⟩
 cases e
 exact⟨_,ha,_,hb,z [] F H (.refl rs.fh) .nil⟩
theorem OS {es:List Expr}{fs:Env->Option (List D)}(h1:XE X ct ms 0 a f)(h2:Jl X ct ms i j es fs)(hs:ay (a::es) X.env=(false,bY a X.env)::ay es X.env:=by rfl):Jl X ct ms i j (a::es) (aCons f fs):=by
 obtain⟨t,pt,qt⟩:=h1
 obtain⟨t2,nE,rA⟩:=h2
 refine⟨_,v4 pt nE hs,λF0 B F H ρ σ ds xa xb Q rs e ha hb z=>?_⟩
 obtain⟨d,qZ,g1,g2,g3⟩:=dP e
 cases g3
 refine qt F0 B F H ρ σ d _ rs g1 λv F1 H1 x1 l=>?_
 exact rA F0 B F1 H1 ρ σ qZ xa xb _ (rs.ext x1) g2 ha hb λus F2 H2 x2 l2=>z (v::us) F2 H2 (x1.trans x2) (.cons (Dt.mono x2.ff l) l2)
def XM (X:Cx)(ct:Nat->ai)(ms:List Mo)(e:Expr)(g:EM):Prop:=∃t,PE X e t/\∀(F0 B F H:Hp) (ρ ρ':Env) (σ:St) (d:D) (Q:VK),RS X.K ct F0 B ms F H ρ σ->g ρ=some (d,ρ')->(∀v F' H',RS X.K ct F0 B ms F' H' ρ' σ->Dt X.K ct F' d v->Q v H')->t σ H Q
def nv (i j:Nat)(fs:Env->Option (List D))(mf:List D->Option D):EM:=λρ=>(fs ρ).bind λds=>(eV i ρ).bind λp=>(eV j ρ).bind λq=>if i9 p=true/\i9 q=true then(mf (ds++[p,q])).bind λr=>match r with
 |.tup [d,p',q']=>some (d,(ρ.set i (some p')).set j (some q'))
 |_=>none else none
theorem To {σ:St}{i:Nat}{v:V}(h:σ[i]?=some (some v)):σ.set i (some v) = σ:=by
 apply fk
 intro k
 rw[tE]
 by_cases e:i=k
 ·subst e
  rw[if_pos rfl]
  by_cases hl:i < σ.length
  ·rw[if_pos hl,h]
  ·rw[if_neg hl,cY (by omega)]
 ·rw[if_neg e]
theorem RS.two {K:ae}{F0 B F H:Hp}{ρ:Env}{σ:St}{p q:D}(rs:RS K ct F0 B ms F H ρ σ)(rR:i≠j)(Cp:ms[i]?=some (.ow 1))(yK:ms[j]?=some (.ow 1))(hp:ρ[i]?=some (some p))(hq:ρ[j]?=some (some q))(cp:i9 p=true)(cq:i9 q=true) :
  ∃a b,σ[i]?=some (some (.ref a))/\σ[j]?=some (some (.ref b))/\a≠b/\Ow K ct F H 1 p (.ref a) [a]/\Ow K ct F H 1 q (.ref b) [b]/\B a=none/\B b=none /\
   ∀(F' H':Hp) (p' q':D),ce F F'->(∀x o,H x=some o->x≠a->x≠b->H' x=some o)->ce F' H'->(∀x o,H x=some o->F x=none->F' x=none)->Ow K ct F' H' 1 p' (.ref a) [a]->Ow K ct F' H' 1 q' (.ref b) [b]->RS K ct F0 B ms F' H' ((ρ.set i (some p')).set j (some q')) σ:=by
 obtain⟨f1,fr,n1,b1,dj,i4,cf,put⟩:=rs.put (F':=F) (H':=H) Cp
 obtain⟨v,hσ,ow⟩:=i4 p hp
 obtain⟨a,rfl,rfl⟩:=ow.cell cp
 obtain⟨f2,WJ,n2,b2,dj2,X4,cf2,put2⟩:=rs.put (F':=F) (H':=H) yK
 obtain⟨v2,vT,G9⟩:=X4 q hq
 obtain⟨b,rfl,rfl⟩:=G9.cell cq
 have ca:=ow.cells a aa
 have cb:=G9.cells b aa
 have wV:a≠b:=by
  intro e
  subst e
  have r1:=put F (mB H a) (.non) .non [] (.refl _) (λy o hy=>by rw[qr (λe=>by rw[e,b1 a aa]at hy;cases hy)];exact rs.bh _ _ hy) (λy o hy=>by rw[qr (λe=>by rw[e,ca.1]at hy;cases hy)];exact rs.fh _ _ hy) rs.nf
   (λy hy=>⟨qr (λe=>dj a aa (e▸hy)),(cf y hy).1⟩) (Ow.scal .non rfl) bQ (λy hy=>by cases hy) (λy hy=>by cases hy)
  obtain⟨f3,Jy,n3,b3,Lx,M9,Qd,put3⟩:=r1.put (F':=F) (H':=H) yK
  obtain⟨v3,FU,JX⟩:=M9 q (by rw[df rR];exact hq)
  obtain⟨a3,rfl,rfl⟩:=JX.cell cq
  rw[df rR,vT]at FU
  cases FU
  obtain⟨o,ho⟩:=(JX.cells a aa).2
  rw[KP]at ho
  cases ho
 refine⟨a,b,hσ,vT,wV,ow,G9,b1 a aa,b2 b aa,λF' H' p' q' s1 kH s3 nf o1 o2=>?_⟩
 have Ba:=b1 a aa
 have Bb:=b2 b aa
 have Mh:=(o1.cells a aa).1
 have Mj:=(o2.cells b aa).1
 obtain⟨ob,XB⟩:=cb.2
 have hm:∀y,y≠b->d4 H' b ob y=H' y:=λy ne=>yo ne
 have r1:=put F' (d4 H' b ob) p' (.ref a) [a] s1 (λy o hy=>by
   have na:y≠a:=λe=>by rw[e,Ba]at hy;cases hy
   have nb:y≠b:=λe=>by rw[e,Bb]at hy;cases hy
   rw[hm y nb]
   exact kH y o (rs.bh _ _ hy) na nb) (λy o hy=>by
   rw[hm y (λe=>by rw[e,Mj]at hy;cases hy)]
   exact s3 _ _ hy) (λy o hy hn=>nf y o (rs.bh _ _ hy) (rs.nf y o hy hn)) (λy hy=>by
   obtain⟨hn,o,ho⟩:=cf y hy
   refine⟨?_,nf y o ho hn⟩
   have na:y≠a:=λe=>dj a aa (e▸hy)
   by_cases nb:y=b
   ·subst nb;rw[yt,XB]
   ·rw[hm y nb,kH y o ho na nb,ho]) (o1.frame (.refl _) λy hy=>by
   rw[az]at hy
   subst hy
   exact⟨hm _ wV,Mh⟩) (by simp) (λy hy=>by
   rw[az]at hy
   subst hy
   exact dj _ aa) (λy hy=>by
   rw[az]at hy
   subst hy
   exact Ba)
 rw[To hσ]at r1
 obtain⟨f3,Jy,n3,b3,Lx,M9,Qd,put3⟩:=r1.put (F':=F) (H':=H) yK
 obtain⟨v3,FU,JX⟩:=M9 q (by rw[df rR];exact hq)
 obtain⟨a3,rfl,rfl⟩:=JX.cell cq
 rw[vT]at FU
 cases FU
 have r2:=put3 F' H' q' (.ref b) [b] (.refl _) (λy o hy=>by
   have na:y≠a:=λe=>by rw[e,Ba]at hy;cases hy
   have nb:y≠b:=λe=>by rw[e,Bb]at hy;cases hy
   exact kH y o (rs.bh _ _ hy) na nb) s3 r1.nf (λy hy=>by
   have nb:y≠b:=λe=>Lx b aa (e▸hy)
   exact⟨(hm y nb).symm,(Qd y hy).1⟩) o2 (by simp) (λy hy=>by
   rw[az]at hy
   subst hy
   exact Lx _ aa) (λy hy=>by
   rw[az]at hy
   subst hy
   exact Bb)
 rw[To vT]at r2
 exact r2
variable {kk:Nat}{fa:ai}{fd:aK}{ps:List aX}{mf:List D->Option D}{x:aX}{pp:dF}
theorem zs9 {es:List Expr}{fs:Env->Option (List D)}{oB:List af}(rR:i≠j)(Cp:ms[i]?=some (.ow 1))(yK:ms[j]?=some (.ow 1))(Fn:cH X.prog X.w X.K X.mg X.base eU kk fa fd ps (Ca X.K ct n mf))(hr:eR kk X.A)(hg:Gl X x)(hm:X.mg x=some (.ref fa))(hk:aq X.K (.ref fa)=true)
  (hb:bR X.K fd ps oB) (hd:ck [] oB) (hn:∀ρ ds,fs ρ=some ds->ds.length=n) (ha:Jl X ct ms i j (e::es) fs)
  (lU:(x==("__debug__":aX))=false:=by decide) (he:ay (e::es) X.env=(false,bY e X.env)::ay es X.env:=by rfl) (iW:(cQ pos (ay es X.env)).any (·.1)=false:=by rfl) :
  XM X ct ms (.Call (.Name x pp) (e::es) [] pos) (nv i j fs mf):=by
 obtain⟨t,pt,qt⟩:=ha
 refine⟨_,TL Fn hr hg hm hk hb hd oG pt lU he iW,λF0 B F H ρ ρ' σ d Q rs e z=>?_⟩
 obtain⟨ds,h1,h2⟩:=aY e
 obtain⟨p,h3,h4⟩:=aY h2
 obtain⟨q,h5,h6⟩:=aY h4
 by_cases hc:i9 p=true/\i9 q=true
 ·rw[if_pos hc]at h6
  obtain⟨r,h7,h8⟩:=aY h6
  have:∃p' q',r=.tup [d,p',q']/\ρ'=(ρ.set i (some p')).set j (some q'):=by
   split at h8
   ·cases h8;exact⟨_,_,rfl,rfl⟩
   ·cases h8
  obtain⟨p',q',rfl,rfl⟩:=this
  obtain⟨a0,b0,hσ,vT,_⟩:=rs.two rR Cp yK (yj h3) (yj h5) hc.1 hc.2
  refine qt F0 B F H ρ σ ds a0 b0 _ rs h1 hσ vT λus F1 H1 x1 l=>?_
  obtain⟨a,b,Br,FT,wV,oa,ob,Ba,Bb,put⟩:=(rs.ext x1).two rR Cp yK (yj h3) (yj h5) hc.1 hc.2
  rw[hσ]at Br
  rw[vT]at FT
  cases Br
  cases FT
  refine⟨F1,ds,us,d,p,q,p',q',a0,b0,by simp,hn _ _ h1,x1.fh,l,wV,oa,ob,h7,λv F' H' s1 kH s3 nf o1 o2 dt=>?_⟩
  exact z v F' H' (put F' H' p' q' s1 kH s3 nf o1 o2) dt
 ·rw[if_neg hc]at h6;cases h6
theorem zvn:∀(ρ:Env) (ds:List D),aNil ρ=some ds->ds.length=0:=λρ ds e=>by cases e;rfl
theorem O3 {fs:Env->Option (List D)}(h:∀(ρ:Env) (ds:List D),fs ρ=some ds->ds.length=n):∀(ρ:Env) (ds:List D),aCons f fs ρ=some ds->ds.length=n+1:=λρ ds e=>by
 obtain⟨x,xs,h1,h2,h3⟩:=dP e
 cases h3
 rw[aI,h ρ xs h2]
def oI (i:Nat)(g:EM):SF:=λρ=>(g ρ).bind λr=>some (.nx (r.2.set i (some r.1)))
theorem zta {i:Nat}{x:aX}{pos':dF}{gm:EM}(hm:ms[i]?=some (.ow 0))(hN:X.N.Nodup)(hi:X.N[i]?=some x)(hx:Loc X.env.scope x)(he:XM X ct ms e gm)(hs:eh e (some (.Name x pos')) pos.line X.env=pure false:=by rfl)
  (hf:X.fn x=true\/X.env.scope.names.lookup x=some .local:=by first|exact .inl rfl|exact .inr rfl|assumption):XS X ct ms rk (.Assign [.Name x pos'] e pos) (oI i gm):=by
 obtain⟨t,pt,qt⟩:=he
 refine⟨_,UR hN hi hx pt hs hf,λF0 B F H ρ σ o E rs e w=>?_⟩
 obtain⟨⟨d,ρ'⟩,h1,h2⟩:=aY e
 cases h2
 exact qt F0 B F H ρ ρ' σ d _ rs h1 λv F' H' r l=>w _ F' H' (r.set hm (.refl r.fh) (Ow.zero l) bQ λa z=>(by cases z))
end
end L3
namespace L2
open PySem PySem.Spec
open PyProof.Rows hiding St
section
variable {X:Cx}{pos:dF}
end
end L2
namespace L3
open PySem PySem.Spec L2
open PyProof.Rows hiding St
section
variable {X:Cx}{ct:Nat->ai}{ms:List Mo}{n:Nat}{pos:dF}
end
end L3
namespace L3
open PySem PySem.Spec L2
open PyProof.Rows hiding St
section
variable {X:Cx}{ct:Nat->ai}{ms:List Mo}{rk n m k i:Nat}{a b c e:Expr}{f g h:EF}{pos:dF}
end
end L3
namespace L3
open PySem PySem.Spec L2
open PyProof.Rows hiding St
section
variable {X:Cx}{ct:Nat->ai}{ms:List Mo}{rk n m k:Nat}{a b c e o:Expr}{f g h:EF}{pos:dF}
end
end L3
namespace L2
open PySem PySem.Spec
open PyProof.Rows hiding St
section
variable {X:Cx}{CX:tP}{k:Nat}{f C:ai}{fd:aK}{ps ks:List aX}{sp:Sp}{E:XK}{x m:aX}{p pos ez Bw:dF}{e o:Expr}{es:List Expr}{kws:List hZ}{te ta:TE}{t tk:TA}{nm:Option aX}
variable {g:List af->List af->List af}{gV:List V->List V->List V}
end
end L2
namespace L3
open PySem PySem.Spec L2
open PyProof.Rows hiding St
section
variable {X:Cx}{ct:Nat->ai}{ms:List Mo}{rk n m k kk:Nat}{e a:Expr}{f:EF}{x:aX}{pp pos Bw:dF}{fa:ai}{fd:aK}{ps ks:List aX}{pm cs:List Nat}{mi:Nat->List D->Option D}
end
end L3
namespace L3
open PySem PySem.Spec L2
open PyProof.Rows hiding St
section
variable {X:Cx}{ct:Nat->ai}{ms:List Mo}{rk n m k i j:Nat}{a b c e:Expr}{f g h:EF}{pos:dF}
variable {kk:Nat}{fa:ai}{fd:aK}{ps:List aX}{mf:List D->Option D}{x y:aX}{pp:dF}
end
end L3
namespace L3
open PySem PySem.Spec L2
open PyProof.Rows hiding St
open Classical in
noncomputable def sL (h:bc)(dx:bK)(y:af):Bool:=decide (∃d as,Reads h y d as/\d.canLay0=true/\bK.eqv d dx=true)
open Classical in
theorem Uo {h:bc}{dx d:bK}{y:af}{as:List ai}(r:Reads h y d as)(c:d.canLay0=true):sL h dx y=bK.eqv d dx:=by
 unfold sL
 cases e:bK.eqv d dx with
 |true=>exact decide_eq_true ⟨d,as,r,c,e⟩
 |false=>
  refine decide_eq_false λ⟨d',VU,r',c',e'⟩=>?_
  have:=SeqAt.Reads.unique d d' y as VU c r r'
  rw[←this,e]at e'
  cases e'
theorem SW {h:bc}:∀{us:List af} {ds:List bK} {bs:List ai},ReadsAll h us ds bs->∀w∈us,∃d as,Reads h w d as/\d∈ds
 |_,_,_,.nil,w,hw=>by cases hw
 |_,_,_,.cons r t,w,hw=>by
  rcases aF.mp hw with rfl|hw
  ·exact⟨_,_,r,aa⟩
  ·obtain⟨d,as,h1,h2⟩:=SW t w hw
   exact⟨d,as,h1,aj _ h2⟩
theorem Up {h:bc}{dx:bK}:∀{us:List af} {ds:List bK} {bs:List ai},ReadsAll h us ds bs->(∀d∈ds,d.canLay0=true)->us.any (sL h dx)=ds.any λd=>bK.eqv d dx
 |_,_,_,.nil,_=>rfl
 |_,_,_,.cons r t,c=>by
  rw[dH,dH,Uo r (c _ aa),Up t λd hd=>c d (aj _ hd)]
def HV (K:ae)(neg:Bool):R2:=λx y H Q=>∃p xs dx ds,y=.ref p/\fX K H p xs/\L2.Dt K H x dx/\L2.Dts K H xs ds/\dx.canLay0=true/\dx.depth<=60/\(∀d∈ds,d.canLay0=true)/\Q (.bl (if neg then !(ds.any λd=>bK.eqv d dx)else ds.any λd=>bK.eqv d dx)) H
section
variable {X:Cx}
theorem znj (hu:X.A.units+64<gR):gu X (cu .In) (HV X.K false):=by
 intro am s σ H x y v u Q I rx ry h
 obtain⟨p,xs,dx,ds,rfl,hq,hx,hs,cx,dp,cs,q⟩:=h
 cases ry
 obtain⟨cv,r,pl,hz⟩:=I.list hq
 obtain⟨ax,ZH⟩:=hx.reads I rx
 obtain⟨bs,Ru⟩:=hs.reads I r
 refine SeqAt.in_listAt (sL s.heap dx) pl.isList (λw hw=>?_) ⟨.bl _,H,I,rfl,?_⟩
 ·obtain⟨d,as,h1,h2⟩:=SW Ru w (by simpa using hw)
  rw[Uo h1 (cs d h2)]
  refine SeqAt.eqAt_reads d dx _ s w v as ax h1 ZH (cs d h2) cx ?_
  have:=Nat.min_le_right d.depth dx.depth
  show X.A.units+1+min d.depth dx.depth<gR
  omega
 ·rw[show cv.toArray.any (sL s.heap dx)=cv.any (sL s.heap dx)by simp,Up Ru cs]
  exact q
end
section
variable {K:ae}{ct:Nat->ai}{n m k:Nat}
def inE (neg:Bool)(x y:D):Option D:=match y with
 |.lst ds=>x.py.bind λa=>(D.pys ds).bind λbs=>if jX a=true/\bs.all jX=true then some (.bl (if neg then !(bs.any λb=>bK.eqv b a)else bs.any λb=>bK.eqv b a))else none
 |_=>none
theorem ztb {neg:Bool}:lI K ct n m k (HV K neg) (inE neg):=by
 intro F H x y d1 d2 d Q s l1 l2 e w
 cases d2 with
 |lst ds=>
  unfold inE at e
  dsimp only at e
  obtain⟨a,b,h1,h2,h3⟩:=dP e
  by_cases h:jX a=true/\b.all jX=true
  ·rw[if_pos h]at h3
   cases h3
   have o1:=h.1
   unfold jX at o1
   rw[bG,decide_eq_true_iff]at o1
   have hy:=Al.toPy s l2 (show(D.lst ds).py=some (.list b)by simp only[D.py];rw[h2];rfl)
   have hx:=Al.toPy s l1 h1
   cases hy with
   |lst hq hs=>
    refine⟨_,_,a,b,rfl,hq,hx,hs,o1.1,o1.2,λd hd=>?_,w _ F H (.refl s) (Al.of (.bl _))⟩
    have:=eO.mp h.2 d hd
    unfold jX at this
    rw[bG]at this
    exact this.1
  ·rw[if_neg h]at h3;cases h3
 |_=>cases e
end
section
variable {α:Type}[DecidableEq α]
theorem jP.inE (E:jP α)(h:E.dep<=60){neg:Bool}(x:α)(ys:List α):L3.inE neg (E.enc x) (.lst (ys.map E.enc))=some (.bl (if neg then !decide (x∈ys)else decide (x∈ys))):=by
 unfold L3.inE
 dsimp only
 rw[E.is x,Pb E ys]
 have ok:∀z,jX (E.py z)=true:=λz=>by unfold jX;rw[E.lay z,decide_eq_true (cB (E.dp z) h)];rfl
 simp only[cz]
 rw[if_pos ⟨ok x,by rw[lN];exact eO.mpr λz _=>ok z⟩]
 have e:(ys.map E.py).any (λb=>bK.eqv b (E.py x))=decide (x∈ys):=by
  rw[List.any_map]
  induction ys with
  |nil=>rfl
  |cons y ys ih=>
   rw[dH,ih]
   show(bK.eqv (E.py y) (E.py x) || _)=_
   rw[E.eqv]
   by_cases h1:y=x
   ·simp[h1]
   ·have:¬x=y:=λz=>h1 z.symm
    simp[h1,this]
 rw[e]
end
end L3
namespace L3
open PySem PySem.Spec L2
open PyProof.Rows hiding St
section
variable {X:Cx}{ct:Nat->ai}{ms:List Mo}{rk n m k:Nat}{st:bT}{rest:List bT}{a b c e tg:Expr}{f g h:EF}{p q:BF}{u w:SF}{pos:dF}{K:ae}
end
end L3
namespace L3
open PySem PySem.Spec L2
open PyProof.Rows hiding St
section
variable {X:Cx}{ct:Nat->ai}{ms:List Mo}{rk n m k kk kq:Nat}{st:bT}{rest:List bT}{a b c e tg:Expr}{f g h:EF}{p q:BF}{u w:SF}{pos pp:dF}{K:ae}{x:aX}{fa:ai}{fd:aK}{ps:List aX}{mf:List D->Option D}
theorem mz (h:XO X ct ms k e f):XO X ct ms 0 e f:=XE.ow (XO.sh (n:=0) h)
theorem lY {own i:Nat}(hN:X.N.Nodup)(ho:i<own:=by decide)(hm:ms[i]?=some (.ow 0):=by rfl)(hi:X.N[i]?=some x:=by rfl)(hx:Loc X.env.scope x:=by first|exact Or.inl rfl|exact Or.inr rfl)
  (hf:X.fn x=true\/X.env.scope.names.lookup x=some .local:=by first|exact .inl rfl|exact .inr rfl|assumption):wL X ct ms own 0 (.Name x pos) (gV i):=zo7 ho hm hN hi hx hf
theorem er {i:Nat}{pos':dF}(hN:X.N.Nodup)(he:XO X ct ms k e f)(hm:ms[i]?=some (.ow k):=by rfl)(hi:X.N[i]?=some x:=by rfl)(hx:Loc X.env.scope x:=by first|exact Or.inl rfl|exact Or.inr rfl)
  (hs:eh e (some (.Name x pos')) pos.line X.env=pure false:=by rfl)
  (hf:X.fn x=true\/X.env.scope.names.lookup x=some .local:=by first|exact .inl rfl|exact .inr rfl|assumption):XS X ct ms rk (.Assign [.Name x pos'] e pos) (sSet i f):=zu8 hm hN hi hx he hs hf
theorem jN {i:Nat}(hN:X.N.Nodup)(hm:ms[i]?=some (.ow 0):=by rfl)(hi:X.N[i]?=some x:=by rfl)(hx:Loc X.env.scope x:=by first|exact Or.inl rfl|exact Or.inr rfl)
  (hf:X.fn x=true\/X.env.scope.names.lookup x=some .local:=by first|exact .inl rfl|exact .inr rfl|assumption):XG X ct ms 0 (.Name x pos) (gV i):=zse hm hN hi hx hf
theorem cM {es:List Expr}{ns:List Nat}{fs:Env->Option (List D)}(d:ir X.K X.mg x st ps fa fd)(Fn:cH X.prog X.w X.K X.mg X.base eU kk fa fd ps (gE X.K ct ns rk mf))(hr:eR kq X.A)(ha:XA X ct ms (e::es) ns fs)(sP:kk<=kq:=by decide)(hg:Gl X x:=by rfl)
  (lU:(x==("__debug__":aX))=false:=by decide) (he:ay (e::es) X.env=(false,bY e X.env)::ay es X.env:=by rfl) (iW:(cQ pos (ay es X.env)).any (·.1)=false:=by rfl) :
  XO X ct ms rk (.Call (.Name x pp) (e::es) [] pos) (λρ=>(fs ρ).bind λds=>mf (ds++[])) :=
 zsc (ns:=ns) (nd:=[]) (oA:=[]) (by rw[cA];exact Fn) (hr.mono sP) hg d.mgx d.fn.kp d.bd .nil (λ_ _=>.nil) ha lU he iW
theorem rE {om:List Mo}{kc iter:Expr}{ifs:List Expr}{scope:gH}{N:List aX}{own:Nat}{cap:List Nat}{fi:Env->Option (List D)}{gg:D->Env->Option Env}(hi:zU X ct ms n tg iter fi)
  (hg:∀cl C fp s₀ H₀,wL (iV X scope cl N C fp s₀ H₀) ct (om++ig ms cap) own n tg gg) (ht:∀cl C fp s₀ H₀,zV (iV X scope cl N C fp s₀ H₀) ct (om++ig ms cap) ifs p) (he:∀cl C fp s₀ H₀,XO (iV X scope cl N C fp s₀ H₀) ct (om++ig ms cap) k kc f)
  (B:kQ X scope N own cap:=by exact xT (by rfl)) (hc:X.calm=true:=by rfl) (ho:om.length=own:=by rfl) (iI:∀i∈cap,i<ms.length:=by decide)
  (hs:∀x,dX iter X.env x=pure x:=by intro _;rfl):XO X ct ms (k+1) (.ListComp kc [⟨tg,iter,ifs,0⟩] scope pos) (dW fi own cap gg p f):=zsj B hc ho iI hi hg ht he hs
theorem iu {P:bJ}{w:cw}{mg:aX->Option af}{base:bc}{qual:aX}{N:List aX}{pm:List Nat}{bf:SF}(Fn:Fun2 K x qual st fa fd)(S:bu N ps (aO st))
  (body:∀(iC:af) (A:bX) (outer:List PySem.Env) (s:ap) (H:Hp) (E:XK),eR kk (A.deeper (envOfC qual (aO st) s.heap.objs.size fa iC))->sJ (n6 eU P w K mg base N qual (aO st) fa iC A outer s H E).nox ct ms rk (hE st) bf)
  (Bm:pm.length=ps.length:=by rfl) (JH:ms.length=N.length:=by rfl) (sP:ps.length<=N.length:=by decide) (FF:∀(i n:Nat),pm[i]?=some n->ms[i]?=some (Mo.al n)\/(n=0/\ms[i]?=some (Mo.ow 0)):=by exact zD (by decide)) :
  cH P w K mg base eU (kk+1) fa fd ps (gE K ct pm rk (mOf N bf)):=lift Fn S Bm JH sP FF body
theorem cy {i:Int}{j}:XE X ct ms 0 (.Constant (.int i) j pos) (eC (.int i)):=zu6
theorem pd {j}:XE X ct ms 0 (.Constant .none j pos) (eC .non):=zu7
theorem og (ha:XE X ct ms 0 a f)(hb:XE X ct ms 0 b g):XO X ct ms 1 (.BinOp a .Add b pos) (e2 e6 f g):=zwp zsm (zsn (by decide) (by decide)) ha hb
theorem eI (ha:XE X ct ms 0 a f)(hb:XE X ct ms 0 b g)(hp:oS b:=by exactλ_ _=>rfl):XE X ct ms 0 (.Subscript a b pos) (e2 cF f g):=wC (n:=0) vX vZ ha hb hp
theorem km {fs:Env->Option (List D)}(hm:X.mg "len"=none)(ha:XA X ct ms [e] [n] fs)(hg:Gl X "len":=by rfl)(he:ay [e] X.env=(false,bY e X.env)::ay [] X.env:=by rfl)(iW:(cQ pos (ay [] X.env)).any (·.1)=false:=by rfl):XE X ct ms 0 (.Call (.Name "len" pp) [e] [] pos) (eN cX fs):=ud (k:=0) zmr zsi hg hm UW ha (by decide) (by decide) he iW
theorem Yc {P:List af->Prop}(h:P [])(us:List af)(e:us.length=0):P us:=by
 cases us with
 |nil=>exact h
 |cons a t=>cases e
theorem sQ {P:List af->Prop}(h:∀a1,P [a1])(us:List af)(e:us.length=1):P us:=by
 cases us with
 |nil=>cases e
 |cons a t=>exact Yc (P:=λt=>P (a::t)) (h a) t (Nat.succ.inj e)
theorem n9 {P:List af->Prop}(h:∀a1 a2,P [a1,a2])(us:List af)(e:us.length=2):P us:=by
 cases us with
 |nil=>cases e
 |cons a t=>exact sQ (P:=λt=>P (a::t)) (h a) t (Nat.succ.inj e)
theorem sR {P:List af->Prop}(h:∀a1 a2 a3,P [a1,a2,a3])(us:List af)(e:us.length=3):P us:=by
 cases us with
 |nil=>cases e
 |cons a t=>exact n9 (P:=λt=>P (a::t)) (h a) t (Nat.succ.inj e)
theorem JT {P:List af->Prop}(h:∀a1 a2 a3 a4,P [a1,a2,a3,a4])(us:List af)(e:us.length=4):P us:=by
 cases us with
 |nil=>cases e
 |cons a t=>exact sR (P:=λt=>P (a::t)) (h a) t (Nat.succ.inj e)
theorem Q7 {P:List af->Prop}(h:∀a1 a2 a3 a4 a5,P [a1,a2,a3,a4,a5])(us:List af)(e:us.length=5):P us:=by
 cases us with
 |nil=>cases e
 |cons a t=>exact JT (P:=λt=>P (a::t)) (h a) t (Nat.succ.inj e)
end
end L3
namespace L3
open PySem PySem.Spec L2
open PyProof.Rows hiding St
section
variable {K:ae}{ct:Nat->ai}{F B H:Hp}
end
section
variable {X:Cx}{ct:Nat->ai}{ms:List Mo}{rk n m k i j:Nat}{a b c e:Expr}{f g h:EF}{p q:BF}{pos:dF}{K:ae}
end
end L3
namespace Fq
theorem gcd_step (a b:Int):eF b (a.fmod b)=eF a b:=by
 rw[Int.fmod_def,Int.gcd_sub_mul_left_right,Int.gcd_comm]
theorem fmod_less (a:Int){b:Int}(hb:b≠0):(a.fmod b).natAbs<b.natAbs:=by
 rcases Int.lt_or_gt_of_ne hb with h|h
 ·have h1:=tu (-a) (b:=-b) (by omega)
  have h2:=pW (-a) (b:=-b) (by omega)
  have e:(-a).fmod (-b) = -(a.fmod b):=Int.neg_fmod_neg ..
  omega
 ·have h1:=tu a h
  have h2:=pW a h
  omega
theorem gcd_end (a:Int):(if a<0 then -a else a)=((eF a 0:Nat):Int):=by
 rw[Int.gcd_zero_right]
 split<;>omega
def dv (t b:Int):Int:=if b<0 then -((eF t b:Nat):Int)else((eF t b:Nat):Int)
def mk (t b:Int):Int×Int:=(t.fdiv (dv t b),b.fdiv (dv t b))
structure Low (q:Int×Int):Prop where
 pos:1<=q.2
 cop:eF q.1 q.2=1
theorem gcd_pos {t b:Int}(hb:b≠0):0<eF t b:=Int.gcd_pos_of_ne_zero_right t hb
theorem PU {t b:Int}(hb:b≠0):dv t b≠0:=by
 have:=gcd_pos (t:=t) hb
 unfold dv;split<;>omega
theorem UX (t b:Int):(dv t b).natAbs=eF t b:=by
 unfold dv;split<;>omega
theorem dv_le {t b:Int}(hb:b≠0):(dv t b).natAbs<=b.natAbs:=by
 rw[UX]
 exact Nat.le_of_dvd (by omega) (jY.mpr (lZ t b)|> λh=>by simpa using h)
theorem R9 (t b:Int):dv t b ∣ t:=by
 unfold dv;split
 ·exact Int.neg_dvd.mpr (vG t b)
 ·exact vG t b
theorem R1 (t b:Int):dv t b ∣ b:=by
 unfold dv;split
 ·exact Int.neg_dvd.mpr (lZ t b)
 ·exact lZ t b
theorem Py (t b:Int):t=dv t b*(mk t b).1:=by
 show t=dv t b*t.fdiv (dv t b)
 rw[pB (R9 t b),rF (R9 t b)]
theorem Pz (t b:Int):b=dv t b*(mk t b).2:=by
 show b=dv t b*b.fdiv (dv t b)
 rw[pB (R1 t b),rF (R1 t b)]
theorem mk_low {t b:Int}(hb:b≠0):Low (mk t b):=by
 have e1:=Py t b
 have e2:=Pz t b
 have hd:=PU (t:=t) hb
 have hg:=gcd_pos (t:=t) hb
 constructor
 ·have hs:(b<0/\dv t b<0)\/(0<b/\0<dv t b):=by
   unfold dv;split<;>omega
  rcases hs with⟨h1,h2⟩|⟨h1,h2⟩
  ·rcases Int.lt_or_le (mk t b).2 1 with h|h
   ·have:0<=dv t b*(mk t b).2:=lE (by omega) (by omega)
    omega
   ·exact h
  ·rcases Int.lt_or_le (mk t b).2 1 with h|h
   ·have:dv t b*(mk t b).2<=0:=Int.mul_nonpos_of_nonneg_of_nonpos (by omega) (by omega)
    omega
   ·exact h
 ·have h:eF (dv t b*(mk t b).1) (dv t b*(mk t b).2)=eF t b:=by rw[←e1,←e2]
  rw[Int.gcd_mul_left,UX]at h
  exact Nat.eq_of_mul_eq_mul_left hg (by rw[h,Nat.mul_one])
theorem mk_cross (t b:Int):(mk t b).1*b=t*(mk t b).2:=by
 have e1:=Py t b
 have e2:=Pz t b
 generalize (mk t b).1=x,(mk t b).2=y,dv t b=d at *
 subst e1
 rw[e2]
 grind
theorem Sj {d x:Int}(hd:d≠0):x.natAbs<=(d*x).natAbs:=by
 rw[oj]
 exact Nat.le_mul_of_pos_left _ (by omega)
theorem mk_le_one {t b:Int}(hb:b≠0):(mk t b).1.natAbs<=t.natAbs:=by
 have h:=Sj (x:=(mk t b).1) (PU (t:=t) hb)
 rwa[←Py]at h
theorem mk_le_two {t b:Int}(hb:b≠0):(mk t b).2.natAbs<=b.natAbs:=by
 have h:=Sj (x:=(mk t b).2) (PU (t:=t) hb)
 rwa[←Pz]at h
theorem Sk {a b c:Int}(h:a ∣ b*c)(g:eF b a=1):a ∣ c:=by
 have h1:a.natAbs ∣ b.natAbs*c.natAbs:=by
  rw[←oj];exact jY.mpr h
 have h2:Nat.Coprime a.natAbs b.natAbs:=by
  rw[Nat.coprime_comm];exact g
 exact jY.mp (h2.dvd_of_dvd_mul_left h1)
theorem uniq {p q:Int×Int}(hp:Low p)(hq:Low q)(h:p.1*q.2=q.1*p.2):p=q:=by
 obtain⟨p1,p2⟩:=p
 obtain⟨q1,q2⟩:=q
 obtain⟨a1,a2⟩:=hp
 obtain⟨b1,b2⟩:=hq
 simp only at *
 have d1:p2 ∣ q2:=Sk (b:=p1) ⟨q1,by rw[h,ij]⟩ a2
 have d2:q2 ∣ p2:=Sk (b:=q1) ⟨p1,by rw[←h,ij]⟩ b2
 have e:p2=q2:=Int.dvd_antisymm (by omega) (by omega) d1 d2
 subst e
 have:p1=q1:=d5 (by omega) h
 rw[this]
def plus (p q:Int×Int):Int×Int:=mk (p.1*q.2+q.1*p.2) (p.2*q.2)
def scaled (p:Int×Int)(n:Int):Int×Int:=mk (p.1*n) p.2
def minus (p q:Int×Int):Int×Int:=plus p (scaled q (-1))
def under (p q:Int×Int):Bool:=decide (p.1*q.2<q.1*p.2)
theorem Low.ne {q:Int×Int}(h:Low q):q.2≠0:=by have:=h.pos;omega
theorem Low.mul_ne {p q:Int×Int}(h:Low p)(h':Low q):p.2*q.2≠0:=nH h.ne h'.ne
theorem plus_low {p q:Int×Int}(h:Low p)(h':Low q):Low (plus p q):=mk_low (h.mul_ne h')
theorem scaled_low {p:Int×Int}(h:Low p)(n:Int):Low (scaled p n):=mk_low h.ne
theorem minus_low {p q:Int×Int}(h:Low p)(h':Low q):Low (minus p q):=plus_low h (scaled_low h' _)
theorem plus_v (p q:Int×Int):(plus p q).1*(p.2*q.2)=(p.1*q.2+q.1*p.2)*(plus p q).2:=mk_cross _ _
theorem scaled_v (p:Int×Int)(n:Int):(scaled p n).1*p.2=(p.1*n)*(scaled p n).2:=mk_cross _ _
theorem minus_v {p q:Int×Int}(h':Low q):(minus p q).1*(p.2*q.2)=(p.1*q.2-q.1*p.2)*(minus p q).2:=by
 have e1:=plus_v p (scaled q (-1))
 have e2:=scaled_v q (-1)
 have hs:=(scaled_low h' (-1)).ne
 show(plus p (scaled q (-1))).1*(p.2*q.2)=(p.1*q.2-q.1*p.2)*(plus p (scaled q (-1))).2
 have k:(scaled q (-1)).2*((plus p (scaled q (-1))).1*(p.2*q.2))=(scaled q (-1)).2*((p.1*q.2-q.1*p.2)*(plus p (scaled q (-1))).2):=by grind
 exact Int.eq_of_mul_eq_mul_left hs k
theorem lt_congr {n d m e n' d' m' e':Int}(hd:0<d)(he:0<e)(Fs:0<d')(QK:0<e')(h:n*e=m*d)(h':n' * e'=m' * d'):(n*d'<n' * d↔m*e'<m' * e):=by
 have p1:0<e*e':=dg he QK
 have p2:0<d*d':=dg hd Fs
 have k:(e*e')*(n' * d-n*d')=(d*d')*(m' * e-m*e'):=by grind
 constructor
 ·intro q
  have:0<(d*d')*(m' * e-m*e'):=by rw[←k];exact dg p1 (by omega)
  have:=pf this (by omega)
  omega
 ·intro q
  have:0<(e*e')*(n' * d-n*d'):=by rw[k];exact dg p2 (by omega)
  have:=pf this (by omega)
  omega
theorem Low.gt {q:Int×Int}(h:Low q):0<q.2:=by have:=h.pos;omega
end Fq
set_option maxHeartbeats 4000000
namespace My
open PySem L2 L3
def top (i:Nat):bT:=PySem.Challenge.pw_ringbeat_k37_whole_rates.main.body.getD i (.Pass ⟨0,0,0,0⟩)
abbrev yp:bT:=inClass (top 2) 0
abbrev yu:bT:=inClass (top 3) 0
abbrev yh:bT:=inClass (top 4) 0
abbrev yi:bT:=inClass (top 5) 0
abbrev xy:bT:=top 16
abbrev xz:bT:=top 17
abbrev vn:bT:=top 18
abbrev x6:bT:=top 19
abbrev yw:bT:=top 20
abbrev wo:bT:=top 21
abbrev yk:bT:=top 22
abbrev yc:bT:=top 23
abbrev xm:bT:=inClass (top 25) 0
abbrev zy:bT:=inClass (top 25) 1
abbrev wp:bT:=inClass (top 25) 2
abbrev wq:bT:=top 26
abbrev ye:bT:=top 28
abbrev jy:bT:=top 29
abbrev um:bT:=top 32
abbrev CH:bT:=top 30
abbrev jz:bT:=top 31
abbrev j4:bT:=top 33
abbrev vo:bT:=top 35
abbrev CI:bT:=top 36
abbrev vp:bT:=top 37
abbrev x8:bT:=top 38
abbrev zk:bT:=top 39
abbrev xn:bT:=top 41
abbrev uo:bT:=top 42
abbrev x9:bT:=top 43
abbrev ym:bT:=top 44
abbrev yx:bT:=top 45
abbrev yy:bT:=top 46
abbrev CJ:bT:=top 47
abbrev wt:bT:=top 48
abbrev wu:bT:=top 49
abbrev yz:bT:=top 51
abbrev wa:bT:=top 52
abbrev xo:bT:=top 53
abbrev wb:bT:=top 54
abbrev wv:bT:=top 55
abbrev wc:bT:=top 56
abbrev vq:bT:=top 57
abbrev ww:bT:=top 58
abbrev xc:bT:=top 59
abbrev xf:bT:=top 60
abbrev xp:bT:=top 61
abbrev xg:bT:=top 62
abbrev vt:bT:=top 63
abbrev we:bT:=top 64
abbrev BZ:bT:=top 65
theorem zes:bu ["self","start","goal","time","behind"] ["self","start","goal","time","behind"] (aO yp):=⟨rfl,rfl,rfl,by decide +kernel,rfl,by decide +kernel,by decide +kernel⟩
theorem zez:bu ["self","start","goal","time"] ["self","start","goal","time"] (aO yu):=⟨rfl,rfl,rfl,by decide +kernel,rfl,by decide +kernel,by decide +kernel⟩
theorem ze0:bu ["self","start","goal","time","behind"] ["self","start","goal","time","behind"] (aO yh):=⟨rfl,rfl,rfl,by decide +kernel,rfl,by decide +kernel,by decide +kernel⟩
theorem ze1:bu ["self","start","goal","time","behind"] ["self","start","goal","time","behind"] (aO yi):=⟨rfl,rfl,rfl,by decide +kernel,rfl,by decide +kernel,by decide +kernel⟩
theorem zhy:bu ["sign"] ["sign"] (aO xy):=⟨rfl,rfl,rfl,by decide +kernel,rfl,by decide +kernel,by decide +kernel⟩
theorem zhz:bu ["sign"] ["sign"] (aO xz):=⟨rfl,rfl,rfl,by decide +kernel,rfl,by decide +kernel,by decide +kernel⟩
theorem zld:bu ["word"] ["word"] (aO vn):=⟨rfl,rfl,rfl,by decide +kernel,rfl,by decide +kernel,by decide +kernel⟩
theorem Oe:bu ["names","seen","name"] ["names"] (aO x6):=⟨rfl,rfl,rfl,by decide +kernel,rfl,by decide +kernel,by decide +kernel⟩
theorem ze2:bu ["number","least","most"] ["number","least","most"] (aO yw):=⟨rfl,rfl,rfl,by decide +kernel,rfl,by decide +kernel,by decide +kernel⟩
theorem Om:bu ["arrow","many","least","most"] ["arrow","many"] (aO wo):=⟨rfl,rfl,rfl,by decide +kernel,rfl,by decide +kernel,by decide +kernel⟩
theorem xh:bu ["many","arrows","within","waited","arrow","placed","done","here"] ["many","arrows"] (aO yk):=⟨rfl,rfl,rfl,by decide +kernel,rfl,by decide +kernel,by decide +kernel⟩
theorem ve:bu ["arrows","chosen","going","here","seen","way"] ["arrows","chosen","going"] (aO yc):=⟨rfl,rfl,rfl,by decide +kernel,rfl,by decide +kernel,by decide +kernel⟩
theorem j9:bu ["self","names","arrows","number","arrow","placed"] ["self","names","arrows"] (aO xm):=⟨rfl,rfl,rfl,by decide +kernel,rfl,by decide +kernel,by decide +kernel⟩
theorem zc1:bu ["self"] ["self"] (aO zy):=⟨rfl,rfl,rfl,by decide +kernel,rfl,by decide +kernel,by decide +kernel⟩
theorem zi3:bu ["self","going"] ["self","going"] (aO wp):=⟨rfl,rfl,rfl,by decide +kernel,rfl,by decide +kernel,by decide +kernel⟩
theorem ji:bu ["net","going","found","done","here","number"] ["net","going"] (aO wq):=⟨rfl,rfl,rfl,by decide +kernel,rfl,by decide +kernel,by decide +kernel⟩
theorem ue:bu ["one","other","rest"] ["one","other"] (aO ye):=⟨rfl,rfl,rfl,by decide +kernel,rfl,by decide +kernel,by decide +kernel⟩
theorem OT:bu ["top","bottom","divisor"] ["top","bottom"] (aO jy):=⟨rfl,rfl,rfl,by decide +kernel,rfl,by decide +kernel,by decide +kernel⟩
theorem znm:bu ["one","whole"] ["one","whole"] (aO um):=⟨rfl,rfl,rfl,by decide +kernel,rfl,by decide +kernel,by decide +kernel⟩
theorem ztd:bu ["one","other"] ["one","other"] (aO CH):=⟨rfl,rfl,rfl,by decide +kernel,rfl,by decide +kernel,by decide +kernel⟩
theorem zpz:bu ["one","other"] ["one","other"] (aO jz):=⟨rfl,rfl,rfl,by decide +kernel,rfl,by decide +kernel,by decide +kernel⟩
theorem zp0:bu ["one","other"] ["one","other"] (aO j4):=⟨rfl,rfl,rfl,by decide +kernel,rfl,by decide +kernel,by decide +kernel⟩
theorem Oy:bu ["net","ring","starts","goals"] ["net","ring"] (aO vo):=⟨rfl,rfl,rfl,by decide +kernel,rfl,by decide +kernel,by decide +kernel⟩
theorem O4:bu ["net","ring","times","behinds"] ["net","ring"] (aO CI):=⟨rfl,rfl,rfl,by decide +kernel,rfl,by decide +kernel,by decide +kernel⟩
theorem Sl:bu ["arrow","pace","times","earliest"] ["arrow","pace","times"] (aO vp):=⟨rfl,rfl,rfl,by decide +kernel,rfl,by decide +kernel,by decide +kernel⟩
theorem ux:bu ["net","pace","numbers","times","chosen","pushed","number","arrow","earliest"] ["net","pace","numbers","times","chosen"] (aO x8):=⟨rfl,rfl,rfl,by decide +kernel,rfl,by decide +kernel,by decide +kernel⟩
theorem yr:bu ["net","pace","numbers","times","chosen","pushed","count"] ["net","pace","numbers"] (aO zk):=⟨rfl,rfl,rfl,by decide +kernel,rfl,by decide +kernel,by decide +kernel⟩
theorem RP:bu ["net","pace","numbers","found"] ["net","pace","numbers"] (aO xn):=⟨rfl,rfl,rfl,by decide +kernel,rfl,by decide +kernel,by decide +kernel⟩
theorem Sw:bu ["one","other","total"] ["one","other"] (aO uo):=⟨rfl,rfl,rfl,by decide +kernel,rfl,by decide +kernel,by decide +kernel⟩
theorem R3:bu ["net","most"] ["net"] (aO x9):=⟨rfl,rfl,rfl,by decide +kernel,rfl,by decide +kernel,by decide +kernel⟩
theorem xq:bu ["net","numbers","ring","ceiling","gap","middle","better"] ["net","numbers"] (aO ym):=⟨rfl,rfl,rfl,by decide +kernel,rfl,by decide +kernel,by decide +kernel⟩
theorem N8:bu ["net","numbers","ring","pace"] ["net","numbers"] (aO yx):=⟨rfl,rfl,rfl,by decide +kernel,rfl,by decide +kernel,by decide +kernel⟩
theorem ze3:bu ["net"] ["net"] (aO yy):=⟨rfl,rfl,rfl,by decide +kernel,rfl,by decide +kernel,by decide +kernel⟩
theorem KE:bu ["net","going","leading","paper","times"] ["net","going"] (aO CJ):=⟨rfl,rfl,rfl,by decide +kernel,rfl,by decide +kernel,by decide +kernel⟩
theorem zi5:bu ["net","ring","pace"] ["net","ring","pace"] (aO wt):=⟨rfl,rfl,rfl,by decide +kernel,rfl,by decide +kernel,by decide +kernel⟩
theorem jj:bu ["net","going","paper","pace","ring","times","leading","timed"] ["net","going","paper"] (aO wu):=⟨rfl,rfl,rfl,by decide +kernel,rfl,by decide +kernel,by decide +kernel⟩
theorem ze4:bu ["_law_script","_law_k"] ["_law_script","_law_k"] (aO yz):=⟨rfl,rfl,rfl,by decide +kernel,rfl,by decide +kernel,by decide +kernel⟩
theorem zh1:bu ["_law_found"] ["_law_found"] (aO wa):=⟨rfl,rfl,rfl,by decide +kernel,rfl,by decide +kernel,by decide +kernel⟩
theorem zgk:bu ["_law_cell"] ["_law_cell"] (aO xo):=⟨rfl,rfl,rfl,by decide +kernel,rfl,by decide +kernel,by decide +kernel⟩
theorem Of:bu ["_law_cell","_law_k","_law_number"] ["_law_cell","_law_k"] (aO wb):=⟨rfl,rfl,rfl,by decide +kernel,rfl,by decide +kernel,by decide +kernel⟩
theorem Ka:bu ["_law_turn","_law_many","_law_going","_law_order","_law_left","_law_k"] ["_law_turn","_law_many","_law_going"] (aO wv):=⟨rfl,rfl,rfl,by decide +kernel,rfl,by decide +kernel,by decide +kernel⟩
theorem wy:bu ["_law_cell","_law_many","_law_turn","_law_number","_law_start","_law_goal","_law_behind","_law_time"] ["_law_cell","_law_many","_law_turn"] (aO wc):=⟨rfl,rfl,rfl,by decide +kernel,rfl,by decide +kernel,by decide +kernel⟩
theorem vf:bu ["_law_cell","_law_many","_law_found","_law_k","_law_number","_law_start","_law_goal","_law_behind"] ["_law_cell"] (aO vq):=⟨rfl,rfl,rfl,by decide +kernel,rfl,by decide +kernel,by decide +kernel⟩
theorem qv:bu ["_law_arrow_here","_law_kind","_law_start","_law_goal","_law_time","_law_behind"] ["_law_arrow_here","_law_kind"] (aO ww):=⟨rfl,rfl,rfl,by decide +kernel,rfl,by decide +kernel,by decide +kernel⟩
theorem uj:bu ["_law_arrows","_law_going","_law_many","_law_found","_law_step","_law_before","_law_one"] ["_law_arrows","_law_going","_law_many"] (aO xc):=⟨rfl,rfl,rfl,by decide +kernel,rfl,by decide +kernel,by decide +kernel⟩
theorem vv:bu ["_law_arrows","_law_goings","_law_left","_law_step","_law_goals","_law_staying"] ["_law_arrows","_law_goings"] (aO xf):=⟨rfl,rfl,rfl,by decide +kernel,rfl,by decide +kernel,by decide +kernel⟩
theorem qd:bu ["_law_found","_law_one","_law_other"] ["_law_found"] (aO xp):=⟨rfl,rfl,rfl,by decide +kernel,rfl,by decide +kernel,by decide +kernel⟩
theorem uk:bu ["_law_arrows","_law_ring","_law_goings","_law_seen","_law_k","_law_start"] ["_law_arrows","_law_ring","_law_goings"] (aO xg):=⟨rfl,rfl,rfl,by decide +kernel,rfl,by decide +kernel,by decide +kernel⟩
theorem uf:bu ["_law_arrows","_law_beat","_law_times","_law_goings","_law_start","_law_goal","_law_time","_law_behind","_law_one","_law_other","_law_least"] ["_law_arrows","_law_beat","_law_times","_law_goings"] (aO vt):=⟨rfl,rfl,rfl,by decide +kernel,rfl,by decide +kernel,by decide +kernel⟩
theorem v7:bu ["_law_arrows","_law_many","_law_found","_law_goings","_law_beat","_law_ring","_law_times","_law_going","_law_top","_law_bottom"] ["_law_arrows","_law_many","_law_found","_law_goings"] (aO we):=⟨rfl,rfl,rfl,by decide +kernel,rfl,by decide +kernel,by decide +kernel⟩
theorem jg:bu ["_law_script","_law_many","_law_arrows","_law_asked","_law_net","_law_beats","_law_going","_law_goings","_law_found","_law_start","_law_goal","_law_time","_law_behind","_law_one"] ["_law_script"] (aO BZ):=⟨rfl,rfl,rfl,by decide +kernel,rfl,by decide +kernel,by decide +kernel⟩
set_option genInjectivity false
set_option genSizeOf false
structure CU where
 c_Arrow:ai
 c_Ride:ai
 c_Wait:ai
 c_Back:ai
 c_Net:ai
 f_Arrow___init:ai
 d_Arrow___init:aK
 f_Ride___init:ai
 d_Ride___init:aK
 f_Wait___init:ai
 d_Wait___init:aK
 f_Back___init:ai
 d_Back___init:aK
 f_is_letter:ai
 d_is_letter:aK
 f_is_figure:ai
 d_is_figure:aK
 f_is_name:ai
 d_is_name:aK
 f_are_names:ai
 d_are_names:aK
 f_lies_within:ai
 d_lies_within:aK
 f_is_right:ai
 d_is_right:aK
 f_placed_goings:ai
 d_placed_goings:aK
 f_ring_back_from:ai
 d_ring_back_from:aK
 f_Net___init:ai
 d_Net___init:aK
 f_Net_most_behind:ai
 d_Net_most_behind:aK
 f_Net_into:ai
 d_Net_into:aK
 f_leads_to:ai
 d_leads_to:aK
 f_common_divisor:ai
 d_common_divisor:aK
 f_ratio:ai
 d_ratio:aK
 f_scaled:ai
 d_scaled:aK
 f_plus:ai
 d_plus:aK
 f_minus:ai
 d_minus:aK
 f_under:ai
 d_under:aK
 f_is_ring:ai
 d_is_ring:aK
 f_mean:ai
 d_mean:aK
 f_is_kept:ai
 d_is_kept:aK
 f_push_once:ai
 d_push_once:aK
 f_times_or_ring_along:ai
 d_times_or_ring_along:aK
 f_ring_above:ai
 d_ring_above:aK
 f_midway:ai
 d_midway:aK
 f_least_gap:ai
 d_least_gap:aK
 f_greatest_ring:ai
 d_greatest_ring:aK
 f_paper_along:ai
 d_paper_along:aK
 f_least_round:ai
 d_least_round:aK
 f_rate:ai
 d_rate:aK
 f_has_mean:ai
 d_has_mean:aK
 f_holds_at:ai
 d_holds_at:aK
 f_law_cell_at:ai
 d_law_cell_at:aK
 f_law_whole:ai
 d_law_whole:aK
 f_law_is_row:ai
 d_law_is_row:aK
 f_law_mixed:ai
 d_law_mixed:aK
 f_law_rank:ai
 d_law_rank:aK
 f_law_arrow:ai
 d_law_arrow:aK
 f_law_big:ai
 d_law_big:aK
 f_law_made:ai
 d_law_made:aK
 f_law_leading:ai
 d_law_leading:aK
 f_law_no_ring:ai
 d_law_no_ring:aK
 f_law_lowest:ai
 d_law_lowest:aK
 f_law_is_ring:ai
 d_law_is_ring:aK
 f_law_fit:ai
 d_law_fit:aK
 f_law_right:ai
 d_law_right:aK
 f_law:ai
 d_law:aK
set_option genSizeOf true
set_option genInjectivity true
def CU.ct (a:CU):Nat->ai
 |0=>a.c_Arrow
 |1=>a.c_Ride
 |2=>a.c_Wait
 |3=>a.c_Back
 |4=>a.c_Net
 |_=>0
structure Txt (K:ae)(mg:aX->Option af)(a:CU):Prop where
 Arrow:Dc K mg "Arrow" a.c_Arrow
 Ride:Dc K mg "Ride" a.c_Ride
 Wait:Dc K mg "Wait" a.c_Wait
 Back:Dc K mg "Back" a.c_Back
 Net:Dc K mg "Net" a.c_Net
 Arrow___init:Dm K a.c_Arrow "__init__" "Arrow.__init__" yp ["self","start","goal","time","behind"] a.f_Arrow___init a.d_Arrow___init
 Ride___init:Dm K a.c_Ride "__init__" "Ride.__init__" yu ["self","start","goal","time"] a.f_Ride___init a.d_Ride___init
 Wait___init:Dm K a.c_Wait "__init__" "Wait.__init__" yh ["self","start","goal","time","behind"] a.f_Wait___init a.d_Wait___init
 Wait___init_d1:∃oB,True/\ck [(V.int 0)] oB/\bR K a.d_Wait___init ["self","start","goal","time","behind"] oB
 Back___init:Dm K a.c_Back "__init__" "Back.__init__" yi ["self","start","goal","time","behind"] a.f_Back___init a.d_Back___init
 Back___init_d1:∃oB,True/\ck [(V.int 1)] oB/\bR K a.d_Back___init ["self","start","goal","time","behind"] oB
 is_letter:ir K mg "is_letter" xy ["sign"] a.f_is_letter a.d_is_letter
 is_figure:ir K mg "is_figure" xz ["sign"] a.f_is_figure a.d_is_figure
 is_name:ir K mg "is_name" vn ["word"] a.f_is_name a.d_is_name
 are_names:ir K mg "are_names" x6 ["names"] a.f_are_names a.d_are_names
 lies_within:ir K mg "lies_within" yw ["number","least","most"] a.f_lies_within a.d_lies_within
 is_right:ir K mg "is_right" wo ["arrow","many"] a.f_is_right a.d_is_right
 placed_goings:ir K mg "placed_goings" yk ["many","arrows"] a.f_placed_goings a.d_placed_goings
 ring_back_from:ir K mg "ring_back_from" yc ["arrows","chosen","going"] a.f_ring_back_from a.d_ring_back_from
 Net___init:Dm K a.c_Net "__init__" "Net.__init__" xm ["self","names","arrows"] a.f_Net___init a.d_Net___init
 Net_most_behind:Dm K a.c_Net "most_behind" "Net.most_behind" zy ["self"] a.f_Net_most_behind a.d_Net_most_behind
 Net_into:Dm K a.c_Net "into" "Net.into" wp ["self","going"] a.f_Net_into a.d_Net_into
 leads_to:ir K mg "leads_to" wq ["net","going"] a.f_leads_to a.d_leads_to
 common_divisor:ir K mg "common_divisor" ye ["one","other"] a.f_common_divisor a.d_common_divisor
 ratio:ir K mg "ratio" jy ["top","bottom"] a.f_ratio a.d_ratio
 scaled:ir K mg "scaled" um ["one","whole"] a.f_scaled a.d_scaled
 plus:ir K mg "plus" CH ["one","other"] a.f_plus a.d_plus
 minus:ir K mg "minus" jz ["one","other"] a.f_minus a.d_minus
 under:ir K mg "under" j4 ["one","other"] a.f_under a.d_under
 is_ring:ir K mg "is_ring" vo ["net","ring"] a.f_is_ring a.d_is_ring
 mean:ir K mg "mean" CI ["net","ring"] a.f_mean a.d_mean
 is_kept:ir K mg "is_kept" vp ["arrow","pace","times"] a.f_is_kept a.d_is_kept
 push_once:ir K mg "push_once" x8 ["net","pace","numbers","times","chosen"] a.f_push_once a.d_push_once
 times_or_ring_along:ir K mg "times_or_ring_along" zk ["net","pace","numbers"] a.f_times_or_ring_along a.d_times_or_ring_along
 ring_above:ir K mg "ring_above" xn ["net","pace","numbers"] a.f_ring_above a.d_ring_above
 midway:ir K mg "midway" uo ["one","other"] a.f_midway a.d_midway
 least_gap:ir K mg "least_gap" x9 ["net"] a.f_least_gap a.d_least_gap
 greatest_ring:ir K mg "greatest_ring" ym ["net","numbers"] a.f_greatest_ring a.d_greatest_ring
 paper_along:ir K mg "paper_along" yx ["net","numbers"] a.f_paper_along a.d_paper_along
 least_round:ir K mg "least_round" yy ["net"] a.f_least_round a.d_least_round
 rate:ir K mg "rate" CJ ["net","going"] a.f_rate a.d_rate
 has_mean:ir K mg "has_mean" wt ["net","ring","pace"] a.f_has_mean a.d_has_mean
 holds_at:ir K mg "holds_at" wu ["net","going","paper"] a.f_holds_at a.d_holds_at
 law_cell_at:ir K mg "_law_cell_at" yz ["_law_script","_law_k"] a.f_law_cell_at a.d_law_cell_at
 law_whole:ir K mg "_law_whole" wa ["_law_found"] a.f_law_whole a.d_law_whole
 law_is_row:ir K mg "_law_is_row" xo ["_law_cell"] a.f_law_is_row a.d_law_is_row
 law_mixed:ir K mg "_law_mixed" wb ["_law_cell","_law_k"] a.f_law_mixed a.d_law_mixed
 law_rank:ir K mg "_law_rank" wv ["_law_turn","_law_many","_law_going"] a.f_law_rank a.d_law_rank
 law_arrow:ir K mg "_law_arrow" wc ["_law_cell","_law_many","_law_turn"] a.f_law_arrow a.d_law_arrow
 law_big:ir K mg "_law_big" vq ["_law_cell"] a.f_law_big a.d_law_big
 law_made:ir K mg "_law_made" ww ["_law_arrow_here","_law_kind"] a.f_law_made a.d_law_made
 law_leading:ir K mg "_law_leading" xc ["_law_arrows","_law_going","_law_many"] a.f_law_leading a.d_law_leading
 law_no_ring:ir K mg "_law_no_ring" xf ["_law_arrows","_law_goings"] a.f_law_no_ring a.d_law_no_ring
 law_lowest:ir K mg "_law_lowest" xp ["_law_found"] a.f_law_lowest a.d_law_lowest
 law_is_ring:ir K mg "_law_is_ring" xg ["_law_arrows","_law_ring","_law_goings"] a.f_law_is_ring a.d_law_is_ring
 law_fit:ir K mg "_law_fit" vt ["_law_arrows","_law_beat","_law_times","_law_goings"] a.f_law_fit a.d_law_fit
 law_right:ir K mg "_law_right" we ["_law_arrows","_law_many","_law_found","_law_goings"] a.f_law_right a.d_law_right
 law:ir K mg "law" BZ ["_law_script"] a.f_law a.d_law
 q_Arrow:Dq K a.c_Arrow "__init__" a.f_Arrow___init
 fld_arrows:∀c∈([4]:List Nat),lH K (a.ct c)/\gj K (a.ct c) "arrows"
 fld_behind:∀c∈([0,1,2,3]:List Nat),lH K (a.ct c)/\gj K (a.ct c) "behind"
 fld_goal:∀c∈([0,1,2,3]:List Nat),lH K (a.ct c)/\gj K (a.ct c) "goal"
 fld_names:∀c∈([4]:List Nat),lH K (a.ct c)/\gj K (a.ct c) "names"
 fld_start:∀c∈([0,1,2,3]:List Nat),lH K (a.ct c)/\gj K (a.ct c) "start"
 fld_time:∀c∈([0,1,2,3]:List Nat),lH K (a.ct c)/\gj K (a.ct c) "time"
 isi_Back:∀c∈([0,1,2,3,4]:List Nat),Ic K (a.ct c)/\bU K (.ref (a.ct c)) (.ref a.c_Back)=some (xW [3] c)
 isi_Ride:∀c∈([0,1,2,3,4]:List Nat),Ic K (a.ct c)/\bU K (.ref (a.ct c)) (.ref a.c_Ride)=some (xW [1] c)
 b_abs:mg "abs"=none
 b_all:mg "all"=none
 b_bool:mg "bool"=none
 b_enumerate:mg "enumerate"=none
 b_int:mg "int"=none
 b_isinstance:mg "isinstance"=none
 b_len:mg "len"=none
 b_list:mg "list"=none
 b_max:mg "max"=none
 b_min:mg "min"=none
 b_range:mg "range"=none
 b_reversed:mg "reversed"=none
 b_set:mg "set"=none
 b_sorted:mg "sorted"=none
 b_str:mg "str"=none
 b_sum:mg "sum"=none
 b_tuple:mg "tuple"=none
 g_MOST_ARROWS:∃t,mg "MOST_ARROWS"=some (.int 120 t)
 g_MOST_BEHIND:∃t,mg "MOST_BEHIND"=some (.int 4 t)
 g_MOST_NAMES:∃t,mg "MOST_NAMES"=some (.int 40 t)
 g_MOST_SIGNS:∃t,mg "MOST_SIGNS"=some (.int 8 t)
 g_MOST_TIME:∃t,mg "MOST_TIME"=some (.int 1000000000 t)
section
variable {P:bJ}{w:cw}{K:ae}{mg:aX->Option af}{base:bc}{a:CU}{ct:Nat->ai}
def jo:Nat->List D->Option D:=Bs ["self","start","goal","time","behind"]
  (sSeq (lA [0,1,2,3] "start" (eV 1))
  (sSeq (lA [0,1,2,3] "goal" (eV 2))
  (sSeq (lA [0,1,2,3] "time" (eV 3))
  (lA [0,1,2,3] "behind" (eV 4)))))
theorem qw (T:Txt K mg a):cH P w K mg base eU 1 a.f_Arrow___init a.d_Arrow___init ["self","start","goal","time","behind"] (t8 K a.ct [0,1,2,3] [0,0,0,0] jo):=by
 refine IJ (ms:=[.ow 0,.ow 0,.ow 0,.ow 0]) (rk:=0) T.Arrow___init.fn zes rfl rfl (by decide) (zD (by decide)) λx0 iC A outer s H E hr=>?_
 exact(zf (CO T.fld_start (za 1 0))
  (zf (CO T.fld_goal (za 2 0))
  (zf (CO T.fld_time (za 3 0))
  (zh (CO T.fld_behind (za 4 0))))))
def Ob:Nat->List D->Option D:=Bs ["self","start","goal","time"]
  (o7 [0,1,2,3] (aCons (eV 1) (aCons (eV 2) (aCons (eV 3) (aCons (eC (.int 0)) aNil)))) jo)
theorem ze5 (T:Txt K mg a):cH P w K mg base eU 2 a.f_Ride___init a.d_Ride___init ["self","start","goal","time"] (t8 K a.ct [1] [0,0,0] Ob):=by
 have fv:=qw (P:=P) (w:=w) (base:=base) T
 refine IJ (ms:=[.ow 0,.ow 0,.ow 0]) (rk:=0) T.Ride___init.fn zez rfl rfl (by decide) (zD (by decide)) λx0 iC A outer s H E hr=>?_
 exact(zh (Pc (ns:=[0,0,0,0]) fv (hr.mono (by decide)) T.Arrow.mgx T.q_Arrow.sp T.q_Arrow.rd T.q_Arrow.fc T.Arrow___init.fn.kp T.Arrow___init.bd (by decide) (ze (za 1 0) (ze (za 2 0) (ze (za 3 0) (ze cy zj))))))
def N2:Nat->List D->Option D:=Bs ["self","start","goal","time","behind"]
  (o7 [0,1,2,3] (aCons (eV 1) (aCons (eV 2) (aCons (eV 3) (aCons (eV 4) aNil)))) jo)
theorem ze6 (T:Txt K mg a):cH P w K mg base eU 2 a.f_Wait___init a.d_Wait___init ["self","start","goal","time","behind"] (t8 K a.ct [2] [0,0,0,0] N2):=by
 have fv:=qw (P:=P) (w:=w) (base:=base) T
 refine IJ (ms:=[.ow 0,.ow 0,.ow 0,.ow 0]) (rk:=0) T.Wait___init.fn ze0 rfl rfl (by decide) (zD (by decide)) λx0 iC A outer s H E hr=>?_
 exact(zh (Pc (ns:=[0,0,0,0]) fv (hr.mono (by decide)) T.Arrow.mgx T.q_Arrow.sp T.q_Arrow.rd T.q_Arrow.fc T.Arrow___init.fn.kp T.Arrow___init.bd (by decide) (ze (za 1 0) (ze (za 2 0) (ze (za 3 0) (ze (za 4 0) zj))))))
def N3:Nat->List D->Option D:=Bs ["self","start","goal","time","behind"]
  (o7 [0,1,2,3] (aCons (eV 1) (aCons (eV 2) (aCons (eV 3) (aCons (eV 4) aNil)))) jo)
theorem ze7 (T:Txt K mg a):cH P w K mg base eU 2 a.f_Back___init a.d_Back___init ["self","start","goal","time","behind"] (t8 K a.ct [3] [0,0,0,0] N3):=by
 have fv:=qw (P:=P) (w:=w) (base:=base) T
 refine IJ (ms:=[.ow 0,.ow 0,.ow 0,.ow 0]) (rk:=0) T.Back___init.fn ze1 rfl rfl (by decide) (zD (by decide)) λx0 iC A outer s H E hr=>?_
 exact(zh (Pc (ns:=[0,0,0,0]) fv (hr.mono (by decide)) T.Arrow.mgx T.q_Arrow.sp T.q_Arrow.rd T.q_Arrow.fc T.Arrow___init.fn.kp T.Arrow___init.bd (by decide) (ze (za 1 0) (ze (za 2 0) (ze (za 3 0) (ze (za 4 0) zj))))))
def On:List D->Option D:=mOf ["sign"]
  (sRet (eB (bAnd (tb (e2 xD (eC (.str "a")) (eV 0))) (tb (e2 xD (eV 0) (eC (.str "z")))))))
theorem zh2 (T:Txt K mg a):cH P w K mg base eU 1 a.f_is_letter a.d_is_letter ["sign"] (gE K a.ct [0] 0 On):=by
 refine iu (ms:=[.ow 0]) T.is_letter.fn zhy λ_ _ _ _ _ _ hr=>?_
 exact(zh (zl (XE.ow (vE (uv (k:=0) B7 BY (zL (n:=0)) (za 0 0) (bn _)) (tU (k:=0) (uv (k:=0) B7 BY (za 0 0) (zL (n:=0)) (bn _)))))))
def Sa:List D->Option D:=mOf ["sign"]
  (sRet (eB (bAnd (tb (e2 xD (eC (.str "0")) (eV 0))) (tb (e2 xD (eV 0) (eC (.str "9")))))))
theorem zh3 (T:Txt K mg a):cH P w K mg base eU 1 a.f_is_figure a.d_is_figure ["sign"] (gE K a.ct [0] 0 Sa):=by
 refine iu (ms:=[.ow 0]) T.is_figure.fn zhz λ_ _ _ _ _ _ hr=>?_
 exact(zh (zl (XE.ow (vE (uv (k:=0) B7 BY (zL (n:=0)) (za 0 0) (bn _)) (tU (k:=0) (uv (k:=0) B7 BY (za 0 0) (zL (n:=0)) (bn _)))))))
def zi6:EF:=(dW (λρ=>((eV 0) ρ).bind Qc) 1 [] (gV 0) fY (eB (bOr (tb (λρ=>((aCons (eV 0) aNil) ρ).bind λds=>On (ds++[]))) (tb (λρ=>((aCons (eV 0) aNil) ρ).bind λds=>Sa (ds++[]))))))
def Sx:List D->Option D:=mOf ["word"]
  (sSeq (sIf (bOr (bNot (tb (e1 (jU "str") (eV 0)))) (bOr (tb (e2 nD (eN cX (aCons (eV 0) aNil)) (eC (.int 1)))) (tb (e2 tQ (eN cX (aCons (eV 0) aNil)) (eC (.int 8)))))) (sRet (eC (.bl false))) sSkip)
  (sRet (eB (bAnd (tb (λρ=>((aCons (e2 cF (eV 0) (eC (.int 0))) aNil) ρ).bind λds=>On (ds++[]))) (tb (eN wO (aCons zi6 aNil)))))))
theorem zle (T:Txt K mg a):cH P w K mg base eU 2 a.f_is_name a.d_is_name ["word"] (gE K a.ct [0] 0 Sx):=by
 have mr:=zh2 (P:=P) (w:=w) (base:=base) T
 have pH:=zh3 (P:=P) (w:=w) (base:=base) T
 refine iu (ms:=[.ow 0]) T.is_name.fn zld λ_ _ _ _ _ _ hr=>?_
 exact(zf (wf (XW.t (j7 (v5 (vc (wA (k:=0) (by decide) T.b_isinstance T.b_str UV (za 0 0)))) (j7 (zu (k:=0) tf sZ (km T.b_len (ze (za 0 0) zj)) cy (bn _)) (jr (zu (k:=0) zN zM (km T.b_len (ze (za 0 0) zj)) (IU (n:=0) (d:=(.int 8)) rfl T.g_MOST_SIGNS.choose_spec rfl ⟨_,rfl⟩) (bn _)))))) (zh (zl (XE.ow (j6 (n:=0))))) zx)
  (zh (zl (XE.ow (vE (XO.sh (n:=0) (cM T.is_letter mr hr (ze (eI (za 0 0) cy) zj))) (tU (k:=0) (ud (k:=0) (SS rfl) TZ rfl T.b_all UG (ze (XO.sh (n:=0) (rE (N:=["sign"]) (om:=[.ow 0]) (cap:=[]) (own:=1) (XI.cc (zvj (n:=0) (za 0 0))) (λ_ _ _ _ _=>(lY (show bS (["sign"]:List aX)from by decide +kernel))) (λ_ _ _ _ _=>ut) (λ_ _ _ _ _=>(XE.ow (zwr (XO.sh (n:=0) (cM T.is_letter mr hr (ze (za 0 0) zj))) (tU (k:=0) (XO.sh (n:=0) (cM T.is_figure pH hr (ze (za 0 0) zj))))))))) zj))))))))
def zgl:SF:=(sSeq (sIf (bOr (bNot (tb (λρ=>((aCons (eV 2) aNil) ρ).bind λds=>Sx (ds++[])))) (tb (λρ=>((eV 2) ρ).bind λx=>((eV 1) ρ).bind λy=>(iP y x).bind λr=>some (.bl r.isSome)))) (sRet (eC (.bl false))) sSkip)
  (lB 1 (eV 2) (eC (.bl true))))
def qx:List D->Option D:=mOf ["names","seen","name"]
  (sSeq (sIf (bOr (bNot (tb (e1 (jU "list") (eV 0)))) (bOr (tb (e2 nD (eN cX (aCons (eV 0) aNil)) (eC (.int 1)))) (tb (e2 tQ (eN cX (aCons (eV 0) aNil)) (eC (.int 40)))))) (sRet (eC (.bl false))) sSkip)
  (sSeq (sSet 1 (eC (.dK [] [])))
  (sSeq (sFor (lsD (eV 0)) (gV 2) zgl)
  (sRet (eC (.bl true))))))
theorem zh5 (T:Txt K mg a):cH P w K mg base eU 3 a.f_are_names a.d_are_names ["names"] (gE K a.ct [0] 0 qx):=by
 have sy:=zle (P:=P) (w:=w) (base:=base) T
 refine iu (ms:=[.ow 0,.ow 1,.ow 0]) T.are_names.fn Oe λ_ _ _ _ _ _ hr=>?_
 exact(zf (wf (XW.t (j7 (v5 (vc (wA (k:=0) (by decide) T.b_isinstance T.b_list zG (za 0 0)))) (j7 (zu (k:=0) tf sZ (km T.b_len (ze (za 0 0) zj)) cy (bn _)) (jr (zu (k:=0) zN zM (km T.b_len (ze (za 0 0) zj)) (IU (n:=0) (d:=(.int 40)) rfl T.g_MOST_NAMES.choose_spec rfl ⟨_,rfl⟩) (bn _)))))) (zh (zl (XE.ow (j6 (n:=0))))) zx)
  (zf (er Oe.nd OH)
  (zf (jf (xQ (za 0 0)) (jN Oe.nd) (zf (wf (XW.t (j7 (v5 (vc (XO.sh (n:=0) (cM T.is_name sy hr (ze (za 2 0) zj))))) (jr (zvk (zO hr) (za 2 0) (za 1 1) (by with_unfolding_all rfl))))) (zh (zl (XE.ow (j6 (n:=0))))) zx)
  (zh (T1 1 rfl (zO hr) (za 2 0) (j6 (n:=0))))) cn.never rfl)
  (zh (zl (XE.ow (j6 (n:=0))))))))
def yq:List D->Option D:=mOf ["number","least","most"]
  (sSeq (sIf (bOr (bNot (tb (e1 (jU "int") (eV 0)))) (tb (e1 (jU "bool") (eV 0)))) (sRet (eC (.bl false))) sSkip)
  (sRet (eB (bAnd (tb (e2 xD (eV 1) (eV 0))) (tb (e2 xD (eV 0) (eV 2)))))))
theorem ze8 (T:Txt K mg a):cH P w K mg base eU 1 a.f_lies_within a.d_lies_within ["number","least","most"] (gE K a.ct [0,0,0] 0 yq):=by
 refine iu (ms:=[.ow 0,.ow 0,.ow 0]) T.lies_within.fn ze2 λ_ _ _ _ _ _ hr=>?_
 exact(zf (wf (XW.t (j7 (v5 (vc (wA (k:=0) (by decide) T.b_isinstance T.b_int UU (za 0 0)))) (jr (vc (wA (k:=0) (by decide) T.b_isinstance T.b_bool T7 (za 0 0)))))) (zh (zl (XE.ow (j6 (n:=0))))) zx)
  (zh (zl (XE.ow (vE (uv (k:=0) B7 BY (za 1 0) (za 0 0) (bn _)) (tU (k:=0) (uv (k:=0) B7 BY (za 0 0) (za 2 0) (bn _))))))))
def Ke:List D->Option D:=mOf ["arrow","many","least","most"]
  (sSeq (sSet 2 (eIf (tb (e1 (uP [0,1,2,3,4] [3]) (eV 0))) (eC (.int 1)) (eC (.int 0))))
  (sSeq (sSet 3 (eIf (tb (e1 (uP [0,1,2,3,4] [1]) (eV 0))) (eC (.int 0)) (eC (.int 4))))
  (sSeq (sIf (bOr (bNot (tb (λρ=>((aCons (e1 (cC [0,1,2,3] "start") (eV 0)) (aCons (eC (.int 0)) (aCons (e2 rD (eV 1) (eC (.int 1))) aNil))) ρ).bind λds=>yq (ds++[])))) (bNot (tb (λρ=>((aCons (e1 (cC [0,1,2,3] "goal") (eV 0)) (aCons (eC (.int 0)) (aCons (e2 rD (eV 1) (eC (.int 1))) aNil))) ρ).bind λds=>yq (ds++[]))))) (sRet (eC (.bl false))) sSkip)
  (sRet (eB (bAnd (tb (λρ=>((aCons (e1 (cC [0,1,2,3] "time") (eV 0)) (aCons (eC (.int 0)) (aCons (eC (.int 1000000000)) aNil))) ρ).bind λds=>yq (ds++[]))) (tb (λρ=>((aCons (e1 (cC [0,1,2,3] "behind") (eV 0)) (aCons (eV 2) (aCons (eV 3) aNil))) ρ).bind λds=>yq (ds++[])))))))))
theorem zi7 (T:Txt K mg a):cH P w K mg base eU 2 a.f_is_right a.d_is_right ["arrow","many"] (gE K a.ct [0,0] 0 Ke):=by
 have gN:=ze8 (P:=P) (w:=w) (base:=base) T
 refine iu (ms:=[.ow 0,.ow 0,.ow 0,.ow 0]) T.is_right.fn Om λ_ _ _ _ _ _ hr=>?_
 exact(zf (er Om.nd (XE.ow (KS (vc (T4 (k:=0) T.isi_Back T.b_isinstance T.Back.mgx (za 0 0))) cy cy)))
  (zf (er Om.nd (XE.ow (KS (vc (T4 (k:=0) T.isi_Ride T.b_isinstance T.Ride.mgx (za 0 0))) cy (IU (n:=0) (d:=(.int 4)) rfl T.g_MOST_BEHIND.choose_spec rfl ⟨_,rfl⟩))))
  (zf (wf (XW.t (j7 (v5 (vc (XO.sh (n:=0) (cM T.lies_within gN hr (ze (yg (n:=0) (za 0 0) T.fld_start rfl) (ze cy (ze (yf (k:=0) IX IT (za 1 0) cy) zj))))))) (jr (v5 (vc (XO.sh (n:=0) (cM T.lies_within gN hr (ze (yg (n:=0) (za 0 0) T.fld_goal rfl) (ze cy (ze (yf (k:=0) IX IT (za 1 0) cy) zj)))))))))) (zh (zl (XE.ow (j6 (n:=0))))) zx)
  (zh (zl (XE.ow (vE (XO.sh (n:=0) (cM T.lies_within gN hr (ze (yg (n:=0) (za 0 0) T.fld_time rfl) (ze cy (ze (IU (n:=0) (d:=(.int 1000000000)) rfl T.g_MOST_TIME.choose_spec rfl ⟨_,rfl⟩) zj))))) (tU (k:=0) (XO.sh (n:=0) (cM T.lies_within gN hr (ze (yg (n:=0) (za 0 0) T.fld_behind rfl) (ze (za 2 0) (ze (za 3 0) zj)))))))))))))
def vg:SF:=(sIf (tb (e2 (fZ false) (e1 (cC [0,1,2,3] "start") (eV 4)) (eV 7))) (sSeq (pS 3 (e1 (cC [0,1,2,3] "goal") (eV 4)) (λi j=>i-j) (eC (.int 1)))
  (sIf (tb (e2 (fZ false) (e2 cF (eV 3) (e1 (cC [0,1,2,3] "goal") (eV 4))) (eC (.int 0)))) (sApp 5 (e1 (cC [0,1,2,3] "goal") (eV 4))) sSkip)) sSkip)
def jk:SF:=(sSeq (sSet 7 (e2 cF (eV 5) (eV 6)))
  (sSeq (sFor (lsD (eV 2)) (gV 4) vg)
  (vA 6 (i2 λi j=>.int (i+j)) (eC (.int 1)))))
def RJ:EF:=(dW (λρ=>((aCons (eV 0) aNil) ρ).bind hJ) 1 [3] (gV 0) (tb (e2 (fZ false) (e2 cF (eV 1) (eV 0)) (eC (.int 0)))) (eV 0))
def jl:SF:=(pS 3 (e1 (cC [0,1,2,3] "goal") (eV 4)) (λi j=>i+j) (eC (.int 1)))
def RK:EF:=(dW (lsD (eV 1)) 1 [] (gV 0) (tb (e2 (fZ false) (e1 (cC [0,1,2,3] "behind") (eV 0)) (eC (.int 0)))) (eV 0))
def v8:List D->Option D:=mOf ["many","arrows","within","waited","arrow","placed","done","here"]
  (sSeq (sSet 2 RK)
  (sSeq (sSet 3 (e2 rB (λρ=>((aCons (eC (.int 0)) aNil) ρ).bind λds=>some (.lst ds)) (eV 0)))
  (sSeq (sFor (lsD (eV 2)) (gV 4) jl)
  (sSeq (sSet 5 RJ)
  (sSeq (sSet 6 (eC (.int 0)))
  (sSeq (gM (tb (e2 nD (eV 6) (eN cX (aCons (eV 5) aNil)))) jk)
  (sRet (eV 5))))))))
theorem zdv (T:Txt K mg a):cH P w K mg base eU 1 a.f_placed_goings a.d_placed_goings ["many","arrows"] (gE K a.ct [0,0] 0 v8):=by
 refine iu (ms:=[.ow 0,.ow 0,.ow 0,.ow 1,.ow 0,.ow 1,.ow 0,.ow 0]) T.placed_goings.fn xh λ_ _ _ _ _ _ hr=>?_
 exact(zf (uw (k:=0) (N:=["arrow"]) (om:=[.ow 0]) (cap:=[]) (own:=1) rfl xh.nd rfl (Or.inl rfl) (xT (by rfl)) rfl rfl (by decide) (vk (n:=0) (za 1 0)) (λ_ _ _ _ _=>(lY (show bS (["arrow"]:List aX)from by decide +kernel))) (λ_ _ _ _ _=>(zH (zu (k:=0) (vh hr.u64) xv (yg (n:=0) (za 0 0) T.fld_behind rfl) cy (bn _)))) (λ_ _ _ _ _=>(XE.ow (za 0 0))))
  (zf (er xh.nd (UL (rY (k:=0) (yb (XE.ow cy) xx)) (za 0 0)))
  (zf (jf (xQ (za 2 0)) (jN xh.nd) (zh (T3 3 Pp rfl (yg (n:=0) (za 4 0) T.fld_goal rfl) cy)) cn.never rfl)
  (zf (uw (k:=1) (N:=["going","waited"]) (om:=[.ow 0]) (cap:=[3]) (own:=1) rfl xh.nd rfl (Or.inl rfl) (xT (by rfl)) rfl rfl (by decide) (XI.cc (v6 (n:=0) T.b_range (ze (za 0 0) zj))) (λ_ _ _ _ _=>(lY (show bS (["going","waited"]:List aX)from by decide +kernel))) (λ_ _ _ _ _=>(zH (zu (k:=0) (vh hr.u64) xv (wC (n:=1) vX vZ (za 1 1) (za 0 0) (λ_ _=>rfl)) cy (bn _)))) (λ_ _ _ _ _=>(XE.ow (za 0 0))))
  (zf (er xh.nd (XE.ow cy))
  (zf (CD (zu (k:=0) tf sZ (za 6 0) (km T.b_len (ze (za 5 1) zj)) (bn _)) (zf (er xh.nd (XE.ow (wC (n:=1) vX vZ (za 5 1) (za 6 0) (λ_ _=>rfl))))
  (zf (jf (xQ (za 2 0)) (jN xh.nd) (zh (wf (zu (k:=0) (vh hr.u64) xv (yg (n:=0) (za 4 0) T.fld_start rfl) (za 7 0) (bn _)) (zf (T3 3 zum rfl (yg (n:=0) (za 4 0) T.fld_goal rfl) cy)
  (zh (wf (zu (k:=0) (vh hr.u64) xv (wC (n:=1) vX vZ (za 3 1) (yg (n:=0) (za 4 0) T.fld_goal rfl) (λ_ _=>rfl)) cy (bn _)) (zh (ju 5 rfl (XE.ow (yg (n:=0) (za 4 0) T.fld_goal rfl)))) zx))) zx)) cn.never rfl)
  (zh (UM Pp rfl xh.nd rfl (Or.inl rfl) cy)))) cn.never)
  (zh (zs3 (i:=5) rfl))))))))
def u8:SF:=(sSeq (lB 4 (eV 3) (eN cX (aCons (eV 5) aNil)))
  (sSeq (sApp 5 (λρ=>((eV 1) ρ).bind λx=>((eV 3) ρ).bind λy=>(iP x y).join))
  (sSet 3 (e1 (cC [0,1,2,3] "start") (e2 cF (eV 0) (λρ=>((eV 1) ρ).bind λx=>((eV 3) ρ).bind λy=>(iP x y).join))))))
def uq:List D->Option D:=mOf ["arrows","chosen","going","here","seen","way"]
  (sSeq (sSet 3 (eV 2))
  (sSeq (sSet 4 (eC (.dK [] [])))
  (sSeq (sSet 5 (λρ=>(aNil ρ).bind λds=>some (.lst ds)))
  (sSeq (gM (tb (λρ=>((eV 3) ρ).bind λx=>((eV 4) ρ).bind λy=>(iP y x).bind λr=>some (.bl (!r.isSome)))) u8)
  (sRet (e1 uR (λρ=>((eV 5) ρ).bind λd=>((pInt (λρ=>((eV 4) ρ).bind λx=>((eV 3) ρ).bind λy=>(iP x y).join)) ρ).bind λl=>(pNo ρ).bind λh=>kF d l h)))))))
theorem zdg (T:Txt K mg a):cH P w K mg base eU 1 a.f_ring_back_from a.d_ring_back_from ["arrows","chosen","going"] (gE K a.ct [0,0,0] 1 uq):=by
 refine iu (ms:=[.ow 0,.ow 0,.ow 0,.ow 0,.ow 1,.ow 1]) T.ring_back_from.fn ve λ_ _ _ _ _ _ hr=>?_
 exact(zf (er ve.nd (XE.ow (za 2 0)))
  (zf (er ve.nd OH)
  (zf (er ve.nd (rY (k:=0) xx))
  (zf (CD (zna (zO hr) (za 3 0) (za 4 1) (by with_unfolding_all rfl)) (zf (T1 4 rfl (zO hr) (za 3 0) (km T.b_len (ze (za 5 1) zj)))
  (zf (ju 5 rfl (XE.ow (Pt (zO hr) (za 1 0) (za 3 0) (λ_ _=>rfl))))
  (zh (er ve.nd (XE.ow (yg (n:=0) (eI (za 0 0) (Pt (zO hr) (za 1 0) (za 3 0) (λ_ _=>rfl))) T.fld_start rfl)))))) cn.never)
  (zh (zl (zs7 (n:=0) (by decide) rfl rfl T.b_list rfl T.b_reversed (XO.sh (n:=0) (Kk (n:=1) (by decide) (za 5 1) (IV (Pt (zO hr) (za 4 1) (za 3 0) (λ_ _=>rfl))) PQ)))))))))
def N9:SF:=(sIf (bNot (tb (λρ=>((aCons (eV 4) (aCons (eN cX (aCons (eV 1) aNil)) aNil)) ρ).bind λds=>Ke (ds++[])))) o8 sSkip)
def wz:Nat->List D->Option D:=Bs ["self","names","arrows","number","arrow","placed"]
  (sSeq (sIf (bOr (bNot (tb (λρ=>((aCons (eV 1) aNil) ρ).bind λds=>qx (ds++[])))) (tb (e2 tQ (eN cX (aCons (eV 2) aNil)) (eC (.int 120))))) o8 sSkip)
  (sSeq (sFor (λρ=>((aCons (eV 2) aNil) ρ).bind λds=>match ds with|[.lst xs]=>some (eA 0 xs)|_=>none) (gT (gsCons (gV 3) (gsCons (gV 4) gsNil))) N9)
  (sSeq (sSet 5 (λρ=>((aCons (eN cX (aCons (eV 1) aNil)) (aCons (eV 2) aNil)) ρ).bind λds=>v8 (ds++[])))
  (sSeq (sIf (tb (e2 nD (eN cX (aCons (eV 5) aNil)) (eN cX (aCons (eV 1) aNil)))) o8 sSkip)
  (sSeq (lA [4] "names" (eN mC (aCons (eV 1) aNil)))
  (lA [4] "arrows" (eN mC (aCons (eV 2) aNil))))))))
theorem zgm (T:Txt K mg a):cH P w K mg base eU 4 a.f_Net___init a.d_Net___init ["self","names","arrows"] (t8 K a.ct [4] [0,0] wz):=by
 have pG:=zh5 (P:=P) (w:=w) (base:=base) T
 have qU:=zi7 (P:=P) (w:=w) (base:=base) T
 have mM:=zdv (P:=P) (w:=w) (base:=base) T
 refine IJ (ms:=[.ow 0,.ow 0,.ow 0,.ow 0,.ow 0]) (rk:=0) T.Net___init.fn j9 rfl rfl (by decide) (zD (by decide)) λx0 iC A outer s H E hr=>?_
 exact(zf (wf (XW.t (j7 (v5 (vc (XO.sh (n:=0) (cM T.are_names pG hr (ze (za 1 0) zj))))) (jr (zu (k:=0) zN zM (km T.b_len (ze (za 2 0) zj)) (IU (n:=0) (d:=(.int 120)) rfl T.g_MOST_ARROWS.choose_spec rfl ⟨_,rfl⟩) (bn _))))) (zh OK) zx)
  (zf (jf (zsk T.b_enumerate (ze (za 2 0) zj)) (B6 (n:=1) rfl (xt (jN j9.nd) (xt (jN j9.nd) BX))) (zh (wf (v5 (vc (XO.sh (n:=0) (cM T.is_right qU hr (ze (za 4 0) (ze (km T.b_len (ze (za 1 0) zj)) zj)))))) (zh OK) zx)) cn.never rfl)
  (zf (er j9.nd (cM T.placed_goings mM hr (ze (km T.b_len (ze (za 1 0) zj)) (ze (za 2 0) zj))))
  (zf (wf (zu (k:=0) tf sZ (km T.b_len (ze (za 5 0) zj)) (km T.b_len (ze (za 1 0) zj)) (bn _)) (zh OK) zx)
  (zf (CO T.fld_names (XO.sh (n:=0) (OB Oc (OP (n:=0) (by decide)) rfl T.b_list zG (ze (za 1 0) zj))))
  (zh (CO T.fld_arrows (XO.sh (n:=0) (OB Oc (OP (n:=0) (by decide)) rfl T.b_list zG (ze (za 2 0) zj))))))))))
def qy:EF:=(dW (lsD (e1 (cC [4] "arrows") (eV 0))) 1 [] (gV 0) fY (e1 (cC [0,1,2,3] "behind") (eV 0)))
def ya:List D->Option D:=mOf ["self"]
  (sRet (eN uS (aCons (e2 e6 (λρ=>((aCons (eC (.int 1)) aNil) ρ).bind λds=>some (.lst ds)) qy) aNil)))
theorem zc3 (T:Txt K mg a):cH P w K mg base eU 1 a.f_Net_most_behind a.d_Net_most_behind ["self"] (gE K a.ct [0] 0 ya):=by
 refine iu (ms:=[.ow 0]) T.Net_most_behind.fn zc1 λ_ _ _ _ _ _ hr=>?_
 exact(zh (zl (XE.ow (ud (k:=0) (SQ rfl) TY rfl T.b_max UF (ze (XO.sh (n:=0) (og (XO.sh (n:=0) (rY (k:=0) (yb (XE.ow cy) xx))) (XO.sh (n:=0) (rE (N:=["arrow"]) (om:=[.ow 0]) (cap:=[]) (own:=1) (vk (n:=0) (yg (n:=0) (za 0 0) T.fld_arrows rfl)) (λ_ _ _ _ _=>(lY (show bS (["arrow"]:List aX)from by decide +kernel))) (λ_ _ _ _ _=>ut) (λ_ _ _ _ _=>(XE.ow (yg (n:=0) (za 0 0) T.fld_behind rfl))))))) zj)))))
def Og:EF:=(dW (λρ=>((aCons (e1 (cC [4] "arrows") (eV 0)) aNil) ρ).bind λds=>match ds with|[.lst xs]=>some (eA 0 xs)|_=>none) 2 [1] (gT (gsCons (gV 0) (gsCons (gV 1) gsNil))) (tb (e2 (fZ false) (e1 (cC [0,1,2,3] "goal") (eV 1)) (eV 2))) (eV 0))
def IF:List D->Option D:=mOf ["self","going"]
  (sRet Og)
theorem zi8 (T:Txt K mg a):cH P w K mg base eU 1 a.f_Net_into a.d_Net_into ["self","going"] (gE K a.ct [0,0] 0 IF):=by
 refine iu (ms:=[.ow 0,.ow 0]) T.Net_into.fn zi3 λ_ _ _ _ _ _ hr=>?_
 exact(zh (zl (mz (rE (N:=["number","arrow","going"]) (om:=[.ow 0,.ow 0]) (cap:=[1]) (own:=2) (Kt (n:=0) T.b_enumerate (ze (yg (n:=0) (za 0 0) T.fld_arrows rfl) zj)) (λ_ _ _ _ _=>(Kw (n:=1) rfl (jt (lY (show bS (["number","arrow","going"]:List aX)from by decide +kernel)) (jt (lY (show bS (["number","arrow","going"]:List aX)from by decide +kernel)) Ks)))) (λ_ _ _ _ _=>(zH (zu (k:=0) (vh hr.u64) xv (yg (n:=0) (za 1 0) T.fld_goal rfl) (za 2 0) (bn _)))) (λ_ _ _ _ _=>(XE.ow (za 0 0)))))))
def uz:SF:=(sIf (tb (e2 (inD true) (e1 (cC [0,1,2,3] "start") (e2 cF (e1 (cC [4] "arrows") (eV 0)) (eV 5))) (eV 2))) (sApp 2 (e1 (cC [0,1,2,3] "start") (e2 cF (e1 (cC [4] "arrows") (eV 0)) (eV 5)))) sSkip)
def Oh:SF:=(sSeq (sSet 4 (e2 cF (eV 2) (eV 3)))
  (sSeq (sFor (lsD (λρ=>((eV 0) ρ).bind λo=>((aCons (eV 4) aNil) ρ).bind λds=>kD 4 "into" IF o (ds++[]))) (gV 5) uz)
  (vA 3 (i2 λi j=>.int (i+j)) (eC (.int 1)))))
def u0:List D->Option D:=mOf ["net","going","found","done","here","number"]
  (sSeq (sSet 2 (λρ=>((aCons (eV 1) aNil) ρ).bind λds=>some (.lst ds)))
  (sSeq (sSet 3 (eC (.int 0)))
  (sSeq (gM (tb (e2 nD (eV 3) (eN cX (aCons (eV 2) aNil)))) Oh)
  (sRet (eN lC (aCons (eV 2) aNil))))))
theorem Sb (T:Txt K mg a):cH P w K mg base eU 2 a.f_leads_to a.d_leads_to ["net","going"] (gE K a.ct [0,0] 1 u0):=by
 have qR:=zi8 (P:=P) (w:=w) (base:=base) T
 refine iu (ms:=[.ow 0,.ow 0,.ow 1,.ow 0,.ow 0,.ow 0]) T.leads_to.fn ji λ_ _ _ _ _ _ hr=>?_
 exact(zf (er ji.nd (rY (k:=0) (yb (XE.ow (za 1 0)) xx)))
  (zf (er ji.nd (XE.ow cy))
  (zf (CD (zu (k:=0) tf sZ (za 3 0) (km T.b_len (ze (za 2 1) zj)) (bn _)) (zf (er ji.nd (XE.ow (wC (n:=1) vX vZ (za 2 1) (za 3 0) (λ_ _=>rfl))))
  (zf (jf (xQ (XO.sh (n:=0) (zsd (n:=0) (c0:=4) (ns:=[0]) (nd:=[]) (oA:=[]) (za 0 0) T.Net.cl T.Net_into.me qR (hr.mono (by decide)) T.Net_into.bd .nil (λ_ _=>.nil) (ze (za 4 0) zj)))) (jN ji.nd) (zh (wf (zu (k:=0) jp rZ (yg (n:=0) (eI (yg (n:=0) (za 0 0) T.fld_arrows rfl) (za 5 0)) T.fld_start rfl) (za 2 1) (by with_unfolding_all rfl)) (zh (ju 2 rfl (XE.ow (yg (n:=0) (eI (yg (n:=0) (za 0 0) T.fld_arrows rfl) (za 5 0)) T.fld_start rfl)))) zx)) cn.never rfl)
  (zh (UM Pp rfl ji.nd rfl (Or.inl rfl) cy)))) cn.never)
  (zh (zl (OI Od OR rfl T.b_sorted OA (ze (za 2 1) zj)))))))
def u9:SF:=(sSeq (sSet 2 (e2 dY (eV 0) (eV 1)))
  (sSeq (sSet 0 (eV 1))
  (sSet 1 (eV 2))))
def ur:List D->Option D:=mOf ["one","other","rest"]
  (sSeq (gM (tb (e2 (fZ true) (eV 1) (eC (.int 0)))) u9)
  (sRet (eN uC (aCons (eV 0) aNil))))
theorem zdh (T:Txt K mg a):cH P w K mg base eU 1 a.f_common_divisor a.d_common_divisor ["one","other"] (gE K a.ct [0,0] 0 ur):=by
 refine iu (ms:=[.ow 0,.ow 0,.ow 0]) T.common_divisor.fn ue λ_ _ _ _ _ _ hr=>?_
 exact(zf (CD (zu (k:=0) (xS hr.u64) xv (za 1 0) cy (bn _)) (zf (er ue.nd (XE.ow (yf (k:=0) xj xl (za 0 0) (za 1 0))))
  (zf (er ue.nd (XE.ow (za 1 0)))
  (zh (er ue.nd (XE.ow (za 2 0)))))) cn.never)
  (zh (zl (XE.ow (ud (k:=0) Tg Ud rfl T.b_abs UE (ze (za 0 0) zj))))))
def xO:List D->Option D:=mOf ["top","bottom","divisor"]
  (sSeq (sSet 2 (λρ=>((aCons (eV 0) (aCons (eV 1) aNil)) ρ).bind λds=>ur (ds++[])))
  (sSeq (sIf (tb (e2 nD (eV 1) (eC (.int 0)))) (sSet 2 (e1 rz (eV 2))) sSkip)
  (sRet (λρ=>((aCons (e2 fK (eV 0) (eV 2)) (aCons (e2 fK (eV 1) (eV 2)) aNil)) ρ).bind λds=>some (.tup ds)))))
theorem CF (T:Txt K mg a):cH P w K mg base eU 2 a.f_ratio a.d_ratio ["top","bottom"] (gE K a.ct [0,0] 0 xO):=by
 have lR:=zdh (P:=P) (w:=w) (base:=base) T
 refine iu (ms:=[.ow 0,.ow 0,.ow 0]) T.ratio.fn OT λ_ _ _ _ _ _ hr=>?_
 exact(zf (er OT.nd (cM T.common_divisor lR hr (ze (za 0 0) (ze (za 1 0) zj))))
  (zf (wf (zu (k:=0) tf sZ (za 1 0) cy (bn _)) (zh (er OT.nd (XE.ow (Ja (k:=0) (za 2 0))))) zx)
  (zh (zl (mz (vF (yb (XE.ow (yf (k:=0) vw vx (za 0 0) (za 2 0))) (yb (XE.ow (yf (k:=0) vw vx (za 1 0) (za 2 0))) xx))))))))
def IL:List D->Option D:=mOf ["one","whole"]
  (sRet (λρ=>((aCons (e2 dk (e2 cF (eV 0) (eC (.int 0))) (eV 1)) (aCons (e2 cF (eV 0) (eC (.int 1))) aNil)) ρ).bind λds=>xO (ds++[])))
theorem Sy (T:Txt K mg a):cH P w K mg base eU 3 a.f_scaled a.d_scaled ["one","whole"] (gE K a.ct [0,0] 0 IL):=by
 have gh:=CF (P:=P) (w:=w) (base:=base) T
 refine iu (ms:=[.ow 0,.ow 0]) T.scaled.fn znm λ_ _ _ _ _ _ hr=>?_
 exact(zh (zl (cM T.ratio gh hr (ze (yf (k:=0) xk yn (eI (za 0 0) cy) (za 1 0)) (ze (eI (za 0 0) cy) zj)))))
def CP:List D->Option D:=mOf ["one","other"]
  (sRet (λρ=>((aCons (e2 e6 (e2 dk (e2 cF (eV 0) (eC (.int 0))) (e2 cF (eV 1) (eC (.int 1)))) (e2 dk (e2 cF (eV 1) (eC (.int 0))) (e2 cF (eV 0) (eC (.int 1))))) (aCons (e2 dk (e2 cF (eV 0) (eC (.int 1))) (e2 cF (eV 1) (eC (.int 1)))) aNil)) ρ).bind λds=>xO (ds++[])))
theorem O5 (T:Txt K mg a):cH P w K mg base eU 3 a.f_plus a.d_plus ["one","other"] (gE K a.ct [0,0] 0 CP):=by
 have gh:=CF (P:=P) (w:=w) (base:=base) T
 refine iu (ms:=[.ow 0,.ow 0]) T.plus.fn ztd λ_ _ _ _ _ _ hr=>?_
 exact(zh (zl (cM T.ratio gh hr (ze (XO.sh (n:=0) (og (yf (k:=0) xk yn (eI (za 0 0) cy) (eI (za 1 0) cy)) (yf (k:=0) xk yn (eI (za 1 0) cy) (eI (za 0 0) cy)))) (ze (yf (k:=0) xk yn (eI (za 0 0) cy) (eI (za 1 0) cy)) zj)))))
def B0:List D->Option D:=mOf ["one","other"]
  (sRet (λρ=>((aCons (eV 0) (aCons (λρ=>((aCons (eV 1) (aCons (e1 rz (eC (.int 1))) aNil)) ρ).bind λds=>IL (ds++[])) aNil)) ρ).bind λds=>CP (ds++[])))
theorem Tp (T:Txt K mg a):cH P w K mg base eU 4 a.f_minus a.d_minus ["one","other"] (gE K a.ct [0,0] 0 B0):=by
 have nk:=O5 (P:=P) (w:=w) (base:=base) T
 have nq:=Sy (P:=P) (w:=w) (base:=base) T
 refine iu (ms:=[.ow 0,.ow 0]) T.minus.fn zpz λ_ _ _ _ _ _ hr=>?_
 exact(zh (zl (cM T.plus nk hr (ze (za 0 0) (ze (XO.sh (n:=0) (cM T.scaled nq hr (ze (za 1 0) (ze (Ja (k:=0) cy) zj)))) zj)))))
def B3:List D->Option D:=mOf ["one","other"]
  (sRet (e2 nD (e2 dk (e2 cF (eV 0) (eC (.int 0))) (e2 cF (eV 1) (eC (.int 1)))) (e2 dk (e2 cF (eV 1) (eC (.int 0))) (e2 cF (eV 0) (eC (.int 1))))))
theorem Tq (T:Txt K mg a):cH P w K mg base eU 1 a.f_under a.d_under ["one","other"] (gE K a.ct [0,0] 0 B3):=by
 refine iu (ms:=[.ow 0,.ow 0]) T.under.fn zp0 λ_ _ _ _ _ _ hr=>?_
 exact(zh (zl (XE.ow (uv (k:=0) tf sZ (yf (k:=0) xk yn (eI (za 0 0) cy) (eI (za 1 0) cy)) (yf (k:=0) xk yn (eI (za 1 0) cy) (eI (za 0 0) cy)) (bn _)))))
def zev:EF:=(dW (lsD (eV 1)) 1 [0] (gV 0) fY (e1 (cC [0,1,2,3] "goal") (e2 cF (e1 (cC [4] "arrows") (eV 1)) (eV 0))))
def Sd:EF:=(dW (lsD (eV 1)) 1 [0] (gV 0) fY (e1 (cC [0,1,2,3] "start") (e2 cF (e1 (cC [4] "arrows") (eV 1)) (eV 0))))
def qz:List D->Option D:=mOf ["net","ring","starts","goals"]
  (sSeq (sIf (bOr (tb (e2 (fZ false) (eN cX (aCons (eV 1) aNil)) (eC (.int 0)))) (bOr (tb (e2 nD (eN BA (aCons (eV 1) aNil)) (eC (.int 0)))) (tb (e2 yF (eN uS (aCons (eV 1) aNil)) (eN cX (aCons (e1 (cC [4] "arrows") (eV 0)) aNil)))))) (sRet (eC (.bl false))) sSkip)
  (sSeq (sSet 2 Sd)
  (sSeq (sSet 3 zev)
  (sRet (eB (bAnd (tb (e2 (fZ false) (eV 2) (e2 e6 (λρ=>((eV 3) ρ).bind λd=>((pInt (e1 rz (eC (.int 1)))) ρ).bind λl=>(pNo ρ).bind λh=>kF d l h) (λρ=>((eV 3) ρ).bind λd=>(pNo ρ).bind λl=>((pInt (e1 rz (eC (.int 1)))) ρ).bind λh=>kF d l h)))) (tb (e2 (fZ false) (e1 oY (eV 3)) (eN cX (aCons (eV 3) aNil))))))))))
theorem zlf (T:Txt K mg a):cH P w K mg base eU 1 a.f_is_ring a.d_is_ring ["net","ring"] (gE K a.ct [0,0] 0 qz):=by
 refine iu (ms:=[.ow 0,.ow 0,.ow 0,.ow 0]) T.is_ring.fn Oy λ_ _ _ _ _ _ hr=>?_
 exact(zf (wf (XW.t (j7 (zu (k:=0) (vh hr.u64) xv (km T.b_len (ze (za 1 0) zj)) cy (bn _)) (j7 (zu (k:=0) tf sZ (ud (k:=0) (zm0 rfl) zsy rfl T.b_min zu5 (ze (za 1 0) zj)) cy (bn _)) (jr (zu (k:=0) KW KO (ud (k:=0) (SQ rfl) TY rfl T.b_max UF (ze (za 1 0) zj)) (km T.b_len (ze (yg (n:=0) (za 0 0) T.fld_arrows rfl) zj)) (bn _)))))) (zh (zl (XE.ow (j6 (n:=0))))) zx)
  (zf (uw (k:=0) (N:=["number","net"]) (om:=[.ow 0]) (cap:=[0]) (own:=1) rfl Oy.nd rfl (Or.inl rfl) (xT (by rfl)) rfl rfl (by decide) (vk (n:=0) (za 1 0)) (λ_ _ _ _ _=>(lY (show bS (["number","net"]:List aX)from by decide +kernel))) (λ_ _ _ _ _=>ut) (λ_ _ _ _ _=>(XE.ow (yg (n:=0) (eI (yg (n:=0) (za 1 0) T.fld_arrows rfl) (za 0 0)) T.fld_start rfl))))
  (zf (uw (k:=0) (N:=["number","net"]) (om:=[.ow 0]) (cap:=[0]) (own:=1) rfl Oy.nd rfl (Or.inl rfl) (xT (by rfl)) rfl rfl (by decide) (vk (n:=0) (za 1 0)) (λ_ _ _ _ _=>(lY (show bS (["number","net"]:List aX)from by decide +kernel))) (λ_ _ _ _ _=>ut) (λ_ _ _ _ _=>(XE.ow (yg (n:=0) (eI (yg (n:=0) (za 1 0) T.fld_arrows rfl) (za 0 0)) T.fld_goal rfl))))
  (zh (zl (XE.ow (vE (uv (k:=0) (vh hr.u64) xv (za 2 0) (XO.sh (n:=0) (og (XO.sh (n:=0) (Kk (n:=0) (by decide) (za 3 0) (IV (Ja (k:=0) cy)) PQ)) (XO.sh (n:=0) (Kk (n:=0) (by decide) (za 3 0) PQ (IV (Ja (k:=0) cy)))))) (bn _)) (tU (k:=0) (uv (k:=0) (vh hr.u64) xv (znf (k:=0) rfl rfl T.b_len rfl T.b_set (za 3 0)) (km T.b_len (ze (za 3 0) zj)) (bn _))))))))))
def OU:EF:=(dW (lsD (eV 1)) 1 [0] (gV 0) fY (e1 (cC [0,1,2,3] "behind") (e2 cF (e1 (cC [4] "arrows") (eV 1)) (eV 0))))
def OV:EF:=(dW (lsD (eV 1)) 1 [0] (gV 0) fY (e1 (cC [0,1,2,3] "time") (e2 cF (e1 (cC [4] "arrows") (eV 1)) (eV 0))))
def wB:List D->Option D:=mOf ["net","ring","times","behinds"]
  (sSeq (sSet 2 (eN o9 (aCons OV aNil)))
  (sSeq (sSet 3 (eN o9 (aCons OU aNil)))
  (sRet (λρ=>((aCons (eV 2) (aCons (eV 3) aNil)) ρ).bind λds=>xO (ds++[])))))
theorem Pd (T:Txt K mg a):cH P w K mg base eU 3 a.f_mean a.d_mean ["net","ring"] (gE K a.ct [0,0] 0 wB):=by
 have gh:=CF (P:=P) (w:=w) (base:=base) T
 refine iu (ms:=[.ow 0,.ow 0,.ow 0,.ow 0]) T.mean.fn O4 λ_ _ _ _ _ _ hr=>?_
 exact(zf (er O4.nd (XE.ow (ud (k:=0) (II rfl) IW rfl T.b_sum I0 (ze (XO.sh (n:=0) (rE (N:=["number","net"]) (om:=[.ow 0]) (cap:=[0]) (own:=1) (vk (n:=0) (za 1 0)) (λ_ _ _ _ _=>(lY (show bS (["number","net"]:List aX)from by decide +kernel))) (λ_ _ _ _ _=>ut) (λ_ _ _ _ _=>(XE.ow (yg (n:=0) (eI (yg (n:=0) (za 1 0) T.fld_arrows rfl) (za 0 0)) T.fld_time rfl))))) zj))))
  (zf (er O4.nd (XE.ow (ud (k:=0) (II rfl) IW rfl T.b_sum I0 (ze (XO.sh (n:=0) (rE (N:=["number","net"]) (om:=[.ow 0]) (cap:=[0]) (own:=1) (vk (n:=0) (za 1 0)) (λ_ _ _ _ _=>(lY (show bS (["number","net"]:List aX)from by decide +kernel))) (λ_ _ _ _ _=>ut) (λ_ _ _ _ _=>(XE.ow (yg (n:=0) (eI (yg (n:=0) (za 1 0) T.fld_arrows rfl) (za 0 0)) T.fld_behind rfl))))) zj))))
  (zh (zl (cM T.ratio gh hr (ze (za 2 0) (ze (za 3 0) zj)))))))
def Kg:List D->Option D:=mOf ["arrow","pace","times","earliest"]
  (sSeq (sSet 3 (λρ=>((aCons (λρ=>((aCons (e2 cF (eV 2) (e1 (cC [0,1,2,3] "start") (eV 0))) (aCons (λρ=>((aCons (e1 (cC [0,1,2,3] "time") (eV 0)) (aCons (eC (.int 1)) aNil)) ρ).bind λds=>some (.tup ds)) aNil)) ρ).bind λds=>CP (ds++[])) (aCons (λρ=>((aCons (eV 1) (aCons (e1 (cC [0,1,2,3] "behind") (eV 0)) aNil)) ρ).bind λds=>IL (ds++[])) aNil)) ρ).bind λds=>B0 (ds++[])))
  (sRet (eB (bNot (tb (λρ=>((aCons (e2 cF (eV 2) (e1 (cC [0,1,2,3] "goal") (eV 0))) (aCons (eV 3) aNil)) ρ).bind λds=>B3 (ds++[])))))))
theorem zlg (T:Txt K mg a):cH P w K mg base eU 5 a.f_is_kept a.d_is_kept ["arrow","pace","times"] (gE K a.ct [0,0,0] 0 Kg):=by
 have oQ:=Tp (P:=P) (w:=w) (base:=base) T
 have nk:=O5 (P:=P) (w:=w) (base:=base) T
 have nq:=Sy (P:=P) (w:=w) (base:=base) T
 have oR:=Tq (P:=P) (w:=w) (base:=base) T
 refine iu (ms:=[.ow 0,.ow 0,.ow 0,.ow 0]) T.is_kept.fn Sl λ_ _ _ _ _ _ hr=>?_
 exact(zf (er Sl.nd (cM T.minus oQ hr (ze (XO.sh (n:=0) (cM T.plus nk hr (ze (eI (za 2 0) (yg (n:=0) (za 0 0) T.fld_start rfl)) (ze (XO.sh (n:=0) (vF (yb (XE.ow (yg (n:=0) (za 0 0) T.fld_time rfl)) (yb (XE.ow cy) xx)))) zj)))) (ze (XO.sh (n:=0) (cM T.scaled nq hr (ze (za 1 0) (ze (yg (n:=0) (za 0 0) T.fld_behind rfl) zj)))) zj))))
  (zh (zl (XE.ow (UI (k:=0) (XO.sh (n:=0) (cM T.under oR hr (ze (eI (za 2 0) (yg (n:=0) (za 0 0) T.fld_goal rfl)) (ze (za 3 0) zj)))))))))
def xu:SF:=(sSeq (sSet 7 (e2 cF (e1 (cC [4] "arrows") (eV 0)) (eV 6)))
  (sSeq (sSet 8 (e2 rD (e2 e6 (e2 cF (eV 3) (e1 (cC [0,1,2,3] "start") (eV 7))) (e2 dk (e1 (cC [0,1,2,3] "time") (eV 7)) (e2 cF (eV 1) (eC (.int 1))))) (e2 dk (e1 (cC [0,1,2,3] "behind") (eV 7)) (e2 cF (eV 1) (eC (.int 0))))))
  (sIf (tb (e2 tQ (eV 8) (e2 cF (eV 3) (e1 (cC [0,1,2,3] "goal") (eV 7))))) (sSeq (pT 3 (e1 (cC [0,1,2,3] "goal") (eV 7)) (eV 8))
  (sSeq (lB 4 (e1 (cC [0,1,2,3] "goal") (eV 7)) (eV 6))
  (sSet 5 (e1 (cC [0,1,2,3] "goal") (eV 7))))) sSkip)))
def v9:List D->Option D:=By 3 ["net","pace","numbers","times","chosen","pushed","number","arrow","earliest"]
  (xE (sSet 5 (eC .non))
  (xE (sFor (lsD (eV 2)) (gV 6) xu)
  (Bz (eV 5))))
theorem zh7 (T:Txt K mg a):cH P w K mg base eU 1 a.f_push_once a.d_push_once ["net","pace","numbers","times","chosen"] (Ca K a.ct 3 v9):=by
 refine zpy (n:=3) (ms:=[.ow 0,.ow 0,.ow 0,.ow 0]) T.push_once.fn ux rfl rfl λxa xb iC A outer s H E hr=>?_
 exact(Um (er ux.nd (XE.ow pd))
  (Um (jf (xQ (za 2 0)) (jN ux.nd) (zf (er ux.nd (XE.ow (eI (yg (n:=0) (za 0 0) T.fld_arrows rfl) (za 6 0))))
  (zf (er ux.nd (XE.ow (yf (k:=0) IX IT (XO.sh (n:=0) (og (wC (n:=1) vX vZ (za 3 1) (yg (n:=0) (za 7 0) T.fld_start rfl) (λ_ _=>rfl)) (yf (k:=0) xk yn (yg (n:=0) (za 7 0) T.fld_time rfl) (eI (za 1 0) cy)))) (yf (k:=0) xk yn (yg (n:=0) (za 7 0) T.fld_behind rfl) (eI (za 1 0) cy)))))
  (zh (wf (zu (k:=0) zN zM (za 8 0) (wC (n:=1) vX vZ (za 3 1) (yg (n:=0) (za 7 0) T.fld_goal rfl) (λ_ _=>rfl)) (bn _)) (zf (zpw 3 rfl (yg (n:=0) (za 7 0) T.fld_goal rfl) (za 8 0))
  (zf (zpx 4 rfl (zO hr) (yg (n:=0) (za 7 0) T.fld_goal rfl) (za 6 0))
  (zh (er ux.nd (XE.ow (yg (n:=0) (za 7 0) T.fld_goal rfl)))))) zx)))) cn.never rfl)
  (zvm (za 5 0))))
def ja:EF:=(dW (lsD (eV 3)) 1 [1] (gV 0) fY (λρ=>((aCons (eV 0) (aCons (e2 cF (eV 1) (eC (.int 1))) aNil)) ρ).bind λds=>xO (ds++[])))
def wj:SF:=(sSeq (oI 5 (nv 3 4 (aCons (eV 0) (aCons (eV 1) (aCons (eV 2) aNil))) v9))
  (sIf (tb (e2 (pO false) (eV 5) (eC .non))) (sFz 3 (sRet (λρ=>((aCons (Ce (eC (.str "times"))) (aCons ja aNil)) ρ).bind λds=>some (.tup ds)))) sSkip))
def xi:List D->Option D:=mOf ["net","pace","numbers","times","chosen","pushed","count"]
  (sSeq (sSet 3 (e2 rB (λρ=>((aCons (eC (.int 0)) aNil) ρ).bind λds=>some (.lst ds)) (eN cX (aCons (e1 (cC [4] "names") (eV 0)) aNil))))
  (sSeq (sSet 4 (eC (.dK [] [])))
  (sSeq (sSet 5 (eC .non))
  (sSeq (sFor (λρ=>((aCons (eN cX (aCons (e1 (cC [4] "names") (eV 0)) aNil)) aNil) ρ).bind hJ) (gV 6) wj)
  (sFz 4 (sRet (λρ=>((aCons (Ce (eC (.str "ring"))) (aCons (λρ=>((aCons (e1 (cC [4] "arrows") (eV 0)) (aCons (eV 4) (aCons (eV 5) aNil))) ρ).bind λds=>uq (ds++[])) aNil)) ρ).bind λds=>some (.tup ds))))))))
theorem jh (T:Txt K mg a):cH P w K mg base eU 3 a.f_times_or_ring_along a.d_times_or_ring_along ["net","pace","numbers"] (gE K a.ct [0,0,0] 2 xi):=by
 have pL:=zh7 (P:=P) (w:=w) (base:=base) T
 have gh:=CF (P:=P) (w:=w) (base:=base) T
 have lT:=zdg (P:=P) (w:=w) (base:=base) T
 refine iu (ms:=[.ow 0,.ow 0,.ow 0,.ow 1,.ow 1,.ow 0,.ow 0]) T.times_or_ring_along.fn yr λ_ _ _ _ _ _ hr=>?_
 exact(zf (er yr.nd (UL (rY (k:=0) (yb (XE.ow cy) xx)) (km T.b_len (ze (yg (n:=0) (za 0 0) T.fld_names rfl) zj))))
  (zf (er yr.nd OH)
  (zf (er yr.nd (XE.ow pd))
  (zf (jf (v6 (n:=0) T.b_range (ze (km T.b_len (ze (yg (n:=0) (za 0 0) T.fld_names rfl) zj)) zj)) (jN yr.nd) (zf (zta rfl yr.nd rfl (Or.inl rfl) (zs9 (i:=3) (j:=4) (by decide) rfl rfl pL (hr.mono (by decide)) rfl T.push_once.mgx T.push_once.fn.kp T.push_once.bd .nil (O3 (O3 (O3 zvn))) (OS (za 0 0) (OS (za 1 0) (OS (za 2 0) (zs8 (i:=3) (j:=4)))))))
  (zh (wf (zu (k:=0) CT CN (za 5 0) pd (bn _)) (Px (i:=3) rfl (zh (zl (vF (yb (Va (zL (n:=0))) (yb (rE (N:=["time","pace"]) (om:=[.ow 0]) (cap:=[1]) (own:=1) (vk (n:=0) (za 3 0)) (λ_ _ _ _ _=>(lY (show bS (["time","pace"]:List aX)from by decide +kernel))) (λ_ _ _ _ _=>ut) (λ_ _ _ _ _=>(cM T.ratio gh hr (ze (za 0 0) (ze (eI (za 1 0) cy) zj))))) xx)))))) zx))) cn.never rfl)
  (Px (i:=4) rfl (zh (zl (vF (yb (Va (zL (n:=0))) (yb (cM T.ring_back_from lT hr (ze (yg (n:=0) (za 0 0) T.fld_arrows rfl) (ze (za 4 0) (ze (za 5 0) zj)))) xx))))))))))
def ua:List D->Option D:=mOf ["net","pace","numbers","found"]
  (sSeq (sSet 3 (λρ=>((aCons (eV 0) (aCons (eV 1) (aCons (eV 2) aNil))) ρ).bind λds=>xi (ds++[])))
  (sRet (eIf (tb (e2 (fZ false) (e2 cF (eV 3) (eC (.int 0))) (eC (.str "ring")))) (e2 cF (eV 3) (eC (.int 1))) (eC .non))))
theorem zgp (T:Txt K mg a):cH P w K mg base eU 4 a.f_ring_above a.d_ring_above ["net","pace","numbers"] (gE K a.ct [0,0,0] 0 ua):=by
 have eY:=jh (P:=P) (w:=w) (base:=base) T
 refine iu (ms:=[.ow 0,.ow 0,.ow 0,.ow 0]) T.ring_above.fn RP λ_ _ _ _ _ _ hr=>?_
 exact(zf (er RP.nd (mz (cM T.times_or_ring_along eY hr (ze (za 0 0) (ze (za 1 0) (ze (za 2 0) zj))))))
  (zh (zl (XE.ow (KS (zu (k:=0) (vh hr.u64) xv (eI (za 3 0) cy) (zL (n:=0)) (bn _)) (eI (za 3 0) cy) pd)))))
def Ko:List D->Option D:=mOf ["one","other","total"]
  (sSeq (sSet 2 (λρ=>((aCons (eV 0) (aCons (eV 1) aNil)) ρ).bind λds=>CP (ds++[])))
  (sRet (λρ=>((aCons (e2 cF (eV 2) (eC (.int 0))) (aCons (e2 dk (e2 cF (eV 2) (eC (.int 1))) (eC (.int 2))) aNil)) ρ).bind λds=>xO (ds++[]))))
theorem znn (T:Txt K mg a):cH P w K mg base eU 4 a.f_midway a.d_midway ["one","other"] (gE K a.ct [0,0] 0 Ko):=by
 have nk:=O5 (P:=P) (w:=w) (base:=base) T
 have gh:=CF (P:=P) (w:=w) (base:=base) T
 refine iu (ms:=[.ow 0,.ow 0,.ow 0]) T.midway.fn Sw λ_ _ _ _ _ _ hr=>?_
 exact(zf (er Sw.nd (cM T.plus nk hr (ze (za 0 0) (ze (za 1 0) zj))))
  (zh (zl (cM T.ratio gh hr (ze (eI (za 2 0) cy) (ze (yf (k:=0) xk yn (eI (za 2 0) cy) cy) zj))))))
def J6:List D->Option D:=mOf ["net","most"]
  (sSeq (sSet 1 (e2 dk (eN cX (aCons (e1 (cC [4] "names") (eV 0)) aNil)) (λρ=>((eV 0) ρ).bind λo=>kD 4 "most_behind" ya o [])))
  (sRet (λρ=>((aCons (eC (.int 1)) (aCons (e2 dk (eV 1) (eV 1)) aNil)) ρ).bind λds=>xO (ds++[]))))
theorem zh8 (T:Txt K mg a):cH P w K mg base eU 3 a.f_least_gap a.d_least_gap ["net"] (gE K a.ct [0] 0 J6):=by
 have kT:=zc3 (P:=P) (w:=w) (base:=base) T
 have gh:=CF (P:=P) (w:=w) (base:=base) T
 refine iu (ms:=[.ow 0,.ow 0]) T.least_gap.fn R3 λ_ _ _ _ _ _ hr=>?_
 exact(zf (er R3.nd (XE.ow (yf (k:=0) xk yn (km T.b_len (ze (yg (n:=0) (za 0 0) T.fld_names rfl) zj)) (XO.sh (n:=0) (zo5 (n:=0) (c0:=4) (nd:=[]) (oA:=[]) (za 0 0) T.Net.cl T.Net_most_behind.me kT (hr.mono (by decide)) T.Net_most_behind.bd .nil (λ_ _=>.nil))))))
  (zh (zl (cM T.ratio gh hr (ze cy (ze (yf (k:=0) xk yn (za 1 0) (za 1 0)) zj))))))
def uh:SF:=(sSeq (sSet 5 (λρ=>((aCons (λρ=>((aCons (eV 0) (aCons (eV 2) aNil)) ρ).bind λds=>wB (ds++[])) (aCons (eV 3) aNil)) ρ).bind λds=>Ko (ds++[])))
  (sSeq (sSet 6 (λρ=>((aCons (eV 0) (aCons (eV 5) (aCons (eV 1) aNil))) ρ).bind λds=>ua (ds++[])))
  (sIf (tb (e2 (pO false) (eV 6) (eC .non))) (sSet 3 (eV 5)) (sSet 2 (eV 6)))))
def RL:EF:=(dW (lsD (eV 1)) 1 [0] (gV 0) fY (e1 (cC [0,1,2,3] "time") (e2 cF (e1 (cC [4] "arrows") (eV 1)) (eV 0))))
def uc:List D->Option D:=mOf ["net","numbers","ring","ceiling","gap","middle","better"]
  (sSeq (sSet 2 (λρ=>((aCons (eV 0) (aCons (λρ=>((aCons (e1 rz (eC (.int 1))) (aCons (eC (.int 1)) aNil)) ρ).bind λds=>some (.tup ds)) (aCons (eV 1) aNil))) ρ).bind λds=>ua (ds++[])))
  (sSeq (sIf (tb (e2 (pO false) (eV 2) (eC .non))) (sRet (eC .non)) sSkip)
  (sSeq (sSet 3 (λρ=>((aCons (eN o9 (aCons RL aNil)) (aCons (eC (.int 1)) aNil)) ρ).bind λds=>some (.tup ds)))
  (sSeq (sSet 4 (λρ=>((aCons (eV 0) aNil) ρ).bind λds=>J6 (ds++[])))
  (sSeq (gM (bNot (tb (λρ=>((aCons (λρ=>((aCons (eV 3) (aCons (λρ=>((aCons (eV 0) (aCons (eV 2) aNil)) ρ).bind λds=>wB (ds++[])) aNil)) ρ).bind λds=>B0 (ds++[])) (aCons (eV 4) aNil)) ρ).bind λds=>B3 (ds++[])))) uh)
  (sRet (eV 2)))))))
theorem zdw (T:Txt K mg a):cH P w K mg base eU 5 a.f_greatest_ring a.d_greatest_ring ["net","numbers"] (gE K a.ct [0,0] 0 uc):=by
 have kW:=zgp (P:=P) (w:=w) (base:=base) T
 have pK:=zh8 (P:=P) (w:=w) (base:=base) T
 have oR:=Tq (P:=P) (w:=w) (base:=base) T
 have oQ:=Tp (P:=P) (w:=w) (base:=base) T
 have lS:=Pd (P:=P) (w:=w) (base:=base) T
 have t7:=znn (P:=P) (w:=w) (base:=base) T
 refine iu (ms:=[.ow 0,.ow 0,.ow 0,.ow 0,.ow 0,.ow 0,.ow 0]) T.greatest_ring.fn xq λ_ _ _ _ _ _ hr=>?_
 exact(zf (er xq.nd (cM T.ring_above kW hr (ze (za 0 0) (ze (XO.sh (n:=0) (vF (yb (XE.ow (Ja (k:=0) cy)) (yb (XE.ow cy) xx)))) (ze (za 1 0) zj)))))
  (zf (wf (zu (k:=0) CT CN (za 2 0) pd (bn _)) (zh (zl (XE.ow pd))) zx)
  (zf (er xq.nd (mz (vF (yb (XE.ow (ud (k:=0) (II rfl) IW rfl T.b_sum I0 (ze (XO.sh (n:=0) (rE (N:=["number","net"]) (om:=[.ow 0]) (cap:=[0]) (own:=1) (vk (n:=0) (za 1 0)) (λ_ _ _ _ _=>(lY (show bS (["number","net"]:List aX)from by decide +kernel))) (λ_ _ _ _ _=>ut) (λ_ _ _ _ _=>(XE.ow (yg (n:=0) (eI (yg (n:=0) (za 1 0) T.fld_arrows rfl) (za 0 0)) T.fld_time rfl))))) zj))) (yb (XE.ow cy) xx)))))
  (zf (er xq.nd (cM T.least_gap pK hr (ze (za 0 0) zj)))
  (zf (CD (v5 (vc (XO.sh (n:=0) (cM T.under oR hr (ze (XO.sh (n:=0) (cM T.minus oQ hr (ze (za 3 0) (ze (XO.sh (n:=0) (cM T.mean lS hr (ze (za 0 0) (ze (za 2 0) zj)))) zj)))) (ze (za 4 0) zj)))))) (zf (er xq.nd (cM T.midway t7 hr (ze (XO.sh (n:=0) (cM T.mean lS hr (ze (za 0 0) (ze (za 2 0) zj)))) (ze (za 3 0) zj))))
  (zf (er xq.nd (cM T.ring_above kW hr (ze (za 0 0) (ze (za 5 0) (ze (za 1 0) zj)))))
  (zh (wf (zu (k:=0) CT CN (za 6 0) pd (bn _)) (zh (er xq.nd (XE.ow (za 5 0)))) (zh (er xq.nd (XE.ow (za 6 0)))))))) cn.never)
  (zh (zl (XE.ow (za 2 0)))))))))
def vm:List D->Option D:=mOf ["net","numbers","ring","pace"]
  (sSeq (sSet 2 (λρ=>((aCons (eV 0) (aCons (eV 1) aNil)) ρ).bind λds=>uc (ds++[])))
  (sSeq (sIf (tb (e2 (pO false) (eV 2) (eC .non))) (sRet (eC .non)) sSkip)
  (sSeq (sSet 3 (λρ=>((aCons (eV 0) (aCons (eV 2) aNil)) ρ).bind λds=>wB (ds++[])))
  (sRet (λρ=>((aCons (eV 3) (aCons (eV 2) (aCons (e2 cF (λρ=>((aCons (eV 0) (aCons (eV 3) (aCons (eV 1) aNil))) ρ).bind λds=>xi (ds++[])) (eC (.int 1))) aNil))) ρ).bind λds=>some (.tup ds))))))
theorem RQ (T:Txt K mg a):cH P w K mg base eU 6 a.f_paper_along a.d_paper_along ["net","numbers"] (gE K a.ct [0,0] 0 vm):=by
 have mL:=zdw (P:=P) (w:=w) (base:=base) T
 have lS:=Pd (P:=P) (w:=w) (base:=base) T
 have eY:=jh (P:=P) (w:=w) (base:=base) T
 refine iu (ms:=[.ow 0,.ow 0,.ow 0,.ow 0]) T.paper_along.fn N8 λ_ _ _ _ _ _ hr=>?_
 exact(zf (er N8.nd (cM T.greatest_ring mL hr (ze (za 0 0) (ze (za 1 0) zj))))
  (zf (wf (zu (k:=0) CT CN (za 2 0) pd (bn _)) (zh (zl (XE.ow pd))) zx)
  (zf (er N8.nd (cM T.mean lS hr (ze (za 0 0) (ze (za 2 0) zj))))
  (zh (zl (mz (vF (yb (XE.ow (za 3 0)) (yb (XE.ow (za 2 0)) (yb (XE.ow (eI (XO.sh (n:=0) (cM T.times_or_ring_along eY hr (ze (za 0 0) (ze (za 3 0) (ze (za 1 0) zj))))) cy)) xx))))))))))
def jb:List D->Option D:=mOf ["net"]
  (sRet (λρ=>((aCons (eV 0) (aCons (eN kr (aCons (eN cX (aCons (e1 (cC [4] "arrows") (eV 0)) aNil)) aNil)) aNil)) ρ).bind λds=>vm (ds++[])))
theorem ze9 (T:Txt K mg a):cH P w K mg base eU 7 a.f_least_round a.d_least_round ["net"] (gE K a.ct [0] 0 jb):=by
 have iH:=RQ (P:=P) (w:=w) (base:=base) T
 refine iu (ms:=[.ow 0]) T.least_round.fn ze3 λ_ _ _ _ _ _ hr=>?_
 exact(zh (zl (cM T.paper_along iH hr (ze (za 0 0) (ze (XO.sh (n:=0) (O2 rfl rfl T.b_list rfl T.b_range (ze (km T.b_len (ze (yg (n:=0) (za 0 0) T.fld_arrows rfl) zj)) zj))) zj)))))
def OW:EF:=(dW (λρ=>((aCons (e2 cF (eV 3) (eC (.int 2))) aNil) ρ).bind λds=>match ds with|[.lst xs]=>some (eA 0 xs)|_=>none) 2 [2] (gT (gsCons (gV 0) (gsCons (gV 1) gsNil))) fY (eIf (tb (e2 (inD false) (eV 0) (eV 2))) (eV 1) (eC .non)))
def OX:EF:=(dW (λρ=>((aCons (e1 (cC [4] "arrows") (eV 0)) aNil) ρ).bind λds=>match ds with|[.lst xs]=>some (eA 0 xs)|_=>none) 2 [2] (gT (gsCons (gV 0) (gsCons (gV 1) gsNil))) (tb (e2 (inD false) (e1 (cC [0,1,2,3] "goal") (eV 1)) (eV 2))) (eV 0))
def IY:List D->Option D:=mOf ["net","going","leading","paper","times"]
  (sSeq (sSet 2 (λρ=>((aCons (eV 0) (aCons (eV 1) aNil)) ρ).bind λds=>u0 (ds++[])))
  (sSeq (sSet 3 (λρ=>((aCons (eV 0) (aCons OX aNil)) ρ).bind λds=>vm (ds++[])))
  (sSeq (sIf (tb (e2 (pO false) (eV 3) (eC .non))) (sRet (eC .non)) sSkip)
  (sSeq (sSet 4 OW)
  (sRet (λρ=>((aCons (e2 cF (eV 3) (eC (.int 0))) (aCons (e2 cF (eV 3) (eC (.int 1))) (aCons (eV 4) aNil))) ρ).bind λds=>some (.tup ds)))))))
theorem zte (T:Txt K mg a):cH P w K mg base eU 7 a.f_rate a.d_rate ["net","going"] (gE K a.ct [0,0] 0 IY):=by
 have kz:=Sb (P:=P) (w:=w) (base:=base) T
 have iH:=RQ (P:=P) (w:=w) (base:=base) T
 refine iu (ms:=[.ow 0,.ow 0,.ow 0,.ow 0,.ow 0]) T.rate.fn KE λ_ _ _ _ _ _ hr=>?_
 exact(zf (er KE.nd (mz (cM T.leads_to kz hr (ze (za 0 0) (ze (za 1 0) zj)))))
  (zf (er KE.nd (cM T.paper_along iH hr (ze (za 0 0) (ze (XO.sh (n:=0) (rE (N:=["number","arrow","leading"]) (om:=[.ow 0,.ow 0]) (cap:=[2]) (own:=2) (Kt (n:=0) T.b_enumerate (ze (yg (n:=0) (za 0 0) T.fld_arrows rfl) zj)) (λ_ _ _ _ _=>(Kw (n:=1) rfl (jt (lY (show bS (["number","arrow","leading"]:List aX)from by decide +kernel)) (jt (lY (show bS (["number","arrow","leading"]:List aX)from by decide +kernel)) Ks)))) (λ_ _ _ _ _=>(zH (zu (k:=0) u6 rZ (yg (n:=0) (za 1 0) T.fld_goal rfl) (za 2 0) (by with_unfolding_all rfl)))) (λ_ _ _ _ _=>(XE.ow (za 0 0))))) zj))))
  (zf (wf (zu (k:=0) CT CN (za 3 0) pd (bn _)) (zh (zl (XE.ow pd))) zx)
  (zf (uw (k:=0) (N:=["place","time","leading"]) (om:=[.ow 0,.ow 0]) (cap:=[2]) (own:=2) rfl KE.nd rfl (Or.inl rfl) (xT (by rfl)) rfl rfl (by decide) (Kt (n:=0) T.b_enumerate (ze (eI (za 3 0) cy) zj)) (λ_ _ _ _ _=>(Kw (n:=1) rfl (jt (lY (show bS (["place","time","leading"]:List aX)from by decide +kernel)) (jt (lY (show bS (["place","time","leading"]:List aX)from by decide +kernel)) Ks)))) (λ_ _ _ _ _=>ut) (λ_ _ _ _ _=>(XE.ow (KS (zu (k:=0) u6 rZ (za 0 0) (za 2 0) (by with_unfolding_all rfl)) (za 1 0) pd))))
  (zh (zl (mz (vF (yb (XE.ow (eI (za 3 0) cy)) (yb (XE.ow (eI (za 3 0) cy)) (yb (XE.ow (za 4 0)) xx)))))))))))
def IG:List D->Option D:=mOf ["net","ring","pace"]
  (sRet (eB (bAnd (tb (λρ=>((aCons (eV 0) (aCons (eV 1) aNil)) ρ).bind λds=>qz (ds++[]))) (tb (e2 (fZ false) (λρ=>((aCons (eV 0) (aCons (eV 1) aNil)) ρ).bind λds=>wB (ds++[])) (eV 2))))))
theorem zjb (T:Txt K mg a):cH P w K mg base eU 4 a.f_has_mean a.d_has_mean ["net","ring","pace"] (gE K a.ct [0,0,0] 0 IG):=by
 have sA:=zlf (P:=P) (w:=w) (base:=base) T
 have lS:=Pd (P:=P) (w:=w) (base:=base) T
 refine iu (ms:=[.ow 0,.ow 0,.ow 0]) T.has_mean.fn zi5 λ_ _ _ _ _ _ hr=>?_
 exact(zh (zl (XE.ow (vE (XO.sh (n:=0) (cM T.is_ring sA hr (ze (za 0 0) (ze (za 1 0) zj)))) (tU (k:=0) (uv (k:=0) (vh hr.u64) xv (XO.sh (n:=0) (cM T.mean lS hr (ze (za 0 0) (ze (za 1 0) zj)))) (za 2 0) (bn _)))))))
def R4:EF:=(dW (lsD (e1 (cC [4] "arrows") (eV 0))) 1 [3,5,6] (gV 0) (tb (e2 (inD false) (e1 (cC [0,1,2,3] "goal") (eV 0)) (eV 3))) (λρ=>((aCons (eV 0) (aCons (eV 1) (aCons (eV 2) aNil))) ρ).bind λds=>Kg (ds++[])))
def Oi:EF:=(dW (λρ=>((aCons (eV 5) aNil) ρ).bind λds=>match ds with|[.lst xs]=>some (eA 0 xs)|_=>none) 2 [] (gT (gsCons (gV 0) (gsCons (gV 1) gsNil))) (tb (e2 (pO true) (eV 1) (eC .non))) (eV 0))
def u4:List D->Option D:=mOf ["net","going","paper","pace","ring","times","leading","timed"]
  (sSeq (sSet 3 (e2 cF (eV 2) (eC (.int 0))))
  (sSeq (sSet 4 (e2 cF (eV 2) (eC (.int 1))))
  (sSeq (sSet 5 (e2 cF (eV 2) (eC (.int 2))))
  (sSeq (sSet 6 (λρ=>((aCons (eV 0) (aCons (eV 1) aNil)) ρ).bind λds=>u0 (ds++[])))
  (sSeq (sIf (bOr (bNot (tb (λρ=>((aCons (eV 0) (aCons (eV 4) (aCons (eV 3) aNil))) ρ).bind λds=>IG (ds++[])))) (tb (e2 (inD true) (e1 (cC [0,1,2,3] "goal") (e2 cF (e1 (cC [4] "arrows") (eV 0)) (e2 cF (eV 4) (eC (.int 0))))) (eV 6)))) (sRet (eC (.bl false))) sSkip)
  (sSeq (sSet 7 Oi)
  (sSeq (sIf (bOr (tb (e2 (fZ true) (eN cX (aCons (eV 5) aNil)) (eN cX (aCons (e1 (cC [4] "names") (eV 0)) aNil)))) (tb (e2 (fZ true) (eV 7) (eV 6)))) (sRet (eC (.bl false))) sSkip)
  (sRet (eN wO (aCons R4 aNil))))))))))
theorem zjc (T:Txt K mg a):cH P w K mg base eU 6 a.f_holds_at a.d_holds_at ["net","going","paper"] (gE K a.ct [0,0,0] 0 u4):=by
 have kz:=Sb (P:=P) (w:=w) (base:=base) T
 have qS:=zjb (P:=P) (w:=w) (base:=base) T
 have sx:=zlg (P:=P) (w:=w) (base:=base) T
 refine iu (ms:=[.ow 0,.ow 0,.ow 0,.ow 0,.ow 0,.ow 0,.ow 0,.ow 0]) T.holds_at.fn jj λ_ _ _ _ _ _ hr=>?_
 exact(zf (er jj.nd (XE.ow (eI (za 2 0) cy)))
  (zf (er jj.nd (XE.ow (eI (za 2 0) cy)))
  (zf (er jj.nd (XE.ow (eI (za 2 0) cy)))
  (zf (er jj.nd (mz (cM T.leads_to kz hr (ze (za 0 0) (ze (za 1 0) zj)))))
  (zf (wf (XW.t (j7 (v5 (vc (XO.sh (n:=0) (cM T.has_mean qS hr (ze (za 0 0) (ze (za 4 0) (ze (za 3 0) zj))))))) (jr (zu (k:=0) jp rZ (yg (n:=0) (eI (yg (n:=0) (za 0 0) T.fld_arrows rfl) (eI (za 4 0) cy)) T.fld_goal rfl) (za 6 0) (by with_unfolding_all rfl))))) (zh (zl (XE.ow (j6 (n:=0))))) zx)
  (zf (uw (k:=0) (N:=["place","time"]) (om:=[.ow 0,.ow 0]) (cap:=[]) (own:=2) rfl jj.nd rfl (Or.inl rfl) (xT (by rfl)) rfl rfl (by decide) (Kt (n:=0) T.b_enumerate (ze (za 5 0) zj)) (λ_ _ _ _ _=>(Kw (n:=1) rfl (jt (lY (show bS (["place","time"]:List aX)from by decide +kernel)) (jt (lY (show bS (["place","time"]:List aX)from by decide +kernel)) Ks)))) (λ_ _ _ _ _=>(zH (zu (k:=0) IR IH (za 1 0) pd (bn _)))) (λ_ _ _ _ _=>(XE.ow (za 0 0))))
  (zf (wf (XW.t (j7 (zu (k:=0) (xS hr.u64) xv (km T.b_len (ze (za 5 0) zj)) (km T.b_len (ze (yg (n:=0) (za 0 0) T.fld_names rfl) zj)) (bn _)) (jr (zu (k:=0) (xS hr.u64) xv (za 7 0) (za 6 0) (bn _))))) (zh (zl (XE.ow (j6 (n:=0))))) zx)
  (zh (zl (XE.ow (ud (k:=0) (SS rfl) TZ rfl T.b_all UG (ze (XO.sh (n:=0) (rE (N:=["arrow","pace","times","leading"]) (om:=[.ow 0]) (cap:=[3,5,6]) (own:=1) (vk (n:=0) (yg (n:=0) (za 0 0) T.fld_arrows rfl)) (λ_ _ _ _ _=>(lY (show bS (["arrow","pace","times","leading"]:List aX)from by decide +kernel))) (λ_ _ _ _ _=>(zH (zu (k:=0) u6 rZ (yg (n:=0) (za 0 0) T.fld_goal rfl) (za 3 0) (by with_unfolding_all rfl)))) (λ_ _ _ _ _=>(cM T.is_kept sx hr (ze (za 0 0) (ze (za 1 0) (ze (za 2 0) zj))))))) zj))))))))))))
def wk:List D->Option D:=mOf ["_law_script","_law_k"]
  (sSeq (sIf (tb (e2 nD (eV 1) (eN cX (aCons (eV 0) aNil)))) (sRet (e2 cF (eV 0) (eV 1))) sSkip)
  (sRet (eC (.int 0))))
theorem zfa (T:Txt K mg a):cH P w K mg base eU 1 a.f_law_cell_at a.d_law_cell_at ["_law_script","_law_k"] (gE K a.ct [0,0] 0 wk):=by
 refine iu (ms:=[.ow 0,.ow 0]) T.law_cell_at.fn ze4 λ_ _ _ _ _ _ hr=>?_
 exact(zf (wf (zu (k:=0) tf sZ (za 1 0) (km T.b_len (ze (za 0 0) zj)) (bn _)) (zh (zl (XE.ow (eI (za 0 0) (za 1 0))))) zx)
  (zh (zl (XE.ow cy))))
def uu:List D->Option D:=mOf ["_law_found"]
  (sRet (eB (bAnd (tb (e1 (jU "int") (eV 0))) (tb (eB (bNot (tb (e1 (jU "bool") (eV 0)))))))))
theorem R5 (T:Txt K mg a):cH P w K mg base eU 1 a.f_law_whole a.d_law_whole ["_law_found"] (gE K a.ct [0] 0 uu):=by
 refine iu (ms:=[.ow 0]) T.law_whole.fn zh1 λ_ _ _ _ _ _ hr=>?_
 exact(zh (zl (XE.ow (vE (wA (k:=0) (by decide) T.b_isinstance T.b_int UU (za 0 0)) (tU (k:=0) (UI (k:=0) (wA (k:=0) (by decide) T.b_isinstance T.b_bool T7 (za 0 0))))))))
def u5:List D->Option D:=mOf ["_law_cell"]
  (sRet (eB (bAnd (tb (e2 yF (eV 0) (e2 xH (eC (.int 1)) (eC (.int 90))))) (tb (e2 (fZ false) (e2 dY (eV 0) (eC (.int 2))) (eC (.int 1)))))))
theorem N4 (T:Txt K mg a):cH P w K mg base eU 1 a.f_law_is_row a.d_law_is_row ["_law_cell"] (gE K a.ct [0] 0 u5):=by
 refine iu (ms:=[.ow 0]) T.law_is_row.fn zgk λ_ _ _ _ _ _ hr=>?_
 exact(zh (zl (XE.ow (vE (uv (k:=0) KW KO (za 0 0) (yf (k:=0) zup zsg cy cy) (bn _)) (tU (k:=0) (uv (k:=0) (vh hr.u64) xv (yf (k:=0) xj xl (za 0 0) cy) cy (bn _)))))))
def wm:List D->Option D:=mOf ["_law_cell","_law_k","_law_number"]
  (sSeq (sIf (bAnd (tb (λρ=>((aCons (eV 0) aNil) ρ).bind λds=>u5 (ds++[]))) (tb (e2 tQ (e2 sU (eV 0) (e2 e6 (eC (.int 1)) (e2 dk (eC (.int 31)) (eV 1)))) (eC (.int 0))))) (sRet (e2 dY (e2 sU (eV 0) (e2 e6 (eC (.int 1)) (e2 dk (eC (.int 31)) (eV 1)))) (eC (.int 2147483648)))) sSkip)
  (sSeq (sSet 2 (e2 dY (e2 dk (e2 e6 (e2 e6 (eV 0) (e2 dk (eC (.int 7919)) (eV 1))) (eC (.int 1))) (eC (.int 48271))) (eC (.int 2147483647))))
  (sSeq (sSet 2 (e2 dY (e2 dk (eV 2) (e2 e6 (e2 fK (eV 2) (eC (.int 1009))) (eC (.int 69621)))) (eC (.int 2147483647))))
  (sRet (e2 dY (e2 dk (eV 2) (e2 e6 (e2 e6 (e2 fK (eV 2) (eC (.int 2003))) (eC (.int 39373))) (eV 1))) (eC (.int 2147483629)))))))
theorem Oj (T:Txt K mg a):cH P w K mg base eU 2 a.f_law_mixed a.d_law_mixed ["_law_cell","_law_k"] (gE K a.ct [0,0] 0 wm):=by
 have gc:=N4 (P:=P) (w:=w) (base:=base) T
 refine iu (ms:=[.ow 0,.ow 0,.ow 0]) T.law_mixed.fn Of λ_ _ _ _ _ _ hr=>?_
 exact(zf (wf (XW.t (vY (vc (XO.sh (n:=0) (cM T.law_is_row gc hr (ze (za 0 0) zj)))) (vW (zu (k:=0) zN zM (yf (k:=0) UT Uc (za 0 0) (XO.sh (n:=0) (og cy (yf (k:=0) xk yn cy (za 1 0))))) cy (bn _))))) (zh (zl (XE.ow (yf (k:=0) xj xl (yf (k:=0) UT Uc (za 0 0) (XO.sh (n:=0) (og cy (yf (k:=0) xk yn cy (za 1 0))))) cy)))) zx)
  (zf (er Of.nd (XE.ow (yf (k:=0) xj xl (yf (k:=0) xk yn (XO.sh (n:=0) (og (XO.sh (n:=0) (og (za 0 0) (yf (k:=0) xk yn cy (za 1 0)))) cy)) cy) cy)))
  (zf (er Of.nd (XE.ow (yf (k:=0) xj xl (yf (k:=0) xk yn (za 2 0) (XO.sh (n:=0) (og (yf (k:=0) vw vx (za 2 0) cy) cy))) cy)))
  (zh (zl (XE.ow (yf (k:=0) xj xl (yf (k:=0) xk yn (za 2 0) (XO.sh (n:=0) (og (XO.sh (n:=0) (og (yf (k:=0) vw vx (za 2 0) cy) cy)) (za 1 0)))) cy)))))))
def jw:SF:=(o6 3 4 (e2 dY (λρ=>((aCons (eV 0) (aCons (eV 5) aNil)) ρ).bind λds=>wm (ds++[])) (eN cX (aCons (eV 4) aNil))))
def jm:List D->Option D:=mOf ["_law_turn","_law_many","_law_going","_law_order","_law_left","_law_k"]
  (sSeq (sIf (bNot (tb (λρ=>((aCons (eV 0) aNil) ρ).bind λds=>u5 (ds++[])))) (sRet (e2 dY (e2 e6 (eV 2) (eV 0)) (eV 1))) sSkip)
  (sSeq (sSet 3 (λρ=>(aNil ρ).bind λds=>some (.lst ds)))
  (sSeq (sSet 4 (eN kr (aCons (eV 1) aNil)))
  (sSeq (sFor (λρ=>((aCons (eV 1) aNil) ρ).bind hJ) (gV 5) jw)
  (sRet (e2 uO (eV 3) (eV 2)))))))
theorem zjd (T:Txt K mg a):cH P w K mg base eU 3 a.f_law_rank a.d_law_rank ["_law_turn","_law_many","_law_going"] (gE K a.ct [0,0,0] 0 jm):=by
 have gc:=N4 (P:=P) (w:=w) (base:=base) T
 have fW:=Oj (P:=P) (w:=w) (base:=base) T
 refine iu (ms:=[.ow 0,.ow 0,.ow 0,.ow 1,.ow 1,.ow 0]) T.law_rank.fn Ka λ_ _ _ _ _ _ hr=>?_
 exact(zf (wf (v5 (vc (XO.sh (n:=0) (cM T.law_is_row gc hr (ze (za 0 0) zj))))) (zh (zl (XE.ow (yf (k:=0) xj xl (XO.sh (n:=0) (og (za 2 0) (za 0 0))) (za 1 0))))) zx)
  (zf (er Ka.nd (rY (k:=0) xx))
  (zf (er Ka.nd (O2 rfl rfl T.b_list rfl T.b_range (ze (za 1 0) zj)))
  (zf (jf (v6 (n:=0) T.b_range (ze (za 1 0) zj)) (jN Ka.nd) (zh (zm9 3 4 rfl rfl (by decide) (yf (k:=0) xj xl (XO.sh (n:=0) (cM T.law_mixed fW hr (ze (za 0 0) (ze (za 5 0) zj)))) (km T.b_len (ze (za 4 1) zj))))) cn.never rfl)
  (zh (zl (XE.ow (zpm (k:=0) (za 3 1) (za 2 0)))))))))
def qf:SF:=(sSeq (sSet 7 (e2 dY (e2 fK (eV 3) (eC (.int 1000))) (eC (.int 10))))
  (sSeq (sIf (tb (e2 (fZ false) (e2 dY (eV 0) (eC (.int 3))) (eC (.int 2)))) (sSet 7 (e2 dY (e2 fK (eV 0) (eC (.int 3))) (e2 e6 (e2 uY (eC (.int 10)) (eC (.int 9))) (eC (.int 1))))) sSkip)
  (sSeq (sIf (tb (λρ=>((aCons (eV 0) aNil) ρ).bind λds=>u5 (ds++[]))) (sSet 7 (e2 dY (λρ=>((aCons (eV 0) (aCons (eC (.int 30)) aNil)) ρ).bind λds=>wm (ds++[])) (e2 e6 (e2 uY (eC (.int 10)) (eC (.int 9))) (eC (.int 1))))) sSkip)
  (sRet (λρ=>((aCons (eV 4) (aCons (eV 5) (aCons (eV 7) (aCons (eV 6) aNil)))) ρ).bind λds=>some (.tup ds))))))
def vb:List D->Option D:=mOf ["_law_cell","_law_many","_law_turn","_law_number","_law_start","_law_goal","_law_behind","_law_time"]
  (sSeq (sSet 3 (λρ=>((aCons (eV 0) (aCons (eC (.int 1)) aNil)) ρ).bind λds=>wm (ds++[])))
  (sSeq (sSet 4 (e2 dY (eV 3) (eV 1)))
  (sSeq (sSet 5 (e2 dY (e2 fK (eV 3) (eC (.int 8))) (eV 1)))
  (sSeq (sSet 6 (e2 dY (e2 fK (eV 3) (eC (.int 64))) (eC (.int 5))))
  (sSeq (sIf (bAnd (tb (e2 (fZ false) (eV 6) (eC (.int 0)))) (tb (e2 yF (λρ=>((aCons (eV 2) (aCons (eV 1) (aCons (eV 4) aNil))) ρ).bind λds=>jm (ds++[])) (λρ=>((aCons (eV 2) (aCons (eV 1) (aCons (eV 5) aNil))) ρ).bind λds=>jm (ds++[]))))) (sSet 6 (e2 e6 (eC (.int 1)) (e2 dY (e2 fK (eV 3) (eC (.int 320))) (eC (.int 2))))) sSkip)
  qf)))))
theorem zia (T:Txt K mg a):cH P w K mg base eU 4 a.f_law_arrow a.d_law_arrow ["_law_cell","_law_many","_law_turn"] (gE K a.ct [0,0,0] 0 vb):=by
 have fW:=Oj (P:=P) (w:=w) (base:=base) T
 have nj:=zjd (P:=P) (w:=w) (base:=base) T
 have gc:=N4 (P:=P) (w:=w) (base:=base) T
 refine iu (ms:=[.ow 0,.ow 0,.ow 0,.ow 0,.ow 0,.ow 0,.ow 0,.ow 0]) T.law_arrow.fn wy λ_ _ _ _ _ _ hr=>?_
 exact(zf (er wy.nd (cM T.law_mixed fW hr (ze (za 0 0) (ze cy zj))))
  (zf (er wy.nd (XE.ow (yf (k:=0) xj xl (za 3 0) (za 1 0))))
  (zf (er wy.nd (XE.ow (yf (k:=0) xj xl (yf (k:=0) vw vx (za 3 0) cy) (za 1 0))))
  (zf (er wy.nd (XE.ow (yf (k:=0) xj xl (yf (k:=0) vw vx (za 3 0) cy) cy)))
  (zf (wf (XW.t (vY (zu (k:=0) (vh hr.u64) xv (za 6 0) cy (bn _)) (vW (zu (k:=0) KW KO (XO.sh (n:=0) (cM T.law_rank nj hr (ze (za 2 0) (ze (za 1 0) (ze (za 4 0) zj))))) (XO.sh (n:=0) (cM T.law_rank nj hr (ze (za 2 0) (ze (za 1 0) (ze (za 5 0) zj))))) (bn _))))) (zh (er wy.nd (mz (og cy (yf (k:=0) xj xl (yf (k:=0) vw vx (za 3 0) cy) cy))))) zx)
  (zf (er wy.nd (XE.ow (yf (k:=0) xj xl (yf (k:=0) vw vx (za 3 0) cy) cy)))
  (zf (wf (zu (k:=0) (vh hr.u64) xv (yf (k:=0) xj xl (za 0 0) cy) cy (bn _)) (zh (er wy.nd (XE.ow (yf (k:=0) xj xl (yf (k:=0) vw vx (za 0 0) cy) (XO.sh (n:=0) (og (yf (k:=0) US Ub cy cy) cy)))))) zx)
  (zf (wf (vc (XO.sh (n:=0) (cM T.law_is_row gc hr (ze (za 0 0) zj)))) (zh (er wy.nd (XE.ow (yf (k:=0) xj xl (XO.sh (n:=0) (cM T.law_mixed fW hr (ze (za 0 0) (ze cy zj)))) (XO.sh (n:=0) (og (yf (k:=0) US Ub cy cy) cy)))))) zx)
  (zh (zl (mz (vF (yb (XE.ow (za 4 0)) (yb (XE.ow (za 5 0)) (yb (XE.ow (za 7 0)) (yb (XE.ow (za 6 0)) xx))))))))))))))))
def J7:SF:=(sSeq (sSet 4 (λρ=>((aCons (eV 0) (aCons (e2 e6 (eC (.int 3)) (eV 3)) aNil)) ρ).bind λds=>wm (ds++[])))
  (sSeq (sSet 5 (e2 dY (eV 4) (eV 1)))
  (sSeq (sSet 6 (e2 dY (e2 fK (eV 4) (eC (.int 64))) (eV 1)))
  (sSeq (sIf (bAnd (tb (e2 nD (eV 3) (eV 1))) (tb (e2 (fZ false) (e2 dY (e2 fK (eV 0) (eC (.int 21))) (eC (.int 2))) (eC (.int 1))))) (sSeq (sSet 5 (eV 3))
  (sSet 6 (e2 dY (e2 e6 (eV 3) (eC (.int 1))) (eV 1)))) sSkip)
  (sSeq (sSet 7 (e2 dY (e2 fK (eV 4) (eC (.int 5000))) (eC (.int 4))))
  (sSeq (sIf (bAnd (tb (e2 (fZ false) (eV 7) (eC (.int 0)))) (tb (e2 yF (eV 5) (eV 6)))) (sSet 7 (eC (.int 1))) sSkip)
  (sApp 2 (λρ=>((aCons (eV 5) (aCons (eV 6) (aCons (e2 dY (e2 fK (eV 4) (eC (.int 20000))) (eC (.int 1000))) (aCons (eV 7) aNil)))) ρ).bind λds=>some (.tup ds)))))))))
def Kh:List D->Option D:=mOf ["_law_cell","_law_many","_law_found","_law_k","_law_number","_law_start","_law_goal","_law_behind"]
  (sSeq (sSet 1 (e2 e6 (eC (.int 20)) (e2 dY (eV 0) (eC (.int 21)))))
  (sSeq (sSet 2 (λρ=>(aNil ρ).bind λds=>some (.lst ds)))
  (sSeq (sFor (λρ=>((aCons (eC (.int 60)) aNil) ρ).bind hJ) (gV 3) J7)
  (sFz 2 (sRet (λρ=>((aCons (eV 1) (aCons (eV 2) aNil)) ρ).bind λds=>some (.tup ds)))))))
theorem zlh (T:Txt K mg a):cH P w K mg base eU 3 a.f_law_big a.d_law_big ["_law_cell"] (gE K a.ct [0] 0 Kh):=by
 have fW:=Oj (P:=P) (w:=w) (base:=base) T
 refine iu (ms:=[.ow 0,.ow 0,.ow 1,.ow 0,.ow 0,.ow 0,.ow 0,.ow 0]) T.law_big.fn vf λ_ _ _ _ _ _ hr=>?_
 exact(zf (er vf.nd (mz (og cy (yf (k:=0) xj xl (za 0 0) cy))))
  (zf (er vf.nd (rY (k:=0) xx))
  (zf (jf (v6 (n:=0) T.b_range (ze cy zj)) (jN vf.nd) (zf (er vf.nd (cM T.law_mixed fW hr (ze (za 0 0) (ze (XO.sh (n:=0) (og cy (za 3 0))) zj))))
  (zf (er vf.nd (XE.ow (yf (k:=0) xj xl (za 4 0) (za 1 0))))
  (zf (er vf.nd (XE.ow (yf (k:=0) xj xl (yf (k:=0) vw vx (za 4 0) cy) (za 1 0))))
  (zf (wf (XW.t (vY (zu (k:=0) tf sZ (za 3 0) (za 1 0) (bn _)) (vW (zu (k:=0) (vh hr.u64) xv (yf (k:=0) xj xl (yf (k:=0) vw vx (za 0 0) cy) cy) cy (bn _))))) (zf (er vf.nd (XE.ow (za 3 0)))
  (zh (er vf.nd (XE.ow (yf (k:=0) xj xl (XO.sh (n:=0) (og (za 3 0) cy)) (za 1 0)))))) zx)
  (zf (er vf.nd (XE.ow (yf (k:=0) xj xl (yf (k:=0) vw vx (za 4 0) cy) cy)))
  (zf (wf (XW.t (vY (zu (k:=0) (vh hr.u64) xv (za 7 0) cy (bn _)) (vW (zu (k:=0) KW KO (za 5 0) (za 6 0) (bn _))))) (zh (er vf.nd (XE.ow cy))) zx)
  (zh (ju 2 rfl (mz (vF (yb (XE.ow (za 5 0)) (yb (XE.ow (za 6 0)) (yb (XE.ow (yf (k:=0) xj xl (yf (k:=0) vw vx (za 4 0) cy) cy)) (yb (XE.ow (za 7 0)) xx)))))))))))))) cn.never rfl)
  (Px (i:=2) rfl (zh (zl (mz (vF (yb (XE.ow (za 1 0)) (yb (XE.ow (za 2 0)) xx))))))))))
def Kf:List D->Option D:=mOf ["_law_arrow_here","_law_kind","_law_start","_law_goal","_law_time","_law_behind"]
  (sSeq (sAsg (gT (gsCons (gV 2) (gsCons (gV 3) (gsCons (gV 4) (gsCons (gV 5) gsNil))))) (eV 0))
  (sSeq (sIf (bAnd (tb (e2 (fZ false) (eV 5) (eC (.int 0)))) (tb (e2 (fZ false) (e2 dY (eV 1) (eC (.int 2))) (eC (.int 0))))) (sRet (λρ=>((aCons (eV 2) (aCons (eV 3) (aCons (eV 4) aNil))) ρ).bind λds=>Ob 1 (ds++[]))) sSkip)
  (sSeq (sIf (bAnd (tb (e2 tQ (eV 5) (eC (.int 0)))) (tb (e2 (fZ false) (e2 dY (eV 1) (eC (.int 2))) (eC (.int 0))))) (sRet (λρ=>((aCons (eV 2) (aCons (eV 3) (aCons (eV 4) (aCons (eV 5) aNil)))) ρ).bind λds=>N3 3 (ds++[]))) sSkip)
  (sRet (λρ=>((aCons (eV 2) (aCons (eV 3) (aCons (eV 4) (aCons (eV 5) aNil)))) ρ).bind λds=>N2 2 (ds++[]))))))
theorem zje (T:Txt K mg a):cH P w K mg base eU 4 a.f_law_made a.d_law_made ["_law_arrow_here","_law_kind"] (gE K a.ct [0,0] 0 Kf):=by
 have nV:=ze5 (P:=P) (w:=w) (base:=base) T
 have nU:=ze7 (P:=P) (w:=w) (base:=base) T
 have tM:=T.Back___init_d1.choose_spec
 have nW:=ze6 (P:=P) (w:=w) (base:=base) T
 have tO:=T.Wait___init_d1.choose_spec
 refine iu (ms:=[.ow 0,.ow 0,.ow 0,.ow 0,.ow 0,.ow 0]) T.law_made.fn qv λ_ _ _ _ _ _ hr=>?_
 exact(zf (KI (za 0 0) (B6 (n:=0) rfl (xt (jN qv.nd) (xt (jN qv.nd) (xt (jN qv.nd) (xt (jN qv.nd) BX))))))
  (zf (wf (XW.t (vY (zu (k:=0) (vh hr.u64) xv (za 5 0) cy (bn _)) (vW (zu (k:=0) (vh hr.u64) xv (yf (k:=0) xj xl (za 1 0) cy) cy (bn _))))) (zh (zl (mz (KC (c0:=1) (oA:=[]) (ns:=[0,0,0]) (nd:=[]) ⟨T.Ride.mks,T.Ride___init.me.at_,T.Ride___init.me.fn,T.Ride.kp⟩ (by decide) nV (hr.mono (by decide)) rfl T.Ride.mgx T.Ride___init.bd .nil (λ_ _=>.nil) (ze (za 2 0) (ze (za 3 0) (ze (za 4 0) zj))))))) zx)
  (zf (wf (XW.t (vY (zu (k:=0) zN zM (za 5 0) cy (bn _)) (vW (zu (k:=0) (vh hr.u64) xv (yf (k:=0) xj xl (za 1 0) cy) cy (bn _))))) (zh (zl (mz (KC (c0:=3) (oA:=[]) (ns:=[0,0,0,0]) (nd:=[]) ⟨T.Back.mks,T.Back___init.me.at_,T.Back___init.me.fn,T.Back.kp⟩ (by decide) nU (hr.mono (by decide)) rfl T.Back.mgx T.Back___init.bd .nil (λ_ _=>.nil) (ze (za 2 0) (ze (za 3 0) (ze (za 4 0) (ze (za 5 0) zj)))))))) zx)
  (zh (zl (mz (KC (c0:=2) (oA:=[]) (ns:=[0,0,0,0]) (nd:=[]) ⟨T.Wait.mks,T.Wait___init.me.at_,T.Wait___init.me.fn,T.Wait.kp⟩ (by decide) nW (hr.mono (by decide)) rfl T.Wait.mgx T.Wait___init.bd .nil (λ_ _=>.nil) (ze (za 2 0) (ze (za 3 0) (ze (za 4 0) (ze (za 5 0) zj)))))))))))
def wn:SF:=(sIf (bAnd (tb (e2 (inD false) (e2 cF (eV 6) (eC (.int 1))) (eV 3))) (tb (e2 (inD true) (e2 cF (eV 6) (eC (.int 0))) (eV 3)))) (sApp 3 (e2 cF (eV 6) (eC (.int 0)))) sSkip)
def jc:SF:=(sSeq (sSet 5 (eN cX (aCons (eV 3) aNil)))
  (sSeq (sFor (lsD (eV 0)) (gV 6) wn)
  (sIf (tb (e2 (fZ false) (eN cX (aCons (eV 3) aNil)) (eV 5))) (sRet (eN lC (aCons (eV 3) aNil))) sSkip)))
def qh:List D->Option D:=mOf ["_law_arrows","_law_going","_law_many","_law_found","_law_step","_law_before","_law_one"]
  (sSeq (sSet 3 (λρ=>((aCons (eV 1) aNil) ρ).bind λds=>some (.lst ds)))
  (sSeq (sFor (λρ=>((aCons (eV 2) aNil) ρ).bind hJ) (gV 4) jc)
  (sRet (eN lC (aCons (eV 3) aNil)))))
theorem zfb (T:Txt K mg a):cH P w K mg base eU 1 a.f_law_leading a.d_law_leading ["_law_arrows","_law_going","_law_many"] (gE K a.ct [0,0,0] 0 qh):=by
 refine iu (ms:=[.ow 0,.ow 0,.ow 0,.ow 1,.ow 0,.ow 0,.ow 0]) T.law_leading.fn uj λ_ _ _ _ _ _ hr=>?_
 exact(zf (er uj.nd (rY (k:=0) (yb (XE.ow (za 1 0)) xx)))
  (zf (jf (v6 (n:=0) T.b_range (ze (za 2 0) zj)) (jN uj.nd) (zf (er uj.nd (XE.ow (km T.b_len (ze (za 3 1) zj))))
  (zf (jf (xQ (za 0 0)) (jN uj.nd) (zh (wf (XW.t (vY (zu (k:=0) u6 rZ (eI (za 6 0) cy) (za 3 1) (by with_unfolding_all rfl)) (vW (zu (k:=0) jp rZ (eI (za 6 0) cy) (za 3 1) (by with_unfolding_all rfl))))) (zh (ju 3 rfl (XE.ow (eI (za 6 0) cy)))) zx)) cn.never rfl)
  (zh (wf (zu (k:=0) (vh hr.u64) xv (km T.b_len (ze (za 3 1) zj)) (za 5 0) (bn _)) (zh (zl (mz (OI Od OR rfl T.b_sorted OA (ze (za 3 1) zj))))) zx)))) cn.never rfl)
  (zh (zl (mz (OI Od OR rfl T.b_sorted OA (ze (za 3 1) zj)))))))
def RM:EF:=(dW (lsD (eV 2)) 1 [4] (gV 0) (tb (e2 (inD false) (eV 0) (eV 1))) (eV 0))
def RN:EF:=(dW (lsD (eV 0)) 1 [2] (gV 0) (tb (e2 (inD false) (e2 cF (eV 0) (eC (.int 0))) (eV 1))) (e2 cF (eV 0) (eC (.int 1))))
def jd:SF:=(sSeq (sSet 4 RN)
  (sSeq (sSet 5 RM)
  (sSeq (sIf (tb (e2 (fZ false) (eV 5) (eV 2))) (sRet (e2 (fZ false) (eV 2) (λρ=>(aNil ρ).bind λds=>some (.lst ds)))) sSkip)
  (sSet 2 (eV 5)))))
def je:List D->Option D:=mOf ["_law_arrows","_law_goings","_law_left","_law_step","_law_goals","_law_staying"]
  (sSeq (sSet 2 (eN mC (aCons (eV 1) aNil)))
  (sSeq (sFor (λρ=>((aCons (eN cX (aCons (eV 1) aNil)) aNil) ρ).bind hJ) (gV 3) jd)
  (sRet (e2 (fZ false) (eV 2) (λρ=>(aNil ρ).bind λds=>some (.lst ds))))))
theorem zfc (T:Txt K mg a):cH P w K mg base eU 1 a.f_law_no_ring a.d_law_no_ring ["_law_arrows","_law_goings"] (gE K a.ct [0,0] 0 je):=by
 refine iu (ms:=[.ow 0,.ow 0,.ow 0,.ow 0,.ow 0,.ow 0]) T.law_no_ring.fn vv λ_ _ _ _ _ _ hr=>?_
 exact(zf (er vv.nd (mz (OB Oc (OP (n:=0) (by decide)) rfl T.b_list zG (ze (za 1 0) zj))))
  (zf (jf (v6 (n:=0) T.b_range (ze (km T.b_len (ze (za 1 0) zj)) zj)) (jN vv.nd) (zf (er vv.nd (mz (rE (N:=["_law_one","_law_left"]) (om:=[.ow 0]) (cap:=[2]) (own:=1) (vk (n:=0) (za 0 0)) (λ_ _ _ _ _=>(lY (show bS (["_law_one","_law_left"]:List aX)from by decide +kernel))) (λ_ _ _ _ _=>(zH (zu (k:=0) u6 rZ (eI (za 0 0) cy) (za 1 0) (by with_unfolding_all rfl)))) (λ_ _ _ _ _=>(XE.ow (eI (za 0 0) cy))))))
  (zf (uw (k:=0) (N:=["_law_going","_law_goals"]) (om:=[.ow 0]) (cap:=[4]) (own:=1) rfl vv.nd rfl (Or.inl rfl) (xT (by rfl)) rfl rfl (by decide) (vk (n:=0) (za 2 0)) (λ_ _ _ _ _=>(lY (show bS (["_law_going","_law_goals"]:List aX)from by decide +kernel))) (λ_ _ _ _ _=>(zH (zu (k:=0) u6 rZ (za 0 0) (za 1 0) (by with_unfolding_all rfl)))) (λ_ _ _ _ _=>(XE.ow (za 0 0))))
  (zf (wf (zu (k:=0) (vh hr.u64) xv (za 5 0) (za 2 0) (bn _)) (zh (zl (XE.ow (uv (k:=0) (vh hr.u64) xv (za 2 0) (XO.sh (n:=0) (rY (k:=0) xx)) (bn _))))) zx)
  (zh (er vv.nd (XE.ow (za 5 0))))))) cn.never rfl)
  (zh (zl (XE.ow (uv (k:=0) (vh hr.u64) xv (za 2 0) (XO.sh (n:=0) (rY (k:=0) xx)) (bn _)))))))
def Oa:SF:=(sPar 1 2 (aCons (eV 2) (aCons (e2 dY (eV 1) (eV 2)) aNil)))
def jx:List D->Option D:=mOf ["_law_found","_law_one","_law_other"]
  (sSeq (sIf (bOr (bNot (tb (e1 (jU "tuple") (eV 0)))) (bOr (tb (e2 (fZ true) (eN cX (aCons (eV 0) aNil)) (eC (.int 2)))) (bOr (bNot (tb (λρ=>((aCons (e2 cF (eV 0) (eC (.int 0))) aNil) ρ).bind λds=>uu (ds++[])))) (bNot (tb (λρ=>((aCons (e2 cF (eV 0) (eC (.int 1))) aNil) ρ).bind λds=>uu (ds++[]))))))) (sRet (eC (.bl false))) sSkip)
  (sSeq (sAsg (gT (gsCons (gV 1) (gsCons (gV 2) gsNil))) (eV 0))
  (sSeq (gM (tb (e2 (fZ true) (eV 2) (eC (.int 0)))) Oa)
  (sRet (eB (bAnd (tb (e2 (fZ false) (eN uC (aCons (eV 1) aNil)) (eC (.int 1)))) (tb (e2 tQ (e2 cF (eV 0) (eC (.int 1))) (eC (.int 0))))))))))
theorem zgs (T:Txt K mg a):cH P w K mg base eU 2 a.f_law_lowest a.d_law_lowest ["_law_found"] (gE K a.ct [0] 0 jx):=by
 have iB:=R5 (P:=P) (w:=w) (base:=base) T
 refine iu (ms:=[.ow 0,.ow 0,.ow 0]) T.law_lowest.fn qd λ_ _ _ _ _ _ hr=>?_
 exact(zf (wf (XW.t (j7 (v5 (vc (wA (k:=0) (by decide) T.b_isinstance T.b_tuple Tl (za 0 0)))) (j7 (zu (k:=0) (xS hr.u64) xv (km T.b_len (ze (za 0 0) zj)) cy (bn _)) (j7 (v5 (vc (XO.sh (n:=0) (cM T.law_whole iB hr (ze (eI (za 0 0) cy) zj))))) (jr (v5 (vc (XO.sh (n:=0) (cM T.law_whole iB hr (ze (eI (za 0 0) cy) zj)))))))))) (zh (zl (XE.ow (j6 (n:=0))))) zx)
  (zf (KI (za 0 0) (B6 (n:=0) rfl (xt (jN qd.nd) (xt (jN qd.nd) BX))))
  (zf (CD (zu (k:=0) (xS hr.u64) xv (za 2 0) cy (bn _)) (zh (zvc rfl rfl rfl qd.nd rfl rfl (by decide) rfl rfl (ze (za 2 0) (ze (yf (k:=0) xj xl (za 1 0) (za 2 0)) zj)) rfl)) cn.never)
  (zh (zl (XE.ow (vE (uv (k:=0) (vh hr.u64) xv (ud (k:=0) Tg Ud rfl T.b_abs UE (ze (za 1 0) zj)) cy (bn _)) (tU (k:=0) (uv (k:=0) zN zM (eI (za 0 0) cy) cy (bn _))))))))))
def q0:SF:=(sSeq (sSet 5 (e2 cF (e2 cF (eV 0) (e2 cF (eV 1) (eV 4))) (eC (.int 0))))
  (sSeq (sIf (bOr (tb (e2 (fZ true) (eV 5) (e2 cF (e2 cF (eV 0) (e2 cF (eV 1) (e2 rD (eV 4) (eC (.int 1))))) (eC (.int 1))))) (bOr (tb (e2 (inD false) (eV 5) (eV 3))) (tb (e2 (inD true) (eV 5) (eV 2))))) (sRet (eC (.bl false))) sSkip)
  (sApp 3 (eV 5))))
def N7:SF:=(sIf (bOr (bNot (tb (λρ=>((aCons (e2 cF (eV 1) (eV 4)) aNil) ρ).bind λds=>uu (ds++[])))) (bNot (bAnd (tb (e2 xD (eC (.int 0)) (e2 cF (eV 1) (eV 4)))) (tb (e2 nD (e2 cF (eV 1) (eV 4)) (eN cX (aCons (eV 0) aNil))))))) (sRet (eC (.bl false))) sSkip)
def qj:List D->Option D:=mOf ["_law_arrows","_law_ring","_law_goings","_law_seen","_law_k","_law_start"]
  (sSeq (sSet 3 (λρ=>(aNil ρ).bind λds=>some (.lst ds)))
  (sSeq (sFor (λρ=>((aCons (eN cX (aCons (eV 1) aNil)) aNil) ρ).bind hJ) (gV 4) N7)
  (sSeq (sFor (λρ=>((aCons (eN cX (aCons (eV 1) aNil)) aNil) ρ).bind hJ) (gV 4) q0)
  (sRet (e2 (fZ true) (eV 1) (λρ=>(aNil ρ).bind λds=>some (.lst ds)))))))
theorem zfd (T:Txt K mg a):cH P w K mg base eU 2 a.f_law_is_ring a.d_law_is_ring ["_law_arrows","_law_ring","_law_goings"] (gE K a.ct [0,0,0] 0 qj):=by
 have iB:=R5 (P:=P) (w:=w) (base:=base) T
 refine iu (ms:=[.ow 0,.ow 0,.ow 0,.ow 1,.ow 0,.ow 0]) T.law_is_ring.fn uk λ_ _ _ _ _ _ hr=>?_
 exact(zf (er uk.nd (rY (k:=0) xx))
  (zf (jf (v6 (n:=0) T.b_range (ze (km T.b_len (ze (za 1 0) zj)) zj)) (jN uk.nd) (zh (wf (XW.t (j7 (v5 (vc (XO.sh (n:=0) (cM T.law_whole iB hr (ze (eI (za 1 0) (za 4 0)) zj))))) (jr (v5 (zpv (k:=0) B7 BY tf sZ cy (eI (za 1 0) (za 4 0)) (km T.b_len (ze (za 0 0) zj))))))) (zh (zl (XE.ow (j6 (n:=0))))) zx)) cn.never rfl)
  (zf (jf (v6 (n:=0) T.b_range (ze (km T.b_len (ze (za 1 0) zj)) zj)) (jN uk.nd) (zf (er uk.nd (XE.ow (eI (eI (za 0 0) (eI (za 1 0) (za 4 0))) cy)))
  (zf (wf (XW.t (j7 (zu (k:=0) (xS hr.u64) xv (za 5 0) (eI (eI (za 0 0) (eI (za 1 0) (yf (k:=0) IX IT (za 4 0) cy))) cy) (bn _)) (j7 (zu (k:=0) u6 rZ (za 5 0) (za 3 1) (by with_unfolding_all rfl)) (jr (zu (k:=0) jp rZ (za 5 0) (za 2 0) (by with_unfolding_all rfl)))))) (zh (zl (XE.ow (j6 (n:=0))))) zx)
  (zh (ju 3 rfl (XE.ow (za 5 0)))))) cn.never rfl)
  (zh (zl (XE.ow (uv (k:=0) (xS hr.u64) xv (za 1 0) (XO.sh (n:=0) (rY (k:=0) xx)) (bn _))))))))
def ID:SF:=(sIf (tb (e2 (inD false) (eV 5) (eV 3))) (sSeq (sSet 8 (e2 cF (eV 2) (eV 4)))
  (sSeq (sSet 9 (e2 cF (eV 2) (eV 5)))
  (sSeq (sSet 10 (e2 e6 (e2 dk (e2 cF (eV 8) (eC (.int 0))) (e2 cF (eV 1) (eC (.int 1)))) (e2 dk (e2 dk (eV 6) (e2 cF (eV 8) (eC (.int 1)))) (e2 cF (eV 1) (eC (.int 1))))))
  (sSeq (sSet 10 (e2 rD (eV 10) (e2 dk (e2 dk (e2 cF (eV 1) (eC (.int 0))) (eV 7)) (e2 cF (eV 8) (eC (.int 1))))))
  (sIf (tb (e2 nD (e2 dk (e2 dk (e2 cF (eV 9) (eC (.int 0))) (e2 cF (eV 8) (eC (.int 1)))) (e2 cF (eV 1) (eC (.int 1)))) (e2 dk (eV 10) (e2 cF (eV 9) (eC (.int 1)))))) (sRet (eC (.bl false))) sSkip))))) sSkip)
def IK:List D->Option D:=mOf ["_law_arrows","_law_beat","_law_times","_law_goings","_law_start","_law_goal","_law_time","_law_behind","_law_one","_law_other","_law_least"]
  (sSeq (sFor (lsD (eV 0)) (gT (gsCons (gV 4) (gsCons (gV 5) (gsCons (gV 6) (gsCons (gV 7) gsNil))))) ID)
  (sRet (eC (.bl true))))
theorem zli (T:Txt K mg a):cH P w K mg base eU 1 a.f_law_fit a.d_law_fit ["_law_arrows","_law_beat","_law_times","_law_goings"] (gE K a.ct [0,0,0,0] 0 IK):=by
 refine iu (ms:=[.ow 0,.ow 0,.ow 0,.ow 0,.ow 0,.ow 0,.ow 0,.ow 0,.ow 0,.ow 0,.ow 0]) T.law_fit.fn uf λ_ _ _ _ _ _ hr=>?_
 exact(zf (jf (xQ (za 0 0)) (B6 (n:=0) rfl (xt (jN uf.nd) (xt (jN uf.nd) (xt (jN uf.nd) (xt (jN uf.nd) BX))))) (zh (wf (zu (k:=0) u6 rZ (za 5 0) (za 3 0) (by with_unfolding_all rfl)) (zf (er uf.nd (XE.ow (eI (za 2 0) (za 4 0))))
  (zf (er uf.nd (XE.ow (eI (za 2 0) (za 5 0))))
  (zf (er uf.nd (mz (og (yf (k:=0) xk yn (eI (za 8 0) cy) (eI (za 1 0) cy)) (yf (k:=0) xk yn (yf (k:=0) xk yn (za 6 0) (eI (za 8 0) cy)) (eI (za 1 0) cy)))))
  (zf (er uf.nd (XE.ow (yf (k:=0) IX IT (za 10 0) (yf (k:=0) xk yn (yf (k:=0) xk yn (eI (za 1 0) cy) (za 7 0)) (eI (za 8 0) cy)))))
  (zh (wf (zu (k:=0) tf sZ (yf (k:=0) xk yn (yf (k:=0) xk yn (eI (za 9 0) cy) (eI (za 8 0) cy)) (eI (za 1 0) cy)) (yf (k:=0) xk yn (za 10 0) (eI (za 9 0) cy)) (bn _)) (zh (zl (XE.ow (j6 (n:=0))))) zx)))))) zx)) cn.never rfl)
  (zh (zl (XE.ow (j6 (n:=0))))))
def N5:EF:=(dW (lsD (eV 5)) 1 [0] (gV 0) fY (e2 cF (e2 cF (eV 1) (eV 0)) (eC (.int 3))))
def N6:EF:=(dW (lsD (eV 5)) 1 [0] (gV 0) fY (e2 cF (e2 cF (eV 1) (eV 0)) (eC (.int 2))))
def ql:SF:=(sIf (bOr (bAnd (tb (e2 (inD false) (eV 7) (eV 3))) (bNot (tb (λρ=>((aCons (e2 cF (eV 6) (eV 7)) aNil) ρ).bind λds=>jx (ds++[]))))) (bAnd (tb (e2 (inD true) (eV 7) (eV 3))) (tb (e2 (pO true) (e2 cF (eV 6) (eV 7)) (eC .non))))) (sRet (eC (.bl false))) sSkip)
def J8:List D->Option D:=mOf ["_law_arrows","_law_many","_law_found","_law_goings","_law_beat","_law_ring","_law_times","_law_going","_law_top","_law_bottom"]
  (sSeq (sIf (bOr (bNot (tb (e1 (jU "tuple") (eV 2)))) (bOr (tb (e2 (fZ true) (eN cX (aCons (eV 2) aNil)) (eC (.int 3)))) (bNot (tb (λρ=>((aCons (e2 cF (eV 2) (eC (.int 0))) aNil) ρ).bind λds=>jx (ds++[])))))) (sRet (eC (.bl false))) sSkip)
  (sSeq (sAsg (gT (gsCons (gV 4) (gsCons (gV 5) (gsCons (gV 6) gsNil)))) (eV 2))
  (sSeq (sIf (bOr (bNot (tb (e1 (jU "list") (eV 5)))) (bNot (tb (λρ=>((aCons (eV 0) (aCons (eV 5) (aCons (eV 3) aNil))) ρ).bind λds=>qj (ds++[]))))) (sRet (eC (.bl false))) sSkip)
  (sSeq (sIf (bOr (bNot (tb (e1 (jU "list") (eV 6)))) (tb (e2 (fZ true) (eN cX (aCons (eV 6) aNil)) (eV 1)))) (sRet (eC (.bl false))) sSkip)
  (sSeq (sFor (λρ=>((aCons (eV 1) aNil) ρ).bind hJ) (gV 7) ql)
  (sSeq (sSet 8 (eN o9 (aCons N6 aNil)))
  (sSeq (sSet 9 (eN o9 (aCons N5 aNil)))
  (sRet (eB (bAnd (tb (e2 (fZ false) (e2 dk (eV 8) (e2 cF (eV 4) (eC (.int 1)))) (e2 dk (e2 cF (eV 4) (eC (.int 0))) (eV 9)))) (tb (λρ=>((aCons (eV 0) (aCons (eV 4) (aCons (eV 6) (aCons (eV 3) aNil)))) ρ).bind λds=>IK (ds++[])))))))))))))
theorem zib (T:Txt K mg a):cH P w K mg base eU 3 a.f_law_right a.d_law_right ["_law_arrows","_law_many","_law_found","_law_goings"] (gE K a.ct [0,0,0,0] 0 J8):=by
 have kU:=zgs (P:=P) (w:=w) (base:=base) T
 have nX:=zfd (P:=P) (w:=w) (base:=base) T
 have sD:=zli (P:=P) (w:=w) (base:=base) T
 refine iu (ms:=[.ow 0,.ow 0,.ow 0,.ow 0,.ow 0,.ow 0,.ow 0,.ow 0,.ow 0,.ow 0]) T.law_right.fn v7 λ_ _ _ _ _ _ hr=>?_
 exact(zf (wf (XW.t (j7 (v5 (vc (wA (k:=0) (by decide) T.b_isinstance T.b_tuple Tl (za 2 0)))) (j7 (zu (k:=0) (xS hr.u64) xv (km T.b_len (ze (za 2 0) zj)) cy (bn _)) (jr (v5 (vc (XO.sh (n:=0) (cM T.law_lowest kU hr (ze (eI (za 2 0) cy) zj))))))))) (zh (zl (XE.ow (j6 (n:=0))))) zx)
  (zf (KI (za 2 0) (B6 (n:=0) rfl (xt (jN v7.nd) (xt (jN v7.nd) (xt (jN v7.nd) BX)))))
  (zf (wf (XW.t (j7 (v5 (vc (wA (k:=0) (by decide) T.b_isinstance T.b_list zG (za 5 0)))) (jr (v5 (vc (XO.sh (n:=0) (cM T.law_is_ring nX hr (ze (za 0 0) (ze (za 5 0) (ze (za 3 0) zj)))))))))) (zh (zl (XE.ow (j6 (n:=0))))) zx)
  (zf (wf (XW.t (j7 (v5 (vc (wA (k:=0) (by decide) T.b_isinstance T.b_list zG (za 6 0)))) (jr (zu (k:=0) (xS hr.u64) xv (km T.b_len (ze (za 6 0) zj)) (za 1 0) (bn _))))) (zh (zl (XE.ow (j6 (n:=0))))) zx)
  (zf (jf (v6 (n:=0) T.b_range (ze (za 1 0) zj)) (jN v7.nd) (zh (wf (XW.t (j7 (XW.t (vY (zu (k:=0) u6 rZ (za 7 0) (za 3 0) (by with_unfolding_all rfl)) (vW (v5 (vc (XO.sh (n:=0) (cM T.law_lowest kU hr (ze (eI (za 6 0) (za 7 0)) zj)))))))) (jr (XW.t (vY (zu (k:=0) jp rZ (za 7 0) (za 3 0) (by with_unfolding_all rfl)) (vW (zu (k:=0) IR IH (eI (za 6 0) (za 7 0)) pd (bn _)))))))) (zh (zl (XE.ow (j6 (n:=0))))) zx)) cn.never rfl)
  (zf (er v7.nd (XE.ow (ud (k:=0) (II rfl) IW rfl T.b_sum I0 (ze (XO.sh (n:=0) (rE (N:=["_law_k","_law_arrows"]) (om:=[.ow 0]) (cap:=[0]) (own:=1) (vk (n:=0) (za 5 0)) (λ_ _ _ _ _=>(lY (show bS (["_law_k","_law_arrows"]:List aX)from by decide +kernel))) (λ_ _ _ _ _=>ut) (λ_ _ _ _ _=>(XE.ow (eI (eI (za 1 0) (za 0 0)) cy))))) zj))))
  (zf (er v7.nd (XE.ow (ud (k:=0) (II rfl) IW rfl T.b_sum I0 (ze (XO.sh (n:=0) (rE (N:=["_law_k","_law_arrows"]) (om:=[.ow 0]) (cap:=[0]) (own:=1) (vk (n:=0) (za 5 0)) (λ_ _ _ _ _=>(lY (show bS (["_law_k","_law_arrows"]:List aX)from by decide +kernel))) (λ_ _ _ _ _=>ut) (λ_ _ _ _ _=>(XE.ow (eI (eI (za 1 0) (za 0 0)) cy))))) zj))))
  (zh (zl (XE.ow (vE (uv (k:=0) (vh hr.u64) xv (yf (k:=0) xk yn (za 8 0) (eI (za 4 0) cy)) (yf (k:=0) xk yn (eI (za 4 0) cy) (za 9 0)) (bn _)) (tU (k:=0) (XO.sh (n:=0) (cM T.law_fit sD hr (ze (za 0 0) (ze (za 4 0) (ze (za 6 0) (ze (za 3 0) zj))))))))))))))))))
def Pe:EF:=(dW (λρ=>((aCons (eV 1) aNil) ρ).bind hJ) 1 [] (gV 0) fY (eC .non))
def CK:SF:=(sSeq (sSet 13 (e2 cF (eV 5) (eV 9)))
  (sIf (bAnd (tb (e2 (pO true) (eV 13) (eC .non))) (tb (e2 tQ (e2 dk (e2 cF (eV 13) (eC (.int 0))) (e2 cF (e2 cF (eV 5) (eV 10)) (eC (.int 1)))) (e2 dk (e2 cF (e2 cF (eV 5) (eV 10)) (eC (.int 0))) (e2 cF (eV 13) (eC (.int 1))))))) (sRet (eC (.bl false))) sSkip))
def CL:SF:=(sSeq (sSet 7 (λρ=>((aCons (eV 2) (aCons (eV 6) (aCons (eV 1) aNil))) ρ).bind λds=>qh (ds++[])))
  (sSeq (sSet 8 (λρ=>((aCons (eV 4) (aCons (eV 6) aNil)) ρ).bind λds=>IY (ds++[])))
  (sIf (tb (λρ=>((aCons (eV 2) (aCons (eV 7) aNil)) ρ).bind λds=>je (ds++[]))) (sSeq (sIf (tb (e2 (pO true) (eV 8) (eC .non))) (sRet (eC (.bl false))) sSkip)
  (sApp 5 (eC .non))) (sSeq (sIf (bOr (bNot (tb (λρ=>((aCons (eV 2) (aCons (eV 1) (aCons (eV 8) (aCons (eV 7) aNil)))) ρ).bind λds=>J8 (ds++[])))) (tb (e2 (pO true) (λρ=>((aCons (eV 4) (aCons (eV 6) (aCons (eV 8) aNil))) ρ).bind λds=>u4 (ds++[])) (eC (.bl true))))) (sRet (eC (.bl false))) sSkip)
  (sApp 5 (e2 cF (eV 8) (eC (.int 0))))))))
def B4:EF:=(dW (lsD (eV 2)) 1 [] (gV 0) fY (λρ=>((aCons (eV 0) (aCons (e2 cF (eV 0) (eC (.int 0))) aNil)) ρ).bind λds=>Kf (ds++[])))
def B5:EF:=(dW (λρ=>((aCons (eV 1) aNil) ρ).bind hJ) 1 [] (gV 0) fY (e2 e6 (eC (.str "a")) (eN sW (aCons (eV 0) aNil))))
def Uq:EF:=(dW (lsD (λρ=>((eV 0) ρ).bind λd=>((pInt (eC (.int 4))) ρ).bind λl=>((pInt (eC (.int 20))) ρ).bind λh=>kF d l h)) 1 [1,0] (gV 0) fY (λρ=>((aCons (eV 0) (aCons (eV 1) (aCons (e2 fK (λρ=>((aCons (eV 2) (aCons (eC (.int 0)) aNil)) ρ).bind λds=>wk (ds++[])) (eC (.int 8))) aNil))) ρ).bind λds=>vb (ds++[])))
def KZ:List D->Option D:=mOf ["_law_script","_law_many","_law_arrows","_law_asked","_law_net","_law_beats","_law_going","_law_goings","_law_found","_law_start","_law_goal","_law_time","_law_behind","_law_one"]
  (sSeq (sSet 1 (e2 e6 (eC (.int 1)) (e2 dY (λρ=>((aCons (eV 0) (aCons (eC (.int 0)) aNil)) ρ).bind λds=>wk (ds++[])) (eC (.int 8)))))
  (sSeq (sSet 2 Uq)
  (sSeq (sSet 3 (eN kr (aCons (eV 1) aNil)))
  (sSeq (sIf (tb (e2 (fZ false) (e2 dY (λρ=>((aCons (eV 0) (aCons (eC (.int 1)) aNil)) ρ).bind λds=>wk (ds++[])) (eC (.int 9))) (eC (.int 5)))) (sSeq (sAsg (gT (gsCons (gV 1) (gsCons (gV 2) gsNil))) (λρ=>((aCons (λρ=>((aCons (eV 0) (aCons (eC (.int 2)) aNil)) ρ).bind λds=>wk (ds++[])) aNil) ρ).bind λds=>Kh (ds++[])))
  (sSet 3 (λρ=>((aCons (e2 dY (λρ=>((aCons (eV 0) (aCons (eC (.int 3)) aNil)) ρ).bind λds=>wk (ds++[])) (eV 1)) aNil) ρ).bind λds=>some (.lst ds)))) sSkip)
  (sSeq (sSet 4 (λρ=>((aCons B5 (aCons B4 aNil)) ρ).bind λds=>wz 4 (ds++[])))
  (sSeq (sSet 5 (λρ=>(aNil ρ).bind λds=>some (.lst ds)))
  (sSeq (sFor (lsD (eV 3)) (gV 6) CL)
  (sSeq (sIf (tb (e2 nD (eN cX (aCons (eV 3) aNil)) (eV 1))) (sRet (eC (.bl true))) sSkip)
  (sSeq (sFor (lsD (eV 2)) (gT (gsCons (gV 9) (gsCons (gV 10) (gsCons (gV 11) (gsCons (gV 12) gsNil))))) CK)
  (sSeq (sSet 8 (λρ=>((aCons (eV 4) aNil) ρ).bind λds=>jb (ds++[])))
  (sSeq (sIf (tb (e2 (pO false) (eV 8) (eC .non))) (sRet (e2 (fZ false) (eV 5) Pe)) sSkip)
  (sRet (e2 (inE false) (e2 cF (eV 8) (eC (.int 0))) (eV 5))))))))))))))
theorem zvo (T:Txt K mg a):cH P w K mg base eU 8 a.f_law a.d_law ["_law_script"] (gE K a.ct [0] 0 KZ):=by
 have fP:=zfa (P:=P) (w:=w) (base:=base) T
 have pI:=zia (P:=P) (w:=w) (base:=base) T
 have sC:=zlh (P:=P) (w:=w) (base:=base) T
 have oP:=zgm (P:=P) (w:=w) (base:=base) T
 have qV:=zje (P:=P) (w:=w) (base:=base) T
 have nY:=zfb (P:=P) (w:=w) (base:=base) T
 have zQ:=zte (P:=P) (w:=w) (base:=base) T
 have nZ:=zfc (P:=P) (w:=w) (base:=base) T
 have pJ:=zib (P:=P) (w:=w) (base:=base) T
 have qT:=zjc (P:=P) (w:=w) (base:=base) T
 have n4:=ze9 (P:=P) (w:=w) (base:=base) T
 refine iu (ms:=[.ow 0,.ow 0,.ow 0,.ow 0,.ow 0,.ow 1,.ow 0,.ow 0,.ow 0,.ow 0,.ow 0,.ow 0,.ow 0,.ow 0]) T.law.fn jg λ_ _ _ _ _ _ hr=>?_
 exact(zf (er jg.nd (mz (og cy (yf (k:=0) xj xl (XO.sh (n:=0) (cM T.law_cell_at fP hr (ze (za 0 0) (ze cy zj)))) cy))))
  (zf (uw (k:=0) (N:=["_law_cell","_law_many","_law_script"]) (om:=[.ow 0]) (cap:=[1,0]) (own:=1) rfl jg.nd rfl (Or.inl rfl) (xT (by rfl)) rfl rfl (by decide) (vk (n:=0) (XO.sh (n:=0) (Kk (n:=0) (by decide) (za 0 0) (IV cy) (IV cy)))) (λ_ _ _ _ _=>(lY (show bS (["_law_cell","_law_many","_law_script"]:List aX)from by decide +kernel))) (λ_ _ _ _ _=>ut) (λ_ _ _ _ _=>(cM T.law_arrow pI hr (ze (za 0 0) (ze (za 1 0) (ze (yf (k:=0) vw vx (XO.sh (n:=0) (cM T.law_cell_at fP hr (ze (za 2 0) (ze cy zj)))) cy) zj))))))
  (zf (er jg.nd (mz (O2 rfl rfl T.b_list rfl T.b_range (ze (za 1 0) zj))))
  (zf (wf (zu (k:=0) (vh hr.u64) xv (yf (k:=0) xj xl (XO.sh (n:=0) (cM T.law_cell_at fP hr (ze (za 0 0) (ze cy zj)))) cy) cy (bn _)) (zf (KI (XO.sh (n:=0) (cM T.law_big sC hr (ze (XO.sh (n:=0) (cM T.law_cell_at fP hr (ze (za 0 0) (ze cy zj)))) zj))) (B6 (n:=0) rfl (xt (jN jg.nd) (xt (jN jg.nd) BX))))
  (zh (er jg.nd (mz (rY (k:=0) (yb (XE.ow (yf (k:=0) xj xl (XO.sh (n:=0) (cM T.law_cell_at fP hr (ze (za 0 0) (ze cy zj)))) (za 1 0))) xx)))))) zx)
  (zf (er jg.nd (mz (KC (c0:=4) (oA:=[]) (ns:=[0,0]) (nd:=[]) ⟨T.Net.mks,T.Net___init.me.at_,T.Net___init.me.fn,T.Net.kp⟩ (by decide) oP (hr.mono (by decide)) rfl T.Net.mgx T.Net___init.bd .nil (λ_ _=>.nil) (ze (XO.sh (n:=0) (rE (N:=["_law_k"]) (om:=[.ow 0]) (cap:=[]) (own:=1) (XI.cc (v6 (n:=0) T.b_range (ze (za 1 0) zj))) (λ_ _ _ _ _=>(lY (show bS (["_law_k"]:List aX)from by decide +kernel))) (λ_ _ _ _ _=>ut) (λ_ _ _ _ _=>(mz (og (zL (n:=0)) (zmn (k:=0) zg6 zsz rfl T.b_str UV (ze (za 0 0) zj))))))) (ze (XO.sh (n:=0) (rE (N:=["_law_arrow_here"]) (om:=[.ow 0]) (cap:=[]) (own:=1) (vk (n:=0) (za 2 0)) (λ_ _ _ _ _=>(lY (show bS (["_law_arrow_here"]:List aX)from by decide +kernel))) (λ_ _ _ _ _=>ut) (λ_ _ _ _ _=>(cM T.law_made qV hr (ze (za 0 0) (ze (eI (za 0 0) cy) zj)))))) zj)))))
  (zf (er jg.nd (rY (k:=0) xx))
  (zf (jf (xQ (za 3 0)) (jN jg.nd) (zf (er jg.nd (cM T.law_leading nY hr (ze (za 2 0) (ze (za 6 0) (ze (za 1 0) zj)))))
  (zf (er jg.nd (cM T.rate zQ hr (ze (za 4 0) (ze (za 6 0) zj))))
  (zh (wf (vc (XO.sh (n:=0) (cM T.law_no_ring nZ hr (ze (za 2 0) (ze (za 7 0) zj))))) (zf (wf (zu (k:=0) IR IH (za 8 0) pd (bn _)) (zh (zl (XE.ow (j6 (n:=0))))) zx)
  (zh (ju 5 rfl (XE.ow pd)))) (zf (wf (XW.t (j7 (v5 (vc (XO.sh (n:=0) (cM T.law_right pJ hr (ze (za 2 0) (ze (za 1 0) (ze (za 8 0) (ze (za 7 0) zj)))))))) (jr (zu (k:=0) IR IH (XO.sh (n:=0) (cM T.holds_at qT hr (ze (za 4 0) (ze (za 6 0) (ze (za 8 0) zj))))) (j6 (n:=0)) (bn _))))) (zh (zl (XE.ow (j6 (n:=0))))) zx)
  (zh (ju 5 rfl (XE.ow (eI (za 8 0) cy))))))))) cn.never rfl)
  (zf (wf (zu (k:=0) tf sZ (km T.b_len (ze (za 3 0) zj)) (za 1 0) (bn _)) (zh (zl (XE.ow (j6 (n:=0))))) zx)
  (zf (jf (xQ (za 2 0)) (B6 (n:=0) rfl (xt (jN jg.nd) (xt (jN jg.nd) (xt (jN jg.nd) (xt (jN jg.nd) BX))))) (zf (er jg.nd (XE.ow (wC (n:=1) vX vZ (za 5 1) (za 9 0) (λ_ _=>rfl))))
  (zh (wf (XW.t (vY (zu (k:=0) IR IH (za 13 0) pd (bn _)) (vW (zu (k:=0) zN zM (yf (k:=0) xk yn (eI (za 13 0) cy) (eI (wC (n:=1) vX vZ (za 5 1) (za 10 0) (λ_ _=>rfl)) cy)) (yf (k:=0) xk yn (eI (wC (n:=1) vX vZ (za 5 1) (za 10 0) (λ_ _=>rfl)) cy) (eI (za 13 0) cy)) (bn _))))) (zh (zl (XE.ow (j6 (n:=0))))) zx))) cn.never rfl)
  (zf (er jg.nd (cM T.least_round n4 hr (ze (za 4 0) zj)))
  (zf (wf (zu (k:=0) CT CN (za 8 0) pd (bn _)) (zh (zl (XE.ow (uv (k:=0) (vh hr.u64) xv (za 5 1) (XO.sh (n:=0) (rE (N:=["_law_going"]) (om:=[.ow 0]) (cap:=[]) (own:=1) (XI.cc (v6 (n:=0) T.b_range (ze (za 1 0) zj))) (λ_ _ _ _ _=>(lY (show bS (["_law_going"]:List aX)from by decide +kernel))) (λ_ _ _ _ _=>ut) (λ_ _ _ _ _=>(XE.ow pd)))) (bn _))))) zx)
  (zh (zl (XE.ow (uv (k:=0) (znj hr.u64) ztb (eI (za 8 0) cy) (za 5 1) (by with_unfolding_all rfl))))))))))))))))
end
local macro_rules| `(tactic|walk_at "mir")=>`(tactic|simp -implicitDefEqProofs [mOf,startD,sSeq,sIf,sSet,sRet,sRetN,sDrop,sPar,sAsg,sApp,sFor,lsD,zsw,sSkip,eV,eC,e1,e2,eN,aNil,aCons,pNo,pInt,zfj,tb,zvg,bNot,bAnd,bOr,eB,eIf,gV,gT,gsCons,gsNil,zpa,zpc,zmw,zst,zix,zsu,wx,zpe,zpd,zj8,zsv,zvf,D.isN,D.isB,zdd,zvh,zmv,j8,zem,zc0,zo8,zo9,zj6,zfj,zmx,zmy,sFz,zpq,zpr, *])
def e9 (n:Nat)(f:Nat->Int):List D:=(aw n).map λg=>D.int (f g)
theorem ztf (n:Nat)(f:Nat->Int):(e9 n f).length=n:=by simp[e9]
theorem Jb {n:Nat}(f:Nat->Int){g:Nat}(h:g<n):atI (e9 n f) (g:Int)=some (.int (f g)):=by
 refine ui ?_
 simp[e9,h]
theorem Ur {n:Nat}(f:Nat->Int){g:Nat}(h:g<n)(v:Int):pU (e9 n f) (g:Int) (.int v)=some (e9 n λx=>if x=g then v else f x):=by
 unfold pU
 have hx:ixN (e9 n f).length (g:Int)=some g:=by
  unfold ixN
  rw[ztf]
  rw[if_pos (by omega),if_pos (by omega)]
  simp
 rw[hx]
 simp only[cz,Option.some.injEq]
 apply tX
 ·simp[e9]
 ·intro i h1 h2
  simp[e9,List.getElem_set]
  by_cases hi:g=i
  ·subst hi;simp
  ·rw[if_neg hi,if_neg (λz=>hi z.symm)]
theorem Us {i:Nat}{fj f:EF}{gi:Int->Int->Int}{ρ:L3.Env}{n g:Nat}{w:Nat->Int}{y:Int}(h1:(ρ[i]?).join=some (.lst (e9 n w)))(h2:fj ρ=some (.int (g:Int)))(h3:f ρ=some (.int y))(hg:g<n) :
  pS i fj gi f ρ=some (.nx (ρ.set i (some (.lst (e9 n λx=>if x=g then gi (w g) y else w x))))):=by
 unfold pS
 have:eV i ρ=some (.lst (e9 n w)):=h1
 rw[this,h2,h3]
 simp only[cz,Jb w hg,Ur w hg]
def ao (p:List Nat):List D:=p.map λ(x:Nat)=>D.int (x:Int)
theorem PB {f:EF}{r:L3.Env}{n:Nat}(h:f r=some (.int (n:Int)))(hn:n<=1000000):((aCons f aNil) r).bind hJ=some ((aw n).map λ(t:Nat)=>D.int (t:Int)):=by
 have e:(aCons f aNil) r=some [.int (n:Int)]:=by unfold aCons;rw[h];rfl
 rw[e,cz,zE (by omega) (by omega)]
 unfold fJ
 simp
theorem xP {α:Type}{fi:L3.Env->Option (List D)}{own:Nat}{cap:List Nat}{g:D->L3.Env->Option L3.Env}{p:BF}{f:EF}{r:L3.Env}(enc:α->D)(q:α->Bool)(h:α->D)(xs:List α)(hi:fi r=some (xs.map enc))(hl:xs.length<=16777216)
  (st:∀x∈xs,∃ρ1,g (enc x) (aC own none++fw r cap)=some ρ1/\p ρ1=some (q x)/\(q x=true->f ρ1=some (h x))):dW fi own cap g p f r=some (.lst ((xs.filter q).map h)):=by
 unfold dW
 rw[hi]
 simp only[cz,ah]
 rw[if_pos hl,SO enc q h xs st]
 rfl
theorem ztg {n i:Nat}(h:i<n):ixN n (i:Int)=some i:=by
 unfold ixN
 rw[if_pos (by omega),if_pos (by omega)]
 simp
theorem qm {α:Type}{fi:L3.Env->Option (List D)}{own:Nat}{cap:List Nat}{g:D->L3.Env->Option L3.Env}{f:EF}{r:L3.Env}(enc:α->D)(h:α->D)(xs:List α)(hi:fi r=some (xs.map enc))(hl:xs.length<=16777216)
  (st:∀x∈xs,∃ρ1,g (enc x) (aC own none++fw r cap)=some ρ1/\f ρ1=some (h x)):dW fi own cap g fY f r=some (.lst (xs.map h)):=by
 have:=xP (p:=fY) enc (λ_=>true) h xs hi hl λx hx=>by
  obtain⟨ρ1,h1,h2⟩:=st x hx
  exact⟨ρ1,h1,rfl,λ_=>h2⟩
 rw[this,rH.mpr λ_ _=>rfl]
theorem IM {α:Type}(enc:α->D):∀(as:List α) (k:Nat),eA k (as.map enc)=(as.zipIdx k).map λ(p:α×Nat)=>D.tup [.int (p.2:Int),enc p.1]
 |[],_=>rfl
 |a::as,k=>by
  show _::eA (k+1) (as.map enc)=_::_
  rw[IM enc as (k+1)]
theorem UY {α:Type}{as:List α}{p:α×Nat}(h:p∈as.zipIdx):as[p.2]?=some p.1:=nc.mp h
theorem Sm {α:Type}(q:α->Bool):∀(as:List α) (k:Nat),((as.zipIdx k).filter λp=>q p.1).map (·.1)=as.filter q
 |[],_=>rfl
 |a::as,k=>by
  rw[t4,iX,iX]
  cases h:q a<;>simp[h,Sm q as (k+1)]
inductive Kd where
 |ride|wait|back
deriving DecidableEq
structure bV where
 c:Kd
 s:Nat
 g:Nat
 t:Int
 b:Nat
deriving DecidableEq
namespace Kahn
def cnt (W:List bV)(P:List Nat)(g:Nat):Nat:=W.countP λa=>decide (a.g=g/\a.s∉P)
structure Ok (W:List bV)(many:Nat)(p:List Nat):Prop where
 nd:p.Nodup
 lt:∀x∈p,x<many
 ord:∀(i x:Nat),p[i]?=some x->∀a∈W,a.g=x->a.s∈p.take i
theorem Ok.snoc {W:List bV}{many:Nat}{p:List Nat}{x:Nat}(h:Ok W many p)(hx:x∉p)(hl:x<many)(ho:∀a∈W,a.g=x->a.s∈p):Ok W many (p++[x]) where
 nd:=by
  rw[br]
  exact⟨h.nd,by simp,λa ha b hb e=>by simp at hb;subst hb;subst e;exact hx ha⟩
 lt:=λy hy=>by
  rcases bg.mp hy with hy|hy
  ·exact h.lt y hy
  ·simp at hy;subst hy;exact hl
 ord:=λi y hy a ha e=>by
  by_cases hi:i<p.length
  ·rw[cE hi]at hy
   rw[mP (by omega)]
   exact h.ord i y hy a ha e
  ·rw[fF (by omega)]at hy
   have MQ:i-p.length=0:=by
    cases hq:i-p.length with
    |zero=>rfl
    |succ k=>rw[hq]at hy;simp at hy
   rw[MQ]at hy
   simp at hy
   subst hy
   have:i=p.length:=by omega
   rw[this,List.take_left']
   ·exact ho a ha e
   ·rfl
def stp (here:Nat)(S:(Nat->Int)×List Nat)(a:bV):(Nat->Int)×List Nat :=
 if a.s=here then
  let f':Nat->Int:=λx=>if x=a.g then S.1 a.g-1 else S.1 x
  (f',if f' a.g=0 then S.2++[a.g]else S.2)
 else S
structure In (W:List bV)(many:Nat)(P:List Nat)(here:Nat)(pre:List bV)(S:(Nat->Int)×List Nat):Prop where
 ok:Ok W many S.2
 f:∀g,S.1 g=(cnt W P g:Int)-(pre.countP λa=>decide (a.g=g/\a.s=here):Nat)
 z:∀g,g<many->(g∈S.2↔S.1 g=0)
 sub:∀x,(x∈P\/x=here)->x∈S.2
theorem zvp {W pre post:List bV}{P:List Nat}{here:Nat}{a:bV}(e:W=pre++a::post)(hP:here∉P)(ha:a.s=here):(pre.countP λx=>decide (x.g=a.g/\x.s=here))+1<=cnt W P a.g:=by
 unfold cnt
 rw[e,iq,gO]
 have h1:(pre.countP λx=>decide (x.g=a.g/\x.s=here))<=pre.countP λx=>decide (x.g=a.g/\x.s∉P):=by
  apply List.countP_mono_left
  intro x _ hx
  simp at hx ⊢
  exact⟨hx.1,by rw[hx.2];exact hP⟩
 have h2:(decide (a.g=a.g/\a.s∉P))=true:=by simp[ha,hP]
 rw[h2]
 simp only[if_true]
 omega
theorem In.step {W pre post:List bV}{many:Nat}{P:List Nat}{here:Nat}{a:bV}{S:(Nat->Int)×List Nat}(h:In W many P here pre S)(e:W=pre++a::post)(hP:here∉P)(hl:a.g<many):In W many P here (pre++[a]) (stp here S a):=by
 by_cases ha:a.s=here
 ·have Xn:=zvp e hP ha
  have hf:∀g,(if g=a.g then S.1 a.g-1 else S.1 g)=(cnt W P g:Int)-((pre++[a]).countP λx=>decide (x.g=g/\x.s=here):Nat):=λg=>by
   rw[iq,pZ]
   by_cases hg:g=a.g
   ·subst hg
    rw[if_pos rfl,h.f]
    have:decide (a.g=a.g/\a.s=here)=true:=by simp[ha]
    rw[this]
    simp only[if_true]
    omega
   ·rw[if_neg hg,h.f]
    have:decide (a.g=g/\a.s=here)=false:=by simp;intro z;exact absurd z.symm hg
    rw[this]
    simp
  have i7:S.1 a.g≠0:=by rw[h.f];omega
  have oX:a.g∉S.2:=λz=>i7 ((h.z a.g hl).mp z)
  by_cases h0:S.1 a.g-1=0
  ·have es:stp here S a=(λx=>if x=a.g then S.1 a.g-1 else S.1 x,S.2++[a.g]):=by unfold stp;simp[ha,h0]
   rw[es]
   refine⟨h.ok.snoc oX hl λb hb eb=>?_,hf,λg hg=>?_,λx hx=>bx _ (h.sub x hx)⟩
   ·
    refine h.sub _ (Classical.byContradiction λhc=>?_)
    have MI:b.s∉P:=λz=>hc (.inl z)
    have Cj:b.s≠here:=λz=>hc (.inr z)
    have h1:cnt W P a.g=(pre.countP λx=>decide (x.g=a.g/\x.s=here))+1:=by
     have:=h.f a.g
     omega
    have h2:(W.countP λx=>decide (x.g=a.g/\x.s=here))+(W.countP λx=>decide (x.g=a.g/\x.s∉P/\x.s≠here))<=cnt W P a.g:=by
     have:cnt W P a.g=(W.countP λx=>decide (x.g=a.g/\x.s=here))+(W.countP λx=>decide (x.g=a.g/\x.s∉P/\x.s≠here)):=by
      unfold cnt
      clear h1 hc MI Cj eb hb h0 hf Xn e h
      induction W with
      |nil=>rfl
      |cons x W ih=>
       simp only[gO]
       rw[ih]
       by_cases q1:x.g=a.g<;>by_cases q2:x.s=here<;>by_cases q3:x.s∈P<;>simp_all<;>omega
     omega
    have h3:(pre.countP λx=>decide (x.g=a.g/\x.s=here))+1<=W.countP λx=>decide (x.g=a.g/\x.s=here):=by
     rw[e,iq,gO]
     have:decide (a.g=a.g/\a.s=here)=true:=by simp[ha]
     rw[this]
     simp only[if_true]
     omega
    have h4:0<W.countP λx=>decide (x.g=a.g/\x.s∉P/\x.s≠here):=by
     rw[List.countP_pos_iff]
     exact⟨b,hb,by simp[eb,MI,Cj]⟩
    omega
   ·rw[bg,az]
    by_cases oE:g=a.g
    ·subst oE;simp[h0]
    ·dsimp only;rw[if_neg oE,h.z g hg];simp[oE]
  ·have es:stp here S a=(λx=>if x=a.g then S.1 a.g-1 else S.1 x,S.2):=by unfold stp;simp[ha,h0]
   rw[es]
   refine⟨h.ok,hf,λg hg=>?_,h.sub⟩
   by_cases oE:g=a.g
   ·subst oE
    dsimp only
    rw[if_pos rfl]
    exact⟨λz=>absurd z oX,λz=>absurd z h0⟩
   ·dsimp only;rw[if_neg oE];exact h.z g hg
 ·have:stp here S a=S:=by unfold stp;rw[if_neg ha]
  rw[this]
  refine⟨h.ok,λg=>?_,h.z,h.sub⟩
  rw[iq,pZ]
  have:decide (a.g=g/\a.s=here)=false:=by simp[ha]
  rw[this,h.f]
  simp
theorem In.fold {W:List bV}{many:Nat}{P:List Nat}{here:Nat}(hP:here∉P)(hl:∀a∈W,a.g<many):∀(post pre:List bV) (S:(Nat->Int)×List Nat),W=pre++post->In W many P here pre S->In W many P here W (post.foldl (stp here) S)
 |[],pre,S,e,h=>by rw[e] ;simpa using(by rw[cA]at e;subst e;exact h)
 |a::post,pre,S,e,h=>by
  have:=In.fold hP hl post (pre++[a]) (stp here S a) (by rw[e];simp) (h.step e hP (hl a (by rw[e];simp)))
  exact this
theorem zp2 {W:List bV}{P:List Nat}{here g:Nat}(hP:here∉P):(cnt W P g:Int)-(W.countP λa=>decide (a.g=g/\a.s=here):Nat)=cnt W (P++[here]) g:=by
 have:cnt W P g=(W.countP λa=>decide (a.g=g/\a.s=here))+cnt W (P++[here]) g:=by
  unfold cnt
  induction W with
  |nil=>rfl
  |cons x W ih=>
   simp only[gO]
   rw[ih]
   by_cases q1:x.g=g<;>by_cases q2:x.s=here<;>by_cases q3:x.s∈P<;>simp_all<;>omega
 omega
structure Wh (W:List bV)(many:Nat)(f:Nat->Int)(p:List Nat)(d:Nat):Prop where
 ok:Ok W many p
 dl:d<=p.length
 fe:∀g,f g=cnt W (p.take d) g
 z:∀g,g<many->(g∈p↔f g=0)
theorem Wh.step {W:List bV}{many:Nat}{f:Nat->Int}{p:List Nat}{d here:Nat}(h:Wh W many f p d)(hl:∀a∈W,a.g<many)(hh:p[d]?=some here) :
  Wh W many (W.foldl (stp here) (f,p)).1 (W.foldl (stp here) (f,p)).2 (d+1)/\∃q,(W.foldl (stp here) (f,p)).2=p++q:=by
 have hd:d<p.length:=(aW.mp hh).1
 have hP:here∉p.take d:=λz=>by
  obtain⟨i,hi,e⟩:=dI.mp z
  have MQ:i<d:=by rw[eQ]at hi;omega
  rw[tF]at e
  have e2:p[d]=here:=by have:=aW.mp hh;exact this.2
  have:=(mG (xs:=p) (h₀:=by omega) (h₁:=hd) h.ok.nd).mp (e.trans e2.symm)
  omega
 have sN:∀(l:List bV) (S:(Nat->Int)×List Nat),∃q,(l.foldl (stp here) S).2=S.2++q:=by
  intro l
  induction l with
  |nil=>exactλS=>⟨[],by simp⟩
  |cons a l ih=>
   intro S
   obtain⟨q,hq⟩:=ih (stp here S a)
   have:∃r,(stp here S a).2=S.2++r:=by
    by_cases ha:a.s=here
    ·by_cases h0:S.1 a.g-1=0
     ·exact⟨[a.g],by unfold stp;simp[ha,h0]⟩
     ·exact⟨[],by unfold stp;simp[ha,h0]⟩
    ·exact⟨[],by unfold stp;simp[ha]⟩
   obtain⟨r,hr⟩:=this
   exact⟨r++q,by rw[jI,hq,hr,dN]⟩
 obtain⟨q,hq⟩:=sN W (f,p)
 have I:=In.fold hP hl W [] (f,p) rfl ⟨h.ok,λg=>by show f g=_;rw[h.fe];simp,h.z,λx hx=>by
  rcases hx with hx|rfl
  ·exact qN hx
  ·exact bo.mpr ⟨d,hh⟩⟩
 have FP:(W.foldl (stp here) (f,p)).2.take (d+1)=p.take d++[here]:=by
  rw[hq]
  show(p++q).take (d+1)=_
  rw[mP (by omega),List.take_succ,hh]
  rfl
 refine⟨⟨I.ok,?_,λg=>?_,I.z⟩,q,hq⟩
 ·rw[hq]
  show d+1<=(p++q).length
  rw[aZ];omega
 ·rw[I.f,FP]
  exact zp2 hP
theorem cnt_zero {W:List bV}{P:List Nat}{g:Nat}:cnt W P g=0↔∀a∈W,a.g=g->a.s∈P:=by
 unfold cnt
 rw[List.countP_eq_zero]
 constructor
 ·intro h a ha e
  have:=h a ha
  simp at this
  exact Classical.byContradiction λz=>z (this e)
 ·intro h a ha
  simp
  exact h a ha
theorem Wh.all {W:List bV}{many:Nat}{f:Nat->Int}{p:List Nat}(h:Wh W many f p p.length)(rank:Nat->Nat)(hr:∀a∈W,rank a.s<rank a.g)(hs:∀a∈W,a.s<many):∀g,g<many->g∈p:=by
 have:∀n g,rank g<n->g<many->g∈p:=by
  intro n
  induction n with
  |zero=>intro g h;omega
  |succ n ih=>
   intro g hg hl
   rw[h.z g hl,h.fe,List.take_length]
   have:cnt W p g=0:=cnt_zero.mpr λa ha e=>ih a.s (by have:=hr a ha;rw[e]at this;omega) (hs a ha)
   rw[this];rfl
 exactλg hl=>this (rank g+1) g (by omega) hl
theorem len_of {many:Nat}{p:List Nat}(nd:p.Nodup)(lt:∀x∈p,x<many)(all:∀g,g<many->g∈p):p.length=many:=by
 have h1:p.Perm (aw many):=by
  rw[nQ nd gP]
  intro a
  rw[bM]
  exact⟨lt a,all a⟩
 simpa using h1.length_eq
theorem len_le {many:Nat}{p:List Nat}(nd:p.Nodup)(lt:∀x∈p,x<many):p.length<=many:=by
 have h1:(p++(aw many).filter λx=>decide (x∉p)).Perm (aw many):=by
  rw[nQ (by
   rw[br]
   refine⟨nd,gP.filter _,λa ha b hb e=>?_⟩
   subst e
   simp at hb
   exact hb.2 ha) gP]
  intro a
  rw[bg,bB,bM]
  constructor
  ·rintro(h|h)
   ·exact lt a h
   ·exact h.1
  ·intro h
   by_cases ha:a∈p
   ·exact .inl ha
   ·exact .inr ⟨h,by simpa using ha⟩
 have:=h1.length_eq
 rw[aZ,bD]at this
 omega
end Kahn
def Kd.n:Kd->Nat
 |.ride=>1|.wait=>2|.back=>3
def bL (a:bV):D:=.obj a.c.n ["start","goal","time","behind"] [.int a.s,.int a.g,.int a.t,.int a.b]
theorem fs (a:bV):cC [0,1,2,3] "start" (bL a)=some (.int a.s):=by obtain⟨c,_,_,_,_⟩:=a;cases c<;>rfl
theorem fg (a:bV):cC [0,1,2,3] "goal" (bL a)=some (.int a.g):=by obtain⟨c,_,_,_,_⟩:=a;cases c<;>rfl
theorem ft (a:bV):cC [0,1,2,3] "time" (bL a)=some (.int a.t):=by obtain⟨c,_,_,_,_⟩:=a;cases c<;>rfl
theorem fb (a:bV):cC [0,1,2,3] "behind" (bL a)=some (.int a.b):=by obtain⟨c,_,_,_,_⟩:=a;cases c<;>rfl
structure Right (many:Nat)(a:bV):Prop where
 s:a.s<many
 g:a.g<many
 t0:0<=a.t
 t1:a.t<=1000000000
 b:a.b<=4
 r:a.c=.ride->a.b=0
 k:a.c=.back->1<=a.b
theorem CG {n l m:Int}(h1:l<=n)(h2:n<=m):yq [.int n,.int l,.int m]=some (.bl true):=by
 unfold yq
 have q1 (i:Int):jU "int" (.int i)=some (.bl true):=rfl
 have q2 (i:Int):jU "bool" (.int i)=some (.bl false):=rfl
 walk_at "mir"
theorem isA (all sub:List Nat)(a:bV):uP all sub (bL a)=if all.contains a.c.n=true then some (.bl (sub.contains a.c.n))else none:=rfl
theorem zth {many:Nat}{a:bV}(h:Right many a):Ke [bL a,.int (many:Int)]=some (.bl true):=by
 have w1:yq [.int (a.s:Int),.int 0,.int ((many:Int)-1)]=some (.bl true):=CG (by omega) (by have:=h.s;omega)
 have w2:yq [.int (a.g:Int),.int 0,.int ((many:Int)-1)]=some (.bl true):=CG (by omega) (by have:=h.g;omega)
 have w3:yq [.int a.t,.int 0,.int 1000000000]=some (.bl true):=CG h.t0 h.t1
 have f1:=fs a
 have f2:=fg a
 have f3:=ft a
 have f4:=fb a
 have hi:=λall sub=>isA all sub a
 have hb:=h.b
 have hr:=h.r
 have hk:=h.k
 clear h
 unfold Ke
 cases hc:a.c with
 |ride=>
  have w4:yq [.int (a.b:Int),.int 0,.int 0]=some (.bl true):=CG (by omega) (by have:=hr hc;omega)
  rw[hc]at hi
  clear hr hk hb
  have hn:Kd.ride.n=1:=rfl
  walk_at "mir"
 |wait=>
  have w4:yq [.int (a.b:Int),.int 0,.int 4]=some (.bl true):=CG (by omega) (by omega)
  rw[hc]at hi
  clear hr hk hb
  have hn:Kd.wait.n=2:=rfl
  walk_at "mir"
 |back=>
  have w4:yq [.int (a.b:Int),.int 1,.int 4]=some (.bl true):=CG (by have:=hk hc;omega) (by omega)
  rw[hc]at hi
  clear hr hk hb
  have hn:Kd.back.n=3:=rfl
  walk_at "mir"
def W0 (as:List bV):List bV:=as.filter λa=>decide (a.b=0)
theorem zgt (as:List bV)(l:as.length<=16777216)(r:L3.Env)(h:r[1]?.join=some (.lst (as.map bL))) :
  RK r=some (.lst ((W0 as).map bL)):=by
 have e:lsD (eV 1) r=some (as.map bL):=by unfold lsD;have:eV 1 r=some (.lst (as.map bL)):=h;rw[this];rfl
 refine xP bL (λa=>decide (a.b=0)) bL as e l λa _=>⟨_,rfl,?_,λ_=>rfl⟩
 have:=fb a
 walk_at "mir"
def DN (s:(Nat->Int)×Option D)(a:bV):(Nat->Int)×Option D:=(λx=>if x=a.g then s.1 a.g+1 else s.1 x,some (bL a))
theorem Tr:∀(W:List bV) (s:(Nat->Int)×Option D) (g:Nat),(W.foldl DN s).1 g=s.1 g+(W.countP λa=>decide (a.g=g):Nat)
 |[],s,g=>by simp
 |a::W,s,g=>by
  rw[jI,Tr W,gO]
  by_cases hg:g=a.g
  ·subst hg;simp[DN];omega
  ·have:decide (a.g=g)=false:=by simp;exactλz=>hg z.symm
   simp[DN,hg,this]
def Nc (here:Nat)(s:((Nat->Int)×List Nat)×Option D)(a:bV):((Nat->Int)×List Nat)×Option D:=(Kahn.stp here s.1 a,some (bL a))
theorem Ts (p:List Nat)(x:Nat):ao p++[D.int (x:Int)]=ao (p++[x]):=by simp[ao]
theorem zti {many:Nat}{as:List bV}{f:Nat->Int}{p:List Nat}{here d:Nat}{x4:Option D}(hm:many<=1000)(hW:∀a∈W0 as,a.s<many/\a.g<many)(h:Kahn.Wh (W0 as) many f p d)(hh:p[d]?=some here) :
  ∃x,fQ (gV 4) vg ((W0 as).map bL) [some (.int (many:Int)),some (.lst (as.map bL)),some (.lst ((W0 as).map bL)),some (.lst (e9 many f)),x4,some (.lst (ao p)),some (.int (d:Int)),some (.int (here:Int))] =
   some (.nx [some (.int (many:Int)),some (.lst (as.map bL)),some (.lst ((W0 as).map bL)),some (.lst (e9 many ((W0 as).foldl (Kahn.stp here) (f,p)).1)),x,some (.lst (ao ((W0 as).foldl (Kahn.stp here) (f,p)).2)),some (.int (d:Int)),some (.int (here:Int))]):=by
 have hd:d<p.length:=(aW.mp hh).1
 have hP:here∉p.take d:=λz=>by
  obtain⟨i,hi,e⟩:=dI.mp z
  have MQ:i<d:=by rw[eQ]at hi;omega
  rw[tF]at e
  have e2:p[d]=here:=(aW.mp hh).2
  have:=(mG (xs:=p) (h₀:=by omega) (h₁:=hd) h.ok.nd).mp (e.trans e2.symm)
  omega
 obtain⟨ρ',h1,x,pre,e1,e2⟩:=S9 (g:=gV 4) (b:=vg) (ds:=(W0 as).map bL) (ρ:=[some (.int (many:Int)),some (.lst (as.map bL)),some (.lst ((W0 as).map bL)),some (.lst (e9 many f)),x4,some (.lst (ao p)),some (.int (d:Int)),some (.int (here:Int))])
  (λds ρ=>∃x pre,ds=pre.map bL/\(∃post,W0 as=pre++post)/\Kahn.In (W0 as) many (p.take d) here pre (pre.foldl (Kahn.stp here) (f,p))/\ρ=[some (.int (many:Int)),some (.lst (as.map bL)),some (.lst ((W0 as).map bL)),some (.lst (e9 many (pre.foldl (Kahn.stp here) (f,p)).1)),x,some (.lst (ao (pre.foldl (Kahn.stp here) (f,p)).2)),some (.int (d:Int)),some (.int (here:Int))])
  ⟨x4,[],rfl,⟨_,rfl⟩,⟨h.ok,λg=>by show f g=_;rw[h.fe];simp,h.z,λx hx=>by
   rcases hx with hx|rfl
   ·exact qN hx
   ·exact bo.mpr ⟨d,hh⟩⟩,rfl⟩ (by
  rintro ds dd post ρ e ⟨x,pre,rfl,⟨uW,e'⟩,I,rfl⟩
  rw[e',cL]at e
  have e3:=List.append_cancel_left e
  cases uW with
  |nil=>cases e3
  |cons a uW=>
   rw[aP]at e3
   cases e3
   have ha:a∈W0 as:=by rw[e'];simp
   have hl:=Kahn.len_le I.ok.nd I.ok.lt
   have I2:=I.step e' hP (hW a ha).2
   refine⟨_,_,rfl,.inl ?_,some (bL a),pre++[a],by simp,⟨uW,by rw[e'];simp⟩,by rw[tD];exact I2,rfl⟩
   rw[tD]
   generalize pre.foldl (Kahn.stp here) (f,p)=S at hl
   show vg _=some (.nx [_,_,_,some (.lst (e9 many (Kahn.stp here S a).1)),_,some (.lst (ao (Kahn.stp here S a).2)),_,_])
   have f1:=fs a
   have f2:=fg a
   have dB:(ao S.2).length<16777216:=by simp[ao];omega
   unfold vg
   by_cases hs:a.s=here
   ·have FL:((a.s:Nat):Int)=(here:Int):=by rw[hs]
    have au:=Us (i:=3) (fj:=e1 (cC [0,1,2,3] "goal") (eV 4)) (f:=eC (.int 1)) (gi:=λi j=>i-j) (ρ:=[some (.int (many:Int)),some (.lst (as.map bL)),some (.lst ((W0 as).map bL)),some (.lst (e9 many S.1)),some (bL a),some (.lst (ao S.2)),some (.int (d:Int)),some (.int (here:Int))]) (n:=many) (g:=a.g) (w:=S.1) (y:=1) rfl (by walk_at "mir") rfl (hW a ha).2
    have va:cF (.lst (e9 many λx=>if x=a.g then S.1 a.g-1 else S.1 x)) (.int (a.g:Int))=some (.int (S.1 a.g-1)):=by
     have:=Jb (λx=>if x=a.g then S.1 a.g-1 else S.1 x) (hW a ha).2
     rw[if_pos rfl]at this
     exact this
    by_cases h0:S.1 a.g-1=0
    ·have es:Kahn.stp here S a=(λx=>if x=a.g then S.1 a.g-1 else S.1 x,S.2++[a.g]):=by unfold Kahn.stp;simp[hs,h0]
     rw[es,←Ts]
     rw[h0]at va
     clear I I2 e' es
     walk_at "mir"
    ·have es:Kahn.stp here S a=(λx=>if x=a.g then S.1 a.g-1 else S.1 x,S.2):=by unfold Kahn.stp;simp[hs,h0]
     rw[es]
     clear I I2 e' es
     walk_at "mir"
   ·have es:Kahn.stp here S a=S:=by unfold Kahn.stp;rw[if_neg hs]
    rw[es]
    have FL:¬((a.s:Nat):Int)=(here:Int):=by omega
    clear I I2 e' es
    walk_at "mir")
 obtain⟨⟨post,e2⟩,I,rfl⟩:=e2
 have:pre=W0 as:=by
  have:=congrArg mO e1
  rw[ah,ah]at this
  rw[e2,aZ]at this
  have hp:post=[]:=gU (by omega)
  rw[e2,hp,cA]
 rw[this]at h1
 exact⟨x,h1⟩
theorem zp3 {many:Nat}(as:List bV)(l:as.length<=1000)(hm:many<=1000)(hs:∀a∈as,a.s<many/\a.g<many) :
  ∃(f:Nat->Int) (p:List Nat),v8 [.int (many:Int),.lst (as.map bL)]=some (.lst (ao p))/\Kahn.Wh (W0 as) many f p p.length:=by
 have hW:∀a∈W0 as,a.s<many/\a.g<many:=λa ha=>hs a (bB.mp ha).1
 obtain⟨c1,_⟩:=SK (g:=gV 4) (b:=jl) bL (λs:(Nat->Int)×Option D=>[some (.int (many:Int)),some (.lst (as.map bL)),some (.lst ((W0 as).map bL)),some (.lst (e9 many s.1)),s.2,none,none,none])
  DN (λ_=>True) (W0 as) (λ_=>0,none) trivial (λs a ha _=>by
   refine⟨_,rfl,.inl ?_,trivial⟩
   unfold jl
   have f2:=fg a
   rw[Us (n:=many) (g:=a.g) (w:=s.1) (y:=1) rfl (by walk_at "mir") rfl (hW a ha).2]
   rfl)
 have c2:=Tr (W0 as) (λ_=>0,none)
 generalize W4:(W0 as).foldl DN (λ_=>0,none)=S0 at c1 c2
 obtain⟨f0,y4⟩:=S0
 dsimp only at c1 c2
 have MZ:∀r:L3.Env,r[0]?.join=some (.int (many:Int))->r[3]?.join=some (.lst (e9 many f0))->RJ r=some (.lst (ao ((aw many).filter λg=>decide (f0 g=0)))):=by
  intro r h0 h3
  refine xP (λ(t:Nat)=>D.int (t:Int)) (λg=>decide (f0 g=0)) (λ(t:Nat)=>D.int (t:Int)) (aw many) (PB h0 (by omega)) (by rw[bD];omega) ?_
  ·intro g hg
   refine⟨_,rfl,?_,λ_=>rfl⟩
   have hg:g<many:=bM.mp hg
   have hv:cF (.lst (e9 many f0)) (.int (g:Int))=some (.int (f0 g)):=Jb f0 hg
   have hc:fw r [3]=[some (.lst (e9 many f0))]:=by unfold fw;simp[h3]
   rw[hc]
   walk_at "mir"
 generalize hq:((aw many).filter λg=>decide (f0 g=0))=p0 at MZ
 have w0:Kahn.Wh (W0 as) many f0 p0 0:=by
  have hf:∀g,f0 g=Kahn.cnt (W0 as) [] g:=λg=>by
   rw[c2 g]
   unfold Kahn.cnt
   simp
  refine⟨⟨by rw[←hq];exact gP.filter _,λx hx=>by rw[←hq,bB,bM]at hx;exact hx.1,λi x hx a ha e=>?_⟩,by omega,hf,λg hg=>by rw[←hq,bB,bM];simp[hg]⟩
  have Ct:x∈p0:=bo.mpr ⟨i,hx⟩
  rw[←hq,bB]at Ct
  have h0:f0 x=0:=by simpa using Ct.2
  rw[hf]at h0
  have:=Kahn.cnt_zero.mp (by exact_mod_cast h0) a ha e
  cases this
 obtain⟨ρ',h1,⟨f,p,d,x4,x7,rfl,wh⟩,h3⟩:=Ov (c:=tb (e2 nD (eV 6) (eN cX (aCons (eV 5) aNil)))) (b:=jk)
  (λρ=>∃f p d x4 x7,ρ=[some (.int (many:Int)),some (.lst (as.map bL)),some (.lst ((W0 as).map bL)),some (.lst (e9 many f)),x4,some (.lst (ao p)),some (.int ((d:Nat):Int)),x7]/\Kahn.Wh (W0 as) many f p d)
  (λρ:L3.Env=>match ρ[6]? with|some (some (D.int i))=>(1001-i).toNat|_=>0) (by
   rintro ρ ⟨f,p,d,x4,x7,rfl,wh⟩
   have hl:(ao p).length=p.length:=by simp[ao]
   refine⟨decide ((d:Int)<(p.length:Int)),by walk_at "mir",λht=>?_⟩
   have hd:d<p.length:=by simpa using ht
   have hh:p[d]?=some p[d]:=by simp[hd]
   obtain⟨x,kd⟩:=zti (x4:=x4) hm hW wh hh
   obtain⟨IC,q,_⟩:=wh.step (λa ha=>(hW a ha).2) hh
   have sP:=Kahn.len_le IC.ok.nd IC.ok.lt
   have uJ:=IC.dl
   refine⟨_,.inl ?_,⟨_,_,d+1,x,some (.int (p[d]:Int)),rfl,IC⟩,?_⟩
   ·have hix:cF (.lst (ao p)) (.int (d:Int))=some (.int (p[d]:Int)):=ui (by simp[ao,hd])
    have hau:i2 (λi j=>D.int (i+j)) (.int (d:Int)) (.int 1)=some (.int ((d+1:Nat):Int)):=by simp[i2]
    unfold jk vA
    clear wh IC sP uJ
    walk_at "mir"
   ·show(1001-((d+1:Nat):Int)).toNat<(1001-(d:Int)).toNat
    omega) mK [some (.int (many:Int)),some (.lst (as.map bL)),some (.lst ((W0 as).map bL)),some (.lst (e9 many f0)),y4,some (.lst (ao p0)),some (.int ((0:Nat):Int)),none] ⟨f0,p0,0,y4,none,rfl,w0⟩ (by
   show(1001-((0:Nat):Int)).toNat<mK
   have:(1001:Nat)<mK:=KB (by decide)
   omega)
 have hd:d=p.length:=by
  have hl:(ao p).length=p.length:=by simp[ao]
  have h4:(tb (e2 nD (eV 6) (eN cX (aCons (eV 5) aNil)))) [some (.int (many:Int)),some (.lst (as.map bL)),some (.lst ((W0 as).map bL)),some (.lst (e9 many f)),x4,some (.lst (ao p)),some (.int (d:Int)),x7]=some (decide ((d:Int)<(p.length:Int))):=by walk_at "mir"
  rw[h4]at h3
  have:=wh.dl
  simp at h3
  omega
 subst hd
 refine⟨f,p,?_,wh⟩
 have r1:=zgt as (by omega)
 have rp:rB (.lst [.int 0]) (.int (many:Int))=some (.lst (e9 many λ_=>0)):=by
  unfold rB
  dsimp only
  rw[if_pos ⟨by omega,by omega,by simp⟩]
  congr 2
  unfold e9
  rw[mY,bD]
  simp
 rw[show(((0:Nat):Int))=0 from rfl]at h1
 unfold v8 gM
 clear hs hW c2 W4 hq w0 wh h3 l hm
 walk_at "mir"
def bA (ns:List D)(as:List bV):D:=.obj 4 ["names","arrows"] [.lst ns,.lst (as.map bL)]
structure mw (many:Nat)(as:List bV):Prop where
 pos:1<=many
 le:many<=40
 len:as.length<=120
 right:∀a∈as,Right many a
 rank:∃rank:Nat->Nat,∀a∈as,a.b=0->rank a.s<rank a.g
theorem mw.placed {many:Nat}{as:List bV}(h:mw many as):∃p:List Nat,v8 [.int (many:Int),.lst (as.map bL)]=some (.lst (ao p))/\Kahn.Ok (W0 as) many p/\p.length=many/\∀g,g<many->g∈p:=by
 obtain⟨f,p,h1,h2⟩:=zp3 (many:=many) as (by have:=h.len;omega) (by have:=h.le;omega) (λa ha=>⟨(h.right a ha).s,(h.right a ha).g⟩)
 obtain⟨rank,hr⟩:=h.rank
 have all:=h2.all rank (λa ha=>by
  have:=bB.mp ha
  exact hr a this.1 (by simpa using this.2)) (λa ha=>(h.right a (bB.mp ha).1).s)
 exact⟨p,h1,h2.ok,Kahn.len_of h2.ok.nd h2.ok.lt all,all⟩
theorem zww {many:Nat}{as:List bV}{ns:List D}(h:mw many as)(hn:ns.length=many)(JI:qx [.lst ns]=some (.bl true)):wz 4 [.lst ns,.lst (as.map bL)]=some (bA ns as):=by
 obtain⟨p,hp,_,hl,_⟩:=h.placed
 have dB:=h.len
 obtain⟨ρ',h1,x3,x4,rfl⟩:=S9 (g:=gT (gsCons (gV 3) (gsCons (gV 4) gsNil))) (b:=N9) (ds:=eA 0 (as.map bL)) (ρ:=[some (.obj 4 [] []),some (.lst ns),some (.lst (as.map bL)),none,none,none])
  (λ_ ρ=>∃x3 x4,ρ=[some (.obj 4 [] []),some (.lst ns),some (.lst (as.map bL)),x3,x4,none]) ⟨none,none,rfl⟩ (by
   rintro pre d post ρ e ⟨x3,x4,rfl⟩
   obtain⟨x,hx,rfl⟩:=OC (zve e)
   rw[aD]at hx
   obtain⟨a,ha,rfl⟩:=dS.mp hx
   have hr:=zth (h.right a (bo.mpr ⟨_,ha⟩))
   refine⟨_,_,rfl,.inl ?_,some (.int (0+pre.length:Nat)),some (bL a),rfl⟩
   unfold N9
   rw[←hn]at hr
   clear hp hl hn dB h
   walk_at "mir")
 have hz:(ao p).length=many:=by simp[ao,hl]
 have hgt:¬((as.length:Int) > 120):=by omega
 rw[←hn]at hp hz
 have l1:∀ds:List D,mC [.lst ds]=some (.lst ds):=λ_=>rfl
 have s1:lA [4] "names" (eN mC (aCons (eV 1) aNil)) [some (D.obj 4 [] []),some (.lst ns),some (.lst (as.map bL)),x3,x4,some (.lst (ao p))]=some (.nx [some (D.obj 4 ["names"] [.lst ns]),some (.lst ns),some (.lst (as.map bL)),x3,x4,some (.lst (ao p))]):=rfl
 have s2:lA [4] "arrows" (eN mC (aCons (eV 2) aNil)) [some (D.obj 4 ["names"] [.lst ns]),some (.lst ns),some (.lst (as.map bL)),x3,x4,some (.lst (ao p))]=some (.nx [some (bA ns as),some (.lst ns),some (.lst (as.map bL)),x3,x4,some (.lst (ao p))]):=rfl
 clear h dB hl hn
 unfold wz Bs
 walk_at "mir"
theorem KQ (ns:List Int)(i:Int)(hi:0<=i):∃c,wk [.lst (ns.map .int),.int i]=some (.int c):=by
 obtain⟨k,rfl⟩:∃k:Nat,i=k:=⟨i.toNat,by omega⟩
 unfold wk
 by_cases h:k<ns.length
 ·refine⟨ns[k],?_⟩
  have:cF (.lst (ns.map .int)) (.int (k:Int))=some (.int ns[k]):=zsx D.int (.inl rfl) (by simp[h])
  walk_at "mir"
 ·refine⟨0,?_⟩
  walk_at "mir"
def pP (c:Int):Bool:=decide (1237940039285380274899124224<=c)&&decide (c%2=1)
theorem Pf (c:Int):u5 [.int c]=some (.bl (pP c)):=by
 unfold u5 pP
 by_cases h1:(1237940039285380274899124224:Int)<=c<;>by_cases h2:c%2=1<;>walk_at "mir"
theorem Ut (c:Int){k:Int}(h0:0<=k)(h1:k<=1000000):∃r:Nat,wm [.int c,.int k]=some (.int (r:Int))/\r<2147483648:=by
 have m0:dk (.int 31) (.int k)=some (.int (31*k)):=zem (by decide) (by decide)
 have s0:sU (.int c) (.int (1+31*k))=some (.int (c/2 ^ (1+31*k).toNat)):=zj6 (by omega)
 have r0:=Pf c
 have fin:∀z:Int,∀m:Int,0<m->m<=2147483648->∃r:Nat,(some (D.int (z%m)):Option D)=some (.int (r:Int))/\r<2147483648:=λz m hm n8=>by
  have a1:=jO z (by omega:m≠0)
  have a2:=tq z hm
  exact⟨(z%m).toNat,by rw[se a1],by omega⟩
 generalize hn:(c+7919*k+1)*48271%2147483647=n1
 have b1:0<=n1/\n1<2147483647:=by omega
 have m1:dk (.int 7919) (.int k)=some (.int (7919*k)):=zem (by decide) (by decide)
 have m2:dk (.int (c+7919*k+1)) (.int 48271)=some (.int ((c+7919*k+1)*48271)):=zc0 (by decide) (by decide)
 have m3:dk (.int n1) (.int (n1/1009+69621))=some (.int (n1*(n1/1009+69621))):=zem (by omega) (by omega)
 generalize yL:n1*(n1/1009+69621)%2147483647=n2
 have b2:0<=n2/\n2<2147483647:=by omega
 have m4:dk (.int n2) (.int (n2/2003+39373+k))=some (.int (n2*(n2/2003+39373+k))):=zem (by omega) (by omega)
 unfold wm
 by_cases hr:pP c=true
 ·by_cases hs:c/2 ^ (1+31*k).toNat > 0
  ·obtain⟨r,e1,e2⟩:=fin (c/2 ^ (1+31*k).toNat) 2147483648 (by decide) (by decide)
   refine⟨r,?_,e2⟩
   rw[←e1]
   generalize c/2 ^ (1+31*k).toNat=q at s0 hs
   clear e1 e2 fin hn yL b1 b2 h0 h1
   walk_at "mir"
  ·obtain⟨r,e1,e2⟩:=fin (n2*(n2/2003+39373+k)) 2147483629 (by decide) (by decide)
   refine⟨r,?_,e2⟩
   rw[←e1]
   generalize c/2 ^ (1+31*k).toNat=q at s0 hs
   clear e1 e2 fin b1 b2 h0 h1
   walk_at "mir"
 ·obtain⟨r,e1,e2⟩:=fin (n2*(n2/2003+39373+k)) 2147483629 (by decide) (by decide)
  refine⟨r,?_,e2⟩
  rw[←e1]
  clear e1 e2 fin b1 b2 h0 h1 s0
  walk_at "mir"
theorem Tt (g:Nat):∀O:List Nat,g∈O->∃j:Nat,(ao O).findIdx? (λy=>vP y (.int (g:Int)))=some j
 |[],h=>by cases h
 |x::O,h=>by
  have hc:ao (x::O)=.int (x:Int)::ao O:=rfl
  rw[hc,kM]
  by_cases hx:x=g
  ·refine⟨0,?_⟩
   have:vP (.int (x:Int)) (.int (g:Int))=true:=by simp[vP,hx]
   rw[this];rfl
  ·have:vP (.int (x:Int)) (.int (g:Int))=false:=by simp[vP];omega
   rw[this]
   obtain⟨j,hj⟩:=Tt g O (by
    rcases aF.mp h with e|e
    ·exact absurd e.symm hx
    ·exact e)
   exact⟨j+1,by rw[hj];rfl⟩
theorem ztj (O:List Nat):(ao O).all D.sc=true:=by
 rw[eO]
 intro d hd
 obtain⟨t,_,rfl⟩:=bm.mp hd
 rfl
def Nd (O:List Nat)(g:Nat):Nat:=((ao O).findIdx? (λy=>vP y (.int (g:Int)))).getD 0
theorem zp4 {g:Nat}{O:List Nat}(h:g∈O):uO (.lst (ao O)) (.int (g:Int))=some (.int (Nd O g:Int)):=by
 obtain⟨j,hj⟩:=Tt g O h
 unfold uO Nd
 dsimp only
 rw[if_pos ⟨rfl,ztj O⟩,hj]
 rfl
def kE (c k:Int):Nat:=match wm [.int c,.int k]with
 |some (.int r)=>r.toNat
 |_=>0
theorem Pg (c:Int){k:Int}(h0:0<=k)(h1:k<=1000000):wm [.int c,.int k]=some (.int (kE c k:Int))/\kE c k<2147483648:=by
 obtain⟨r,h,hr⟩:=Ut c h0 h1
 unfold kE
 rw[h]
 simpa using hr
def nw (cI:Int)(many:Nat):Nat->List Nat×List Nat
 |0=>([],aw many)
 |k+1=>
  let S:=nw cI many k
  let i:=kE cI (k:Int)%S.2.length
  (S.1++[S.2.getD i 0],S.2.eraseIdx i)
theorem Sn {α:Type}:∀(l:List α) (i:Nat) (h:i<l.length),(l[i]::l.eraseIdx i).Perm l
 |[],_,h=>by simp at h
 |x::l,0,_=>by simp
 |x::l,i+1,h=>by
  have ih:=Sn l i (by simpa using h)
  simp only[List.getElem_cons_succ,List.eraseIdx_cons_succ]
  exact(List.Perm.swap x _ _).trans (ih.cons x)
theorem PH (cI:Int)(many:Nat):∀k,k<=many->(nw cI many k).2.length=many-k/\((nw cI many k).1++(nw cI many k).2).Perm (aw many)
 |0,_=>by simp[nw]
 |k+1,h=>by
  obtain⟨h1,h2⟩:=PH cI many k (by omega)
  unfold nw
  dsimp only
  generalize nw cI many k=S at h1 h2
  have hi:kE cI (k:Int)%S.2.length<S.2.length:=iz _ (by omega)
  generalize kE cI (k:Int)%S.2.length=i at hi
  refine⟨by rw[List.length_eraseIdx_of_lt hi];omega,?_⟩
  have e:=Sn S.2 i hi
  have hg:S.2.getD i 0=S.2[i]:=by simp[hi]
  rw[hg,dN]
  exact(List.Perm.append_left S.1 e).trans h2
theorem So:∀(L:List Nat) (i:Nat),(ao L).eraseIdx i=ao (L.eraseIdx i)
 |[],_=>rfl
 |_::_,0=>rfl
 |x::L,i+1=>by
  have ih:=So L i
  show D.int (x:Int)::(ao L).eraseIdx i=D.int (x:Int)::ao (L.eraseIdx i)
  rw[ih]
theorem zp5 (cI:Int){many:Nat}(h2:many<=1000)(g:Nat):∃x5:Option D,fQ (gV 5) jw (fJ 0 many) [some (.int cI),some (.int (many:Int)),some (.int (g:Int)),some (.lst []),some (.lst (fJ 0 many)),none] =
  some (.nx [some (.int cI),some (.int (many:Int)),some (.int (g:Int)),some (.lst (ao (nw cI many many).1)),some (.lst (ao (nw cI many many).2)),x5]):=by
 have hu:fJ 0 many=ao (aw many):=by simp[fJ,ao]
 obtain⟨ρ',h1,x5,rfl⟩:=Sf (g:=gV 5) (b:=jw) (lo:=0) (n:=many) (ρ:=[some (.int cI),some (.int (many:Int)),some (.int (g:Int)),some (.lst []),some (.lst (fJ 0 many)),none])
  (λk ρ=>∃x5,ρ=[some (.int cI),some (.int (many:Int)),some (.int (g:Int)),some (.lst (ao (nw cI many k).1)),some (.lst (ao (nw cI many k).2)),x5]) ⟨none,by rw[hu];rfl⟩ (by
   rintro k ρ hk ⟨x5,rfl⟩
   obtain⟨o1,o2⟩:=PH cI many k (by omega)
   have o3:=o2.length_eq
   rw[aZ,bD]at o3
   obtain⟨mx,mb⟩:=Pg cI (k:=0+(k:Int)) (by omega) (by omega)
   refine⟨_,_,rfl,.inl ?_,some (.int (0+(k:Int))),rfl⟩
   have e0:(0:Int)+(k:Int)=(k:Int):=by omega
   rw[e0]at mx ⊢
   show jw [some (.int cI),some (.int (many:Int)),some (.int (g:Int)),some (.lst (ao (nw cI many k).1)),some (.lst (ao (nw cI many k).2)),some (.int (k:Int))]=some (.nx [some (.int cI),some (.int (many:Int)),some (.int (g:Int)),some (.lst (ao ((nw cI many k).1++[(nw cI many k).2.getD (kE cI (k:Int)%(nw cI many k).2.length) 0]))),some (.lst (ao ((nw cI many k).2.eraseIdx (kE cI (k:Int)%(nw cI many k).2.length)))),some (.int (k:Int))])
   generalize nw cI many k=S at o1 o3
   have hi:kE cI (k:Int)%S.2.length<S.2.length:=iz _ (by omega)
   have md:dY (.int (kE cI (k:Int):Int)) (.int ((ao S.2).length:Int))=some (.int ((kE cI (k:Int)%S.2.length:Nat):Int)):=by
    rw[j8 (by simp[ao];omega)]
    simp[ao]
   generalize kE cI (k:Int)%S.2.length=i at hi md
   have hg:S.2.getD i 0=S.2[i]:=by simp[hi]
   have l1:(ao S.1).length<16777216:=by simp[ao];omega
   have l2:(ao S.2).length<=16777216:=by simp[ao];omega
   have ix:ixN (ao S.2).length (i:Int)=some i:=ztg (by simp[ao];exact hi)
   have gt:(ao S.2)[i]?=some (.int (S.2[i]:Int)):=by simp[ao,hi]
   have ev:eN cX (aCons (eV 4) aNil) [some (.int cI),some (.int (many:Int)),some (.int (g:Int)),some (.lst (ao S.1)),some (.lst (ao S.2)),some (.int (k:Int))]=some (.int ((ao S.2).length:Int)):=rfl
   have em:(aCons (eV 0) (aCons (eV 5) aNil) [some (.int cI),some (.int (many:Int)),some (.int (g:Int)),some (.lst (ao S.1)),some (.lst (ao S.2)),some (.int (k:Int))]).bind (λds=>wm (ds++[]))=some (.int (kE cI (k:Int):Int)):=mx
   have ee:e2 dY (λρ=>((aCons (eV 0) (aCons (eV 5) aNil)) ρ).bind λds=>wm (ds++[])) (eN cX (aCons (eV 4) aNil)) [some (.int cI),some (.int (many:Int)),some (.int (g:Int)),some (.lst (ao S.1)),some (.lst (ao S.2)),some (.int (k:Int))]=some (.int (i:Int)):=by
    unfold e2
    dsimp only
    rw[em,ev]
    exact md
   unfold jw o6
   rw[ee]
   show(if(ao S.1).length<16777216/\(ao S.2).length<=16777216 then _ else _)=_
   rw[if_pos ⟨l1,l2⟩,ix]
   show((ao S.2)[i]?).bind _=_
   rw[gt,hg,←Ts,←So]
   rfl)
 exact⟨x5,h1⟩
theorem zvq (cI:Int){many:Nat}(h1:1<=many)(h2:many<=1000):∃rk:Nat->Nat,∀g,g<many->jm [.int cI,.int (many:Int),.int (g:Int)]=some (.int (rk g:Int)):=by
 have hr:=Pf cI
 cases XD:pP cI with
 |false=>
  refine⟨λg=>(((g:Int)+cI)%(many:Int)).toNat,λg hg=>?_⟩
  have a1:=jO ((g:Int)+cI) (by omega:(many:Int)≠0)
  have a2:dY (.int ((g:Int)+cI)) (.int (many:Int))=some (.int (((g:Int)+cI)%(many:Int))):=j8 (by omega)
  rw[se a1]
  unfold jm
  clear a1
  walk_at "mir"
 |true=>
  obtain⟨o1,o2⟩:=PH cI many many (aM _)
  rw[Nat.sub_self]at o1
  have o3:(nw cI many many).2=[]:=gU o1
  rw[o3,cA]at o2
  refine⟨Nd (nw cI many many).1,λg hg=>?_⟩
  obtain⟨x5,lp⟩:=zp5 cI h2 g
  have ix:=zp4 (g:=g) (O:=(nw cI many many).1) (o2.mem_iff.mpr (bM.mpr hg))
  have lr:kr [.int (many:Int)]=some (.lst (fJ 0 many)):=by
   unfold kr
   dsimp only
   rw[if_pos ⟨by omega,by omega⟩]
   simp
  have r1:hJ [.int (many:Int)]=some (fJ 0 many):=by
   rw[zE (by omega) (by omega)]
   simp
  unfold jm
  generalize nw cI many many=S at lp ix
  clear o1 o2 o3
  walk_at "mir"
def bC (a:bV):D:=.tup [.int a.s,.int a.g,.int a.t,.int a.b]
theorem zid (c many cI n s g b:Int):∃t:Int,0<=t/\t<=1000000000/\qf [some (.int c),some (.int many),some (.int cI),some (.int n),some (.int s),some (.int g),some (.int b),none]=some (.rt (.tup [.int s,.int g,.int t,.int b])):=by
 obtain⟨m2,_⟩:=Pg c (k:=30) (by decide) (by decide)
 generalize kE c 30=u at m2
 have row:=Pf c
 unfold qf
 by_cases hr:pP c=true
 ·refine⟨(u:Int)%1000000001,by omega,by omega,?_⟩
  by_cases h3:c%3=2<;>walk_at "mir"
 ·by_cases h3:c%3=2
  ·refine⟨c/3%1000000001,by omega,by omega,?_⟩
   walk_at "mir"
  ·refine⟨n/1000%10,by omega,by omega,?_⟩
   walk_at "mir"
theorem ztk (c cI:Int){many:Nat}(h1:1<=many)(h2:many<=1000)(rk:Nat->Nat)(mT:∀g,g<many->jm [.int cI,.int (many:Int),.int (g:Int)]=some (.int (rk g:Int))) :
  ∃a:bV,vb [.int c,.int (many:Int),.int cI]=some (bC a)/\a.s<many/\a.g<many/\0<=a.t/\a.t<=1000000000/\a.b<=4/\(a.b=0->rk a.s<rk a.g):=by
 obtain⟨m1,_⟩:=Pg c (k:=1) (by decide) (by decide)
 generalize kE c 1=n at m1
 have hs:n%many<many:=iz _ (by omega)
 have hg:n/8%many<many:=iz _ (by omega)
 have e1:dY (.int (n:Int)) (.int (many:Int))=some (.int ((n%many:Nat):Int)):=by rw[j8 (by omega)];simp
 have e2:dY (.int ((n:Int)/8)) (.int (many:Int))=some (.int ((n/8%many:Nat):Int)):=by rw[j8 (by omega)];simp
 have k1:=mT _ hs
 have k2:=mT _ hg
 generalize n%many=s0,n/8%many=g0 at *
 have fin:∀b:Nat,b<=4->(b=0->rk s0<rk g0)->(∀t:Int,qf [some (.int c),some (.int (many:Int)),some (.int cI),some (.int (n:Int)),some (.int (s0:Int)),some (.int (g0:Int)),some (.int (b:Int)),none]=some (.rt (.tup [.int s0,.int g0,.int t,.int b]))->vb [.int c,.int (many:Int),.int cI]=some (.tup [.int s0,.int g0,.int t,.int b])) ->
   ∃a:bV,vb [.int c,.int (many:Int),.int cI]=some (bC a)/\a.s<many/\a.g<many/\0<=a.t/\a.t<=1000000000/\a.b<=4/\(a.b=0->rk a.s<rk a.g):=by
  intro b hb yG h
  obtain⟨t,t0,t1,ht⟩:=zid c many cI n s0 g0 b
  exact⟨⟨.wait,s0,g0,t,b⟩,h t ht,hs,hg,t0,t1,hb,yG⟩
 have eb:((n:Int)/64)%5=((n/64%5:Nat):Int):=by omega
 have Jt:(1:Int)+(n:Int)/320%2=((1+n/320%2:Nat):Int):=by omega
 by_cases q:n/64%5=0
 ·have q':((n:Int)/64)%5=0:=by omega
  by_cases q2:rk g0<=rk s0
  ·have ZG:((rk g0:Nat):Int)<=(rk s0:Int):=by omega
   refine fin (1+n/320%2) (by omega) (by omega) λt ht=>?_
   rw[←Jt]at ht ⊢
   unfold vb
   clear eb Jt q hs hg q2 mT fin
   walk_at "mir"
  ·have ZG:¬((rk g0:Nat):Int)<=(rk s0:Int):=by omega
   refine fin 0 (by omega) (by omega) λt ht=>?_
   rw[show((0:Nat):Int)=0 from rfl]at ht ⊢
   unfold vb
   clear eb Jt q hs hg q2 mT fin
   walk_at "mir"
 ·have q':¬((n:Int)/64)%5=0:=by omega
  refine fin (n/64%5) (by omega) (by omega) λt ht=>?_
  rw[←eb]at ht ⊢
  unfold vb
  clear eb Jt q hs hg mT fin
  walk_at "mir"
def lV (b:Nat)(kind:Int):Kd:=if b=0/\kind%2=0 then .ride else if 0<b/\kind%2=0 then .back else .wait
def fU (a:bV)(kind:Int):bV:={ a with c:=lV a.b kind }
theorem zvr (s g t:Int):Ob 1 [.int s,.int g,.int t]=some (.obj 1 ["start","goal","time","behind"] [.int s,.int g,.int t,.int 0]):=rfl
theorem zvs (s g t b:Int):N2 2 [.int s,.int g,.int t,.int b]=some (.obj 2 ["start","goal","time","behind"] [.int s,.int g,.int t,.int b]):=rfl
theorem zvt (s g t b:Int):N3 3 [.int s,.int g,.int t,.int b]=some (.obj 3 ["start","goal","time","behind"] [.int s,.int g,.int t,.int b]):=rfl
theorem zvu (a:bV)(kind:Int):Kf [bC a,.int kind]=some (bL (fU a kind)):=by
 obtain⟨c,s,g,t,b⟩:=a
 have r1:=zvr
 have r2:=zvs
 have r3:=zvt
 unfold Kf bC fU bL
 dsimp only
 by_cases hb:b=0
 ·by_cases hk:kind%2=0
  ·subst hb
   have:lV 0 kind=.ride:=by unfold lV;rw[if_pos ⟨rfl,hk⟩]
   rw[this]
   have e:(((0:Nat)):Int)=0:=rfl
   have hn:Kd.ride.n=1:=rfl
   walk_at "mir"
  ·have:lV b kind=.wait:=by unfold lV;rw[if_neg (λz=>hk z.2),if_neg (λz=>hk z.2)]
   rw[this]
   have hn:Kd.wait.n=2:=rfl
   have JD:(b:Int)=0:=by omega
   walk_at "mir"
 ·have JD:¬(b:Int)=0:=by omega
  have Xa:0<b:=by omega
  by_cases hk:kind%2=0
  ·have:lV b kind=.back:=by unfold lV;rw[if_neg (λz=>hb z.1),if_pos ⟨by omega,hk⟩]
   rw[this]
   have hn:Kd.back.n=3:=rfl
   clear JD
   walk_at "mir"
  ·have:lV b kind=.wait:=by unfold lV;rw[if_neg (λz=>hk z.2),if_neg (λz=>hk z.2)]
   rw[this]
   have hn:Kd.wait.n=2:=rfl
   clear JD
   walk_at "mir"
def nm (n:Nat):List D:=(aw n).map λ(k:Nat)=>D.str ("a"++yQ (k:Int))
def Nb:Option D->Bool
 |some (.bl true)=>true
 |_=>false
theorem zvv {x:Option D}(h:Nb x=true):x=some (.bl true):=by
 unfold Nb at h
 split at h
 ·rfl
 ·cases h
structure Drawn (many:Nat)(rk:Nat->Nat)(a:bV):Prop where
 s:a.s<many
 g:a.g<many
 t0:0<=a.t
 t1:a.t<=1000000000
 b:a.b<=4
 r:a.b=0->rk a.s<rk a.g
theorem Drawn.right {many:Nat}{rk:Nat->Nat}{a:bV}(h:Drawn many rk a)(kind:Int):Right many (fU a kind):=by
 refine⟨h.s,h.g,h.t0,h.t1,h.b,λz=>?_,λz=>?_⟩
 ·change lV a.b kind=.ride at z
  unfold lV at z
  split at z
  ·next q=>exact q.1
  ·split at z<;>cases z
 ·change lV a.b kind=.back at z
  unfold lV at z
  split at z
  ·cases z
  ·split at z
   ·next q=>exact q.1
   ·cases z
theorem SX {κ:Type}(h:κ×D->D):∀(ks:List κ) (ds:List D),ks.zip ((ks.zip ds).map h)=(ks.zip ds).map λp=>(p.1,h p)
 |[],_=>rfl
 |_::_,[]=>rfl
 |k::ks,d::ds=>by
  show(k,h (k,d))::ks.zip ((ks.zip ds).map h)=(k,h (k,d))::(ks.zip ds).map _
  rw[SX h ks ds]
theorem zp6 {κ:Type}[DecidableEq κ]{ks:List κ}{ds:List D}(hl:ks.length=ds.length)(k k':κ)(d:D):jS (gq ks ds k d).1 (gq ks ds k d).2 k'=if k'=k then some d else jS ks ds k':=by
 unfold gq
 by_cases hc:ks.contains k=true
 ·rw[if_pos hc]
  unfold jS
  dsimp only
  rw[SX,List.find?_map]
  by_cases hk:k'=k
  ·subst hk
   rw[if_pos rfl]
   have hm:k'∈ks:=by simpa using hc
   have:∃p∈ks.zip ds,p.1=k':=by
    obtain⟨i,hi,e⟩:=dI.mp hm
    refine⟨(ks[i],ds[i]),?_,e⟩
    rw[dI]
    exact⟨i,by rw[eX];omega,by simp⟩
   obtain⟨p,hp,he⟩:=this
   cases hf:(ks.zip ds).find? ((λp:κ×D=>decide (p.1=k')) ∘ λp:κ×D=>(p.1,if p.1=k' then d else p.2))with
   |none=>
    rw[sg]at hf
    have:=hf p hp
    simp[he]at this
   |some q=>
    have hq:=vH hf
    simp at hq
    simp[hq]
  ·rw[if_neg hk]
   have:((λp:κ×D=>decide (p.1=k')) ∘ λp:κ×D=>(p.1,if p.1=k then d else p.2))=λp:κ×D=>decide (p.1=k'):=rfl
   rw[this]
   cases hf:(ks.zip ds).find? λp=>decide (p.1=k')with
   |none=>rfl
   |some q=>
    have hq:=vH hf
    simp at hq
    have i7:¬q.1=k:=λz=>hk (hq▸z)
    simp[i7]
 ·rw[if_neg hc]
  unfold jS
  dsimp only
  have hz:(ks++[k]).zip (ds++[d])=ks.zip ds++[(k,d)]:=by
   rw[vK hl];rfl
  rw[hz,List.find?_append]
  by_cases hk:k'=k
  ·subst hk
   rw[if_pos rfl]
   have hn:(ks.zip ds).find? (λp=>decide (p.1=k'))=none:=by
    rw[sg]
    intro p hp
    have hm:=(gZ (a:=p.1) (b:=p.2) hp).1
    have n8:¬k'∈ks:=by simpa using hc
    simp
    intro z
    exact n8 (z▸hm)
   rw[hn]
   simp
  ·rw[if_neg hk]
   have:¬k=k':=λz=>hk z.symm
   cases hf:(ks.zip ds).find? (λp=>decide (p.1=k'))<;>simp[this]
theorem Uu {κ:Type}[DecidableEq κ]{ks:List κ}{ds:List D}(hl:ks.length=ds.length)(k:κ)(d:D):(gq ks ds k d).1.length=(gq ks ds k d).2.length/\(gq ks ds k d).1.length<=ks.length+1:=by
 unfold gq
 by_cases hc:ks.contains k=true
 ·rw[if_pos hc];simp;omega
 ·rw[if_neg hc];simp[hl]
theorem OY (ns:List D)(as:List bV):cC [4] "names" (bA ns as)=some (.lst ns):=rfl
theorem CB (ns:List D)(as:List bV):cC [4] "arrows" (bA ns as)=some (.lst (as.map bL)):=rfl
theorem zp7 {ns:List Int}{r:L3.Env}(i a b:Nat)(h:r[i]?.join=some (.lst (ns.map .int))):lsD (λρ=>((eV i) ρ).bind λd=>((pInt (eC (.int a))) ρ).bind λl=>((pInt (eC (.int b))) ρ).bind λh=>kF d l h) r=some (((ns.drop a).take (b-a)).map .int):=by
 have e:eV i r=some (.lst (ns.map .int)):=h
 unfold lsD
 show(((eV i) r).bind _).bind _=_
 rw[e]
 show some (cutD (ns.map .int) (some (a:Int)) (some (b:Int)))=_
 rw[zpf,oM,gQ]
theorem drawn (cI:Int){many:Nat}(h1:1<=many)(h2:many<=1000):∃(mk:Int->bV) (rk:Nat->Nat),(∀c,vb [.int c,.int (many:Int),.int cI]=some (bC (mk c)))/\∀c,Drawn many rk (mk c):=by
 obtain⟨rk,mT⟩:=zvq cI h1 h2
 have:=λc=>ztk c cI h1 h2 rk mT
 refine⟨λc=>Classical.choose (this c),rk,λc=>(Classical.choose_spec (this c)).1,λc=>?_⟩
 obtain⟨_,a,b,c,d,e,f⟩:=Classical.choose_spec (this c)
 exact⟨a,b,c,d,e,f⟩
theorem ztl (g:Nat)(hg:g<=1000000):sW [.int (g:Int)]=some (.str (yQ (g:Int)))/\e6 (.str "a") (.str (yQ (g:Int)))=some (.str ("a"++yQ (g:Int))):=by
 have h:Sz 1900 (g:Int):=by
  show(g:Int).natAbs<2 ^ 1900
  have:(2:Nat) ^ 20<=2 ^ 1900:=dL (by decide) (by decide)
  omega
 have h2:=zs0 h
 have h3:("a":aX).length=1:=by decide
 exact⟨zpk h,zpb (by omega)⟩
def fr (q:Int×Int):D:=.tup [.int q.1,.int q.2]
theorem wU (q:Int×Int):cF (fr q) (.int 0)=some (.int q.1):=rfl
theorem oT (q:Int×Int):cF (fr q) (.int 1)=some (.int q.2):=rfl
def Fz (n:Nat)(q:Int×Int):Prop:=Sz n q.1/\Sz n q.2
theorem Fz.mono {n m:Nat}{q:Int×Int}(h:Fz n q)(hm:n<=m):Fz m q:=⟨h.1.mono hm,h.2.mono hm⟩
theorem WG {neg:Bool}(p q:Int×Int):fZ neg (fr p) (fr q)=some (.bl (if neg then !decide (p=q)else decide (p=q))):=(E2 Ei Ei).eq (by decide) p q
theorem qo {n:Nat}{i w:Int}(h1:-w<=i)(h2:i<=w)(hw:w<2 ^ n):Sz n i:=by
 unfold Sz
 have:(i.natAbs:Int)<2 ^ n:=by omega
 exact_mod_cast this
theorem NW {x y:Int}(hy:Sz 8000 y):ur [.int x,.int y]=some (.int ((eF x y:Nat):Int)):=by
 obtain⟨s',h1,h2,h3,r,h5⟩:=Ol (c:=tb (e2 (fZ true) (eV 1) (eC (D.int 0)))) (b:=u9) (λs:Int×Int×Option D=>[some (.int s.1),some (.int s.2.1),s.2.2]) (λs=>!decide (s.2.1=0)) (λs=>(s.2.1,s.1.fmod s.2.1,some (.int (s.1.fmod s.2.1)))) (λs=>s.2.1.natAbs) (λs=>eF s.1 s.2.1=eF x y)
  (λs hp=>by walk_at "mir") (λs hp ht=>by
   have hs:s.2.1≠0:=by simpa using ht
   refine⟨.inl ?_,(Fq.gcd_step s.1 s.2.1).trans hp,Fq.fmod_less s.1 hs⟩
   unfold u9
   have:=Ue (i:=s.1) hs
   walk_at "mir") mK (x,y,none) rfl (Pa hy (by decide))
 have h3:s'.2.1=0:=by simpa using h3
 have h4:=Fq.gcd_end s'.1
 rw[h3]at h2
 rw[h2]at h4
 clear h5
 unfold ur gM
 walk_at "mir"
theorem CM {t b:Int}(hb:b≠0)(hz:Sz 8000 b):xO [.int t,.int b]=some (fr (Fq.mk t b)):=by
 have e:=NW (x:=t) hz
 have hg:=Fq.gcd_pos (t:=t) (b:=b) hb
 have hd:Fq.dv t b≠0:=by unfold Fq.dv;split<;>omega
 have lL:Sz 9000 (Fq.dv t b):=(hz.le (Fq.dv_le hb)).mono (by decide)
 have e1:=Ta (i:=t) hd lL
 have e2:=Ta (i:=b) hd lL
 unfold xO fr Fq.mk
 by_cases hn:b<0
 ·have hd:Fq.dv t b = -((eF t b:Nat):Int):=by unfold Fq.dv;rw[if_pos hn]
  rw[hd]at e1 e2 ⊢
  walk_at "mir"
 ·have hd:Fq.dv t b=((eF t b:Nat):Int):=by unfold Fq.dv;rw[if_neg hn]
  rw[hd]at e1 e2 ⊢
  walk_at "mir"
theorem Jh {n:Nat}{t b:Int}(hb:b≠0)(ht:Sz n t)(hz:Sz n b):Fz n (Fq.mk t b):=⟨ht.le (Fq.mk_le_one hb),hz.le (Fq.mk_le_two hb)⟩
def oy (S G:Nat->Nat):Nat->List Nat->Nat->Prop
 |a,[],b=>a=b
 |a,n::l,b=>S n=a/\oy S G (G n) l b
theorem oy.app {S G:Nat->Nat}{b c:Nat}{m:List Nat}(h2:oy S G b m c):∀{a:Nat} {l:List Nat},oy S G a l b->oy S G a (l++m) c
 |a,[],h=>by
  have h:a=b:=h
  rw[h];exact h2
 |a,n::l,h=>⟨h.1,oy.app h2 h.2⟩
theorem oy.one (S G:Nat->Nat)(n:Nat):oy S G (S n) [n] (G n):=⟨rfl,rfl⟩
structure PV (ts:List Nat)(S G:Nat->Nat)(going:Nat)(re:List Nat)(ch:Nat->Option Nat)(done:Nat):Prop where
 nd:re.Nodup
 hd:going∈re
 le:done<=re.length
 way:∀x∈re,x≠going->∃n,ch x=some n/\n∈ts/\G n=x/\∃j,re[j]?=some x/\S n∈re.take j
 cl:∀i,i<done->∀x,re[i]?=some x->∀n∈ts,S n=x->G n≠going/\G n∈re
section
variable {ts:List Nat}{S G:Nat->Nat}{going:Nat}{re:List Nat}{ch:Nat->Option Nat}{done:Nat}
theorem PV.start:PV ts S G going [going] (λ_=>none) 0 :=
 ⟨by simp,by simp,dr _,λx hx h=>absurd (az.mp hx) h,λi hi=>absurd hi (by omega)⟩
end
theorem OZ {step:List Int->Int->List Int}(hs:∀l x,step l x=if l.any (· == x)then l else l++[x]):∀(xs gk:List Int),(xs.foldl step gk).length<=gk.length+xs.length/\(gk.Nodup->((xs.foldl step gk).length=gk.length+xs.length↔(gk++xs).Nodup))
 |[],gk=>by simp
 |x::xs,gk=>by
  rw[jI,hs]
  by_cases h:gk.any (· == x)=true
  ·rw[if_pos h]
   obtain⟨h1,h2⟩:=OZ hs xs gk
   refine⟨by rw[aI];omega,λnd=>?_⟩
   rw[aI]
   constructor
   ·intro e;omega
   ·intro e
    exfalso
    obtain⟨y,hy,M7⟩:=mE.mp h
    have M7:y=x:=by simpa using M7
    rw[M7]at hy
    exact(br.mp e).2.2 x hy x aa rfl
  ·rw[if_neg h]
   obtain⟨h1,h2⟩:=OZ hs xs (gk++[x])
   rw[aZ,cO]at h1 h2
   have hx:x∉gk:=λhm=>h (mE.mpr ⟨x,hm,by simp⟩)
   refine⟨by rw[aI];omega,λnd=>?_⟩
   have BB:(gk++[x]).Nodup:=br.mpr ⟨nd,by simp,λa ha b hb e=>hx (by rw[←az.mp hb,←e];exact ha)⟩
   have:=h2 BB
   rw[dN,p5]at this
   rw[aI]
   constructor
   ·intro e;exact this.mp (by omega)
   ·intro e;have:=this.mpr e;omega
def pR {α:Type}(l:List α):List α:=l.drop (l.length-1)++l.take (l.length-1)
theorem Uv {α:Type}(l:List α){j:Nat}(hj:j<l.length):(pR l)[j]?=l[if j=0 then l.length-1 else j-1]?:=by
 unfold pR
 by_cases h0:j=0
 ·subst h0
  rw[cE (by rw[cU];omega),List.getElem?_drop,if_pos rfl]
  congr 1
 ·rw[if_neg h0,fF (by rw[cU];omega),cU,List.getElem?_take]
  rw[if_pos (by omega)]
  congr 1
  omega
theorem Kq {α:Type}(l:List α):(pR l).Perm l:=by
 unfold pR
 refine List.perm_append_comm.trans ?_
 rw[List.take_append_drop]
theorem ztm {α:Type}(l:List α):(pR l).length=l.length:=(Kq l).length_eq
def mU (n j:Nat):Nat:=if j=0 then n-1 else j-1
def K3 (S G:Int->Nat)(n:Nat)(is:List Int)(j:Nat):Prop:=(0<=is.getD j 0/\is.getD j 0<(n:Int))/\(0<=is.getD (mU is.length j) 0/\is.getD (mU is.length j) 0<(n:Int))/\S (is.getD j 0)=G (is.getD (mU is.length j) 0)/\∀i,i<j->S (is.getD i 0)≠S (is.getD j 0)
def nt (S G:Int->Nat)(n:Nat)(is:List Int):Prop:=is≠[]/\(∀i∈is,0<=i/\i<(n:Int))/\is.map S=pR (is.map G)/\(is.map G).Nodup
theorem vd {is:List Int}{j:Nat}(h:j<is.length):is[j]?=some (is.getD j 0):=by
 rw[fE,aT h];rfl
theorem Uw {S G:Int->Nat}{n:Nat}{is:List Int}:nt S G n is↔is≠[]/\∀j,j<is.length->K3 S G n is j:=by
 constructor
 ·rintro⟨h1,h2,h3,h4⟩
  refine⟨h1,λj hj=>?_⟩
  have hp:mU is.length j<is.length:=by unfold mU;split<;>omega
  have m1:=h2 _ (bo.mpr ⟨j,vd hj⟩)
  have m2:=h2 _ (bo.mpr ⟨_,vd hp⟩)
  have hs:(is.map S)[j]?=(pR (is.map G))[j]?:=by rw[h3]
  rw[Uv _ (by rw[ah];exact hj),ah,aD,aD,vd hj]at hs
  have nP:some (S (is.getD j 0))=(is[mU is.length j]?).map G:=hs
  rw[vd hp]at nP
  refine⟨m1,m2,Option.some.inj nP,λi hi e=>?_⟩
  have nd:(is.map S).Nodup:=by rw[h3];exact(Kq _).nodup_iff.mpr h4
  have:=(oq.mp nd) i j (by rw[ah];omega) (by rw[ah];omega) hi
  rw[iY,iY]at this
  have e1:is[i]=is.getD i 0:=by have:=vd (is:=is) (j:=i) (by omega);rw[aT (by omega)]at this;exact Option.some.inj this
  have e2:is[j]=is.getD j 0:=by have:=vd hj;rw[aT hj]at this;exact Option.some.inj this
  rw[e1,e2]at this
  exact this e
 ·rintro⟨h1,h2⟩
  have lK:is.map S=pR (is.map G):=by
   apply fk
   intro j
   by_cases hj:j<is.length
   ·have hp:mU is.length j<is.length:=by unfold mU;split<;>omega
    rw[Uv _ (by rw[ah];exact hj),ah,aD,aD,vd hj]
    show some (S (is.getD j 0))=(is[mU is.length j]?).map G
    rw[vd hp,(h2 j hj).2.2.1]
    rfl
   ·rw[cY (by rw[ah];omega),cY (by rw[ztm,ah];omega)]
  refine⟨h1,λi hi=>?_,lK,?_⟩
  ·obtain⟨j,hj⟩:=bo.mp hi
   have hl:=(aW.mp hj).1
   have:=vd hl
   rw[hj]at this
   rw[Option.some.inj this]
   exact(h2 j hl).1
  ·have nd:(is.map S).Nodup:=oq.mpr λi j hi hj rR=>by
    rw[ah]at hi hj
    rw[iY,iY]
    have e1:is[i]=is.getD i 0:=by have:=vd hi;rw[aT hi]at this;exact Option.some.inj this
    have e2:is[j]=is.getD j 0:=by have:=vd hj;rw[aT hj]at this;exact Option.some.inj this
    rw[e1,e2]
    exact(h2 j hj).2.2.2 i rR
   rw[lK]at nd
   exact(Kq _).nodup_iff.mp nd
theorem BW {g:D->L3.Env->Option L3.Env}{b:SF}{n:Nat}(I:Nat->L3.Env->Prop)(R:D->Prop)(st:∀i ρ,i<n->I i ρ->∃ρ1,g (.int (i:Int)) ρ=some ρ1/\((∃ρ2,b ρ1=some (.nx ρ2)/\I (i+1) ρ2)\/∃w,b ρ1=some (.rt w)/\R w)) :
  ∀(m k:Nat) (ρ:L3.Env),k+m=n->I k ρ->(∃ρ',fQ g b ((fD k m).map λ(i:Nat)=>D.int (i:Int)) ρ=some (.nx ρ')/\I n ρ')\/∃w,fQ g b ((fD k m).map λ(i:Nat)=>D.int (i:Int)) ρ=some (.rt w)/\R w
 |0,k,ρ,hk,hI=>by
  have:k=n:=by omega
  subst this
  exact .inl ⟨ρ,rfl,hI⟩
 |m+1,k,ρ,hk,hI=>by
  obtain⟨ρ1,h1,h2⟩:=st k ρ (by omega) hI
  have zA:fQ g b ((fD k (m+1)).map λ(i:Nat)=>D.int (i:Int)) ρ=(g (.int (k:Int)) ρ).bind λρ1=>(b ρ1).bind λo=>match o with
    |.nx ρ'=>fQ g b ((fD (k+1) m).map λ(i:Nat)=>D.int (i:Int)) ρ'
    |.ct ρ'=>fQ g b ((fD (k+1) m).map λ(i:Nat)=>D.int (i:Int)) ρ'
    |.bk ρ'=>some (.nx ρ')
    |.rt d=>some (.rt d):=rfl
  rw[zA,h1,cz]
  rcases h2 with⟨ρ2,h2,h3⟩|⟨w,h2,h3⟩
  ·rw[h2]
   exact BW I R st m (k+1) ρ2 (by omega) h3
  ·rw[h2]
   exact .inr ⟨w,rfl,h3⟩
def aN (as:List bV)(n:Nat):bV:=(as[n]?).getD ⟨.wait,0,0,0,0⟩
theorem xU {as:List bV}{n:Nat}(h:n<as.length):as[n]?=some (aN as n):=by
 unfold aN
 rw[aT h]
 rfl
def sI (as:List bV)(i:Int):Nat:=(aN as i.toNat).s
def gI (as:List bV)(i:Int):Nat:=(aN as i.toNat).g
theorem UZ {as:List bV}{i:Int}(h0:0<=i)(h1:i<(as.length:Int)):cF (.lst (as.map bL)) (.int i)=some (bL (aN as i.toNat)):=by
 obtain⟨n,rfl⟩:∃n:Nat,i=(n:Int):=⟨i.toNat,by omega⟩
 rw[eG]
 exact ui (by rw[aD,xU (by omega)];rfl)
theorem Jc {ns:List D}{as:List bV}{is:List Int}{fld:aX}{f:bV->Int}{q:EF}(hq:q=dW (lsD (eV 1)) 1 [0] (gV 0) fY (e1 (cC [0,1,2,3] fld) (e2 cF (e1 (cC [4] "arrows") (eV 1)) (eV 0))))(hf:∀a,cC [0,1,2,3] fld (bL a)=some (.int (f a)))(hl:is.length<=1000)(hr:∀i∈is,0<=i/\i<(as.length:Int))(r:L3.Env)(h0:r[0]?.join=some (bA ns as))(h1:r[1]?.join=some (.lst (is.map .int))) :
  q r=some (.lst ((is.map λi=>f (aN as i.toNat)).map .int)):=by
 rw[hq,bH]
 refine qm D.int (λi=>D.int (f (aN as i.toNat))) is (by unfold lsD;have:eV 1 r=_:=h1;rw[this];rfl) (by omega) λi hi=>⟨_,rfl,?_⟩
 have iI:fw r [0]=[some (bA ns as)]:=by unfold fw;simp[h0]
 rw[iI]
 have i1:=UZ (hr i hi).1 (hr i hi).2
 have f1:=hf (aN as i.toNat)
 have f4:=CB ns as
 generalize f (aN as i.toNat)=v,bL (aN as i.toNat)=ea,as.map bL=al,bA ns as=net at *
 clear iI h0 h1 hr hi hl hf hq
 walk_at "mir"
theorem zvw (gs:List Int):(rN gs).length=gs.length↔gs.Nodup:=by
 have e:(aw gs.length).map (λi=>gs.getD i 0)=gs:=by
  apply fk
  intro i
  rw[aD]
  by_cases hi:i<gs.length
  ·rw[eM hi,vd hi];rfl
  ·rw[cY (by rw[bD];omega),cY (by omega)];rfl
 have:=(OZ (step:=mj) (λ_ _=>rfl) gs []).2 (by simp)
 rw[nh,vI,p7]at this
 show((((aw gs.length).map λi=>gs.getD i 0).foldl mj []).length=gs.length)↔_
 rw[e]
 exact this
theorem zny (xs:List D):cutD xs (some (-1)) none=xs.drop (xs.length-1):=by
 unfold cutD
 rw[HT.sIx_none]
 have:HT.sIx xs.length 0 (some (-1))=xs.length-1:=by
  show(if(-1:Int)<0 then(-1+(xs.length:Int)).toNat else min (-1:Int).toNat xs.length)=_
  rw[if_pos (by decide)]
  omega
 rw[this,eT (by rw[cU];omega)]
theorem znz (xs:List D):cutD xs none (some (-1))=xs.take (xs.length-1):=by
 unfold cutD
 rw[HT.sIx_none]
 have:HT.sIx xs.length xs.length (some (-1))=xs.length-1:=by
  show(if(-1:Int)<0 then(-1+(xs.length:Int)).toNat else min (-1:Int).toNat xs.length)=_
  rw[if_pos (by decide)]
  omega
 rw[this,List.drop_zero,Nat.sub_zero]
theorem zp8 (a b:List Int):fZ false (.lst (a.map .int)) (.lst (b.map .int))=some (.bl (decide (a=b))):=by
 have:=(El Ei).eq (by decide) (neg:=false) a b
 rw[if_neg (by decide)]at this
 exact this
theorem ztn {is:List Int}(h:is≠[]):∃mn mx:Int,BA [.lst (is.map .int)]=some (.int mn)/\uS [.lst (is.map .int)]=some (.int mx)/\(mn∈is/\∀z∈is,mn<=z)/\(mx∈is/\∀z∈is,z<=mx):=by
 cases is with
 |nil=>exact absurd rfl h
 |cons x xs=>
  refine⟨_,_,?_,?_,Tc (ns:=x::xs) rfl,OQ (ns:=x::xs) rfl⟩
  ·show(eL ((x::xs).map .int)).bind _=_
   rw[CA]
   rfl
  ·show(eL ((x::xs).map .int)).bind _=_
   rw[CA]
   rfl
theorem zn0 {ns:List D}{as:List bV}{is:List Int}(hl:is.length<=1000)(fT:as.length<=1000):∃b:Bool,qz [bA ns as,.lst (is.map .int)]=some (.bl b)/\(b=true↔nt (sI as) (gI as) as.length is):=by
 have ln:cX [.lst (is.map .int)]=some (.int (is.length:Int)):=(wx _).trans (by rw[ah])
 have la:cX [.lst (as.map bL)]=some (.int (as.length:Int)):=(wx _).trans (by rw[ah])
 have f4:=CB ns as
 by_cases h0:is=[]
 ·refine⟨false,?_,by simp[nt,h0]⟩
  subst h0
  have ln:cX [.lst []]=some (.int 0):=rfl
  rw[jE]
  generalize bA ns as=net at *
  unfold qz
  clear hl fT la f4
  walk_at "mir"
 ·have MU:¬(is.length:Int)=0:=by
   have:=dm.mpr h0
   omega
  obtain⟨mn,mx,e1,e2',⟨a1,a2⟩,⟨b1,b2⟩⟩:=ztn h0
  by_cases h1:mn<0
  ·refine⟨false,?_,?_⟩
   ·generalize bA ns as=net at *
    generalize is.map D.int=il at *
    unfold qz
    clear hl fT la f4 e2' a1 a2 b1 b2 MU
    walk_at "mir"
   ·constructor
    ·intro z;cases z
    ·intro z;have:=(z.2.1 mn a1).1;omega
  ·by_cases h2:mx >= (as.length:Int)
   ·refine⟨false,?_,?_⟩
    ·generalize bA ns as=net at *
     generalize is.map D.int=il,as.map bL=al at *
     unfold qz
     clear hl fT a1 a2 b1 b2 MU
     walk_at "mir"
    ·constructor
     ·intro z;cases z
     ·intro z;have:=(z.2.1 mx b1).2;omega
   ·have hr:∀i∈is,0<=i/\i<(as.length:Int):=λi hi=>⟨by have:=a2 i hi;omega,by have:=b2 i hi;omega⟩
    have q1:=λr=>Jc (ns:=ns) (as:=as) (is:=is) (fld:="start") (f:=λa=>(a.s:Int)) (q:=Sd) rfl fs hl hr r
    have q2:=λr=>Jc (ns:=ns) (as:=as) (is:=is) (fld:="goal") (f:=λa=>(a.g:Int)) (q:=zev) rfl fg hl hr r
    have es:(is.map λi=>((aN as i.toNat).s:Int))=(is.map (sI as)).map λ(x:Nat)=>(x:Int):=by rw[bH];rfl
    have eg:(is.map λi=>((aN as i.toNat).g:Int))=(is.map (gI as)).map λ(x:Nat)=>(x:Int):=by rw[bH];rfl
    generalize hS:(is.map λi=>((aN as i.toNat).s:Int))=ss at *
    generalize hG:(is.map λi=>((aN as i.toNat).g:Int))=gs at *
    have Xo:gs.length=is.length:=by rw[←hG,ah]
    refine⟨decide (ss=pR gs)&&decide ((rN gs).length=gs.length),?_,?_⟩
    ·have k1:=q1 [some (bA ns as),some (.lst (is.map .int)),none,none] rfl rfl
     have k2:=q2 [some (bA ns as),some (.lst (is.map .int)),some (.lst (ss.map .int)),none] rfl rfl
     have c1:cutD (gs.map .int) (some (-1)) none=(gs.drop (gs.length-1)).map .int:=by rw[zny,ah,gQ]
     have c2:cutD (gs.map .int) none (some (-1))=(gs.take (gs.length-1)).map .int:=by rw[znz,ah,oM]
     have ad:e6 (.lst ((gs.drop (gs.length-1)).map .int)) (.lst ((gs.take (gs.length-1)).map .int))=some (.lst ((pR gs).map .int)):=by
      rw[Tb (by rw[ah,ah,cU,eQ];omega),←cL]
      rfl
     have q:=zp8 ss (pR gs)
     have ls:oY (.lst (gs.map .int))=some (.int ((rN gs).length:Int)):=by
      show(eL (gs.map .int)).bind _=_
      rw[CA]
      show(if gs.length<4000 then _ else _)=_
      rw[if_pos (by omega)]
     have lg:cX [.lst (gs.map .int)]=some (.int (gs.length:Int)):=(wx _).trans (by rw[ah])
     have qq:fZ false (.int ((rN gs).length:Int)) (.int (gs.length:Int))=some (.bl (decide ((rN gs).length=gs.length))):=(zdd _ _).trans (by rw[if_neg (by decide),show decide (((rN gs).length:Int)=(gs.length:Int))=decide ((rN gs).length=gs.length)from decide_eq_decide.mpr (by omega)])
     generalize decide ((rN gs).length=gs.length)=bb2,decide (ss=pR gs)=WC,((rN gs).length:Int)=dl,(gs.length:Int)=gl,(gs.drop (gs.length-1)).map D.int=l1,(gs.take (gs.length-1)).map D.int=l2,(pR gs).map D.int=l3,gs.map D.int=gd,ss.map D.int=sd,is.map D.int=il,as.map bL=al,bA ns as=net at *
     unfold qz
     clear hl fT a1 a2 b1 b2 q1 q2 Xo hr es eg hS hG MU
     cases WC
     ·walk_at "mir"
     ·walk_at "mir"
    ·rw[bG,decide_eq_true_iff,decide_eq_true_iff,zvw]
     unfold nt
     have inj:∀a b:List Nat,(a.map λ(x:Nat)=>(x:Int))=b.map (λ(x:Nat)=>(x:Int))↔a=b:=λa b=>sk (λx y h=>by omega)
     have rm:pR ((is.map (gI as)).map λ(x:Nat)=>(x:Int))=(pR (is.map (gI as))).map λ(x:Nat)=>(x:Int):=by
      unfold pR
      rw[ah (f:=λ(x:Nat)=>(x:Int)),cL,gQ,oM]
     rw[es,eg,rm,inj]
     have nd:((is.map (gI as)).map λ(x:Nat)=>(x:Int)).Nodup↔(is.map (gI as)).Nodup:=by
      constructor
      ·intro h;exact(lO.mp h).imp λh e=>h (by rw[e])
      ·intro h;exact lO.mpr (h.imp λh e=>h (by omega))
     rw[nd]
     exact⟨λz=>⟨h0,hr,z.1,z.2⟩,λz=>⟨z.2.2.1,z.2.2.2⟩⟩
theorem Jd (xs:List Int):o9 [.lst (xs.map .int)]=some (.int xs.sum):=by
 show(eL (xs.map .int)).bind _=_
 rw[CA]
 rfl
theorem zto {g:D->L3.Env->Option L3.Env}{b:SF}{d:D}{ds:List D}{ρ ρ1 ρ2:L3.Env}(h1:g d ρ=some ρ1)(h2:b ρ1=some (.nx ρ2)):fQ g b (d::ds) ρ=fQ g b ds ρ2:=by
 show(g d ρ).bind _=_
 rw[h1]
 show(b ρ1).bind _=_
 rw[h2]
 rfl
def tI (as:List bV)(i:Int):Int:=(aN as i.toNat).t
def bI (as:List bV)(i:Int):Int:=((aN as i.toNat).b:Int)
theorem U0 {f:Int->Int}{m:Int}(hm:0<=m):∀is:List Int,(∀i∈is,0<=f i/\f i<=m)->0<=(is.map f).sum/\(is.map f).sum<=m*(is.length:Int)
 |[],_=>by simp
 |i::is,h=>by
  obtain⟨h1,h2⟩:=U0 hm is λj hj=>h j (aj _ hj)
  obtain⟨h3,h4⟩:=h i aa
  rw[aP,cj,aI]
  refine⟨by omega,?_⟩
  rw[show((is.length+1:Nat):Int)=(is.length:Int)+1 by omega,Int.mul_add,mV]
  omega
theorem U1 {ns:List D}{as:List bV}{is:List Int}(hl:is.length<=1000)(hb:∀a∈as,a.b<=4)(hr:∀i∈is,0<=i/\i<(as.length:Int))(h0:(is.map (bI as)).sum≠0):wB [bA ns as,.lst (is.map .int)]=some (fr (Fq.mk (is.map (tI as)).sum (is.map (bI as)).sum)):=by
 have k1:=Jc (ns:=ns) (as:=as) (is:=is) (fld:="time") (f:=λa=>a.t) (q:=OV) rfl ft hl hr [some (bA ns as),some (.lst (is.map .int)),none,none] rfl rfl
 have k2:=Jc (ns:=ns) (as:=as) (is:=is) (fld:="behind") (f:=λa=>(a.b:Int)) (q:=OU) rfl fb hl hr [some (bA ns as),some (.lst (is.map .int)),some (.int (is.map (tI as)).sum),none] rfl rfl
 have s1:=Jd (is.map (tI as))
 have s2:=Jd (is.map (bI as))
 have bd:=U0 (f:=bI as) (m:=4) (by decide) is λi hi=>by
  have:=hb (aN as i.toNat) (bo.mpr ⟨i.toNat,xU (by have:=hr i hi;omega)⟩)
  unfold bI
  omega
 have ra:=CM (t:=(is.map (tI as)).sum) h0 (qo (w:=4000) (by omega) (by omega) (by decide))
 replace k1:OV _=some (.lst ((is.map (tI as)).map .int)):=k1
 replace k2:OU _=some (.lst ((is.map (bI as)).map .int)):=k2
 generalize fr (Fq.mk (is.map (tI as)).sum (is.map (bI as)).sum)=F,(is.map (tI as)).map D.int=tl,(is.map (bI as)).map D.int=bl at *
 generalize (is.map (tI as)).sum=T,(is.map (bI as)).sum=Bh,bA ns as=net,is.map D.int=il at *
 unfold wB
 clear bd hl hb hr h0
 walk_at "mir"
theorem zp9 {as:List bV}{is:List Int}{rank:Nat->Nat}(mT:∀a∈as,a.b=0->rank a.s<rank a.g)(h:nt (sI as) (gI as) as.length is):1<=(is.map (bI as)).sum:=by
 obtain⟨h1,h2,h3,h4⟩:=h
 have hm:∀i∈is,aN as i.toNat∈as:=λi hi=>bo.mpr ⟨i.toNat,xU (by have:=h2 i hi;omega)⟩
 have pe:((is.map (sI as)).map rank).sum=((is.map (gI as)).map rank).sum:=by
  rw[h3]
  exact((Kq _).map _).sum_nat
 have key:∀js:List Int,(∀i∈js,aN as i.toNat∈as)->0<=(js.map (bI as)).sum/\((js.map (bI as)).sum=0->((js.map (sI as)).map rank).sum+js.length<=((js.map (gI as)).map rank).sum):=by
  intro js
  induction js with
  |nil=>intro _;simp
  |cons i js ih=>
   intro hj
   obtain⟨q1,q2⟩:=ih λj Xp=>hj j (aj _ Xp)
   simp only[aP,cj,aI]
   have q3:0<=bI as i:=by unfold bI;omega
   refine⟨by omega,λe=>?_⟩
   have q4:=q2 (by omega)
   have q9:bI as i=0:=by omega
   have q5:=mT _ (hj i aa) (by unfold bI at q9;omega)
   have q6:sI as i=(aN as i.toNat).s:=rfl
   have q7:gI as i=(aN as i.toNat).g:=rfl
   rw[q6,q7]
   omega
 obtain⟨k1,k2⟩:=key is hm
 by_cases e:(is.map (bI as)).sum=0
 ·have:=k2 e
  have:=dm.mpr h1
  omega
 ·omega
structure eW (d:D)(ch:Nat->Option Nat)(m:Nat):Prop where
 is:∃ks ds,d=.dK ks ds/\ks.length=ds.length/\ks.length<=m/\∀x:Nat,jS ks ds (.inl (x:Int))=(ch x).map λ(n:Nat)=>D.int (n:Int)
theorem eW.get {d:D}{ch:Nat->Option Nat}{m:Nat}(h:eW d ch m){x n:Nat}(e:ch x=some n):(iP d (.int (x:Int))).join=some (.int (n:Int)):=by
 obtain⟨ks,ds,rfl,_,_,h3⟩:=h.is
 show jS ks ds (.inl (x:Int))=_
 rw[h3,e]
 rfl
theorem eW.put {d:D}{ch:Nat->Option Nat}{m:Nat}(h:eW d ch m)(hm:m<16777216)(x n:Nat):∃d',(∀(ρ:L3.Env) (i:Nat) (fj f:EF),f ρ=some (.int (n:Int))->eV i ρ=some d->fj ρ=some (.int (x:Int))->lB i fj f ρ=some (.nx (ρ.set i (some d'))))/\eW d' (λy=>if y=x then some n else ch y) (m+1):=by
 obtain⟨ks,ds,rfl,h1,h2,h3⟩:=h.is
 refine⟨.dK (gq ks ds (.inl (x:Int)) (.int (n:Int))).1 (gq ks ds (.inl (x:Int)) (.int (n:Int))).2,λρ i fj f e1 e2 e3=>?_,⟨_,_,rfl,(Uu h1 _ _).1,by have:=(Uu h1 (.inl (x:Int)) (.int (n:Int))).2;omega,λy=>?_⟩⟩
 ·unfold lB
  rw[e1]
  show(eV i ρ).bind _=_
  rw[e2]
  show(fj ρ).bind _=_
  rw[e3]
  show(if ks.length<16777216 then some (Out.nx (ρ.set i (some (.dK (gq ks ds (.inl (x:Int)) (.int (n:Int))).1 (gq ks ds (.inl (x:Int)) (.int (n:Int))).2))))else none)=_
  rw[if_pos (by omega)]
 ·rw[zp6 h1]
  by_cases e:y=x
  ·subst e
   rw[if_pos rfl,if_pos rfl]
   rfl
  ·rw[if_neg (λz=>e (by have:=Sum.inl.inj z;omega)),if_neg e]
   exact h3 y
theorem SY {c:BF}{b:SF}(I:L3.Env->Prop)(μ:L3.Env->Nat)(R:D->Prop)(st:∀ρ,I ρ->∃t,c ρ=some t/\(t=true->(∃ρ',b ρ=some (.nx ρ')/\I ρ'/\μ ρ' < μ ρ)\/∃d,b ρ=some (.rt d)/\R d)) :
  ∀(n:Nat) (ρ:L3.Env),I ρ->μ ρ<n->(∃ρ',iK c b n ρ=some (.nx ρ')/\I ρ'/\c ρ'=some false)\/∃d,iK c b n ρ=some (.rt d)/\R d
 |0,_,_,h=>absurd h (by omega)
 |n+1,ρ,hI,h=>by
  obtain⟨t,h1,h2⟩:=st ρ hI
  cases t with
  |false=>exact .inl ⟨ρ,by show(c ρ).bind _=_;rw[h1];rfl,hI,h1⟩
  |true=>
   rcases h2 rfl with⟨ρ',h3,h4,h5⟩|⟨d,h3,h4⟩
   ·rcases SY I μ R st n ρ' h4 (by omega)with⟨ρ2,h6,h7,h8⟩|⟨d,h6,h7⟩
    ·refine .inl ⟨ρ2,?_,h7,h8⟩
     show(c ρ).bind _=_
     rw[h1]
     show(b ρ).bind _=_
     rw[h3];exact h6
    ·refine .inr ⟨d,?_,h7⟩
     show(c ρ).bind _=_
     rw[h1]
     show(b ρ).bind _=_
     rw[h3];exact h6
   ·refine .inr ⟨d,?_,h4⟩
    show(c ρ).bind _=_
    rw[h1]
    show(b ρ).bind _=_
    rw[h3];rfl
theorem Ug {p q:Int×Int}(h1:Fz 9000 p)(h2:Fz 9000 q):B3 [fr p,fr q]=some (.bl (Fq.under p q)):=by
 have e1:=u7 h1.1 h2.2 (by decide) (by decide)
 have e2:=u7 h2.1 h1.2 (by decide) (by decide)
 unfold B3
 have f0:=wU
 have f1:=oT
 walk_at "mir"
 rfl
theorem Ph {n:Nat}{x y:Int×Int}(lx:Fq.Low x)(ly:Fq.Low y)(hx:Fz n x)(hy:Fz n y):Fz (n+n+1) (Fq.plus x y) :=
 Jh (lx.mul_ne ly) (Sz.add (hx.1.mul hy.2) (hy.1.mul hx.2)) ((hx.2.mul hy.2).mono (by omega))
theorem OE {n m:Nat}{x:Int×Int}{k:Int}(lx:Fq.Low x)(hx:Fz n x)(hk:Sz m k):Fz (n+m) (Fq.scaled x k):=Jh lx.ne (hx.1.mul hk) (hx.2.mono (vL _ _))
theorem Pv {n:Nat}{p q:Int×Int}(hn:n<=2000)(lp:Fq.Low p)(lq:Fq.Low q)(h1:Fz n p)(h2:Fz n q):CP [fr p,fr q]=some (fr (Fq.plus p q)):=by
 have e1:=u7 h1.1 h2.2 (by omega) (by omega)
 have e2:=u7 h2.1 h1.2 (by omega) (by omega)
 have e3:=u7 h1.2 h2.2 (by omega) (by omega)
 have r:=CM (t:=p.1*q.2+q.1*p.2) (lp.mul_ne lq) ((h1.2.mul h2.2).mono (by omega))
 have f0:=wU
 have f1:=oT
 unfold CP Fq.plus
 clear h1 h2 lp lq hn
 generalize fr (Fq.mk (p.1*q.2+q.1*p.2) (p.2*q.2))=rr at *
 walk_at "mir"
theorem Tu {n m:Nat}{p:Int×Int}{k:Int}(hn:n<=2000)(hm:m<=2000)(lp:Fq.Low p)(h1:Fz n p)(hk:Sz m k):IL [fr p,.int k]=some (fr (Fq.scaled p k)):=by
 have e1:=u7 h1.1 hk (by omega) (by omega)
 have r:=CM (t:=p.1*k) lp.ne (h1.2.mono (by omega))
 have f0:=wU
 have f1:=oT
 unfold IL Fq.scaled
 clear h1 hk lp hn hm
 generalize fr (Fq.mk (p.1*k) p.2)=rr at *
 walk_at "mir"
theorem Pw:Sz 1 (-1):=by unfold Sz;decide
theorem Uh {n:Nat}{p q:Int×Int}(hn:n<=1000)(lp:Fq.Low p)(lq:Fq.Low q)(h1:Fz n p)(h2:Fz n q):B0 [fr p,fr q]=some (fr (Fq.minus p q)):=by
 have e1:=Tu (by omega) (by decide) lq h2 Pw
 have e2:=Pv (n:=n+1) (by omega) lp (Fq.scaled_low lq (-1)) (h1.mono (by omega)) (OE lq h2 Pw)
 unfold B0 Fq.minus
 clear h1 h2 lp lq hn
 generalize fr (Fq.plus p (Fq.scaled q (-1)))=rr,fr (Fq.scaled q (-1))=sq at *
 walk_at "mir"
theorem Tv {n:Nat}{x y:Int×Int}(lx:Fq.Low x)(ly:Fq.Low y)(hx:Fz n x)(hy:Fz n y):Fz (n+1+(n+1)+1) (Fq.minus x y) :=
 Ph lx (Fq.scaled_low ly (-1)) (hx.mono (by omega)) (OE ly hy Pw)
theorem zJ (t:Int):Fq.Low (t,1):=⟨eS 1,by show eF t 1=1;simp⟩
def early (pace:Int×Int)(tm:Nat->Int×Int)(a:bV):Int×Int:=Fq.minus (Fq.plus (tm a.s) (a.t,1)) (Fq.scaled pace (a.b:Int))
theorem SZ {pace:Int×Int}{tm:Nat->Int×Int}{a:bV}(lp:Fq.Low pace)(lt:Fq.Low (tm a.s)):Fq.Low (early pace tm a):=Fq.minus_low (Fq.plus_low lt (zJ _)) (Fq.scaled_low lp _)
theorem ztp {many:Nat}{pace:Int×Int}{tm:Nat->Int×Int}{a:bV}{fl:List D}(hr:Right many a)(i1:cF (.lst fl) (.int (a.s:Int))=some (fr (tm a.s)))(i2:cF (.lst fl) (.int (a.g:Int))=some (fr (tm a.g)))(lp:Fq.Low pace)(lt:∀g,Fq.Low (tm g))(zp:Fz 300 pace)(zt:∀g,Fz 300 (tm g)):Kg [bL a,fr pace,.lst fl]=some (.bl (!Fq.under (tm a.g) (early pace tm a))):=by
 have g1:=fs a
 have g2:=fg a
 have g3:=ft a
 have g4:=fb a
 have st:Sz 300 a.t:=qo (w:=1000000000) (by have:=hr.t0;omega) hr.t1 (by decide)
 have sb:Sz 10 (a.b:Int):=qo (w:=4) (by omega) (by have:=hr.b;omega) (by decide)
 have zo:Fz 300 (a.t,1):=⟨st,qo (i:=1) (w:=1) (by decide) (by decide) (by decide)⟩
 have p1:=Pv (n:=300) (by decide) (lt a.s) (zJ a.t) (zt a.s) zo
 have z1:=Ph (lt a.s) (zJ a.t) (zt a.s) zo
 have s1:=Tu (n:=300) (m:=10) (by decide) (by decide) lp zp sb
 have z2:=OE lp zp sb
 have l1:=Fq.plus_low (lt a.s) (zJ a.t)
 have l2:=Fq.scaled_low lp (a.b:Int)
 have m1:=Uh (n:=601) (by decide) l1 l2 z1 (z2.mono (by decide))
 have z3:=Tv l1 l2 z1 (z2.mono (by decide))
 have u1:=Ug (p:=tm a.g) (q:=early pace tm a) ((zt a.g).mono (by decide)) (z3.mono (by decide))
 have f2:(.tup [.int a.t,.int 1]:D)=fr (a.t,1):=rfl
 unfold early at u1 ⊢
 clear zp zt lt lp hr st sb zo z1 z2 z3 l1 l2
 generalize fr (Fq.minus (Fq.plus (tm a.s) (a.t,1)) (Fq.scaled pace (a.b:Int)))=fm,Fq.under (tm a.g) (Fq.minus (Fq.plus (tm a.s) (a.t,1)) (Fq.scaled pace (a.b:Int)))=ub,fr (Fq.plus (tm a.s) (a.t,1))=fp,fr (Fq.scaled pace (a.b:Int))=fsc,fr (tm a.s)=fts,fr (tm a.g)=ftg,fr pace=fpc at *
 unfold Kg
 rw[←f2]at p1
 clear f2
 walk_at "mir"
theorem zvx (bs:List Bool):wO [.lst (bs.map .bl)]=some (.bl (bs.all id)):=by
 show(jR (bs.map .bl)).bind _=_
 have:jR (bs.map .bl)=some bs:=by
  induction bs with
  |nil=>rfl
  |cons b bs ih=>show(jR (bs.map .bl)).bind _=_;rw[ih];rfl
 rw[this]
 rfl
theorem Ui {pace:Int×Int}{tm:Nat->Int×Int}{a:bV}{T W:Int}(lp:Fq.Low pace)(lt:Fq.Low (tm a.s))(hW:0<W)(hT:(tm a.s).1*W=T*(tm a.s).2) :
  (early pace tm a).1*(W*pace.2)=(T*pace.2+(a.t*W*pace.2-pace.1*(a.b:Int)*W))*(early pace tm a).2:=by
 have l1:=Fq.plus_low lt (zJ a.t)
 have l2:=Fq.scaled_low lp (a.b:Int)
 have v1:=Fq.plus_v (tm a.s) (a.t,1)
 have v2:=Fq.scaled_v pace (a.b:Int)
 have v3:=Fq.minus_v (p:=Fq.plus (tm a.s) (a.t,1)) l2
 unfold early
 generalize Fq.minus (Fq.plus (tm a.s) (a.t,1)) (Fq.scaled pace (a.b:Int))=q at *
 have p1:=l1.gt
 have p2:=l2.gt
 have p3:=lt.gt
 generalize Fq.plus (tm a.s) (a.t,1)=A,Fq.scaled pace (a.b:Int)=S at *
 generalize tm a.s=t at *
 obtain⟨q1,q2⟩:=q
 obtain⟨A1,A2⟩:=A
 obtain⟨S1,S2⟩:=S
 obtain⟨t1,t2⟩:=t
 obtain⟨P,Q⟩:=pace
 dsimp only at *
 generalize (a.b:Int)=b,a.t=u at *
 have i7:A2*S2*t2≠0:=nH (nH (by omega) (by omega)) (by omega)
 apply d5 i7
 grind
theorem zqa {pace:Int×Int}{tm:Nat->Int×Int}{a:bV}(lp:Fq.Low pace)(ls:Fq.Low (tm a.s))(lg:Fq.Low (tm a.g)) :
  Fq.under (tm a.g) (early pace tm a)=decide ((tm a.g).1*(tm a.s).2*pace.2<((tm a.s).1*pace.2+a.t*(tm a.s).2*pace.2-pace.1*(a.b:Int)*(tm a.s).2)*(tm a.g).2):=by
 have hQ:=lp.gt
 have v:=Ui (T:=(tm a.s).1) (W:=(tm a.s).2) lp ls ls.gt rfl
 have e:=Fq.lt_congr (n:=(tm a.g).1) (d:=(tm a.g).2) (m:=(tm a.g).1) (e:=(tm a.g).2) lg.gt lg.gt (SZ (tm:=tm) (a:=a) lp ls).gt (dg ls.gt hQ) rfl v
 unfold Fq.under
 refine decide_eq_decide.mpr (e.trans ?_)
 have e1:(tm a.g).1*((tm a.s).2*pace.2)=(tm a.g).1*(tm a.s).2*pace.2:=by grind
 have e2:(tm a.s).1*pace.2+(a.t*(tm a.s).2*pace.2-pace.1*(a.b:Int)*(tm a.s).2)=(tm a.s).1*pace.2+a.t*(tm a.s).2*pace.2-pace.1*(a.b:Int)*(tm a.s).2:=by omega
 rw[e1,e2]
theorem zqb {pace:Int×Int}{tm:Nat->Int×Int}{a:bV}{W:Int}{top:Nat->Int}(lp:Fq.Low pace)(lt:∀g,Fq.Low (tm g))(hW:0<W)(hT:∀g,(tm g).1*W=top g*(tm g).2) :
  (!Fq.under (tm a.g) (early pace tm a))=decide (top a.g*pace.2 >= top a.s*pace.2+(a.t*W*pace.2-pace.1*(a.b:Int)*W)):=by
 have hQ:=lp.gt
 have e:=Fq.lt_congr (lt a.g).gt hW (SZ (tm:=tm) (a:=a) lp (lt a.s)).gt (dg hW hQ) (hT a.g) (Ui lp (lt a.s) hW (hT a.s))
 have e2:top a.g*(W*pace.2)<(top a.s*pace.2+(a.t*W*pace.2-pace.1*(a.b:Int)*W))*W↔top a.g*pace.2<top a.s*pace.2+(a.t*W*pace.2-pace.1*(a.b:Int)*W):=by
  generalize top a.s*pace.2+(a.t*W*pace.2-pace.1*(a.b:Int)*W)=Z
  have:top a.g*(W*pace.2)=(top a.g*pace.2)*W:=by grind
  rw[this]
  exact⟨λh=>Int.lt_of_mul_lt_mul_right h (by omega),λh=>Int.mul_lt_mul_of_pos_right h hW⟩
 rw[e2]at e
 unfold Fq.under
 rw[decide_eq_decide.mpr e]
 by_cases h:top a.g*pace.2<top a.s*pace.2+(a.t*W*pace.2-pace.1*(a.b:Int)*W)
 ·rw[decide_eq_true h,decide_eq_false (by omega)];rfl
 ·rw[decide_eq_false h,decide_eq_true (by omega)];rfl
theorem zlj {ns:List D}{as:List bV}{is:List Int}{pace:Int×Int}{rank:Nat->Nat}(hl:is.length<=1000)(fT:as.length<=1000)(hb:∀a∈as,a.b<=4)(mT:∀a∈as,a.b=0->rank a.s<rank a.g) :
  ∃b:Bool,IG [bA ns as,.lst (is.map .int),fr pace]=some (.bl b)/\(b=true↔nt (sI as) (gI as) as.length is/\Fq.mk (is.map (tI as)).sum (is.map (bI as)).sum=pace):=by
 obtain⟨b,h1,h2⟩:=zn0 (ns:=ns) (as:=as) (is:=is) hl fT
 cases b with
 |false=>
  refine⟨false,?_,?_⟩
  ·generalize bA ns as=net at *
   generalize is.map D.int=il,fr pace=F at *
   clear h2 hl fT hb mT
   unfold IG
   walk_at "mir"
  ·constructor
   ·intro z;cases z
   ·intro z;exact h2.mpr z.1
 |true=>
  have rg:=h2.mp rfl
  have pos:=zp9 mT rg
  have mn:=U1 (ns:=ns) (as:=as) (is:=is) hl hb rg.2.1 (by omega)
  have e:=WG (neg:=false) (Fq.mk (is.map (tI as)).sum (is.map (bI as)).sum) pace
  rw[if_neg (by decide)]at e
  refine⟨decide (Fq.mk (is.map (tI as)).sum (is.map (bI as)).sum=pace),?_,?_⟩
  ·generalize decide (Fq.mk (is.map (tI as)).sum (is.map (bI as)).sum=pace)=bb at *
   generalize fr (Fq.mk (is.map (tI as)).sum (is.map (bI as)).sum)=M,bA ns as=net,is.map D.int=il,fr pace=F at *
   clear h2 hl fT hb mT pos rg
   unfold IG
   walk_at "mir"
  ·rw[decide_eq_true_iff]
   exact⟨λz=>⟨rg,z⟩,λz=>z.2⟩
theorem eW.has {d:D}{ch:Nat->Option Nat}{m:Nat}(h:eW d ch m)(x:Nat):iP d (.int (x:Int))=some ((ch x).map λ(n:Nat)=>D.int (n:Int)):=by
 obtain⟨ks,ds,rfl,_,_,h3⟩:=h.is
 show some (jS ks ds (.inl (x:Int)))=_
 rw[h3]
def dQ (as:List bV)(p:Int×Int)(n:Nat):Int:=(aN as n).t*p.2-((aN as n).b:Int)*p.1
def aS (as:List bV)(n:Nat):Nat:=(aN as n).s
def aG (as:List bV)(n:Nat):Nat:=(aN as n).g
structure B8 (many:Nat)(a:bV):Prop where
 s:a.s<many
 g:a.g<many
 t0:0<=a.t
 t1:a.t<=1000000000
 b:a.b<=4
theorem j5 {as:List bV}{n:Nat}(hn:n<as.length):aN as n∈as:=bo.mpr ⟨n,xU hn⟩
def kL (T:Nat->Int)(x:Nat)(v:Int):Nat->Int:=λy=>if y=x then v else T y
def NX (T:Nat->Option Nat)(x v:Nat):Nat->Option Nat:=λy=>if y=x then some v else T y
def lX (T:Nat->Nat)(x v:Nat):Nat->Nat:=λy=>if y=x then v else T y
structure ox (aU:List Nat)(S G:Nat->Nat)(c:Nat->Int)(r:Nat)(dn:List Nat)(T:Nat->Int)(ch:Nat->Option Nat)(lr ts:Nat->Nat)(k:Nat):Prop where
 le:∀x,lr x<=r
 st:∀x,ts x<k
 ch:∀x,0<lr x->∃n,ch x=some n/\n∈aU/\G n=x/\lr x<=lr (S n)+1/\T x<=T (S n)+c n/\(T x<T (S n)+c n\/ts (S n)<ts x)
 old:∀n∈aU,lr (S n)+1<r->T (S n)+c n<=T (G n)
 dn:∀n∈dn,lr (S n)<r->T (S n)+c n<=T (G n)
 pos:∀x,0<=T x
section
variable {aU:List Nat}{S G:Nat->Nat}{c:Nat->Int}{r:Nat}{dn:List Nat}{T:Nat->Int}{ch:Nat->Option Nat}{lr ts:Nat->Nat}{k:Nat}
theorem ox.start:ox aU S G c 1 [] (λ_=>0) (λ_=>none) (λ_=>0) (λ_=>0) 1 where
 le:=λ_=>dr _
 st:=λ_=>Nat.zero_lt_one
 ch:=λ_ h=>absurd h (eJ 0)
 old:=λ_ _ h=>absurd h (by omega)
 dn:=λ_ h=>by cases h
 pos:=λ_=>eS 0
theorem ox.next (h:ox aU S G c r aU T ch lr ts k):ox aU S G c (r+1) [] T ch lr ts k where
 le:=λx=>Nat.le_succ_of_le (h.le x)
 st:=h.st
 ch:=h.ch
 old:=λn hn h1=>h.dn n hn (by omega)
 dn:=λ_ h=>by cases h
 pos:=h.pos
theorem ox.stay (h:ox aU S G c r dn T ch lr ts k){n:Nat}(hn:T (S n)+c n<=T (G n)):ox aU S G c r (dn++[n]) T ch lr ts k where
 le:=h.le
 st:=h.st
 ch:=h.ch
 old:=h.old
 dn:=λm hm h1=>by
  rcases bg.mp hm with hm|hm
  ·exact h.dn m hm h1
  ·rw[az.mp hm];exact hn
 pos:=h.pos
theorem ox.push (h:ox aU S G c r dn T ch lr ts k){n:Nat}(hn:n∈aU)(hp:T (G n)<T (S n)+c n) :
  ox aU S G c r (dn++[n]) (kL T (G n) (T (S n)+c n)) (NX ch (G n) n) (lX lr (G n) r) (lX ts (G n) k) (k+1) where
 le:=λx=>by
  unfold lX
  split
  ·exact aM _
  ·exact h.le x
 st:=λx=>by
  unfold lX
  have:=h.st x
  split<;>omega
 ch:=λx hx=>by
  have up:∀y,T y<=kL T (G n) (T (S n)+c n) y:=λy=>by
   unfold kL
   split
   ·rename_i e;rw[e];omega
   ·exact eS _
  have ul:∀y,lr y<=lX lr (G n) r y:=λy=>by
   unfold lX
   split
   ·exact h.le y
   ·exact aM _
  by_cases e:x=G n
  ·subst e
   refine⟨n,by simp[NX],hn,rfl,?_,?_,?_⟩
   ·have h1:¬lr (S n)+1<r:=λz=>by have:=h.old n hn z;omega
    have h2:=ul (S n)
    have h3:lX lr (G n) r (G n)=r:=by simp[lX]
    omega
   ·have h2:=up (S n)
    have h3:kL T (G n) (T (S n)+c n) (G n)=T (S n)+c n:=by simp[kL]
    omega
   ·have h3:kL T (G n) (T (S n)+c n) (G n)=T (S n)+c n:=by simp[kL]
    by_cases e2:S n=G n
    ·left
     rw[e2]at hp h3 ⊢
     omega
    ·right
     have h4:lX ts (G n) k (G n)=k:=by simp[lX]
     have h5:lX ts (G n) k (S n)=ts (S n):=by simp[lX,e2]
     have:=h.st (S n)
     omega
  ·have Ct:lX lr (G n) r x=lr x:=by simp[lX,e]
   have ht:kL T (G n) (T (S n)+c n) x=T x:=by simp[kL,e]
   rw[Ct]at hx
   obtain⟨m,h1,h2,h3,h4,h5,h6⟩:=h.ch x hx
   refine⟨m,by simp[NX,e,h1],h2,h3,?_,?_,?_⟩
   ·have:=ul (S m);omega
   ·have:=up (S m);omega
   ·by_cases e2:S m=G n
    ·left
     have h7:kL T (G n) (T (S n)+c n) (S m)=T (S n)+c n:=by simp[kL,e2]
     rw[e2]at h5
     omega
    ·have h7:kL T (G n) (T (S n)+c n) (S m)=T (S m):=by simp[kL,e2]
     have h8:lX ts (G n) k (S m)=ts (S m):=by simp[lX,e2]
     have h9:lX ts (G n) k x=ts x:=by simp[lX,e]
     rw[h7,h8,h9,ht]
     exact h6
 old:=λm hm h1=>by
  have e2:S m≠G n:=λe=>by
   have:lX lr (G n) r (S m)=r:=by simp[lX,e]
   omega
  have h7:kL T (G n) (T (S n)+c n) (S m)=T (S m):=by simp[kL,e2]
  have h8:lX lr (G n) r (S m)=lr (S m):=by simp[lX,e2]
  rw[h8]at h1
  have h9:=h.old m hm h1
  have:T (G m)<=kL T (G n) (T (S n)+c n) (G m):=by
   unfold kL
   split
   ·rename_i e;rw[e];omega
   ·exact eS _
  omega
 dn:=λm hm h1=>by
  have e2:S m≠G n:=λe=>by
   have:lX lr (G n) r (S m)=r:=by simp[lX,e]
   omega
  have h7:kL T (G n) (T (S n)+c n) (S m)=T (S m):=by simp[kL,e2]
  have h8:lX lr (G n) r (S m)=lr (S m):=by simp[lX,e2]
  rw[h8]at h1
  rcases bg.mp hm with hm|hm
  ·have h9:=h.dn m hm h1
   have:T (G m)<=kL T (G n) (T (S n)+c n) (G m):=by
    unfold kL
    split
    ·rename_i e;rw[e];omega
    ·exact eS _
   omega
  ·have hm:=az.mp hm
   subst hm
   have h3:kL T (G m) (T (S m)+c m) (G m)=T (S m)+c m:=by simp[kL]
   omega
 pos:=λx=>by
  unfold kL
  split
  ·have:=h.pos (G n);omega
  ·exact h.pos x
theorem ox.cost {Q:Nat->Prop}(h:∀n,Q n->T (G n)<=T (S n)+c n/\(T (G n)<T (S n)+c n\/ts (S n)<ts (G n))):∀{w:List Nat} {a b:Nat},oy S G a w b->(∀n∈w,Q n)->T b<=T a+(w.map c).sum/\(w=[]\/T b<T a+(w.map c).sum\/ts a<ts b)
 |[],a,b,hw,_=>by
  have hw:a=b:=hw
  subst hw
  simp
 |n::w,a,b,hw,hq=>by
  obtain⟨h1,h2⟩:=hw
  obtain⟨i1,i2⟩:=ox.cost h h2 λm hm=>hq m (aj _ hm)
  obtain⟨j1,j2⟩:=h n (hq n aa)
  rw[aP,cj]
  rw[←h1]
  refine⟨by omega,.inr ?_⟩
  rcases i2 with i2|i2|i2
  ·subst i2
   have h2:G n=b:=h2
   subst h2
   simp at i1 ⊢
   rcases j2 with j2|j2
   ·left;omega
   ·right;exact j2
  ·left;omega
  ·rcases j2 with j2|j2
   ·left;omega
   ·right;omega
end
def qE (S G:Nat->Nat):Nat->List Nat->Nat->Prop
 |a,[],b=>a=b
 |a,n::l,b=>G n=a/\qE S G (S n) l b
theorem qE.snoc {S G:Nat->Nat}{n:Nat}:∀{w:List Nat} {a b:Nat},qE S G a w b->G n=b->qE S G a (w++[n]) (S n)
 |[],a,b,h,e=>by
  have h:a=b:=h
  exact⟨by rw[e,h],rfl⟩
 |m::w,a,b,h,e=>⟨h.1,qE.snoc h.2 e⟩
theorem qE.wlk {S G:Nat->Nat}:∀{w:List Nat} {a b:Nat},qE S G a w b->oy S G b w.reverse a
 |[],a,b,h=>by
  have h:a=b:=h
  exact h.symm
 |n::w,a,b,h=>by
  rw[lP]
  exact oy.app (h.1▸oy.one S G n) (qE.wlk h.2)
theorem qE.drop {S G:Nat->Nat}:∀{w:List Nat} {a b:Nat} {j n:Nat},qE S G a w b->w[j]?=some n->qE S G (G n) (w.drop j) b
 |[],a,b,j,n,h,e=>by simp at e
 |m::w,a,b,0,n,h,e=>by
  have e:m=n:=by simpa using e
  subst e
  exact⟨rfl,h.2⟩
 |m::w,a,b,j+1,n,h,e=>by
  rw[List.drop_succ_cons]
  exact qE.drop h.2 (by simpa using e)
structure Wk (ch:Nat->Option Nat)(S G:Nat->Nat)(lr:Nat->Nat)(v here:Nat)(ws:List Nat):Prop where
 ch:∀n∈ws,ch (G n)=some n/\0<lr (G n)
 way:qE S G v ws here
 nd:(ws.map G).Nodup
 lr:lr v<=lr here+ws.length
def Pu (many:Nat)(lr:Nat->Nat)(r:Nat)(pu:D):Prop:=(pu=.non/\∀x,lr x<r)\/∃v:Nat,pu=.int (v:Int)/\v<many/\lr v=r
theorem Pj {many:Nat}{as:List bV}{ns:List D}{p:Int×Int}{aU:List Nat}{r:Nat}{M:Int}(fT:∀a∈as,B8 many a)(hM:∀n,n<as.length->dQ as p n<=M)(oU:0<=M)(hr:0<r)(hn:∀n∈aU,n<as.length){e2:Option D} :
  ∀(post pre:List Nat) (T:Nat->Int) (d:D) (ch:Nat->Option Nat) (lr ts:Nat->Nat) (k m:Nat) (C:Int) (pu:D) (y6 y7 y8:Option D),aU=pre++post->ox aU (aS as) (aG as) (dQ as p) r pre T ch lr ts k->eW d ch m->m+post.length<=1000000->(∀x,T x<=C)->Pu many lr r pu ->
  ∃(T':Nat->Int) (d':D) (pM:Nat->Option Nat) (sS vD:Nat->Nat) (k':Nat) (rW:D) (z6 z7 z8:Option D),fQ (gV 6) xu (ao post) [some (bA ns as),some (fr p),e2,some (.lst (e9 many T)),some d,some pu,y6,y7,y8]=some (.nx [some (bA ns as),some (fr p),e2,some (.lst (e9 many T')),some d',some rW,z6,z7,z8]) /\
   ox aU (aS as) (aG as) (dQ as p) r aU T' pM sS vD k'/\eW d' pM (m+post.length)/\(∀x,T' x<=C+(post.length:Int)*M)/\Pu many sS r rW
 |[],pre,T,d,ch,lr,ts,k,m,C,pu,y6,y7,y8,e,hP,hD,_,hC,hu=>by
  rw[cA]at e
  subst e
  exact⟨T,d,ch,lr,ts,k,pu,y6,y7,y8,rfl,hP,hD,λx=>by have:=hC x;simp;omega,hu⟩
 |n::post,pre,T,d,ch,lr,ts,k,m,C,pu,y6,y7,y8,e,hP,hD,hm,hC,hu=>by
  rw[aI]at hm
  have JJ:n∈aU:=by rw[e];simp
  have FH:=hn n JJ
  have ok:=fT _ (j5 FH)
  have f4:=CB ns as
  have i1:cF (.lst (as.map bL)) (.int (n:Int))=some (bL (aN as n)):=ui (by rw[aD,xU FH];rfl)
  have f1:=fs (aN as n)
  have f2:=fg (aN as n)
  have f3:=ft (aN as n)
  have f5:=fb (aN as n)
  have v1:cF (.lst (e9 many T)) (.int ((aN as n).s:Int))=some (.int (T (aN as n).s)):=Jb T ok.s
  have v2:cF (.lst (e9 many T)) (.int ((aN as n).g:Int))=some (.int (T (aN as n).g)):=Jb T ok.g
  have m1:dk (.int (aN as n).t) (.int p.2)=some (.int ((aN as n).t*p.2)):=zem (by have:=ok.t0;omega) (by have:=ok.t1;omega)
  have m2:dk (.int ((aN as n).b:Int)) (.int p.1)=some (.int (((aN as n).b:Int)*p.1)):=zem (by omega) (by have:=ok.b;omega)
  have e8:T (aN as n).s+(aN as n).t*p.2-((aN as n).b:Int)*p.1=T (aS as n)+dQ as p n:=by unfold dQ aS;omega
  have eg:(aN as n).g=aG as n:=rfl
  have p0:=wU p
  have p1:=oT p
  have zA:fQ (gV 6) xu (ao (n::post)) [some (bA ns as),some (fr p),e2,some (.lst (e9 many T)),some d,some pu,y6,y7,y8]=(xu [some (bA ns as),some (fr p),e2,some (.lst (e9 many T)),some d,some pu,some (.int (n:Int)),y7,y8]).bind λo=>match o with
    |.nx ρ'=>fQ (gV 6) xu (ao post) ρ'
    |.ct ρ'=>fQ (gV 6) xu (ao post) ρ'
    |.bk ρ'=>some (.nx ρ')
    |.rt d=>some (.rt d):=rfl
  have pe:aU=(pre++[n])++post:=by rw[e];simp
  by_cases hg:T (aG as n)<T (aS as n)+dQ as p n
  ·obtain⟨d2,put,hd2⟩:=hD.put (by omega) (aG as n) n
   have gt:tQ (.int (T (aS as n)+dQ as p n)) (.int (T (aN as n).g))=some (.bl true):=(zix _ _).trans (by rw[decide_eq_true (by rw[eg];omega)])
   have ps:pU (e9 many T) ((aN as n).g:Int) (.int (T (aS as n)+dQ as p n))=some (e9 many (kL T (aG as n) (T (aS as n)+dQ as p n))):=Ur T ok.g _
   have st:xu [some (bA ns as),some (fr p),e2,some (.lst (e9 many T)),some d,some pu,some (.int (n:Int)),y7,y8]=some (.nx [some (bA ns as),some (fr p),e2,some (.lst (e9 many (kL T (aG as n) (T (aS as n)+dQ as p n)))),some d2,some (.int ((aG as n:Nat):Int)),some (.int (n:Int)),some (bL (aN as n)),some (.int (T (aS as n)+dQ as p n))]):=by
    have put:=put [some (bA ns as),some (fr p),e2,some (.lst (e9 many (kL T (aG as n) (T (aS as n)+dQ as p n)))),some d,some pu,some (.int (n:Int)),some (bL (aN as n)),some (.int (T (aS as n)+dQ as p n))] 4 (e1 (cC [0,1,2,3] "goal") (eV 7)) (eV 6) rfl rfl f2
    have pl:pT 3 (e1 (cC [0,1,2,3] "goal") (eV 7)) (eV 8) [some (bA ns as),some (fr p),e2,some (.lst (e9 many T)),some d,some pu,some (.int (n:Int)),some (bL (aN as n)),some (.int (T (aS as n)+dQ as p n))]=some (.nx [some (bA ns as),some (fr p),e2,some (.lst (e9 many (kL T (aG as n) (T (aS as n)+dQ as p n)))),some d,some pu,some (.int (n:Int)),some (bL (aN as n)),some (.int (T (aS as n)+dQ as p n))]):=by
     unfold pT e1 eV
     generalize bL (aN as n)=ea at *
     simp[f2,ps]
    have gK:T (aN as n).g<T (aS as n)+dQ as p n:=hg
    generalize T (aS as n)+dQ as p n=w at *
    generalize e9 many (kL T (aG as n) w)=v',T (aN as n).g=tg at *
    rw[←eg]
    generalize e9 many T=v0,fr p=F,as.map bL=al,bA ns as=net,bL (aN as n)=ea at *
    unfold xu
    generalize pT 3 (e1 (cC [0,1,2,3] "goal") (eV 7)) (eV 8)=PL,lB 4 (e1 (cC [0,1,2,3] "goal") (eV 7)) (eV 6)=PD at *
    clear zA pe hP hD hm hC hu e JJ FH ok hg hd2 eg fT hM oU hn ps
    walk_at "mir"
   obtain⟨T',d',pM,sS,vD,k',rW,z6,z7,z8,h1,h2,h3,h4,h5⟩:=Pj (ns:=ns) fT hM oU hr hn (e2:=e2) post (pre++[n]) _ d2 _ _ _ _ (m+1) (C+M) (.int ((aG as n:Nat):Int)) (some (.int (n:Int))) (some (bL (aN as n))) (some (.int (T (aS as n)+dQ as p n))) pe (hP.push JJ hg) hd2 (by omega) (λx=>by
     unfold kL
     have h1:=hC x
     have h2:=hC (aS as n)
     have h3:=hM n FH
     split<;>omega) (.inr ⟨aG as n,rfl,ok.g,by simp[lX]⟩)
   refine⟨T',d',pM,sS,vD,k',rW,z6,z7,z8,?_,h2,?_,λx=>?_,h5⟩
   ·rw[zA,st]
    exact h1
   ·rw[aI,show m+(post.length+1)=m+1+post.length by omega];exact h3
   ·have:=h4 x
    rw[aI,show((post.length+1:Nat):Int)=(post.length:Int)+1 by omega,rG,mX]
    omega
  ·have gt:tQ (.int (T (aS as n)+dQ as p n)) (.int (T (aN as n).g))=some (.bl false):=(zix _ _).trans (by rw[decide_eq_false (by rw[eg];omega)])
   have st:xu [some (bA ns as),some (fr p),e2,some (.lst (e9 many T)),some d,some pu,some (.int (n:Int)),y7,y8]=some (.nx [some (bA ns as),some (fr p),e2,some (.lst (e9 many T)),some d,some pu,some (.int (n:Int)),some (bL (aN as n)),some (.int (T (aS as n)+dQ as p n))]):=by
    have gK:¬T (aN as n).g<T (aS as n)+dQ as p n:=hg
    generalize T (aS as n)+dQ as p n=w,T (aN as n).g=tg,e9 many T=v0,fr p=F,as.map bL=al,bA ns as=net,bL (aN as n)=ea at *
    unfold xu
    clear zA pe hP hD hm hC hu e JJ FH ok hg eg fT hM oU hn
    walk_at "mir"
   obtain⟨T',d',pM,sS,vD,k',rW,z6,z7,z8,h1,h2,h3,h4,h5⟩:=Pj (ns:=ns) fT hM oU hr hn (e2:=e2) post (pre++[n]) T d ch lr ts k m C pu (some (.int (n:Int))) (some (bL (aN as n))) (some (.int (T (aS as n)+dQ as p n))) pe (hP.stay (by omega)) hD (by omega) hC hu
   refine⟨T',d',pM,sS,vD,k',rW,z6,z7,z8,?_,h2,?_,λx=>?_,h5⟩
   ·rw[zA,st]
    exact h1
   ·obtain⟨ks,ds,q1,q2,q3,q4⟩:=h3.is
    exact⟨ks,ds,q1,q2,by rw[aI];omega,q4⟩
   ·have:=h4 x
    rw[aI,show((post.length+1:Nat):Int)=(post.length:Int)+1 by omega,rG,mX]
    omega
theorem zvy {many:Nat}{as:List bV}{ns:List D}{p:Int×Int}{aU:List Nat}{r:Nat}{M:Int}(fT:∀a∈as,B8 many a)(hM:∀n,n<as.length->dQ as p n<=M)(oU:0<=M)(hr:0<r)(hn:∀n∈aU,n<as.length){T:Nat->Int}{d:D}{ch:Nat->Option Nat}{lr ts:Nat->Nat}{k m:Nat}{C:Int}(hP:ox aU (aS as) (aG as) (dQ as p) r [] T ch lr ts k)(hD:eW d ch m)(hm:m+aU.length<=1000000)(hC:∀x,T x<=C)(hl:∀x,lr x<r) :
  ∃(T':Nat->Int) (d':D) (pM:Nat->Option Nat) (sS vD:Nat->Nat) (k':Nat) (rW:D),v9 [bA ns as,fr p,.lst (ao aU),.lst (e9 many T),d]=some (.tup [rW,.lst (e9 many T'),d']) /\
   ox aU (aS as) (aG as) (dQ as p) r aU T' pM sS vD k'/\eW d' pM (m+aU.length)/\(∀x,T' x<=C+(aU.length:Int)*M)/\Pu many sS r rW:=by
 obtain⟨T',d',pM,sS,vD,k',rW,z6,z7,z8,h1,h2,h3,h4,h5⟩:=Pj (ns:=ns) fT hM oU hr hn (e2:=some (.lst (ao aU))) aU [] T d ch lr ts k m C .non none none none rfl hP hD hm hC (.inl ⟨rfl,hl⟩)
 refine⟨T',d',pM,sS,vD,k',rW,?_,h2,h3,h4,h5⟩
 unfold v9 By xE Bz
 generalize e9 many T=v0 at *
 generalize e9 many T'=v1,fr p=F,bA ns as=net,ao aU=nl at *
 clear hP hD hm hC hl fT hM oU hn h2 h3 h4 h5
 walk_at "mir"
theorem eW.congr {d:D}{ch pM:Nat->Option Nat}{m:Nat}(h:eW d ch m)(e:∀x,ch x=pM x):eW d pM m:=by
 have:ch=pM:=funext e
 rw[←this];exact h
theorem eW.mono {d:D}{ch:Nat->Option Nat}{m m':Nat}(h:eW d ch m)(e:m<=m'):eW d ch m':=by
 obtain⟨ks,ds,q1,q2,q3,q4⟩:=h.is
 exact⟨ks,ds,q1,q2,by omega,q4⟩
theorem eW.nil:eW (.dK [] []) (λ_=>none) 0:=⟨[],[],rfl,rfl,by simp,λ_=>rfl⟩
def uQ (us:List Nat)(y:Nat):Option Nat:=if y∈us then some (us.idxOf y)else none
theorem ztq (us:List Nat){x:Nat}(h:x∉us)(y:Nat):(if y=x then some us.length else uQ us y)=uQ (us++[x]) y:=by
 unfold uQ
 by_cases e:y=x
 ·subst e
  rw[if_pos rfl,if_pos (by simp),tG,if_neg h]
  simp
 ·rw[if_neg e]
  by_cases hy:y∈us
  ·rw[if_pos hy,if_pos (by simp[hy]),tG,if_pos hy]
  ·rw[if_neg hy,if_neg (by simp[hy,e])]
def Ye (ρ:L3.Env):Nat:=match ρ[5]?.join with
 |some (D.lst ds)=>1000-ds.length
 |_=>0
def cR:BF:=tb (λρ=>((eV 3) ρ).bind λx=>((eV 4) ρ).bind λy=>(iP y x).bind λr=>some (.bl (!r.isSome)))
theorem zwx {as:List bV}{many m v:Nat}{d:D}{ch:Nat->Option Nat}{lr:Nat->Nat}(hD:eW d ch m)(kY:∀x,0<lr x->∃n,ch x=some n/\n<as.length/\aG as n=x/\lr x<=lr (aS as n)+1)(fT:∀a∈as,B8 many a)(hv:v<many)(QQ:many<=lr v)(hm:many<=900) :
  ∃(R:List Nat) (x:Nat),uq [.lst (as.map bL),d,.int (v:Int)]=some (.lst (ao R))/\R≠[]/\oy (aS as) (aG as) x R x/\(R.map (aG as)).Nodup/\∀n∈R,ch (aG as n)=some n/\0<lr (aG as n):=by
 have vO:∀(here:Nat) (us:List Nat) (d2:D) (k:Nat) (y0 y1 y2 y5:Option D),eW d2 (uQ us) k->cR [y0,y1,y2,some (.int (here:Int)),some d2,y5]=some (!decide (here∈us)):=by
  intro here us d2 k y0 y1 y2 y5 h
  have g1:=h.has here
  have e2':((uQ us here).map λ(n:Nat)=>D.int (n:Int)).isSome=decide (here∈us):=by
   unfold uQ
   by_cases hh:here∈us
   ·rw[if_pos hh,decide_eq_true hh];rfl
   ·rw[if_neg hh,decide_eq_false hh];rfl
  rw[←e2']
  generalize (uQ us here).map (λ(n:Nat)=>D.int (n:Int))=o at *
  unfold cR
  clear h e2' kY fT hD
  walk_at "mir"
 have lp:=SY (c:=cR) (b:=u8)
  (λρ=>∃(ws:List Nat) (here:Nat) (d2:D),ρ=[some (.lst (as.map bL)),some d,some (.int (v:Int)),some (.int (here:Int)),some d2,some (.lst (ao ws))]/\Wk ch (aS as) (aG as) lr v here ws/\here<many/\(∀n∈ws,n<as.length)/\eW d2 (uQ (ws.map (aG as))) ws.length) Ye
  (λ_=>False) (by
   rintro ρ ⟨ws,here,d2,rfl,hw,hh,hn,h2⟩
   have FR:ws.length<=many:=by
    rw[←ah (f:=aG as)]
    refine Kahn.len_le hw.nd λx hx=>?_
    obtain⟨n,h1,rfl⟩:=bm.mp hx
    exact(fT _ (j5 (hn n h1))).g
   refine⟨_,vO here _ d2 _ _ _ _ _ h2,λht=>.inl ?_⟩
   have oX:here∉ws.map (aG as):=by simpa using ht
   have BB:(ws.map (aG as)++[here]).Nodup:=br.mpr ⟨hw.nd,by simp,λa ha b hb e=>oX (by rw[←az.mp hb,←e];exact ha)⟩
   have vS:=Kahn.len_le (many:=many) BB λx hx=>by
    rcases bg.mp hx with hx|hx
    ·obtain⟨n,h1,rfl⟩:=bm.mp hx
     exact(fT _ (j5 (hn n h1))).g
    ·rw[az.mp hx];exact hh
   rw[aZ,ah,cO]at vS
   have hl:=hw.lr
   obtain⟨n,c1,c2,c3,c4⟩:=kY here (by omega)
   obtain⟨d3,put,QJ⟩:=h2.put (by omega) here ws.length
   have put:=put [some (.lst (as.map bL)),some d,some (.int (v:Int)),some (.int (here:Int)),some d2,some (.lst (ao ws))] 4 (eV 3) (eN cX (aCons (eV 5) aNil)) (by
    show cX [.lst (ao ws)]=_
    rw[wx];unfold ao;rw[ah]) rfl rfl
   have g1:=hD.get c1
   have f1:=fs (aN as n)
   have i1:cF (.lst (as.map bL)) (.int (n:Int))=some (bL (aN as n)):=ui (by rw[aD,xU c2];rfl)
   refine⟨[some (.lst (as.map bL)),some d,some (.int (v:Int)),some (.int ((aN as n).s:Int)),some d3,some (.lst (ao (ws++[n])))],?_,⟨ws++[n],(aN as n).s,d3,rfl,⟨λk hk=>?_,hw.way.snoc c3,?_,?_⟩,(fT _ (j5 c2)).s,λk hk=>?_,?_⟩,?_⟩
   ·have e3:ao (ws++[n])=ao ws++[.int (n:Int)]:=by unfold ao;rw[cL];rfl
    have hz:(ao ws).length<16777216:=by unfold ao;rw[ah];omega
    rw[e3]
    generalize as.map bL=al,ao ws=wl,bL (aN as n)=ea at *
    unfold u8
    generalize lB 4 (eV 3) (eN cX (aCons (eV 5) aNil))=PP at *
    clear e3 QJ c1 c2 c3 c4 hl vS BB oX ht FR h2 hn hh hw vO hD kY fT hv QQ hm
    walk_at "mir"
   ·rcases bg.mp hk with hk|hk
    ·exact hw.ch k hk
    ·rw[az.mp hk,c3];exact⟨c1,by omega⟩
   ·rw[cL,kO,c3];exact BB
   ·rw[aZ,cO]
    have:(aN as n).s=aS as n:=rfl
    rw[this]
    omega
   ·rcases bg.mp hk with hk|hk
    ·exact hn k hk
    ·rw[az.mp hk];exact c2
   ·rw[aZ,cO,cL,kO,c3]
    refine QJ.congr λy=>?_
    have:=ztq (ws.map (aG as)) oX y
    rw[ah]at this
    exact this
   ·show 1000-(ao (ws++[n])).length<1000-(ao ws).length
    unfold ao
    rw[ah,ah,aZ,cO]
    omega) mK [some (.lst (as.map bL)),some d,some (.int (v:Int)),some (.int (v:Int)),some (.dK [] []),some (.lst (ao []))]
  ⟨[],v,.dK [] [],rfl,⟨λn hn=>(by cases hn),rfl,by simp,by simp⟩,hv,λn hn=>(by cases hn),eW.nil.congr λ_=>by simp[uQ]⟩ (KB (by show 1000-(ao []).length<1048576;omega))
 have n0:ao []=[]:=rfl
 rw[n0]at lp
 rcases lp with⟨ρ',l1,⟨ws,here,d2,rfl,hw,hh,hn,h2⟩,hc⟩|⟨_,_,f⟩
 ·rw[vO here _ d2 _ _ _ _ _ h2]at hc
  have kd:here∈ws.map (aG as):=by simpa using hc
  have hj:uQ (ws.map (aG as)) here=some ((ws.map (aG as)).idxOf here):=by unfold uQ;rw[if_pos kd]
  have sO:=oK.mpr kd
  have vR:(ws.map (aG as))[(ws.map (aG as)).idxOf here]?=some here:=by
   rw[aT sO,sj]
  generalize (ws.map (aG as)).idxOf here=j at *
  rw[ah]at sO
  rw[aD,aT sO]at vR
  replace vR:aG as ws[j]=here:=by simpa using vR
  have wlk:qE (aS as) (aG as) here (ws.drop j) here:=by
   have:=hw.way.drop (j:=j) (n:=ws[j]) (aT sO)
   rw[vR]at this
   exact this
  refine⟨(ws.drop j).reverse,here,?_,?_,wlk.wlk,?_,λn FG=>?_⟩
  ·have gv:=h2.get hj
   have ct:cutD (ao ws) (some (j:Int)) none=ao (ws.drop j):=by
    rw[zmz]
    unfold ao
    rw[gQ]
   have lv:uR (.lst (ao (ws.drop j)))=some (.lst (ao (ws.drop j).reverse)):=by
    show some (D.lst (ao (ws.drop j)).reverse)=_
    unfold ao
    rw[←mH]
   unfold cR at l1
   generalize ao (ws.drop j).reverse=wr at *
   generalize ao (ws.drop j)=wd,as.map bL=al,ao ws=wl at *
   unfold uq gM
   generalize (tb (λρ=>((eV 3) ρ).bind λx=>((eV 4) ρ).bind λy=>(iP y x).bind λr=>some (.bl (!r.isSome))))=cc at *
   clear wlk vR sO hj kd hc h2 hn hh hw vO hD kY fT hv QQ hm
   walk_at "mir"
  ·intro e
   have:=congrArg mO e
   rw[fN,cU]at this
   simp at this
   omega
  ·rw[mH,gQ]
   exact p4.mpr ((fS.sublist (tw _ _) hw.nd).imp λh e=>h e.symm)
  ·exact hw.ch n (qM (tZ.mp FG))
 ·exact f.elim
def qI (many:Nat)(p:Int×Int)(T:Nat->Int):D:=.lst ((aw many).map λg=>fr (Fq.mk (T g) p.2))
def P2 (many:Nat)(as:List bV)(p:Int×Int)(aU:List Nat)(B:Int)(d:D):Prop :=
 (∃T:Nat->Int,d=.tup [.str "times",qI many p T]/\(∀n∈aU,T (aS as n)+dQ as p n<=T (aG as n))/\∀x,0<=T x/\T x<=B) \/
 ∃(R:List Nat) (x:Nat),d=.tup [.str "ring",.lst (ao R)]/\R≠[]/\oy (aS as) (aG as) x R x/\(R.map (aG as)).Nodup/\(∀n∈R,n∈aU)/\0<(R.map (dQ as p)).sum
theorem ztr (many:Nat):(aC many [D.int 0]).flatten=e9 many λ_=>0:=by
 unfold e9
 rw[mY,bD]
 induction many with
 |zero=>rfl
 |succ n ih=>rw[cW,eE,ih,cW];rfl
theorem zqc {many:Nat}{p:Int×Int}{T:Nat->Int}(hm:many<=1000)(hp:p.2≠0)(lL:Sz 8000 p.2)(r:L3.Env)(h1:r[1]?.join=some (fr p))(h3:r[3]?.join=some (.lst (e9 many T))):ja r=some (qI many p T):=by
 unfold qI
 refine qm (λ(g:Nat)=>D.int (T g)) (λg=>fr (Fq.mk (T g) p.2)) (aw many) (by unfold lsD;have:eV 3 r=_:=h3;rw[this];rfl) (by rw[bD];omega) λg _=>⟨_,rfl,?_⟩
 have iI:fw r [1]=[some (fr p)]:=by unfold fw;simp[h1]
 rw[iI]
 have p1:=oT p
 have ra:=CM (t:=T g) hp lL
 generalize fr (Fq.mk (T g) p.2)=F,fr p=fp at *
 clear iI h1 h3 hm lL
 walk_at "mir"
theorem Tw {many:Nat}{as:List bV}{ns:List D}{p:Int×Int}{aU:List Nat}{M:Int}(gG:ns.length=many)(Bg:1<=many)(hm:many<=900)(Xx:aU.length<=1000)(fT:∀a∈as,B8 many a)(hp:p.2≠0)(lL:Sz 8000 p.2)(hM:∀n,n<as.length->dQ as p n<=M)(oU:0<=M)(hn:∀n∈aU,n<as.length) :
  ∃d,xi [bA ns as,fr p,.lst (ao aU)]=some d/\P2 many as p aU ((many:Int)*((aU.length:Int)*M)) d:=by
 have ln:cX [.lst ns]=some (.int (many:Int)):=(wx _).trans (by rw[gG])
 have Ml:=OY ns as
 have Jx:=CB ns as
 have Cf:0<=(aU.length:Int)*M:=iy (by omega) oU
 have lp:=BW (g:=gV 6) (b:=wj) (n:=many)
  (λi ρ=>∃(T:Nat->Int) (d:D) (ch:Nat->Option Nat) (lr ts:Nat->Nat) (k:Nat) (pu:D) (y6:Option D),ρ=[some (bA ns as),some (fr p),some (.lst (ao aU)),some (.lst (e9 many T)),some d,some pu,y6]/\ox aU (aS as) (aG as) (dQ as p) (i+1) [] T ch lr ts k/\eW d ch (i*aU.length)/\(∀x,T x<=(i:Int)*((aU.length:Int)*M))/\(∀x,lr x<=i)/\(i=0\/∃v:Nat,pu=.int (v:Int)/\v<many/\lr v=i))
  (P2 many as p aU ((many:Int)*((aU.length:Int)*M))) (by
   rintro i ρ hi ⟨T,d,ch,lr,ts,k,pu,y6,rfl,hP,hD,hC,hl,_⟩
   have Co:i*aU.length+aU.length<=1000000:=by
    have:i*aU.length<=900*1000:=xX (by omega) Xx
    omega
   obtain⟨T',d',pM,sS,vD,k',rW,h1,h2,h3,h4,h5⟩:=zvy (ns:=ns) (aU:=aU) fT hM oU (Nat.succ_pos i) hn hP hD Co hC (λx=>by have:=hl x;omega)
   have A7:i9 d=true/\i9 (.lst (e9 many T))=true:=by
    obtain⟨ks,ds,rfl,_⟩:=hD.is
    exact⟨rfl,rfl⟩
   have hB:∀x,T' x<=((i+1:Nat):Int)*((aU.length:Int)*M):=λx=>by
    have:=h4 x
    rw[show((i+1:Nat):Int)=(i:Int)+1 by omega,rG,mX]
    omega
   have MK:nv 3 4 (aCons (eV 0) (aCons (eV 1) (aCons (eV 2) aNil))) v9 [some (bA ns as),some (fr p),some (.lst (ao aU)),some (.lst (e9 many T)),some d,some pu,some (.int (i:Int))]=some (rW,[some (bA ns as),some (fr p),some (.lst (ao aU)),some (.lst (e9 many T')),some d',some pu,some (.int (i:Int))]):=by
    obtain⟨c1,c2⟩:=A7
    generalize e9 many T=v0 at *
    generalize e9 many T'=v1,fr p=F,bA ns as=net,ao aU=nl at *
    unfold nv
    clear hP hD hC hl Co h2 h3 h4 h5 hB fT lL hM oU hn Cf ln Ml Jx
    walk_at "mir"
   have ss:oI 5 (nv 3 4 (aCons (eV 0) (aCons (eV 1) (aCons (eV 2) aNil))) v9) [some (bA ns as),some (fr p),some (.lst (ao aU)),some (.lst (e9 many T)),some d,some pu,some (.int (i:Int))]=some (.nx [some (bA ns as),some (fr p),some (.lst (ao aU)),some (.lst (e9 many T')),some d',some rW,some (.int (i:Int))]):=by
    unfold oI
    rw[MK]
    rfl
   refine⟨[some (bA ns as),some (fr p),some (.lst (ao aU)),some (.lst (e9 many T)),some d,some pu,some (.int (i:Int))],rfl,?_⟩
   rcases h5 with⟨rfl,QS⟩|⟨v,rfl,hv,JG⟩
   ·refine .inr ⟨.tup [.str "times",qI many p T'],?_,.inl ⟨T',rfl,λn hn=>h2.dn n hn (QS _),λx=>⟨h2.pos x,?_⟩⟩⟩
    ·have q:=zqc (T:=T') (p:=p) (many:=many) (by omega) hp lL [some (bA ns as),some (fr p),some (.lst (ao aU)),some (.lst (e9 many T')),some d',some .non,some (.int (i:Int))] rfl rfl
     have sc:(D.str "times").sc=true:=rfl
     generalize e9 many T=v0 at *
     generalize e9 many T'=v1,fr p=F,bA ns as=net,ao aU=nl,qI many p T'=TM at *
     unfold wj Ce
     generalize oI 5 (nv 3 4 (aCons (eV 0) (aCons (eV 1) (aCons (eV 2) aNil))) v9)=SM at *
     clear hP hD hC hl Co h1 h2 h3 h4 QS hB fT lL hM oU hn Cf ln Ml Jx A7 MK
     walk_at "mir"
    ·have h6:=hB x
     have h7:((i+1:Nat):Int)*((aU.length:Int)*M)<=(many:Int)*((aU.length:Int)*M):=ba (by omega) Cf
     omega
   ·refine .inl ⟨[some (bA ns as),some (fr p),some (.lst (ao aU)),some (.lst (e9 many T')),some d',some (.int (v:Int)),some (.int (i:Int))],?_,⟨T',d',pM,sS,vD,k',_,_,rfl,h2.next,?_,hB,h2.le,.inr ⟨v,rfl,hv,JG⟩⟩⟩
    ·generalize e9 many T=v0 at *
     generalize e9 many T'=v1,fr p=F,bA ns as=net,ao aU=nl at *
     unfold wj
     generalize oI 5 (nv 3 4 (aCons (eV 0) (aCons (eV 1) (aCons (eV 2) aNil))) v9)=SM at *
     clear hP hD hC hl Co h1 h2 h3 h4 JG hB fT lL hM oU hn Cf ln Ml Jx A7 MK hv
     walk_at "mir"
    ·rw[Nat.add_mul,Nat.one_mul];exact h3)
  many 0 [some (bA ns as),some (fr p),some (.lst (ao aU)),some (.lst (e9 many λ_=>0)),some (.dK [] []),some .non,none] (by omega)
  ⟨λ_=>0,.dK [] [],λ_=>none,λ_=>0,λ_=>0,1,.non,none,rfl,ox.start,eW.nil.mono (by omega),λx=>by simp,λx=>aM 0,.inl rfl⟩
 have JM:hJ [.int (many:Int)]=some ((aw many).map λ(t:Nat)=>D.int (t:Int)):=by
  rw[zE (by omega) (by omega)]
  unfold fJ
  simp
 have rp:rB (.lst [.int 0]) (.int (many:Int))=some (.lst (e9 many λ_=>0)):=by
  show(if -1000000<(many:Int)/\(many:Int)<1000000/\[D.int 0].length<=16 then some (D.lst (aC (many:Int).toNat [D.int 0]).flatten)else none)=_
  rw[if_pos ⟨by omega,by omega,by simp⟩,eG,ztr many]
 rw[←de]at lp
 rcases lp with⟨ρ',l1,⟨T,d,ch,lr,ts,k,pu,y6,rfl,hP,hD,hC,hl,hv⟩⟩|⟨w,l1,hw⟩
 ·rcases hv with hv|⟨v,rfl,hv,JG⟩
  ·omega
  obtain⟨R,x,r1,r2,r3,r4,r5⟩:=zwx (as:=as) (many:=many) (v:=v) hD (λx hx=>by
   obtain⟨n,c1,c2,c3,c4,_⟩:=hP.ch x hx
   exact⟨n,c1,hn n c2,c3,c4⟩) fT hv (by omega) hm
  have key:∀n∈R,n∈aU/\T (aG as n)<=T (aS as n)+dQ as p n/\(T (aG as n)<T (aS as n)+dQ as p n\/ts (aS as n)<ts (aG as n)):=λn Xv=>by
   obtain⟨q1,q2⟩:=r5 n Xv
   obtain⟨n',c1,c2,c3,c4,c5,c6⟩:=hP.ch _ q2
   rw[q1]at c1
   have:=Option.some.inj c1
   subst this
   exact⟨c2,c5,c6⟩
  obtain⟨_,k2⟩:=ox.cost (T:=T) (ts:=ts) (S:=aS as) (G:=aG as) (c:=dQ as p) (Q:=λn=>n∈R) (λn h=>(key n h).2) r3 (λn h=>h)
  refine⟨.tup [.str "ring",.lst (ao R)],?_,.inr ⟨R,x,rfl,r2,r3,r4,λn h=>(key n h).1,?_⟩⟩
  ·have sc:(D.str "ring").sc=true:=rfl
   clear hP hD hC hl JG hv key k2 r2 r3 r4 r5 fT lL hM oU hn Cf
   generalize e9 many T=v0,(e9 many λ_=>0)=v1,fr p=F,as.map bL=al,bA ns as=net,ao aU=nl,ao R=rl,(aw many).map (λ(t:Nat)=>D.int (t:Int))=Cv at *
   unfold xi Ce
   walk_at "mir"
  ·rcases k2 with k2|k2|k2
   ·exact absurd k2 r2
   ·omega
   ·omega
 ·refine⟨w,?_,hw⟩
  clear hw fT lL hM oU hn Cf
  generalize (e9 many λ_=>0)=v1,fr p=F,as.map bL=al,bA ns as=net,ao aU=nl,(aw many).map (λ(t:Nat)=>D.int (t:Int))=Cv at *
  unfold xi Ce
  walk_at "mir"
theorem zwy {as:List bV}{n:Nat}(h1:n<as.length):cF (.lst (as.map bC)) (.int (n:Int))=some (.tup [.int ((aN as n).s:Int),.int ((aN as n).g:Int),.int (aN as n).t,.int ((aN as n).b:Int)]):=ui (by rw[aD,xU h1];rfl)
theorem wD (as:List bV)(f:bV->Int)(n:Nat):(aN (as.map λa=>fU a (f a)) n).s=(aN as n).s/\(aN (as.map λa=>fU a (f a)) n).g=(aN as n).g/\(aN (as.map λa=>fU a (f a)) n).t=(aN as n).t/\(aN (as.map λa=>fU a (f a)) n).b=(aN as n).b:=by
 unfold aN
 rw[aD]
 cases as[n]?<;>exact⟨rfl,rfl,rfl,rfl⟩
theorem Jg (as:List bV)(f:bV->Int):aS (as.map λa=>fU a (f a))=aS as:=funext λn=>(wD as f n).1
theorem wF (as:List bV)(f:bV->Int):aG (as.map λa=>fU a (f a))=aG as:=funext λn=>(wD as f n).2.1
theorem zvz (as:List bV)(f:bV->Int)(p:Int×Int):dQ (as.map λa=>fU a (f a)) p=dQ as p:=funext λn=>by
 unfold dQ
 rw[(wD as f n).2.2.1,(wD as f n).2.2.2]
def tN (as:List bV)(n:Nat):Int:=(aN as n).t
def bN (as:List bV)(n:Nat):Int:=((aN as n).b:Int)
theorem KF {as:List bV}{p:Int×Int}:∀w:List Nat,(w.map (dQ as p)).sum=(w.map (tN as)).sum*p.2-(w.map (bN as)).sum*p.1
 |[]=>by simp
 |n::w=>by
  rw[aP,aP,aP,cj,cj,cj,KF w]
  unfold dQ tN bN
  grind
theorem KG {f:Nat->Int}{m:Int}(hm:0<=m):∀is:List Nat,(∀i∈is,0<=f i/\f i<=m)->0<=(is.map f).sum/\(is.map f).sum<=m*(is.length:Int)
 |[],_=>by simp
 |i::is,h=>by
  obtain⟨h1,h2⟩:=KG hm is λj hj=>h j (aj _ hj)
  obtain⟨h3,h4⟩:=h i aa
  rw[aP,cj,aI]
  refine⟨by omega,?_⟩
  rw[show((is.length+1:Nat):Int)=(is.length:Int)+1 by omega,Int.mul_add,mV]
  omega
theorem Tx {as:List bV}{rank:Nat->Nat}(mT:∀a∈as,a.b=0->rank a.s<rank a.g):∀{w:List Nat} {a b:Nat},oy (aS as) (aG as) a w b->(∀n∈w,n<as.length)->0<=(w.map (bN as)).sum/\((w.map (bN as)).sum=0->rank a+w.length<=rank b)
 |[],a,b,h,_=>by
  have h:a=b:=h
  subst h
  simp
 |n::w,a,b,h,hn=>by
  obtain⟨i1,i2⟩:=Tx mT h.2 λm hm=>hn m (aj _ hm)
  rw[aP,cj,aI]
  have h0:0<=bN as n:=by unfold bN;omega
  refine⟨by omega,λe=>?_⟩
  have h1:bN as n=0:=by omega
  have h2:=mT _ (j5 (hn n aa)) (by unfold bN at h1;omega)
  have h3:=i2 (by omega)
  have e1:a=(aN as n).s:=h.1.symm
  have e2:aG as n=(aN as n).g:=rfl
  rw[e2]at h3
  rw[e1]
  omega
theorem U2 {as:List bV}{w:List Nat}{j:Int}{f:bV->Int}{q:EF}{fi:L3.Env->Option (List D)}(hq:q=dW fi 1 [0] (gV 0) fY (e2 cF (e2 cF (eV 1) (eV 0)) (eC (.int j))))(hf:∀a:bV,cF (.tup [.int (a.s:Int),.int (a.g:Int),.int a.t,.int (a.b:Int)]) (.int j)=some (.int (f a)))(hl:w.length<=1000)(hr:∀n∈w,n<as.length)(r:L3.Env)(h0:r[0]?.join=some (.lst (as.map bC)))(hi:fi r=some (ao w)) :
  q r=some (.lst ((w.map λn=>f (aN as n)).map .int)):=by
 rw[hq,bH]
 refine qm (λ(n:Nat)=>D.int (n:Int)) (λn=>D.int (f (aN as n))) w hi (by omega) λn hn=>⟨_,rfl,?_⟩
 have iI:fw r [0]=[some (.lst (as.map bC))]:=by unfold fw;simp[h0]
 rw[iI]
 have i1:=zwy (as:=as) (hr n hn)
 have f1:=hf (aN as n)
 generalize f (aN as n)=v,as.map bC=al,(D.tup [.int ((aN as n).s:Int),.int ((aN as n).g:Int),.int (aN as n).t,.int ((aN as n).b:Int)])=tp at *
 clear iI h0 hr hn hl hf hq hi
 walk_at "mir"
theorem zts {T B c1 c2 m1 m2 S P:Int}(hc:0<c2)(hm:0<m2)(v:m1*(2*B*c2)=(T*c2+c1*B)*m2)(h:(c1*B-T*c2)*P<=S*c2*B):(m1*B-T*m2)*(2*P)<=S*m2*B:=by
 have e:(m1*B-T*m2)*(2*P)*c2=(c1*B-T*c2)*P*m2:=by
  have:(m1*B-T*m2)*(2*P)*c2=(m1*(2*B*c2)-2*T*c2*m2)*P:=by grind
  rw[this,v];grind
 have h1:=ba h (cS hm)
 rw[←e]at h1
 have e2:S*c2*B*m2=S*m2*B*c2:=by grind
 rw[e2]at h1
 exact d6 h1 hc
theorem zwz {T B T2 B2 c1 c2 m1 m2 S P:Int}(hc:0<c2)(hm:0<m2)(hB:0<B)(WY:0<B2)(hP:0<P)(v:m1*(2*B*c2)=(T*c2+c1*B)*m2)(ha:m1*B2<T2*m2)(h:(c1*B-T*c2)*P<=S*c2*B):(c1*B2-T2*c2)*(2*P)<=S*c2*B2:=by
 have k1:(c1*B2-T2*c2)*m2<=B2*(c1*m2-m1*c2):=by
  have:=ba (cS ha) (cS hc)
  grind
 have k2:(c1*m2-m1*c2)*(2*B)=m2*(c1*B-T*c2):=by grind
 have k3:(c1*B2-T2*c2)*m2*(2*B)<=B2*(m2*(c1*B-T*c2)):=by
  have:=ba k1 (show(0:Int)<=2*B by omega)
  rw[Int.mul_assoc B2,k2]at this
  exact this
 have k4:=ba k3 (cS hP)
 have k5:=cD h (cS (dg WY hm))
 have k6:(c1*B2-T2*c2)*(2*P)*(m2*B)<=S*c2*B2*(m2*B):=by
  have e1:(c1*B2-T2*c2)*(2*P)*(m2*B)=(c1*B2-T2*c2)*m2*(2*B)*P:=by grind
  have e2:B2*(m2*(c1*B-T*c2))*P=B2*m2*((c1*B-T*c2)*P):=by grind
  have e3:B2*m2*(S*c2*B)=S*c2*B2*(m2*B):=by grind
  rw[e1]
  rw[e2]at k4
  rw[e3]at k5
  exact pY k4 k5
 exact d6 k6 (dg hm hB)
theorem zv0 {T B T' B' c1 c2 D:Int}(hc:0<c2)(hB:0<B)(WZ:B<=D)(Mw:0<B')(Mx:B'<=D)(h:(c1*B-T*c2)*(D*D)<c2*B)(hu:T' * c2<=c1*B'):T' * B<=T*B':=by
 apply Int.not_lt.mp
 intro hn
 have k1:c2<=B' * (c1*B-T*c2):=by
  have a1:c2<=(T' * B-T*B')*c2:=by
   have:1*c2<=(T' * B-T*B')*c2:=ba (by omega) (cS hc)
   omega
  have a2:=cD hu (cS hB)
  grind
 have hx:0<=c1*B-T*c2:=by
  apply Int.not_lt.mp
  intro z
  have:=Int.mul_lt_mul_of_pos_left z Mw
  omega
 generalize c1*B-T*c2=x at *
 have k2:=ba k1 (cS hB)
 have k3:B' * x*B<=x*(D*D):=by
  have b1:B' * B<=D*D:=d7 Mx WZ (cS hB) (by omega)
  have b2:=cD b1 hx
  have e:B' * x*B=x*(B' * B):=by grind
  rw[e];exact b2
 omega
theorem ztt {T B c1 c2 S P D:Int}(hx:c2*B<=(c1*B-T*c2)*(D*D))(hc:0<c2)(hB:0<B)(hS:0<=S)(hP:0<P)(h:(c1*B-T*c2)*P<=S*c2*B):P<=S*(D*D):=by
 have pos:0<c2*B:=dg hc hB
 have XZ:0<c1*B-T*c2:=by
  apply Int.not_le.mp
  intro z
  have hD:0<=D*D:=by
   rcases pX 0 D with h|h
   ·exact iy h h
   ·exact lE h h
  have:(c1*B-T*c2)*(D*D)<=0:=Int.mul_nonpos_of_nonpos_of_nonneg z hD
  omega
 generalize c1*B-T*c2=x at *
 have k1:=cD hx hS
 have e1:S*(c2*B)=S*c2*B:=by grind
 rw[e1]at k1
 have k2:x*P<=x*(S*(D*D)):=by
  have e2:S*(x*(D*D))=x*(S*(D*D)):=by grind
  rw[e2]at k1
  exact pY h k1
 exact Int.le_of_mul_le_mul_left k2 XZ
theorem zv1 {T B c1 c2 m1 m2 S:Int}(hc:0<c2)(hB:0<B)(hm:0<m2)(hT:T<=S*B)(h:c1<=S*c2)(v:m1*(2*B*c2)=(T*c2+c1*B)*m2):m1<=S*m2:=by
 have k1:=ba hT (cS hc)
 have k2:=ba h (cS hB)
 have k3:T*c2+c1*B<=S*(2*B*c2):=by grind
 have k4:=ba k3 (cS hm)
 rw[←v]at k4
 have e:S*(2*B*c2)*m2=S*m2*(2*B*c2):=by grind
 rw[e]at k4
 have pos:0<2*B*c2:=dg (by omega) hc
 exact d6 k4 pos
theorem zv2 {T B T' B' q1 q2:Int}(hB:0<B)(hq:0<q2)(e:q1*B=T*q2)(h:T' * B<=T*B'):T' * q2<=q1*B':=by
 have k:=ba h (cS hq)
 have e1:T' * B*q2=T' * q2*B:=by grind
 have e2:T*B' * q2=q1*B' * B:=by
  have:T*B' * q2=T*q2*B':=by grind
  rw[this,←e];grind
 rw[e1,e2]at k
 exact d6 k hB
def sT (as:List bV)(R:List Nat):Int:=(R.map (tN as)).sum
def sB (as:List bV)(R:List Nat):Int:=(R.map (bN as)).sum
structure RG (as:List bV)(aU:List Nat)(R:List Nat):Prop where
 ne:R≠[]
 w:∃x,oy (aS as) (aG as) x R x
 nd:(R.map (aG as)).Nodup
 m:∀n∈R,n∈aU
structure GN (many:Nat)(as:List bV)(aU:List Nat)(rk:Nat->Nat)(mb:Nat):Prop where
 m1:1<=many
 m:many<=40
 al:as.length<=120
 ok:∀a∈as,B8 many a
 n:∀n∈aU,n<as.length
 nl:aU.length<=120
 r:∀a∈as,a.b=0->rk a.s<rk a.g
 b1:1<=mb
 b4:mb<=4
 b:∀a∈as,a.b<=mb
theorem U3 {f:Nat->Int}:∀aU:List Nat,(∀n∈aU,0<=f n)->0<=(aU.map f).sum
 |[],_=>by simp
 |n::aU,h0=>by
  rw[aP,cj]
  have:=U3 aU λm hm=>h0 m (aj _ hm)
  have:=h0 n aa
  omega
theorem zqd {l1 l2:List Int}(p:l1.Perm l2):l1.sum=l2.sum:=by
 induction p with
 |nil=>rfl
 |cons x _ ih=>rw[cj,cj,ih]
 |swap x y l=>rw[cj,cj,cj,cj];omega
 |trans _ _ X5 X6=>exact X5.trans X6
theorem Tz {f:Nat->Int}:∀(R aU:List Nat),(∀n∈aU,0<=f n)->R.Nodup->(∀n∈R,n∈aU)->(R.map f).sum<=(aU.map f).sum
 |[],aU,h0,_,_=>by
  have:=U3 aU h0
  simpa using this
 |n::R,aU,h0,nd,hs=>by
  have hn:=hs n aa
  have p:=qO hn
  have e:(aU.map f).sum=f n+((aU.erase n).map f).sum:=by
   have p2:=p.map f
   rw[aP]at p2
   rw[zqd p2,cj]
  obtain⟨n1,n2⟩:=bP.mp nd
  have ih:=Tz R (aU.erase n) (λm hm=>h0 m (List.mem_of_mem_erase hm)) n2 λm hm=>(List.mem_erase_of_ne (λ(z:m=n)=>n1 (by rw[←z];exact hm))).mpr (hs m (aj _ hm))
  rw[aP,cj,e]
  omega
section
variable {many:Nat}{as:List bV}{aU:List Nat}{rk:Nat->Nat}{mb:Nat}
theorem RG.lt (h:RG as aU R)(g:GN many as aU rk mb):∀n∈R,n<as.length:=λn hn=>g.n n (h.m n hn)
theorem RG.len {R:List Nat}(h:RG as aU R)(g:GN many as aU rk mb):R.length<=many:=by
 rw[←ah (f:=aG as)]
 refine Kahn.len_le h.nd λy hy=>?_
 obtain⟨n,q1,rfl⟩:=bm.mp hy
 exact(g.ok _ (j5 (h.lt g n q1))).g
theorem RG.bds {R:List Nat}(h:RG as aU R)(g:GN many as aU rk mb):(0<=sT as R/\sT as R<=sT as aU)/\1<=sB as R/\sB as R<=(many:Int)*(mb:Int):=by
 have hn:=h.lt g
 have hl:=h.len g
 obtain⟨x,hx⟩:=h.w
 obtain⟨r1,r2⟩:=Tx (rank:=rk) g.r hx hn
 have hwp:=dm.mpr h.ne
 have bt:=KG (f:=tN as) (m:=1000000000) (by decide) R λn h=>⟨(g.ok _ (j5 (hn n h))).t0,(g.ok _ (j5 (hn n h))).t1⟩
 have bb:=KG (f:=bN as) (m:=(mb:Int)) (by omega) R λn h=>by
  have:=g.b _ (j5 (hn n h))
  unfold bN
  omega
 have yG:1<=(R.map (bN as)).sum:=by
  by_cases e:(R.map (bN as)).sum=0
  ·have:=r2 e;omega
  ·omega
 have nd:R.Nodup:=fS.of_map (S:=(·≠·)) (aG as) (λa b h e=>h (by rw[e])) h.nd
 refine⟨⟨bt.1,?_⟩,yG,?_⟩
 ·exact Tz R aU (λn hn=>(g.ok _ (j5 (g.n n hn))).t0) nd h.m
 ·have:(mb:Int)*(R.length:Int)<=(mb:Int)*(many:Int):=cD (by omega) (by omega)
  have e:(mb:Int)*(many:Int)=(many:Int)*(mb:Int):=ij _ _
  have:=bb.2
  unfold sB
  omega
theorem GN.st (g:GN many as aU rk mb):0<=sT as aU/\sT as aU<=120000000000:=by
 have bt:=KG (f:=tN as) (m:=1000000000) (by decide) aU λn h=>⟨(g.ok _ (j5 (g.n n h))).t0,(g.ok _ (j5 (g.n n h))).t1⟩
 have:=g.nl
 exact⟨bt.1,by have:=bt.2;unfold sT;omega⟩
theorem GN.D (g:GN many as aU rk mb):1<=(many:Int)*(mb:Int)/\(many:Int)*(mb:Int)<=160:=by
 have h1:=g.m1
 have h2:=g.b1
 have a:(1:Int)*1<=(many:Int)*(mb:Int):=d7 (by omega) (by omega) (by decide) (by omega)
 have b:(many:Int)*(mb:Int)<=40*4:=d7 (by have:=g.m;omega) (by have:=g.b4;omega) (by omega) (by decide)
 omega
theorem S3 {p:Int×Int}{T:Nat->Int}(hk:∀n∈aU,T (aS as n)+dQ as p n<=T (aG as n)):∀{w:List Nat} {a b:Nat},oy (aS as) (aG as) a w b->(∀n∈w,n∈aU)->T a+(w.map (dQ as p)).sum<=T b
 |[],a,b,h,_=>by
  have h:a=b:=h
  subst h
  simp
 |n::w,a,b,h,hn=>by
  have i1:=S3 hk h.2 λm hm=>hn m (aj _ hm)
  have i2:=hk n (hn n aa)
  rw[h.1]at i2
  rw[aP,cj]
  omega
def Kp (as:List bV)(aU:List Nat)(p:Int×Int):Prop:=∃T:Nat->Int,∀n∈aU,T (aS as n)+dQ as p n<=T (aG as n)
theorem Kp.le {p:Int×Int}(h:Kp as aU p){R:List Nat}(hR:RG as aU R):sT as R*p.2<=p.1*sB as R:=by
 obtain⟨T,hT⟩:=h
 obtain⟨x,hx⟩:=hR.w
 have:=S3 hT hx hR.m
 rw[KF]at this
 unfold sT sB
 rw[ij p.1]
 omega
theorem Uj (as:List bV)(p:Int×Int):∀k:Nat,∃M:Int,0<=M/\∀n,n<k->dQ as p n<=M
 |0=>⟨0,eS 0,λn h=>absurd h (by omega)⟩
 |k+1=>by
  obtain⟨M,h1,h2⟩:=Uj as p k
  refine⟨max M (dQ as p k),by omega,λn hn=>?_⟩
  by_cases e:n=k
  ·rw[e];omega
  ·have:=h2 n (by omega);omega
theorem Uk {ns:List D}{p:Int×Int}(g:GN many as aU rk mb)(gG:ns.length=many)(hp:0<p.2)(hz:Sz 8000 p.2) :
  ∃d,ua [bA ns as,fr p,.lst (ao aU)]=some d/\((d=.non/\Kp as aU p)\/∃R,d=.lst (ao R)/\RG as aU R/\p.1*sB as R<sT as R*p.2):=by
 obtain⟨M,oU,hM⟩:=Uj as p as.length
 obtain⟨d,h1,h2⟩:=Tw (ns:=ns) (aU:=aU) (p:=p) gG g.m1 (by have:=g.m;omega) (by have:=g.nl;omega) g.ok (by omega) hz hM oU g.n
 have i0:∀(a b:D),cF (.tup [a,b]) (.int 0)=some a:=λ_ _=>rfl
 have i1:∀(a b:D),cF (.tup [a,b]) (.int 1)=some b:=λ_ _=>rfl
 rcases h2 with⟨T,rfl,h3,_⟩|⟨R,x,rfl,r1,r2,r3,r4,r5⟩
 ·refine⟨.non,?_,.inl ⟨rfl,T,h3⟩⟩
  have e1:fZ false (.str "times") (.str "ring")=some (.bl false):=by with_unfolding_all rfl
  generalize qI many p T=TM at *
  clear h3 hM oU hz hp g
  generalize fr p=F,bA ns as=net,ao aU=nl at *
  unfold ua
  walk_at "mir"
 ·refine⟨.lst (ao R),?_,.inr ⟨R,rfl,⟨r1,⟨x,r2⟩,r3,r4⟩,?_⟩⟩
  ·have e1:fZ false (.str "ring") (.str "ring")=some (.bl true):=by with_unfolding_all rfl
   generalize ao R=rl at *
   clear r1 r2 r3 r4 r5 hM oU hz hp g
   generalize fr p=F,bA ns as=net,ao aU=nl at *
   unfold ua
   walk_at "mir"
  ·rw[KF]at r5
   unfold sT sB
   rw[ij p.1]
   omega
theorem Pk {ns:List D}{R:List Nat}(g:GN many as aU rk mb)(h:RG as aU R):wB [bA ns as,.lst (ao R)]=some (fr (Fq.mk (sT as R) (sB as R))):=by
 have hb:=h.bds g
 have e1:((R.map λ(n:Nat)=>(n:Int)).map (tI as))=R.map (tN as):=by rw[bH];exact fO λn _=>by simp[tI,tN]
 have e2:((R.map λ(n:Nat)=>(n:Int)).map (bI as))=R.map (bN as):=by rw[bH];exact fO λn _=>by simp[bI,bN]
 have en:(R.map λ(n:Nat)=>(n:Int)).map D.int=ao R:=by rw[bH];rfl
 have m:=U1 (ns:=ns) (as:=as) (is:=R.map λ(n:Nat)=>(n:Int)) (by rw[ah];have:=h.len g;have:=g.m;omega) (λa ha=>(g.ok a ha).b) (λi hi=>by
  obtain⟨n,h1,rfl⟩:=bm.mp hi
  have:=h.lt g n h1
  omega) (by rw[e2];have:=hb.2.1;unfold sB at this;omega)
 rw[e1,e2,en]at m
 exact m
theorem ztu {ns:List D}(hl:as.length<=120):∃mb:Nat,kD 4 "most_behind" ya (bA ns as) []=some (.int (mb:Int))/\1<=mb/\(∀a∈as,a.b<=mb)/\∀k:Nat,1<=k->(∀a∈as,a.b<=k)->mb<=k:=by
 have q:qy [some (bA ns as)]=some (.lst ((as.map λa=>(a.b:Int)).map .int)):=by
  rw[bH]
  refine qm (own:=1) (cap:=[]) (g:=gV 0) bL (λa=>D.int (a.b:Int)) as (by rfl) (by omega) λa _=>⟨_,rfl,?_⟩
  exact fb a
 have ad:e6 (.lst [.int 1]) (.lst ((as.map λa=>(a.b:Int)).map .int))=some (.lst ((1::as.map λa=>(a.b:Int)).map .int)):=by rw[Tb (by simp;omega)];rfl
 have mx:∃v:Int,uS [.lst ((1::as.map λa=>(a.b:Int)).map .int)]=some (.int v)/\v∈(1::as.map λa=>(a.b:Int))/\∀z∈(1::as.map λa=>(a.b:Int)),z<=v:=by
  refine⟨_,?_,OQ (ns:=1::as.map λa=>(a.b:Int)) rfl⟩
  show(eL ((1::as.map λa=>(a.b:Int)).map .int)).bind _=_
  rw[CA]
  rfl
 obtain⟨v,v1,v2,v3⟩:=mx
 have XQ:=v3 1 aa
 refine⟨v.toNat,?_,by omega,λa ha=>?_,λk hk Xq=>?_⟩
 ·have e:((v.toNat:Nat):Int)=v:=by omega
  rw[e]
  show ya [bA ns as]=_
  generalize (1::as.map λa=>(a.b:Int)).map D.int=l1 at *
  generalize (as.map λa=>(a.b:Int)).map D.int=l2,bA ns as=net at *
  clear hl v2 v3 XQ e
  unfold ya
  walk_at "mir"
 ·have:=v3 (a.b:Int) (aj _ (bm.mpr ⟨a,ha,rfl⟩))
  omega
 ·rcases aF.mp v2 with h|h
  ·omega
  ·obtain⟨a,ha,e⟩:=bm.mp h
   have:=Xq a ha
   omega
theorem zw0 {ns:List D}(gG:ns.length=many){mb:Nat}(lJ:kD 4 "most_behind" ya (bA ns as) []=some (.int (mb:Int)))(h1:1<=(many:Int)*(mb:Int))(h2:(many:Int)*(mb:Int)<=160)(h3:mb<=4):J6 [bA ns as]=some (fr (Fq.mk 1 ((many:Int)*(mb:Int)*((many:Int)*(mb:Int))))):=by
 have ln:cX [.lst ns]=some (.int (many:Int)):=(wx _).trans (by rw[gG])
 have f5:=OY ns as
 have m1:dk (.int (many:Int)) (.int (mb:Int))=some (.int ((many:Int)*(mb:Int))):=zc0 (by omega) (by omega)
 have hD:0<(many:Int)*(mb:Int)*((many:Int)*(mb:Int))/\(many:Int)*(mb:Int)*((many:Int)*(mb:Int))<=160*160:=⟨dg (by omega) (by omega),d7 h2 h2 (by omega) (by decide)⟩
 generalize (many:Int)*(mb:Int)=D0 at *
 have m2:dk (.int D0) (.int D0)=some (.int (D0*D0)):=zc0 (by omega) (by omega)
 have ra:=CM (t:=1) (b:=D0*D0) (by omega) (qo (w:=25600) (by omega) (by omega) (by decide))
 generalize fr (Fq.mk 1 (D0*D0))=F,bA ns as=net at *
 clear hD h1 h2 h3
 unfold J6
 walk_at "mir"
theorem zv3 {p q:Int×Int}{a b c d:Int}(lp:Fq.Low p)(lq:Fq.Low q)(h1:p.1*b=a*p.2)(h2:q.1*d=c*q.2):(Fq.plus p q).1*(b*d)=(a*d+c*b)*(Fq.plus p q).2:=by
 have v:=Fq.plus_v p q
 generalize Fq.plus p q=s at *
 have i7:p.2*q.2≠0:=lp.mul_ne lq
 obtain⟨p1,p2⟩:=p
 obtain⟨q1,q2⟩:=q
 obtain⟨s1,s2⟩:=s
 dsimp only at *
 apply d5 i7
 have e:(a*d+c*b)*s2*(p2*q2)=(a*p2*(d*q2)+c*q2*(b*p2))*s2:=by grind
 rw[e,←h1,←h2]
 have e2:(p1*b*(d*q2)+q1*d*(b*p2))*s2=(p1*q2+q1*p2)*s2*(b*d):=by grind
 rw[e2,←v]
 grind
def oZ (p q:Int×Int):Int×Int:=Fq.mk (Fq.plus p q).1 ((Fq.plus p q).2*2)
theorem zqe {p q:Int×Int}{n:Nat}(hn:n<=2000)(lp:Fq.Low p)(lq:Fq.Low q)(zp:Fz n p)(zq:Fz n q):Ko [fr p,fr q]=some (fr (oZ p q)):=by
 have pl:=Pv hn lp lq zp zq
 have zz:=Ph lp lq zp zq
 have ll:=Fq.plus_low lp lq
 unfold oZ
 generalize Fq.plus p q=s at *
 have f0:=wU s
 have f1:=oT s
 have m1:dk (.int s.2) (.int 2)=some (.int (s.2*2)):=zc0 (by decide) (by decide)
 have two:Sz 2 (2:Int):=qo (w:=2) (by decide) (by decide) (by decide)
 have ra:=CM (t:=s.1) (b:=s.2*2) (by have:=ll.gt;omega) ((zz.2.mul two).mono (by omega))
 generalize fr (Fq.mk s.1 (s.2*2))=F,fr s=S,fr p=Fp,fr q=Fq' at *
 clear zz ll lp lq zp zq two hn
 unfold Ko
 walk_at "mir"
theorem zv4 {p q:Int×Int}{a b c d:Int}(lp:Fq.Low p)(lq:Fq.Low q)(h1:p.1*b=a*p.2)(h2:q.1*d=c*q.2):(oZ p q).1*(2*b*d)=(a*d+c*b)*(oZ p q).2:=by
 have v:=zv3 lp lq h1 h2
 have m:=Fq.mk_cross (Fq.plus p q).1 ((Fq.plus p q).2*2)
 have g:=(Fq.plus_low lp lq).gt
 unfold oZ
 generalize Fq.mk (Fq.plus p q).1 ((Fq.plus p q).2*2)=m' at *
 generalize Fq.plus p q=s at *
 obtain⟨m1,m2⟩:=m'
 obtain⟨s1,s2⟩:=s
 dsimp only at *
 apply d5 (show s2≠0 by omega)
 have e1:m1*(2*b*d)*s2=m1*(s2*2)*(b*d):=by grind
 have e2:(a*d+c*b)*m2*s2=(a*d+c*b)*s2*m2:=by grind
 rw[e1,e2,←v,m]
 grind
theorem TB {p q:Int×Int}(lp:Fq.Low p)(lq:Fq.Low q):Fq.Low (oZ p q):=Fq.mk_low (by have:=(Fq.plus_low lp lq).gt;omega)
theorem ztv {p q:Int×Int}(lp:Fq.Low p)(lq:Fq.Low q):(oZ p q).2<=p.2*q.2*2:=by
 have h1:=Fq.mk_le_two (t:=(Fq.plus p q).1) (b:=(Fq.plus p q).2*2) (by have:=(Fq.plus_low lp lq).gt;omega)
 have h2:=Fq.mk_le_two (t:=p.1*q.2+q.1*p.2) (b:=p.2*q.2) (lp.mul_ne lq)
 have g1:=(Fq.plus_low lp lq).gt
 have g2:=(TB lp lq).gt
 have g3:=dg lp.gt lq.gt
 have e:(Fq.mk (p.1*q.2+q.1*p.2) (p.2*q.2))=Fq.plus p q:=rfl
 rw[e]at h2
 have e2:Fq.mk (Fq.plus p q).1 ((Fq.plus p q).2*2)=oZ p q:=rfl
 rw[e2]at h1
 omega
end
theorem Sq {c:BF}{b:SF}(N:Nat)(I:Nat->L3.Env->Prop)(st:∀i ρ,I i ρ->∃t,c ρ=some t/\(t=true->i<N/\∃ρ',b ρ=some (.nx ρ')/\I (i+1) ρ')) :
  ∀(k i:Nat) (ρ:L3.Env),I i ρ->i<=N->N<i+k->∃i' ρ',iK c b k ρ=some (.nx ρ')/\I i' ρ'/\c ρ'=some false
 |0,i,ρ,_,h1,h2=>absurd h2 (by omega)
 |k+1,i,ρ,hI,hi,h=>by
  obtain⟨t,h1,h2⟩:=st i ρ hI
  cases t with
  |false=>exact⟨i,ρ,by show(c ρ).bind _=_;rw[h1];rfl,hI,h1⟩
  |true=>
   obtain⟨yJ,ρ',h3,h4⟩:=h2 rfl
   obtain⟨i',ρ2,h6,h7,h8⟩:=Sq N I st k (i+1) ρ' h4 (by omega) (by omega)
   refine⟨i',ρ2,?_,h7,h8⟩
   show(c ρ).bind _=_
   rw[h1]
   show(b ρ).bind _=_
   rw[h3]
   exact h6
def cG:BF:=bNot (tb (λρ=>((aCons (λρ=>((aCons (eV 3) (aCons (λρ=>((aCons (eV 0) (aCons (eV 2) aNil)) ρ).bind λds=>wB (ds++[])) aNil)) ρ).bind λds=>B0 (ds++[])) (aCons (eV 4) aNil)) ρ).bind λds=>B3 (ds++[])))
section
variable {many:Nat}{as:List bV}{aU:List Nat}{rk:Nat->Nat}{mb:Nat}
structure GI (as:List bV)(aU:List Nat)(i:Nat)(R:List Nat)(c:Int×Int):Prop where
 r:RG as aU R
 low:Fq.Low c
 up:∀R',RG as aU R'->sT as R' * c.2<=c.1*sB as R'
 le:c.1<=sT as aU*c.2
 sz:c.2<=((320 ^ i:Nat):Int)
 d:(c.1*sB as R-sT as R*c.2)*((2 ^ i:Nat):Int)<=sT as aU*c.2*sB as R
theorem GI.pos {i:Nat}{R:List Nat}{c:Int×Int}(h:GI as aU i R c)(g:GN many as aU rk mb):0<=c.1:=by
 have hb:=h.r.bds g
 have h1:=h.up R h.r
 have h2:0<=sT as R*c.2:=iy hb.1.1 (by have:=h.low.gt;omega)
 exact mW (b:=sB as R) (by omega) (by omega)
theorem uX {i:Nat}(h:i<=60):((320 ^ i:Nat):Int)<=((320 ^ 60:Nat):Int):=by
 have:=dL (n:=320) (by decide) h
 exact Int.ofNat_le.mpr this
theorem rV:120000000000*((320 ^ 60:Nat):Int)<2 ^ 700:=by decide +kernel
theorem GI.fz {i:Nat}{R:List Nat}{c:Int×Int}(h:GI as aU i R c)(g:GN many as aU rk mb)(hi:i<=60):Fz 700 c:=by
 have h0:=h.pos g
 have h1:=h.low.gt
 have h2:=h.sz
 have h3:=uX hi
 have h4:=rV
 have h5:=h.le
 have h6:sT as aU*c.2<=120000000000*((320 ^ 60:Nat):Int):=d7 g.st.2 (by omega) (by omega) (by decide)
 generalize ((320 ^ 60:Nat):Int)=K at *
 exact⟨qo (w:=120000000000*K) (by omega) (by omega) h4,qo (w:=120000000000*K) (by omega) (by omega) h4⟩
theorem zK {R:List Nat}(h:RG as aU R)(g:GN many as aU rk mb):Fq.Low (Fq.mk (sT as R) (sB as R))/\Fz 700 (Fq.mk (sT as R) (sB as R))/\(Fq.mk (sT as R) (sB as R)).2<=160/\(0<=(Fq.mk (sT as R) (sB as R)).1/\(Fq.mk (sT as R) (sB as R)).1<=120000000000):=by
 obtain⟨⟨t1,t2⟩,b1,b2⟩:=h.bds g
 have hD:=g.D
 have hS:=g.st
 have l:=Fq.mk_low (t:=sT as R) (b:=sB as R) (by omega)
 have k1:=Fq.mk_le_one (t:=sT as R) (b:=sB as R) (by omega)
 have k2:=Fq.mk_le_two (t:=sT as R) (b:=sB as R) (by omega)
 have c:=Fq.mk_cross (sT as R) (sB as R)
 have gg:=l.gt
 have n0:0<=(Fq.mk (sT as R) (sB as R)).1:=by
  refine mW (b:=sB as R) ?_ (by omega)
  rw[c]
  exact iy t1 (by omega)
 exact⟨l,Jh (by omega) (qo (w:=120000000000) (by omega) (by omega) (by decide)) (qo (w:=160) (by omega) (by omega) (by decide)),by omega,n0,by omega⟩
theorem zv5 {T B D0:Int}{c:Int×Int}(lc:Fq.Low c)(hB:0<B)(hD:0<D0):Fq.under (Fq.minus c (Fq.mk T B)) (Fq.mk 1 (D0*D0))=decide ((c.1*B-T*c.2)*(D0*D0)<c.2*B):=by
 have lm:=Fq.mk_low (t:=T) (b:=B) (by omega)
 have AX:0<D0*D0:=dg hD hD
 have lg:=Fq.mk_low (t:=1) (b:=D0*D0) (by omega)
 have cm:=Fq.mk_cross T B
 have cg:=Fq.mk_cross 1 (D0*D0)
 have v:=Fq.minus_v (p:=c) (q:=Fq.mk T B) lm
 have ll:=Fq.minus_low lc lm
 generalize Fq.mk T B=m,Fq.mk 1 (D0*D0)=gp at *
 generalize Fq.minus c m=d at *
 have hm:=lm.gt
 have hc:=lc.gt
 have v2:d.1*(c.2*B)=(c.1*B-T*c.2)*d.2:=by
  obtain⟨d1,d2⟩:=d
  obtain⟨m1,m2⟩:=m
  obtain⟨c1,c2⟩:=c
  dsimp only at *
  apply d5 (show m2≠0 by omega)
  have e1:d1*(c2*B)*m2=d1*(c2*m2)*B:=by grind
  have e2:(c1*B-T*c2)*d2*m2=(c1*m2*B-T*m2*c2)*d2:=by grind
  rw[e1,v,e2,←cm]
  grind
 have e:=Fq.lt_congr (n:=d.1) (d:=d.2) (m:=c.1*B-T*c.2) (e:=c.2*B) (n':=gp.1) (d':=gp.2) (m':=1) (e':=D0*D0) ll.gt (dg hc hB) lg.gt AX v2 cg
 unfold Fq.under
 refine decide_eq_decide.mpr (e.trans ?_)
 rw[mX]
theorem ztw {ns:List D}(g:GN many as aU rk mb)(gG:ns.length=many)(lJ:kD 4 "most_behind" ya (bA ns as) []=some (.int (mb:Int))) :
  ∃d,uc [bA ns as,.lst (ao aU)]=some d/\((d=.non/\∀R,¬RG as aU R)\/∃R,d=.lst (ao R)/\RG as aU R/\∀R',RG as aU R'->sT as R' * sB as R<=sT as R*sB as R'):=by
 obtain⟨d0,a1,a2⟩:=Uk (ns:=ns) (p:=(-1,1)) g gG (by decide) (qo (w:=1) (by decide) (by decide) (by decide))
 replace a1:ua [bA ns as,.tup [.int (-1),.int 1],.lst (ao aU)]=some d0:=a1
 have hD:=g.D
 have hS:=g.st
 rcases a2 with⟨rfl,hK⟩|⟨R0,rfl,Cg,_⟩
 ·refine⟨.non,?_,.inl ⟨rfl,λR hR=>?_⟩⟩
  ·generalize bA ns as=net at *
   generalize ao aU=nl at *
   clear g hK hD hS gG lJ
   unfold uc
   walk_at "mir"
  ·have h1:=hK.le hR
   have h2:=hR.bds g
   dsimp only at h1
   omega
 ·have gp:=zw0 (as:=as) gG lJ hD.1 hD.2 g.b4
  obtain⟨D0,Fl⟩:∃D0:Int,D0=(many:Int)*(mb:Int):=⟨_,rfl⟩
  rw[←Fl]at gp hD
  have AX:0<D0*D0/\D0*D0<=160*160:=⟨dg (by omega) (by omega),d7 hD.2 hD.2 (by omega) (by decide)⟩
  have zg:Fz 700 (Fq.mk 1 (D0*D0)):=Jh (by omega) (qo (w:=1) (by decide) (by decide) (by decide)) (qo (w:=25600) (by omega) (by omega) (by decide))
  have vO:∀(i:Nat) (R:List Nat) (c:Int×Int) (y1 y5 y6:Option D),GI as aU i R c->i<=60->cG [some (bA ns as),y1,some (.lst (ao R)),some (fr c),some (fr (Fq.mk 1 (D0*D0))),y5,y6]=some (!decide ((c.1*sB as R-sT as R*c.2)*(D0*D0)<c.2*sB as R)):=by
   intro i R c y1 y5 y6 h hi
   have hb:=h.r.bds g
   obtain⟨lm,zm,_⟩:=zK h.r g
   have me:=Pk (ns:=ns) g h.r
   have zc:=h.fz g hi
   have mi:=Uh (n:=700) (by decide) h.low lm zc zm
   have T8:=Tv h.low lm zc zm
   have un:=Ug (p:=Fq.minus c (Fq.mk (sT as R) (sB as R))) (q:=Fq.mk 1 (D0*D0)) (T8.mono (by decide)) (zg.mono (by decide))
   rw[zv5 h.low (by omega) (by omega)]at un
   generalize decide ((c.1*sB as R-sT as R*c.2)*(D0*D0)<c.2*sB as R)=bb,fr (Fq.minus c (Fq.mk (sT as R) (sB as R)))=F1,fr (Fq.mk (sT as R) (sB as R))=F2,fr (Fq.mk 1 (D0*D0))=F3,fr c=F4,ao R=rl,bA ns as=net at *
   clear T8 zc zm lm hb h hi gp zg AX hD Fl Cg a1 hS g lJ gG
   unfold cG
   walk_at "mir"
  have lp:=Sq (c:=cG) (b:=uh) 55
   (λi ρ=>i<=55/\∃(R:List Nat) (c:Int×Int) (y5 y6:Option D),ρ=[some (bA ns as),some (.lst (ao aU)),some (.lst (ao R)),some (fr c),some (fr (Fq.mk 1 (D0*D0))),y5,y6]/\GI as aU i R c) (by
    rintro i ρ ⟨hi,R,c,y5,y6,rfl,h⟩
    refine⟨_,vO i R c _ y5 y6 h (by omega),λht=>?_⟩
    obtain⟨⟨t1,t2⟩,b1,b2⟩:=h.r.bds g
    have hc:=h.low.gt
    have Rg:¬(c.1*sB as R-sT as R*c.2)*(D0*D0)<c.2*sB as R:=by simpa using ht
    have stop:=ztt (D:=D0) (P:=((2 ^ i:Nat):Int)) (by omega) hc (by omega) hS.1 (by have:=Nat.pow_pos (n:=i) (show 0<2 by decide);omega) h.d
    have yJ:i<55:=by
     apply Nat.not_le.mp
     intro z
     have h1:=dL (n:=2) (by decide) z
     have h2:sT as aU*(D0*D0)<=120000000000*(160*160):=d7 hS.2 AX.2 (by omega) (by decide)
     have h3:(2:Nat) ^ 55=36028797018963968:=by decide
     omega
    refine⟨yJ,?_⟩
    obtain⟨lm,zm,rq,_⟩:=zK h.r g
    have me:=Pk (ns:=ns) g h.r
    have zc:=h.fz g (by omega)
    have md:=zqe (n:=700) (by decide) lm h.low zm zc
    have cm:=Fq.mk_cross (sT as R) (sB as R)
    have v:=zv4 (a:=sT as R) (b:=sB as R) (c:=c.1) (d:=c.2) lm h.low cm rfl
    have lw:=TB lm h.low
    have RD:=ztv lm h.low
    have Q8:=lm.gt
    generalize Fq.mk (sT as R) (sB as R)=m at *
    generalize oZ m c=w at *
    have hw:=lw.gt
    have BV:w.2<=((320 ^ (i+1):Nat):Int):=by
     have e1:m.2*c.2*2<=160*c.2*2:=by
      have:=ba rq (cS hc)
      omega
     have e2:=h.sz
     rw[jJ]
     omega
    have zZ:c.2<=((320 ^ (i+1):Nat):Int):=by
     have e2:=h.sz
     rw[jJ]
     omega
    have p2:((2 ^ (i+1):Nat):Int)=2*((2 ^ i:Nat):Int):=by rw[jJ];omega
    have M6:Sz 8000 w.2:=by
     have h3:=uX (i:=i+1) (by omega)
     have h4:=rV
     generalize ((320 ^ 60:Nat):Int)=K at *
     exact(qo (n:=700) (w:=120000000000*K) (by omega) (by omega) h4).mono (by decide)
    obtain⟨d,ab,wV⟩:=Uk (ns:=ns) (p:=w) g gG hw M6
    rcases wV with⟨rfl,hK⟩|⟨R2,rfl,Ci,uF⟩
    ·refine⟨[some (bA ns as),some (.lst (ao aU)),some (.lst (ao R)),some (fr w),some (fr (Fq.mk 1 (D0*D0))),some (fr w),some .non],?_,by omega,R,w,_,_,rfl,⟨h.r,lw,λR' oV=>hK.le oV,?_,BV,?_⟩⟩
     ·generalize fr (Fq.mk 1 (D0*D0))=F3 at *
      generalize fr c=F4,fr w=F5,fr m=F6,ao R=rl,ao aU=nl,bA ns as=net at *
      clear M6 p2 zZ BV hw RD lw v cm Q8 zc rq zm lm yJ stop Rg hc t1 t2 b1 b2 ht h hi vO zg AX Fl gp Cg a1 hS g lJ gG hD hK
      unfold uh
      walk_at "mir"
     ·refine zv1 (T:=sT as R) (B:=sB as R) hc (by omega) hw ?_ h.le v
      have:sT as aU*1<=sT as aU*sB as R:=cD (by omega) hS.1
      omega
     ·rw[p2]
      exact zts hc hw v h.d
    ·refine⟨[some (bA ns as),some (.lst (ao aU)),some (.lst (ao R2)),some (fr c),some (fr (Fq.mk 1 (D0*D0))),some (fr w),some (.lst (ao R2))],?_,by omega,R2,c,_,_,rfl,⟨Ci,h.low,h.up,h.le,zZ,?_⟩⟩
     ·generalize fr (Fq.mk 1 (D0*D0))=F3 at *
      generalize fr c=F4,fr w=F5,fr m=F6,ao R=rl at *
      generalize ao R2=rl2,ao aU=nl,bA ns as=net at *
      clear M6 p2 zZ BV hw RD lw v cm Q8 zc rq zm lm yJ stop Rg hc t1 t2 b1 b2 ht h hi vO zg AX Fl gp Cg a1 hS g lJ gG hD uF Ci
      unfold uh
      walk_at "mir"
     ·rw[p2]
      have Xa:=Ci.bds g
      exact zwz hc hw (by omega) (by omega) (by have:=Nat.pow_pos (n:=i) (show 0<2 by decide);omega) v uF h.d) mK 0 [some (bA ns as),some (.lst (ao aU)),some (.lst (ao R0)),some (fr (sT as aU,1)),some (fr (Fq.mk 1 (D0*D0))),none,none]
   ⟨by omega,R0,(sT as aU,1),none,none,rfl,⟨Cg,zJ _,λR' oV=>by
    have hb:=oV.bds g
    have:sT as aU*1<=sT as aU*sB as R':=cD (by omega) hS.1
    dsimp only
    omega,by dsimp only;omega,by simp,by
    have hb:=Cg.bds g
    dsimp only
    simp
    omega⟩⟩ (by omega) (by have:=KB (n:=60) (by omega);omega)
  obtain⟨i,ρ',l1,⟨hi,R,c,y5,y6,rfl,h⟩,hc⟩:=lp
  rw[vO i R c _ y5 y6 h (by omega)]at hc
  have lt:(c.1*sB as R-sT as R*c.2)*(D0*D0)<c.2*sB as R:=by simpa using hc
  have hb:=h.r.bds g
  refine⟨.lst (ao R),?_,.inr ⟨R,rfl,h.r,λR' oV=>?_⟩⟩
  ·have sm:=Jd (aU.map (tN as))
   have en:(aU.map λ(n:Nat)=>(n:Int)).map D.int=ao aU:=by rw[bH];rfl
   have e1:((aU.map λ(n:Nat)=>(n:Int)).map λi=>(aN as i.toNat).t)=aU.map (tN as):=by rw[bH];exact fO λn _=>by simp[tN]
   have q1:=Jc (ns:=ns) (as:=as) (is:=aU.map λ(n:Nat)=>(n:Int)) (fld:="time") (f:=λa=>a.t) (q:=RL) rfl ft (by rw[ah];have:=g.nl;omega) (λi hi=>by
    obtain⟨n,h1,rfl⟩:=bm.mp hi
    have:=g.n n h1
    omega) [some (bA ns as),some (.lst (ao aU)),some (.lst (ao R0)),none,none,none,none] rfl (by rw[en];rfl)
   rw[e1]at q1
   have es:(aU.map (tN as)).sum=sT as aU:=rfl
   rw[es]at sm
   have ef:fr (sT as aU,1)=.tup [.int (sT as aU),.int 1]:=rfl
   rw[ef]at l1
   unfold cG at l1
   clear e1 en es ef hb lt hc h hi vO zg AX Fl Cg hS g lJ gG hD
   generalize fr (Fq.mk 1 (D0*D0))=F3,fr c=F4,sT as aU=S,(aU.map (tN as)).map D.int=tl,ao R=rl at *
   generalize ao R0=rl0,ao aU=nl,bA ns as=net at *
   unfold uc gM
   generalize (bNot (tb (λρ=>((aCons (λρ=>((aCons (eV 3) (aCons (λρ=>((aCons (eV 0) (aCons (eV 2) aNil)) ρ).bind λds=>wB (ds++[])) aNil)) ρ).bind λds=>B0 (ds++[])) (aCons (eV 4) aNil)) ρ).bind λds=>B3 (ds++[]))))=cc at *
   walk_at "mir"
  ·have JD:=oV.bds g
   exact zv0 (D:=D0) h.low.gt (by omega) (by omega) (by omega) (by omega) lt (h.up R' oV)
theorem Ul {ns:List D}(g:GN many as aU rk mb)(gG:ns.length=many)(lJ:kD 4 "most_behind" ya (bA ns as) []=some (.int (mb:Int))) :
  ∃d,vm [bA ns as,.lst (ao aU)]=some d/\((d=.non/\∀R,¬RG as aU R)\/∃(R:List Nat) (q:Int×Int) (T:Nat->Int),d=.tup [fr q,.lst (ao R),qI many q T]/\RG as aU R/\q=Fq.mk (sT as R) (sB as R)/\(∀R',RG as aU R'->sT as R' * q.2<=q.1*sB as R')/\(∀n∈aU,T (aS as n)+dQ as q n<=T (aG as n))/\∀x,0<=T x/\T x<=1000000000000000):=by
 obtain⟨d0,a1,a2⟩:=ztw g gG lJ
 rcases a2 with⟨rfl,hN⟩|⟨R,rfl,hR,FD⟩
 ·refine⟨.non,?_,.inl ⟨rfl,hN⟩⟩
  generalize bA ns as=net,ao aU=nl at *
  clear g hN gG lJ
  unfold vm
  walk_at "mir"
 ·have me:=Pk (ns:=ns) g hR
  obtain⟨lm,zm,rq,n0,n1⟩:=zK hR g
  have cm:=Fq.mk_cross (sT as R) (sB as R)
  have hb:=hR.bds g
  obtain⟨q,hq⟩:∃q,q=Fq.mk (sT as R) (sB as R):=⟨_,rfl⟩
  rw[←hq]at me lm zm rq n0 n1 cm
  have lg:=lm.gt
  have hM:∀n,n<as.length->dQ as q n<=160000000000:=λn hn=>by
   have o:=g.ok _ (j5 hn)
   unfold dQ
   have g1:(aN as n).t*q.2<=1000000000*160:=d7 o.t1 rq (by omega) (by decide)
   have g2:0<=((aN as n).b:Int)*q.1:=iy (by omega) n0
   omega
  obtain⟨d,t1,t2⟩:=Tw (ns:=ns) (aU:=aU) (p:=q) gG g.m1 (by have:=g.m;omega) (by have:=g.nl;omega) g.ok (by omega) (zm.2.mono (by decide)) hM (by decide) g.n
  have sP:∀R',RG as aU R'->sT as R' * q.2<=q.1*sB as R':=λR' oV=>zv2 (by omega) lg cm (FD R' oV)
  rcases t2 with⟨T,rfl,k1,k2⟩|⟨R2,x,rfl,r1,r2,r3,r4,r5⟩
  ·refine⟨.tup [fr q,.lst (ao R),qI many q T],?_,.inr ⟨R,q,T,rfl,hR,hq,sP,k1,λx=>⟨(k2 x).1,?_⟩⟩⟩
   ·have i1:∀(a b:D),cF (.tup [a,b]) (.int 1)=some b:=λ_ _=>rfl
    generalize qI many q T=TM,fr q=F,ao R=rl,ao aU=nl,bA ns as=net at *
    clear k1 k2 sP hM lg hb cm n0 n1 rq zm lm FD hR hq g lJ gG
    unfold vm
    walk_at "mir"
   ·have:=(k2 x).2
    have b1:(aU.length:Int)*160000000000<=120*160000000000:=by have:=g.nl;omega
    have b2:(many:Int)*((aU.length:Int)*160000000000)<=40*(120*160000000000):=d7 (by have:=g.m;omega) b1 (by omega) (by decide)
    omega
  ·exfalso
   rw[KF]at r5
   have:=sP R2 ⟨r1,⟨x,r2⟩,r3,r4⟩
   unfold sT sB at this
   rw[ij q.1]at this
   omega
theorem ztx {ns:List D}{as:List bV}(g:GN many as (aw as.length) rk mb)(gG:ns.length=many){d:D}(h:vm [bA ns as,.lst (ao (aw as.length))]=some d):jb [bA ns as]=some d:=by
 have la:cX [.lst (as.map bL)]=some (.int (as.length:Int)):=(wx _).trans (by rw[ah])
 have Jx:=CB ns as
 have lr:kr [.int (as.length:Int)]=some (.lst (ao (aw as.length))):=by
  show(if 0<=(as.length:Int)/\(as.length:Int)<=16777216 then some (D.lst (fJ 0 (as.length:Int).toNat))else none)=_
  rw[if_pos ⟨by omega,by have:=g.al;omega⟩]
  unfold fJ ao
  simp
 generalize as.map bL=al,bA ns as=net,ao (aw as.length)=nl at *
 clear g
 unfold jb
 walk_at "mir"
end
theorem Ux {α:Type}[DecidableEq α]:∀{F L:List α},F.Nodup->L.Nodup->(∀x,x∈F↔x∈L)->F.Perm L
 |[],L,_,_,h=>by
  cases L with
  |nil=>exact .refl _
  |cons y L=>exact absurd ((h y).mpr aa) (by simp)
 |x::F,L,n1,n2,h=>by
  obtain⟨m1,m2⟩:=bP.mp n1
  have hx:=(h x).mp aa
  refine .trans (.cons x (Ux m2 (n2.erase x) λy=>?_)) (qO hx).symm
  rw[n2.mem_erase_iff]
  constructor
  ·exactλhy=>⟨λz=>m1 (z▸hy),(h y).mp (aj _ hy)⟩
  ·rintro⟨h1,h2⟩
   rcases aF.mp ((h y).mpr h2)with z|z
   ·exact absurd z h1
   ·exact z
inductive sE (as:List bV)(g:Nat):Nat->Prop
 |self:sE as g g
 |step {a:bV}:a∈as->sE as g a.g->sE as g a.s
structure t6 (as:List bV)(g:Nat)(F:List Nat):Prop where
 nd:F.Nodup
 st:g∈F
 ok:∀x∈F,sE as g x
def lH (as:List bV)(F:List Nat):Prop:=∀a∈as,a.g∈F->a.s∈F
theorem t6.all {as:List bV}{g:Nat}{F:List Nat}(h:t6 as g F)(hc:lH as F)(x:Nat):x∈F↔sE as g x:=by
 refine⟨h.ok x,λr=>?_⟩
 induction r with
 |self=>exact h.st
 |step ha _ ih=>exact hc _ ha ih
theorem Ki (F:List Nat):eL (ao F)=some (F.map λ(x:Nat)=>(x:Int)):=by
 unfold ao
 induction F with
 |nil=>rfl
 |cons x F ih=>show(eL _).bind _=_;rw[ih];rfl
theorem zob {F L:List Nat}(h:F.Perm L)(hl:L.length<64):lC [.lst (ao F)]=lC [.lst (ao L)]:=by
 show(eL (ao F)).bind _=(eL (ao L)).bind _
 rw[Ki,Ki]
 simp only[cz,ah]
 rw[h.length_eq]
 have e:mD (F.map λ(x:Nat)=>(x:Int))=mD (L.map λ(x:Nat)=>(x:Int)):=J9 ((IE _).trans ((h.map _).trans (IE _).symm)) (jv _) (jv _)
 rw[e]
def fL (F:List Nat)(a:bV):List Nat:=if a.g∈F/\a.s∉F then F++[a.s]else F
theorem Uy {as:List bV}{g:Nat}{F:List Nat}{a:bV}(h:t6 as g F)(ha:a∈as):t6 as g (fL F a):=by
 unfold fL
 split
 ·next hc=>
  refine⟨br.mpr ⟨h.nd,by simp,λx hx y hy=>?_⟩,bx _ h.st,λx hx=>?_⟩
  ·rw[az.mp hy]
   exactλz=>hc.2 (z▸hx)
  ·rcases bg.mp hx with hx|hx
   ·exact h.ok x hx
   ·rw[az.mp hx];exact .step ha (h.ok _ hc.1)
 ·exact h
theorem O0 {F:List Nat}{a:bV}:∀x∈F,x∈fL F a:=λx hx=>by
 unfold fL
 split
 ·exact bx _ hx
 ·exact hx
def pass (as:List bV)(F:List Nat):List Nat:=as.foldl fL F
theorem KA {as0:List bV}{g:Nat}:∀(as:List bV) (F:List Nat),(∀a∈as,a∈as0)->t6 as0 g F->t6 as0 g (pass as F)/\(∀x∈F,x∈pass as F)/\(∀x∈pass as F,x∈F\/∃a∈as,a.s=x)
 |[],F,_,h=>⟨h,λ_ hx=>hx,λ_ hx=>.inl hx⟩
 |a::as,F,hs,h=>by
  obtain⟨i1,i2,i3⟩:=KA as (fL F a) (λb hb=>hs b (aj _ hb)) (Uy h (hs a aa))
  refine⟨i1,λx hx=>i2 x (O0 x hx),λx hx=>?_⟩
  rcases i3 x hx with h1|⟨b,hb,h1⟩
  ·unfold fL at h1
   split at h1
   ·rcases bg.mp h1 with h1|h1
    ·exact .inl h1
    ·exact .inr ⟨a,aa,(az.mp h1).symm⟩
   ·exact .inl h1
  ·exact .inr ⟨b,aj _ hb,h1⟩
theorem zqf (F:List Nat)(a:bV):F.length<=(fL F a).length/\((fL F a).length=F.length->fL F a=F/\(a.g∈F->a.s∈F)):=by
 unfold fL
 split
 ·rw[aZ];exact⟨vL _ _,λh=>absurd h (by simp)⟩
 ·next hc=>exact⟨aM _,λ_=>⟨rfl,λh=>Classical.byContradiction λz=>hc ⟨h,z⟩⟩⟩
theorem TC:∀(as:List bV) (F:List Nat),F.length<=(pass as F).length/\((pass as F).length=F.length->pass as F=F/\lH as F)
 |[],F=>⟨aM _,λ_=>⟨rfl,λa ha=>(by cases ha)⟩⟩
 |a::as,F=>by
  obtain⟨l1,l2⟩:=zqf F a
  obtain⟨i1,i2⟩:=TC as (fL F a)
  refine⟨cB l1 i1,λh=>?_⟩
  have h:(pass as (fL F a)).length=F.length:=h
  obtain⟨e1,e2⟩:=l2 (by omega)
  rw[e1]at i2 h
  obtain⟨e3,e4⟩:=i2 h
  refine⟨by show pass as (fL F a)=F;rw[e1,e3],λb hb=>?_⟩
  rcases aF.mp hb with rfl|hb
  ·exact e2
  ·exact e4 b hb
theorem TD {g:Nat}{as0:List bV}:∀(bs:List bV) (F:List Nat),(∀a∈bs,a∈as0)->t6 as0 g F->∀a∈bs,a.g∈F->a.s∈pass bs F
 |b::bs,F,hs,h,a,ha,hg=>by
  have h1:=Uy h (hs b aa)
  obtain⟨_,p2,_⟩:=KA bs (fL F b) (λc hc=>hs c (aj _ hc)) h1
  rcases aF.mp ha with rfl|ha
  ·refine p2 _ ?_
   unfold fL
   by_cases hc:a.s∈F
   ·rw[if_neg (λz=>z.2 hc)];exact hc
   ·rw[if_pos ⟨hg,hc⟩];exact aH _ (az.mpr rfl)
  ·exact TD bs (fL F b) (λc hc=>hs c (aj _ hc)) h1 a ha (O0 _ hg)
theorem TF:∀(bs:List bV) (F:List Nat),∃e,pass bs F=F++e
 |[],F=>⟨[],by simp[pass]⟩
 |b::bs,F=>by
  obtain⟨e,he⟩:=TF bs (fL F b)
  show∃e,pass bs (fL F b)=F++e
  rw[he]
  unfold fL
  split
  ·exact⟨[b.s]++e,by simp⟩
  ·exact⟨e,rfl⟩
theorem vz (neg:Bool)(n:Nat)(out:List Nat):inD neg (.int (n:Int)) (.lst (ao out))=some (.bl (if neg then !decide (n∈out)else decide (n∈out))):=by
 have hs:(ao out).all D.sc=true:=by
  unfold ao
  rw[lN]
  exact eO.mpr λx _=>rfl
 have hi:yP (.int (n:Int)) (ao out)=decide (n∈out):=by
  unfold yP ao
  rw[List.any_map]
  clear hs
  induction out with
  |nil=>rfl
  |cons x out ih=>
   rw[dH,ih]
   show(((x:Int)==(n:Int)) || decide (n∈out))=_
   by_cases h:x=n
   ·subst h;simp
   ·have h':¬(x:Int)=(n:Int):=by omega
    have h2:¬n=x:=λz=>h z.symm
    simp[h',h2]
 show(if _ then _ else _)=_
 rw[if_pos ⟨rfl,hs⟩,hi]
def into (as:List bV)(g:Nat):List Nat:=(as.zipIdx.filter λp=>decide (p.1.g=g)).map (·.2)
theorem zv6 {ns:List D}{as:List bV}(hl:as.length<=1000)(g:Nat):IF [bA ns as,.int (g:Int)]=some (.lst (ao (into as g))):=by
 have q:∀r:L3.Env,r[0]?.join=some (bA ns as)->r[1]?.join=some (.int (g:Int))->Og r=some (.lst (ao (into as g))):=λr hr XC=>by
  have e:(λρ=>((aCons (e1 (cC [4] "arrows") (eV 0)) aNil) ρ).bind λds=>match ds with|[.lst xs]=>some (eA 0 xs)|_=>none) r=some (as.zipIdx.map λp=>D.tup [.int (p.2:Int),bL p.1]):=by
   have:eV 0 r=some (bA ns as):=hr
   have e2:e1 (cC [4] "arrows") (eV 0) r=some (.lst (as.map bL)):=by unfold e1;rw[this];rfl
   show((aCons (e1 (cC [4] "arrows") (eV 0)) aNil) r).bind _=_
   unfold aCons
   rw[e2]
   show some (eA 0 (as.map bL))=_
   rw[IM bL]
  have hc:fw r [1]=[some (.int (g:Int))]:=by unfold fw;simp[XC]
  have:=xP (own:=2) (cap:=[1]) (fi:=λρ=>((aCons (e1 (cC [4] "arrows") (eV 0)) aNil) ρ).bind λds=>match ds with|[.lst xs]=>some (eA 0 xs)|_=>none) (g:=gT (gsCons (gV 0) (gsCons (gV 1) gsNil))) (p:=tb (e2 (fZ false) (e1 (cC [0,1,2,3] "goal") (eV 1)) (eV 2))) (f:=eV 0) (λp:bV×Nat=>D.tup [.int (p.2:Int),bL p.1]) (λp=>decide (p.1.g=g)) (λp=>D.int (p.2:Int)) as.zipIdx e (by simp;omega) (λp _=>by
    refine⟨_,rfl,?_,λ_=>rfl⟩
    rw[hc]
    have:=fg p.1
    have hd:decide ((p.1.g:Int)=(g:Int))=decide (p.1.g=g):=by
     by_cases h:p.1.g=g
     ·simp[h]
     ·have:¬(p.1.g:Int)=(g:Int):=by omega
      simp[h,this]
    rw[←hd]
    walk_at "mir")
  rw[show Og r=_ from this]
  unfold into ao
  rw[bH]
  rfl
 unfold IF
 clear hl
 walk_at "mir"
theorem zty {m:aX}{f:List D->Option D}{ns:List D}{as:List bV}{ds:List D}(h:(["names","arrows"]:List aX).contains m=false):kD 4 m f (bA ns as) ds=f (bA ns as::ds):=by
 show(if 4=4/\(["names","arrows"]:List aX).contains m=false then f (bA ns as::ds)else none)=_
 rw[if_pos ⟨rfl,h⟩]
theorem U4 {ns:List D}{as:List bV}{g d here:Nat}:∀(qs:List (bV×Nat)) (F:List Nat) (x5:Option D),here∈F->(∀p∈qs,as[p.2]?=some p.1/\p.1.g=here)->F.length+qs.length<=10000 ->
  ∃y5,fQ (gV 5) uz (qs.map λp=>D.int (p.2:Int)) [some (bA ns as),some (.int (g:Int)),some (.lst (ao F)),some (.int (d:Int)),some (.int (here:Int)),x5]=some (.nx [some (bA ns as),some (.int (g:Int)),some (.lst (ao (pass (qs.map (·.1)) F))),some (.int (d:Int)),some (.int (here:Int)),y5])
 |[],F,x5,_,_,_=>⟨x5,rfl⟩
 |p::qs,F,x5,hh,hq,hl=>by
  obtain⟨M0,FJ⟩:=hq p aa
  have dB:(fL F p.1).length<=F.length+1:=by unfold fL;split<;>simp
  obtain⟨y5,hy⟩:=U4 (ns:=ns) (g:=g) (d:=d) qs (fL F p.1) (some (.int (p.2:Int))) (O0 _ hh) (λq uM=>hq q (aj _ uM)) (by rw[aI]at hl;omega)
  refine⟨y5,?_⟩
  have step:uz [some (bA ns as),some (.int (g:Int)),some (.lst (ao F)),some (.int (d:Int)),some (.int (here:Int)),some (.int (p.2:Int))]=some (.nx [some (bA ns as),some (.int (g:Int)),some (.lst (ao (fL F p.1))),some (.int (d:Int)),some (.int (here:Int)),some (.int (p.2:Int))]):=by
   have n1:=vz true p.1.s F
   have f4:cC [4] "arrows" (bA ns as)=some (.lst (as.map bL)):=rfl
   have i1:cF (.lst (as.map bL)) (.int (p.2:Int))=some (bL p.1):=ui (by rw[aD,M0];rfl)
   have g1:=fs p.1
   have hz:(ao F).length<16777216:=by unfold ao;rw[ah];rw[aI]at hl;omega
   by_cases hs:p.1.s∈F
   ·have e:fL F p.1=F:=by unfold fL;rw[if_neg λz=>z.2 hs]
    rw[e]
    rw[decide_eq_true hs]at n1
    generalize bA ns as=net,ao F=fs at *
    unfold uz
    clear hy hq hl M0 FJ dB hs hh e
    walk_at "mir"
   ·have e:ao (fL F p.1)=ao F++[.int (p.1.s:Int)]:=by
     unfold fL
     rw[if_pos ⟨by rw[FJ];exact hh,hs⟩]
     simp[ao]
    rw[e]
    rw[decide_eq_false hs]at n1
    generalize bA ns as=net,ao F=fs at *
    unfold uz
    clear hy hq hl M0 FJ dB hs hh e
    walk_at "mir"
  show(uz [some (bA ns as),some (.int (g:Int)),some (.lst (ao F)),some (.int (d:Int)),some (.int (here:Int)),some (.int (p.2:Int))]).bind _=_
  rw[step]
  exact hy
def Nq (ρ:L3.Env):Nat:=match ρ with
 |[_,_,_,some (.int d),_,_]=>(1000-d).toNat
 |_=>0
theorem ztz {ns:List D}{as:List bV}{many g:Nat}(hm:many<=40)(hl:as.length<=120)(hs:∀a∈as,a.s<many)(hg:g<many):∃F:List Nat,t6 as g F/\lH as F/\(∀x∈F,x<many)/\u0 [bA ns as,.int (g:Int)]=lC [.lst (ao F)]:=by
 obtain⟨ρ',h1,hI,hc⟩:=Ov (c:=tb (e2 nD (eV 3) (eN cX (aCons (eV 2) aNil)))) (b:=Oh)
  (λρ=>∃(F:List Nat) (d:Nat) (x4 x5:Option D),ρ=[some (bA ns as),some (.int (g:Int)),some (.lst (ao F)),some (.int (d:Int)),x4,x5]/\t6 as g F/\(∀x∈F,x<many)/\d<=F.length/\∀i,i<d->∀a∈as,F[i]?=some a.g->a.s∈F) Nq (by
   rintro ρ ⟨F,d,x4,x5,rfl,hF,gK,hd,oC⟩
   have QC:=Kahn.len_le hF.nd gK
   have dB:(ao F).length=F.length:=by simp[ao]
   refine⟨decide (d<F.length),?_,λFB=>?_⟩
   ·have e:decide ((d:Int)<((ao F).length:Int))=decide (d<F.length):=by rw[dB];by_cases h:d<F.length<;>simp[h]<;>omega
    rw[←e]
    generalize bA ns as=net,ao F=fs at *
    clear hF gK hd oC QC dB e
    walk_at "mir"
   ·have uJ:d<F.length:=by simpa using FB
    obtain⟨here,hh⟩:∃here,F[d]?=some here:=⟨_,aT uJ⟩
    have MP:here∈F:=bo.mpr ⟨_,hh⟩
    have in1:=zv6 (ns:=ns) (as:=as) (by omega) here
    have X8:=zty (m:="into") (f:=IF) (ns:=ns) (as:=as) (ds:=[.int (here:Int)]) (by decide +kernel)
    rw[in1]at X8
    have M1:∀p∈as.zipIdx.filter (λp=>decide (p.1.g=here)),as[p.2]?=some p.1/\p.1.g=here:=λp hp=>⟨UY (bB.mp hp).1,by simpa using(bB.mp hp).2⟩
    have iW:(as.zipIdx.filter (λp=>decide (p.1.g=here))).length<=120:=cB (eZ _ _) (by rw[kN];exact hl)
    have hn:ao (into as here)=(as.zipIdx.filter (λp=>decide (p.1.g=here))).map λp=>D.int (p.2:Int):=by unfold into ao;rw[bH];rfl
    have kZ:∀a∈(as.zipIdx.filter (λp=>decide (p.1.g=here))).map (·.1),a∈as:=λa ha=>by
     obtain⟨p,hp,rfl⟩:=bm.mp ha
     exact bo.mpr ⟨_,(M1 p hp).1⟩
    have rf:∀a∈as,a.g=here->a∈(as.zipIdx.filter (λp=>decide (p.1.g=here))).map (·.1):=λa ha uG=>by
     have:=Sm (λa:bV=>decide (a.g=here)) as 0
     rw[this]
     exact bB.mpr ⟨ha,by simpa using uG⟩
    obtain⟨y5,hy⟩:=U4 (ns:=ns) (as:=as) (g:=g) (d:=d) (here:=here) _ F x5 MP M1 (by omega)
    generalize (as.zipIdx.filter (λp=>decide (p.1.g=here))).map (·.1)=bs at *
    obtain⟨p1,p2,p3⟩:=KA bs F kZ hF
    obtain⟨ext,sN⟩:=TF bs F
    rw[←hn]at hy
    refine⟨[some (bA ns as),some (.int (g:Int)),some (.lst (ao (pass bs F))),some (.int ((d+1:Nat):Int)),some (.int (here:Int)),y5],.inl ?_,⟨pass bs F,d+1,_,_,rfl,p1,λx hx=>?_,?_,λi hi a ha uG=>?_⟩,?_⟩
    ·have i1:cF (.lst (ao F)) (.int (d:Int))=some (.int (here:Int)):=ui (by unfold ao;rw[aD,hh];rfl)
     have e1:((d+1:Nat):Int)=(d:Int)+1:=by omega
     rw[e1]
     generalize ao (pass bs F)=f2,ao F=f1,ao (into as here)=ms,bA ns as=net at *
     unfold Oh vA i2
     clear hF gK hd oC QC dB FB uJ hh MP in1 M1 iW hn kZ rf p1 p2 p3 sN e1
     walk_at "mir"
    ·rcases p3 x hx with h|⟨a,ha,rfl⟩
     ·exact gK x h
     ·exact hs a (kZ a ha)
    ·rw[sN,aZ];omega
    ·by_cases mB:i<d
     ·refine p2 _ (oC i mB a ha ?_)
      rw[sN,cE (by omega)]at uG
      exact uG
     ·obtain rfl:i=d:=by omega
      rw[sN,cE uJ,hh]at uG
      have uG:here=a.g:=by simpa using uG
      exact TD bs F kZ hF a (rf a ha uG.symm) (by rw[←uG];exact MP)
    ·show(1000-((d+1:Nat):Int)).toNat<(1000-(d:Int)).toNat
     omega) mK [some (bA ns as),some (.int (g:Int)),some (.lst (ao [g])),some (.int ((0:Nat):Int)),none,none]
  ⟨[g],0,_,_,rfl,⟨by simp,by simp,λx hx=>by rw[az.mp hx];exact .self⟩,λx hx=>by rw[az.mp hx];exact hg,dr _,λi hi=>by omega⟩ (KB (by show(1000-((0:Nat):Int)).toNat<1048576;omega))
 obtain⟨F,d,x4,x5,rfl,hF,gK,hd,oC⟩:=hI
 have dB:(ao F).length=F.length:=by simp[ao]
 have uJ:d=F.length:=by
  have e:tb (e2 nD (eV 3) (eN cX (aCons (eV 2) aNil))) [some (bA ns as),some (.int (g:Int)),some (.lst (ao F)),some (.int (d:Int)),x4,x5]=some (decide ((d:Int)<((ao F).length:Int))):=rfl
  rw[e,dB]at hc
  have:¬(d:Int)<(F.length:Int):=by simpa using hc
  omega
 refine⟨F,hF,λa ha uG=>?_,gK,?_⟩
 ·obtain⟨i,hi,ei⟩:=dI.mp uG
  exact oC i (by omega) a ha (by rw[aT hi,ei])
 ·obtain⟨v,hv⟩:∃v,lC [.lst (ao F)]=some v:=by
   show∃v,(eL (ao F)).bind _=some v
   rw[Ki]
   have:=Kahn.len_le hF.nd gK
   simp only[cz,ah]
   rw[if_pos (by omega)]
   exact⟨_,rfl⟩
  rw[hv]
  have e0:((0:Nat):Int)=0:=rfl
  have e1:ao [g]=[.int (g:Int)]:=rfl
  rw[e0,e1]at h1
  generalize bA ns as=net,ao F=fs at *
  unfold u0 gM
  clear hc hF gK hd oC dB uJ hg hs hl hm
  walk_at "mir"
structure Ld (many:Nat)(as:List bV)(g:Nat)(L:List Nat):Prop where
 srt:L=(aw many).filter λx=>decide (x∈L)
 mem:∀x,x∈L↔sE as g x
theorem Ld.lt {many:Nat}{as:List bV}{g:Nat}{L:List Nat}(h:Ld many as g L):∀x∈L,x<many:=λx hx=>by
 rw[h.srt]at hx
 exact bM.mp (bB.mp hx).1
theorem Ld.len {many:Nat}{as:List bV}{g:Nat}{L:List Nat}(h:Ld many as g L):L.length<=many:=by
 rw[h.srt]
 have:=eZ (λx=>decide (x∈L)) (aw many)
 rw[bD]at this
 exact this
theorem Ld.uniq {many:Nat}{as:List bV}{g:Nat}{L L':List Nat}(h:Ld many as g L)(h':Ld many as g L'):L=L':=by
 rw[h.srt,h'.srt]
 refine iL λx _=>?_
 exact decide_eq_decide.mpr ((h.mem x).trans (h'.mem x).symm)
theorem Ld.cls {many:Nat}{as:List bV}{g:Nat}{L:List Nat}(h:Ld many as g L){a:bV}(ha:a∈as)(hg:a.g∈L):a.s∈L:=(h.mem _).mpr (.step ha ((h.mem _).mp hg))
theorem S4 {many:Nat}{F:List Nat}(nd:F.Nodup)(lt:∀x∈F,x<many)(hm:many<64):lC [.lst (ao F)]=some (.lst (ao ((aw many).filter λx=>decide (x∈F)))):=by
 have Yg:((aw many).filter λx=>decide (x∈F)).Nodup:=fS.filter _ gP
 have hl:((aw many).filter λx=>decide (x∈F)).length<64:=by
  have:=eZ (λx=>decide (x∈F)) (aw many)
  rw[bD]at this
  omega
 have srt:((aw many).filter λx=>decide (x∈F)).Pairwise (· < ·):=fS.filter _ List.pairwise_lt_range
 have p:=Ux (F:=F) (L:=(aw many).filter λx=>decide (x∈F)) nd Yg λx=>by
  rw[bB,decide_eq_true_iff,bM]
  exact⟨λh=>⟨lt x h,h⟩,λh=>h.2⟩
 rw[zob p hl]
 generalize (aw many).filter (λx=>decide (x∈F))=L at *
 show(eL (ao L)).bind _=_
 rw[Ki]
 simp only[cz,ah]
 rw[if_pos hl]
 have e:mD (L.map λ(x:Nat)=>(x:Int))=L.map λ(x:Nat)=>(x:Int):=J9 (IE _) (jv _) (lO.mpr (srt.imp λh=>by omega))
 rw[e,bH]
 rfl
theorem U8 {many:Nat}{as:List bV}{g:Nat}{F:List Nat}(h:t6 as g F)(hc:lH as F)(lt:∀x∈F,x<many):Ld many as g ((aw many).filter λx=>decide (x∈F)):=by
 have m:∀x,x∈(aw many).filter (λx=>decide (x∈F))↔x∈F:=λx=>by
  rw[bB,decide_eq_true_iff,bM]
  exact⟨λh=>h.2,λh=>⟨lt x h,h⟩⟩
 refine⟨?_,λx=>(m x).trans (h.all hc x)⟩
 exact iL λx _=>decide_eq_decide.mpr (m x).symm
theorem zt0 {ns:List D}{as:List bV}{many g:Nat}(hm:many<=40)(hl:as.length<=120)(hs:∀a∈as,a.s<many)(hg:g<many):∃L:List Nat,u0 [bA ns as,.int (g:Int)]=some (.lst (ao L))/\Ld many as g L:=by
 obtain⟨F,h1,h2,h3,h4⟩:=ztz (ns:=ns) hm hl hs hg
 exact⟨_,h4.trans (S4 h1.nd h3 (by omega)),U8 h1 h2 h3⟩
theorem U5 (as:List bV)(f:bV->Int)(g x:Nat):sE (as.map λa=>fU a (f a)) g x↔sE as g x:=by
 constructor
 ·intro h
  induction h with
  |self=>exact .self
  |step ha _ ih=>
   obtain⟨a,h1,rfl⟩:=bm.mp ha
   exact sE.step (a:=a) h1 ih
 ·intro h
  induction h with
  |self=>exact .self
  |@step a ha _ ih=>exact sE.step (a:=fU a (f a)) (bm.mpr ⟨a,ha,rfl⟩) ih
theorem Ld.made {many:Nat}{as:List bV}{g:Nat}{L:List Nat}(f:bV->Int):Ld many (as.map λa=>fU a (f a)) g L↔Ld many as g L :=
 ⟨λh=>⟨h.srt,λx=>(h.mem x).trans (U5 as f g x)⟩,λh=>⟨h.srt,λx=>(h.mem x).trans (U5 as f g x).symm⟩⟩
theorem zod {n:Nat}(h1:1<=n)(h2:n<=40):qx [.lst (nm n)]=some (.bl true):=by
 have key:∀n,n<40->Nb (qx [.lst (nm (n+1))])=true:=by decide +kernel
 obtain⟨k,rfl⟩:∃k,n=k+1:=⟨n-1,by omega⟩
 exact zvv (key k (by omega))
theorem zqg {many:Nat}{rk:Nat->Nat}{as:List bV}(k:bV->Int)(h1:1<=many)(h2:many<=40)(h3:as.length<=120)(h:∀a∈as,Drawn many rk a):mw many (as.map λa=>fU a (k a)):=by
 refine⟨h1,by omega,by rw[ah];exact h3,λb hb=>?_,rk,λb hb yG=>?_⟩
 ·obtain⟨a,ha,rfl⟩:=bm.mp hb
  exact(h a ha).right _
 ·obtain⟨a,ha,rfl⟩:=bm.mp hb
  exact(h a ha).r yG
theorem zv8 {c:Int}{many k:Nat}{as:List bV}(hm:20<=many/\many<=40)(hk:k<60)(hl:as.length=k)(y4 y5 y6 y7:Option D) :
  ∃(a:bV) (z4 z5 z6 z7:Option D),Drawn many id a/\J7 [some (.int c),some (.int (many:Int)),some (.lst (as.map bC)),some (.int (k:Int)),y4,y5,y6,y7]=some (.nx [some (.int c),some (.int (many:Int)),some (.lst ((as++[a]).map bC)),some (.int (k:Int)),z4,z5,z6,z7]):=by
 obtain⟨z,mx,hz⟩:=Ut c (k:=3+(k:Int)) (by omega) (by omega)
 have rn:(z:Int)%(many:Int)=((z%many:Nat):Int):=by simp
 have m1:dY (.int (z:Int)) (.int (many:Int))=some (.int ((z%many:Nat):Int)):=(j8 (by omega)).trans (by rw[rn])
 have lL:(z:Int)/64%(many:Int)=((z/64%many:Nat):Int):=by simp
 have m2:dY (.int ((z:Int)/64)) (.int (many:Int))=some (.int ((z/64%many:Nat):Int)):=(j8 (by omega)).trans (by rw[lL])
 have yO:((k:Int)+1)%(many:Int)=(((k+1)%many:Nat):Int):=by simp
 have m3:dY (.int ((k:Int)+1)) (.int (many:Int))=some (.int (((k+1)%many:Nat):Int)):=(j8 (by omega)).trans (by rw[yO])
 have l1:=iz z (show 0<many by omega)
 have l2:=iz (z/64) (show 0<many by omega)
 have l3:=iz (k+1) (show 0<many by omega)
 have WE:∃s g:Nat,s<many/\g<many/\(sIf (bAnd (tb (e2 nD (eV 3) (eV 1))) (tb (e2 (fZ false) (e2 dY (e2 fK (eV 0) (eC (.int 21))) (eC (.int 2))) (eC (.int 1))))) (sSeq (sSet 5 (eV 3))
  (sSet 6 (e2 dY (e2 e6 (eV 3) (eC (.int 1))) (eV 1)))) sSkip) [some (.int c),some (.int (many:Int)),some (.lst (as.map bC)),some (.int (k:Int)),some (.int (z:Int)),some (.int ((z%many:Nat):Int)),some (.int ((z/64%many:Nat):Int)),y7]=some (.nx [some (.int c),some (.int (many:Int)),some (.lst (as.map bC)),some (.int (k:Int)),some (.int (z:Int)),some (.int (s:Int)),some (.int (g:Int)),y7]):=by
  by_cases h1:k<many
  ·have AV:(k:Int)<(many:Int):=by omega
   by_cases h2:c/21%2=1
   ·refine⟨k,(k+1)%many,h1,l3,?_⟩
    clear m1 m2 rn lL yO l1 l2 l3 mx hz hl hk hm h1
    generalize as.map bC=al,(((k+1)%many:Nat):Int)=k1 at *
    walk_at "mir"
   ·refine⟨z%many,z/64%many,l1,l2,?_⟩
    clear m1 m2 m3 rn lL yO l1 l2 l3 mx hz hl hk hm h1
    generalize as.map bC=al at *
    walk_at "mir"
  ·have AV:¬(k:Int)<(many:Int):=by omega
   refine⟨z%many,z/64%many,l1,l2,?_⟩
   clear m1 m2 m3 rn lL yO l1 l2 l3 mx hz hl hk hm h1
   generalize as.map bC=al at *
   walk_at "mir"
 obtain⟨s,g,hs,hg,k1⟩:=WE
 have Lh:∃b:Nat,b<=4/\(b=0->s<g)/\(sIf (bAnd (tb (e2 (fZ false) (eV 7) (eC (.int 0)))) (tb (e2 yF (eV 5) (eV 6)))) (sSet 7 (eC (.int 1))) sSkip) [some (.int c),some (.int (many:Int)),some (.lst (as.map bC)),some (.int (k:Int)),some (.int (z:Int)),some (.int (s:Int)),some (.int (g:Int)),some (.int ((z:Int)/5000%4))]=some (.nx [some (.int c),some (.int (many:Int)),some (.lst (as.map bC)),some (.int (k:Int)),some (.int (z:Int)),some (.int (s:Int)),some (.int (g:Int)),some (.int (b:Int))]):=by
  obtain⟨b,hb,wX⟩:∃b:Nat,(z:Int)/5000%4=(b:Int)/\b<4:=⟨((z:Int)/5000%4).toNat,by omega,by omega⟩
  rw[hb]
  by_cases h0:b=0
  ·subst h0
   have e0:((0:Nat):Int)=0:=rfl
   by_cases h1:s<g
   ·have AV:¬(g:Int)<=(s:Int):=by omega
    refine⟨0,by omega,λ_=>h1,?_⟩
    clear k1 m1 m2 m3 rn lL yO l1 l2 l3 mx hz hl hk hm h1 hs hg hb wX
    generalize as.map bC=al at *
    walk_at "mir"
   ·have AV:(g:Int)<=(s:Int):=by omega
    refine⟨1,by omega,λz=>by omega,?_⟩
    have e1:((1:Nat):Int)=1:=rfl
    clear k1 m1 m2 m3 rn lL yO l1 l2 l3 mx hz hl hk hm h1 hs hg hb wX
    generalize as.map bC=al at *
    walk_at "mir"
  ·have h0':¬(b:Int)=0:=by omega
   refine⟨b,by omega,λz=>absurd z h0,?_⟩
   clear k1 m1 m2 m3 rn lL yO l1 l2 l3 mx hz hl hk hm hs hg hb wX
   generalize as.map bC=al at *
   walk_at "mir"
 obtain⟨b,wX,yG,k2⟩:=Lh
 refine⟨⟨.wait,s,g,(z:Int)/20000%1000,b⟩,some (.int (z:Int)),some (.int (s:Int)),some (.int (g:Int)),some (.int (b:Int)),⟨hs,hg,by dsimp only;omega,by dsimp only;omega,wX,yG⟩,?_⟩
 have e3:(as++[(⟨.wait,s,g,(z:Int)/20000%1000,b⟩:bV)]).map bC=as.map bC++[.tup [.int (s:Int),.int (g:Int),.int ((z:Int)/20000%1000),.int (b:Int)]]:=by rw[cL];rfl
 have X2:(as.map bC).length<16777216:=by rw[ah];omega
 rw[e3]
 generalize as.map bC=al,((z%many:Nat):Int)=zm,((z/64%many:Nat):Int)=zm2 at *
 clear rn lL yO m3 l1 l2 l3 hz hl hk hm hs hg wX yG e3
 unfold J7
 generalize (sIf (bAnd (tb (e2 nD (eV 3) (eV 1))) (tb (e2 (fZ false) (e2 dY (e2 fK (eV 0) (eC (.int 21))) (eC (.int 2))) (eC (.int 1))))) (sSeq (sSet 5 (eV 3))
  (sSet 6 (e2 dY (e2 e6 (eV 3) (eC (.int 1))) (eV 1)))) sSkip)=B1 at *
 generalize (sIf (bAnd (tb (e2 (fZ false) (eV 7) (eC (.int 0)))) (tb (e2 yF (eV 5) (eV 6)))) (sSet 7 (eC (.int 1))) sSkip)=B2 at *
 walk_at "mir"
theorem zw1 (c:Int):∃(many:Nat) (as:List bV),Kh [.int c]=some (.tup [.int (many:Int),.lst (as.map bC)])/\(20<=many/\many<=40)/\as.length=60/\∀a∈as,Drawn many id a:=by
 obtain⟨many,FC,hm⟩:∃m:Nat,20+c%21=(m:Int)/\20<=m/\m<=40:=⟨(20+c%21).toNat,by omega,by omega,by omega⟩
 obtain⟨ρ',h1,hI⟩:=Sf (g:=gV 3) (b:=J7) (lo:=0) (n:=60) (ρ:=[some (.int c),some (.int (many:Int)),some (.lst []),none,none,none,none,none])
  (λk ρ=>∃(as:List bV) (y3 y4 y5 y6 y7:Option D),ρ=[some (.int c),some (.int (many:Int)),some (.lst (as.map bC)),y3,y4,y5,y6,y7]/\as.length=k/\∀a∈as,Drawn many id a)
  ⟨[],_,_,_,_,_,rfl,rfl,λa ha=>by cases ha⟩ (by
   rintro k ρ hk ⟨as,y3,y4,y5,y6,y7,rfl,hl,hd⟩
   obtain⟨a,z4,z5,z6,z7,da,st⟩:=zv8 (c:=c) hm hk hl y4 y5 y6 y7
   refine⟨_,_,rfl,.inl (by rw[show(0:Int)+(k:Int)=(k:Int)by omega];exact st),as++[a],_,_,_,_,_,rfl,by simp[hl],λb hb=>?_⟩
   rcases bg.mp hb with hb|hb
   ·exact hd b hb
   ·rw[az.mp hb];exact da)
 obtain⟨as,y3,y4,y5,y6,y7,rfl,hl,hd⟩:=hI
 refine⟨many,as,?_,hm,hl,hd⟩
 have r1:hJ [.int 60]=some (fJ 0 60):=zE (by decide) (by decide)
 clear hd hl hm
 generalize as.map bC=al at *
 unfold Kh
 walk_at "mir"
theorem TH {e0 e1 e2' e4 e5:Option D}:∀(bs:List bV) (F:List Nat) (y6:Option D),F.length+bs.length<=10000->∃z6,fQ (gV 6) wn (bs.map bC) [e0,e1,e2',some (.lst (ao F)),e4,e5,y6]=some (.nx [e0,e1,e2',some (.lst (ao (pass bs F))),e4,e5,z6])
 |[],F,y6,_=>⟨y6,rfl⟩
 |a::bs,F,y6,hl=>by
  rw[aI]at hl
  have q1:=vz false a.g F
  have q2:=vz true a.s F
  rw[if_neg (by decide)]at q1
  rw[if_pos rfl]at q2
  have i0:cF (bC a) (.int 0)=some (.int (a.s:Int)):=rfl
  have i1:cF (bC a) (.int 1)=some (.int (a.g:Int)):=rfl
  have st:wn [e0,e1,e2',some (.lst (ao F)),e4,e5,some (bC a)]=some (.nx [e0,e1,e2',some (.lst (ao (fL F a))),e4,e5,some (bC a)]):=by
   unfold fL
   by_cases h1:a.g∈F
   ·rw[decide_eq_true h1]at q1
    by_cases h2:a.s∈F
    ·rw[decide_eq_true h2]at q2
     rw[if_neg (λz=>z.2 h2)]
     generalize bC a=ea,ao F=nf at *
     clear hl h1 h2
     unfold wn
     walk_at "mir"
    ·rw[decide_eq_false h2]at q2
     rw[if_pos ⟨h1,h2⟩]
     have e3:ao (F++[a.s])=ao F++[.int (a.s:Int)]:=by unfold ao;rw[cL];rfl
     have hz:(ao F).length<16777216:=by unfold ao;rw[ah];omega
     rw[e3]
     generalize bC a=ea,ao F=nf at *
     clear hl h1 h2 e3
     unfold wn
     walk_at "mir"
   ·rw[decide_eq_false h1]at q1
    rw[if_neg (λz=>h1 z.1)]
    generalize bC a=ea,ao F=nf at *
    clear hl h1 q2
    unfold wn
    walk_at "mir"
  have vS:(fL F a).length<=F.length+1:=by
   unfold fL
   split
   ·simp
   ·omega
  obtain⟨z6,ih⟩:=TH (e0:=e0) (e1:=e1) (e2':=e2') (e4:=e4) (e5:=e5) bs (fL F a) (some (bC a)) (by omega)
  refine⟨z6,?_⟩
  rw[aP]
  show(wn [e0,e1,e2',some (.lst (ao F)),e4,e5,some (bC a)]).bind _=_
  rw[st]
  exact ih
theorem zlk {as:List bV}{many g:Nat}(hm:many<=40)(hl:as.length<=120)(hs:∀a∈as,a.s<many)(hg:g<many):∃L:List Nat,qh [.lst (as.map bC),.int (g:Int),.int (many:Int)]=some (.lst (ao L))/\Ld many as g L:=by
 have lp:=BW (g:=gV 4) (b:=jc) (n:=many)
  (λk ρ=>∃(F:List Nat) (y4 y5 y6:Option D),ρ=[some (.lst (as.map bC)),some (.int (g:Int)),some (.int (many:Int)),some (.lst (ao F)),y4,y5,y6]/\t6 as g F/\(∀x∈F,x<many)/\k+1<=F.length)
  (λd=>∃L,d=.lst (ao L)/\Ld many as g L) (by
   rintro k ρ hk ⟨F,y4,y5,y6,rfl,hF,gK,dB⟩
   have QM:=Kahn.len_le hF.nd gK
   obtain⟨p1,p2,p3⟩:=KA (as0:=as) as F (λa h=>h) hF
   have Ha:∀x∈pass as F,x<many:=λx hx=>by
    rcases p3 x hx with h|⟨a,ha,rfl⟩
    ·exact gK x h
    ·exact hs a ha
   obtain⟨q1,q2⟩:=TC as F
   have l1:cX [.lst (ao F)]=some (.int (F.length:Int)):=(wx _).trans (by unfold ao;rw[ah])
   have l2:cX [.lst (ao (pass as F))]=some (.int ((pass as F).length:Int)):=(wx _).trans (by unfold ao;rw[ah])
   obtain⟨z6,i1⟩:=TH (e0:=some (.lst (as.map bC))) (e1:=some (.int (g:Int))) (e2':=some (.int (many:Int))) (e4:=some (.int (k:Int))) (e5:=some (.int (F.length:Int))) as F y6 (by omega)
   refine⟨[some (.lst (as.map bC)),some (.int (g:Int)),some (.int (many:Int)),some (.lst (ao F)),some (.int (k:Int)),y5,y6],rfl,?_⟩
   by_cases he:(pass as F).length=F.length
   ·obtain⟨q3,q4⟩:=q2 he
    have so:=S4 p1.nd Ha (by omega:many<64)
    refine .inr ⟨.lst (ao ((aw many).filter λx=>decide (x∈pass as F))),?_,_,rfl,U8 p1 (by rw[q3];exact q4) Ha⟩
    have e1:fZ false (.int ((pass as F).length:Int)) (.int (F.length:Int))=some (.bl true):=(zdd _ _).trans (by rw[he];simp)
    have QK:((pass as F).length:Int)=(F.length:Int):=by omega
    generalize ao ((aw many).filter λx=>decide (x∈pass as F))=nl,ao (pass as F)=np,ao F=nf,as.map bC=al,((pass as F).length:Int)=lp,(F.length:Int)=lf at *
    clear q1 q2 q3 q4 Ha p1 p2 p3 QM hF gK dB hs hg hl hm he hk
    unfold jc
    walk_at "mir"
   ·refine .inl ⟨[some (.lst (as.map bC)),some (.int (g:Int)),some (.int (many:Int)),some (.lst (ao (pass as F))),some (.int (k:Int)),some (.int (F.length:Int)),z6],?_,pass as F,_,_,_,rfl,p1,Ha,by omega⟩
    have e1:¬((pass as F).length:Int)=(F.length:Int):=by omega
    generalize ao (pass as F)=np,ao F=nf,as.map bC=al,((pass as F).length:Int)=lp,(F.length:Int)=lf at *
    clear q1 q2 Ha p1 p2 p3 QM hF gK dB hs hg hl hm he hk
    unfold jc
    walk_at "mir") many 0 [some (.lst (as.map bC)),some (.int (g:Int)),some (.int (many:Int)),some (.lst (ao [g])),none,none,none] (by omega) ⟨[g],none,none,none,rfl,⟨by simp,by simp,λx hx=>by rw[az.mp hx];exact .self⟩,λx hx=>by rw[az.mp hx];exact hg,by simp⟩
 rw[←de]at lp
 have JM:hJ [.int (many:Int)]=some ((aw many).map λ(t:Nat)=>D.int (t:Int)):=by
  rw[zE (by omega) (by omega)]
  unfold fJ
  simp
 rcases lp with⟨ρ',l1,F,y4,y5,y6,rfl,hF,gK,dB⟩|⟨d,l1,L,rfl,hL⟩
 ·have:=Kahn.len_le hF.nd gK
  omega
 ·refine⟨L,?_,hL⟩
  have n1:ao [g]=[.int (g:Int)]:=rfl
  rw[n1]at l1
  generalize (aw many).map (λ(t:Nat)=>D.int (t:Int))=Cv,ao L=nl,as.map bC=al at *
  clear hL hs hg hl hm n1
  unfold qh
  walk_at "mir"
def dU:Option (Int×Int)->D
 |none=>.non
 |some q=>fr q
def Nz:Option (Int×Int)->bK
 |none=>.none
 |some q=>.tuple [.int q.1,.int q.2]
def PX:jP (Option (Int×Int)):=⟨dU,Nz,1,λx=>by cases x<;>simp[dU,Nz,fr,D.py,D.pys],λx=>by cases x<;>rfl,λx=>by cases x<;>simp[Nz,bK.depth,bK.depthAll],λx y=>by
 cases x with
 |none=>cases y<;>rfl
 |some a=>
  cases y with
  |none=>rfl
  |some b=>
   have:=(E2 Ei Ei).eqv a b
   show bK.eqv (.tuple [.int a.1,.int a.2]) (.tuple [.int b.1,.int b.2])=_
   exact this.trans (decide_eq_decide.mpr (by simp))⟩
def qL (L:List (Option (Int×Int))):D:=.lst (L.map dU)
def kj (L:List (Option (Int×Int)))(g:Nat):Int×Int:=((L[g]?).join).getD (0,1)
def sX (L:List (Option (Int×Int))):List Nat:=(aw L.length).filter λg=>((L[g]?).join).isSome
theorem Ji {L:List (Option (Int×Int))}{g:Nat}(h:g∈sX L):cF (qL L) (.int (g:Int))=some (fr (kj L g)):=by
 obtain⟨h1,h2⟩:=bB.mp h
 have h1:=bM.mp h1
 unfold kj
 cases e:L[g]? with
 |none=>rw[List.getElem?_eq_none_iff]at e;omega
 |some o=>
  rw[e]at h2
  cases o with
  |none=>cases h2
  |some q=>exact ui (by rw[aD,e];rfl)
theorem zF {L:List (Option (Int×Int))}(h:∀q,some q∈L->Fq.Low q/\Fz 300 q)(g:Nat):Fq.Low (kj L g)/\Fz 300 (kj L g):=by
 unfold kj
 cases e:L[g]? with
 |none=>exact⟨zJ 0,⟨qo (w:=1) (by decide) (by decide) (by decide),qo (w:=1) (by decide) (by decide) (by decide)⟩⟩
 |some o=>
  cases o with
  |none=>exact⟨zJ 0,⟨qo (w:=1) (by decide) (by decide) (by decide),qo (w:=1) (by decide) (by decide) (by decide)⟩⟩
  |some q=>exact h q (bo.mpr ⟨g,e⟩)
theorem zt1 {L:List (Option (Int×Int))}(hl:L.length<=1000)(r:L3.Env)(h5:r[5]?.join=some (qL L)):Oi r=some (.lst (ao (sX L))):=by
 have e0:eV 5 r=_:=h5
 have h:=xP (own:=2) (cap:=[]) (g:=gT (gsCons (gV 0) (gsCons (gV 1) gsNil))) (p:=tb (e2 (pO true) (eV 1) (eC .non))) (f:=eV 0) (fi:=λρ=>((aCons (eV 5) aNil) ρ).bind λds=>match ds with|[.lst xs]=>some (eA 0 xs)|_=>none) (r:=r)
  (λ(p:Option (Int×Int)×Nat)=>D.tup [.int (p.2:Int),dU p.1]) (λp=>p.1.isSome) (λp=>D.int (p.2:Int)) (L.zipIdx) (by
   unfold aCons aNil
   show((eV 5 r).bind _).bind _=_
   rw[e0]
   show some (eA 0 (L.map dU))=_
   rw[IM dU L 0]) (by rw[kN];omega) λp hp=>by
    refine⟨[some (.int (p.2:Int)),some (dU p.1)],rfl,?_,λ_=>rfl⟩
    obtain⟨o,k⟩:=p
    cases o<;>rfl
 have e:Oi r=_:=h
 rw[e]
 congr 2
 unfold sX ao
 have key:∀(L:List (Option (Int×Int))) (k:Nat),((L.zipIdx k).filter λp=>p.1.isSome).map (λp=>D.int (p.2:Int))=((fD k L.length).filter λg=>((L[g-k]?).join).isSome).map λ(x:Nat)=>D.int (x:Int):=by
  intro L
  induction L with
  |nil=>intro k;rfl
  |cons o L ih=>
   intro k
   rw[t4,aI,tW,iX,iX]
   have e2:((fD (k+1) L.length).filter λg=>(((o::L)[g-k]?).join).isSome)=(fD (k+1) L.length).filter λg=>((L[g-(k+1)]?).join).isSome:=iL λg hg=>by
    have:=(List.mem_range'_1.mp hg).1
    rw[show g-k=(g-(k+1))+1 by omega,List.getElem?_cons_succ]
   rw[e2]
   have e3:(((o::L)[k-k]?).join).isSome=o.isSome:=by rw[Nat.sub_self];rfl
   rw[e3]
   cases o with
   |none=>exact ih (k+1)
   |some q=>
    show D.int (k:Int)::_=D.int (k:Int)::_
    rw[←ih (k+1)]
 have:=key L 0
 rw[←de]at this
 exact this
theorem TJ (neg:Bool)(A B:List Nat):fZ neg (.lst (ao A)) (.lst (ao B))=some (.bl (if neg then !decide (A=B)else decide (A=B))):=by
 have:=(El Ei).eq (by decide) (neg:=neg) (A.map λ(x:Nat)=>(x:Int)) (B.map λ(x:Nat)=>(x:Int))
 have e:∀w:List Nat,(El Ei).enc (w.map λ(x:Nat)=>(x:Int))=.lst (ao w):=λw=>by
  show D.lst ((w.map λ(x:Nat)=>(x:Int)).map D.int)=_
  rw[bH];rfl
 rw[e,e]at this
 have hd:decide ((A.map λ(x:Nat)=>(x:Int))=B.map λ(x:Nat)=>(x:Int))=decide (A=B):=decide_eq_decide.mpr (sk (λx y h=>by omega))
 rw[hd]at this
 exact this
def mN (pace:Int×Int)(tm:Nat->Int×Int)(L:List Nat)(as:List bV):Bool:=as.all λa=>!decide (a.g∈L) || !Fq.under (tm a.g) (early pace tm a)
theorem zll {ns:List D}{many g:Nat}{as:List bV}{is:List Int}{pace:Int×Int}{OL:List (Option (Int×Int))}{L:List Nat}{rank:Nat->Nat}(h:mw many as)(hn:ns.length=many)(hm:many<=40)(hl:is.length<=1000)(fT:as.length<=120)(Cq:OL.length<=1000)(mT:∀a∈as,a.b=0->rank a.s<rank a.g)(lp:Fq.Low pace)(zp:Fz 300 pace)(hO:∀q,some q∈OL->Fq.Low q/\Fz 300 q)(Fy:u0 [bA ns as,.int (g:Int)]=some (.lst (ao L)))(hL:Ld many as g L) :
  ∃b:Bool,u4 [bA ns as,.int (g:Int),.tup [fr pace,.lst (is.map .int),qL OL]]=some (.bl b)/\(b=true↔nt (sI as) (gI as) as.length is/\Fq.mk (is.map (tI as)).sum (is.map (bI as)).sum=pace/\gI as (is.getD 0 0)∈L/\OL.length=many/\sX OL=L/\mN pace (kj OL) L as=true):=by
 have i0:∀a b c:D,cF (.tup [a,b,c]) (.int 0)=some a:=λ_ _ _=>rfl
 have i1:∀a b c:D,cF (.tup [a,b,c]) (.int 1)=some b:=λ_ _ _=>rfl
 have i2:∀a b c:D,cF (.tup [a,b,c]) (.int 2)=some c:=λ_ _ _=>rfl
 have i0:=i0 (fr pace) (.lst (is.map .int)) (qL OL)
 have i1:=i1 (fr pace) (.lst (is.map .int)) (qL OL)
 have i2:=i2 (fr pace) (.lst (is.map .int)) (qL OL)
 have f4:=CB ns as
 have f5:=OY ns as
 have ln:cX [.lst ns]=some (.int (many:Int)):=(wx _).trans (by rw[hn])
 have lo:cX [qL OL]=some (.int (OL.length:Int)):=(wx _).trans (by simp)
 obtain⟨b,h1,h2⟩:=zlj (ns:=ns) (as:=as) (is:=is) (pace:=pace) hl (by omega) (λa ha=>(h.right a ha).b) mT
 cases b with
 |false=>
  refine⟨false,?_,?_⟩
  ·generalize (D.tup [fr pace,.lst (is.map .int),qL OL])=PD at *
   generalize bA ns as=net,is.map D.int=il,qL OL=ol,fr pace=F,ao L=nl at *
   clear h2 hl fT mT lp zp h hO hL f4 f5 ln lo
   unfold u4
   walk_at "mir"
  ·constructor
   ·intro z;cases z
   ·intro z;exact h2.mpr ⟨z.1,z.2.1⟩
 |true=>
  obtain⟨rg,rm⟩:=h2.mp rfl
  have i7:=rg.1
  have i8:=dm.mpr i7
  have g0:is[0]?=some (is.getD 0 0):=vd i8
  have Cr:=rg.2.1 _ (bo.mpr ⟨0,g0⟩)
  have X9:cF (.lst (is.map .int)) (.int 0)=some (.int (is.getD 0 0)):=by
   have:cF (.lst (is.map .int)) (.int ((0:Nat):Int))=some (.int (is.getD 0 0)):=ui (by rw[aD,g0];rfl)
   exact this
  have ia:=UZ (as:=as) Cr.1 Cr.2
  have WH:=fg (aN as (is.getD 0 0).toNat)
  have q1:=vz true (aN as (is.getD 0 0).toNat).g L
  rw[if_pos rfl]at q1
  have eg:gI as (is.getD 0 0)=(aN as (is.getD 0 0).toNat).g:=rfl
  rw[eg]
  by_cases kd:(aN as (is.getD 0 0).toNat).g∈L
  ·rw[decide_eq_true kd]at q1
   have qt:=zt1 (L:=OL) Cq [some (bA ns as),some (.int (g:Int)),some (.tup [fr pace,.lst (is.map .int),qL OL]),some (fr pace),some (.lst (is.map .int)),some (qL OL),some (.lst (ao L)),none] rfl
   have e1:fZ true (.int (OL.length:Int)) (.int (many:Int))=some (.bl (!decide (OL.length=many))):=(zdd _ _).trans (by rw[if_pos rfl,show decide ((OL.length:Int)=(many:Int))=decide (OL.length=many)from decide_eq_decide.mpr (by omega)])
   have e2':=TJ true (sX OL) L
   rw[if_pos rfl]at e2'
   by_cases dB:OL.length=many
   ·rw[decide_eq_true dB]at e1
    by_cases Bn:sX OL=L
    ·rw[decide_eq_true Bn]at e2'
     have qk:R4 [some (bA ns as),some (.int (g:Int)),some (.tup [fr pace,.lst (is.map .int),qL OL]),some (fr pace),some (.lst (is.map .int)),some (qL OL),some (.lst (ao L)),some (.lst (ao (sX OL)))]=some (.lst (((as.filter λa=>decide (a.g∈L)).map λa=>!Fq.under (kj OL a.g) (early pace (kj OL) a)).map .bl)):=by
      rw[bH]
      refine xP (own:=1) (cap:=[3,5,6]) (g:=gV 0) bL (λa=>decide (a.g∈L)) (D.bl ∘ λa=>!Fq.under (kj OL a.g) (early pace (kj OL) a)) as (by rfl) (by omega) λa ha=>⟨[some (bL a),some (fr pace),some (qL OL),some (.lst (ao L))],rfl,?_,λhq=>?_⟩
      ·have q3:=vz false a.g L
       rw[if_neg (by decide)]at q3
       have fga:=fg a
       generalize decide (a.g∈L)=bb,bL a=ea,ao L=nl,qL OL=ol at *
       clear qt e1 e2' kd q1 WH ia X9 h1 h2 rg rm h hO hL mT
       walk_at "mir"
      ·have hq:a.g∈L:=of_decide_eq_true hq
       have hs:a.s∈L:=hL.cls ha hq
       rw[←Bn]at hq hs
       exact ztp (tm:=kj OL) (h.right a ha) (Ji hs) (Ji hq) lp (λg=>(zF hO g).1) zp (λg=>(zF hO g).2)
     have al:=zvx ((as.filter λa=>decide (a.g∈L)).map λa=>!Fq.under (kj OL a.g) (early pace (kj OL) a))
     have ek:((as.filter λa=>decide (a.g∈L)).map λa=>!Fq.under (kj OL a.g) (early pace (kj OL) a)).all id=mN pace (kj OL) L as:=by
      unfold mN
      rw[lN,List.all_filter]
      congr 1
     rw[ek]at al
     refine⟨mN pace (kj OL) L as,?_,⟨λz=>⟨rg,rm,kd,dB,Bn,z⟩,λz=>z.2.2.2.2.2⟩⟩
     generalize mN pace (kj OL) L as=kk,((as.filter λa=>decide (a.g∈L)).map λa=>!Fq.under (kj OL a.g) (early pace (kj OL) a)).map D.bl=bl,(D.tup [fr pace,.lst (is.map .int),qL OL])=PD,bA ns as=net,bL (aN as (is.getD 0 0).toNat)=ea,((aN as (is.getD 0 0).toNat).g:Int)=gg at *
     generalize is.getD 0 0=M8,is.map D.int=il,as.map bL=Le,ao (sX OL)=tl,qL OL=ol,fr pace=F,ao L=nl,(OL.length:Int)=Rh at *
     clear ek kd Bn dB Cr g0 i8 i7 rg rm h2 hl fT mT lp zp h hO hL eg
     unfold u4
     walk_at "mir"
    ·rw[decide_eq_false Bn]at e2'
     refine⟨false,?_,⟨(λz=>by cases z),λz=>absurd z.2.2.2.2.1 Bn⟩⟩
     generalize (D.tup [fr pace,.lst (is.map .int),qL OL])=PD,bA ns as=net,bL (aN as (is.getD 0 0).toNat)=ea,((aN as (is.getD 0 0).toNat).g:Int)=gg at *
     generalize is.getD 0 0=M8,is.map D.int=il,as.map bL=Le,ao (sX OL)=tl,qL OL=ol,fr pace=F,ao L=nl,(OL.length:Int)=Rh at *
     clear kd Bn dB Cr g0 i8 i7 rg rm h2 hl fT mT lp zp h hO hL eg
     unfold u4
     walk_at "mir"
   ·rw[decide_eq_false dB]at e1
    refine⟨false,?_,⟨(λz=>by cases z),λz=>absurd z.2.2.2.1 dB⟩⟩
    generalize (D.tup [fr pace,.lst (is.map .int),qL OL])=PD,bA ns as=net,bL (aN as (is.getD 0 0).toNat)=ea,((aN as (is.getD 0 0).toNat).g:Int)=gg at *
    generalize is.getD 0 0=M8,is.map D.int=il,as.map bL=Le,ao (sX OL)=tl,qL OL=ol,fr pace=F,ao L=nl,(OL.length:Int)=Rh at *
    clear kd dB Cr g0 i8 i7 rg rm h2 hl fT mT lp zp h hO hL eg e2'
    unfold u4
    walk_at "mir"
  ·rw[decide_eq_false kd]at q1
   refine⟨false,?_,⟨(λz=>by cases z),λz=>absurd z.2.2.1 kd⟩⟩
   generalize (D.tup [fr pace,.lst (is.map .int),qL OL])=PD,bA ns as=net,bL (aN as (is.getD 0 0).toNat)=ea,((aN as (is.getD 0 0).toNat).g:Int)=gg at *
   generalize is.getD 0 0=M8,is.map D.int=il,as.map bL=Le,qL OL=ol,fr pace=F,ao L=nl at *
   clear kd Cr g0 i8 i7 rg rm h2 hl fT mT lp zp h hO hL eg lo ln f5
   unfold u4
   walk_at "mir"
def gF (many:Nat)(P:List Nat)(tp:Nat->Int)(W:Int):List (Option (Int×Int)):=(aw many).map λg=>if g∈P then some (Fq.mk (tp g) W)else none
def dh (as:List bV)(L:List Nat):List Nat:=(as.zipIdx.filter λp=>decide (p.1.g∈L)).map (·.2)
theorem wg {as:List bV}{L:List Nat}{n:Nat}:n∈dh as L↔n<as.length/\aG as n∈L:=by
 unfold dh
 rw[bm]
 constructor
 ·rintro⟨p,hp,rfl⟩
  obtain⟨h1,h2⟩:=bB.mp hp
  have h3:=UY h1
  have h4:=(aW.mp h3).1
  refine⟨h4,?_⟩
  have e:aN as p.2=p.1:=by unfold aN;rw[h3];rfl
  unfold aG
  rw[e]
  exact of_decide_eq_true h2
 ·rintro⟨h1,h2⟩
  refine⟨(aN as n,n),bB.mpr ⟨nc.mpr (xU h1),decide_eq_true h2⟩,rfl⟩
theorem S5 (as:List bV)(L:List Nat):(dh as L).length<=as.length:=by
 unfold dh
 rw[ah]
 have:=eZ (λp:bV×Nat=>decide (p.1.g∈L)) as.zipIdx
 rw[kN]at this
 exact this
theorem GN.along {many:Nat}{as:List bV}{aU rT:List Nat}{rk:Nat->Nat}{mb:Nat}(g:GN many as aU rk mb)(h1:∀n∈rT,n<as.length)(h2:rT.length<=120):GN many as rT rk mb:=⟨g.m1,g.m,g.al,g.ok,h1,h2,g.r,g.b1,g.b4,g.b⟩
theorem zv9 {ns:List D}{as:List bV}{L:List Nat}(hl:as.length<=1000)(r:L3.Env)(hr:r[0]?.join=some (bA ns as))(Cs:r[2]?.join=some (.lst (ao L))):OX r=some (.lst (ao (dh as L))):=by
 have e:(λρ=>((aCons (e1 (cC [4] "arrows") (eV 0)) aNil) ρ).bind λds=>match ds with|[.lst xs]=>some (eA 0 xs)|_=>none) r=some (as.zipIdx.map λp=>D.tup [.int (p.2:Int),bL p.1]):=by
  have:eV 0 r=some (bA ns as):=hr
  have e2:e1 (cC [4] "arrows") (eV 0) r=some (.lst (as.map bL)):=by unfold e1;rw[this];rfl
  show((aCons (e1 (cC [4] "arrows") (eV 0)) aNil) r).bind _=_
  unfold aCons
  rw[e2]
  show some (eA 0 (as.map bL))=_
  rw[IM bL]
 have hc:fw r [2]=[some (.lst (ao L))]:=by unfold fw;simp[Cs]
 have:=xP (own:=2) (cap:=[2]) (fi:=λρ=>((aCons (e1 (cC [4] "arrows") (eV 0)) aNil) ρ).bind λds=>match ds with|[.lst xs]=>some (eA 0 xs)|_=>none) (g:=gT (gsCons (gV 0) (gsCons (gV 1) gsNil))) (p:=tb (e2 (inD false) (e1 (cC [0,1,2,3] "goal") (eV 1)) (eV 2))) (f:=eV 0) (λp:bV×Nat=>D.tup [.int (p.2:Int),bL p.1]) (λp=>decide (p.1.g∈L)) (λp=>D.int (p.2:Int)) as.zipIdx e (by simp;omega) (λp _=>by
   refine⟨_,rfl,?_,λ_=>rfl⟩
   rw[hc]
   have f1:=fg p.1
   have q:=vz false p.1.g L
   rw[if_neg (by decide)]at q
   generalize decide (p.1.g∈L)=bb,bL p.1=ea,ao L=nl at *
   clear hc e hr Cs hl
   walk_at "mir")
 rw[show OX r=_ from this]
 unfold dh ao
 rw[bH]
 rfl
theorem zt2 {many:Nat}{L:List Nat}{q:Int×Int}{T:Nat->Int}{x y:D}(hm:many<=1000)(r:L3.Env)(Cs:r[2]?.join=some (.lst (ao L)))(M2:r[3]?.join=some (.tup [x,y,qI many q T])):OW r=some (qL (gF many L T q.2)):=by
 have e:(λρ=>((aCons (e2 cF (eV 3) (eC (.int 2))) aNil) ρ).bind λds=>match ds with|[.lst xs]=>some (eA 0 xs)|_=>none) r=some ((aw many).zipIdx.map λp=>D.tup [.int (p.2:Int),fr (Fq.mk (T p.1) q.2)]):=by
  have:eV 3 r=some (.tup [x,y,qI many q T]):=M2
  have e2':e2 cF (eV 3) (eC (.int 2)) r=some (qI many q T):=by unfold e2;rw[this];rfl
  show((aCons (e2 cF (eV 3) (eC (.int 2))) aNil) r).bind _=_
  unfold aCons
  rw[e2']
  show some (eA 0 ((aw many).map λg=>fr (Fq.mk (T g) q.2)))=_
  rw[IM (λg=>fr (Fq.mk (T g) q.2))]
 have hc:fw r [2]=[some (.lst (ao L))]:=by unfold fw;simp[Cs]
 have:=qm (own:=2) (cap:=[2]) (fi:=λρ=>((aCons (e2 cF (eV 3) (eC (.int 2))) aNil) ρ).bind λds=>match ds with|[.lst xs]=>some (eA 0 xs)|_=>none) (g:=gT (gsCons (gV 0) (gsCons (gV 1) gsNil))) (f:=eIf (tb (e2 (inD false) (eV 0) (eV 2))) (eV 1) (eC .non)) (λp:Nat×Nat=>D.tup [.int (p.2:Int),fr (Fq.mk (T p.1) q.2)]) (λp=>dU (if p.2∈L then some (Fq.mk (T p.1) q.2)else none)) (aw many).zipIdx e (by simp;omega) (λp _=>by
   refine⟨_,rfl,?_⟩
   rw[hc]
   have qq:=vz false p.2 L
   rw[if_neg (by decide)]at qq
   by_cases h:p.2∈L
   ·rw[if_pos h]
    rw[decide_eq_true h]at qq
    show _=some (fr (Fq.mk (T p.1) q.2))
    generalize fr (Fq.mk (T p.1) q.2)=F,ao L=nl at *
    clear hc e Cs M2 hm h
    walk_at "mir"
   ·rw[if_neg h]
    rw[decide_eq_false h]at qq
    show _=some D.non
    generalize fr (Fq.mk (T p.1) q.2)=F,ao L=nl at *
    clear hc e Cs M2 hm h
    walk_at "mir")
 rw[show OW r=_ from this]
 unfold qL gF
 congr 2
 apply tX
 ·simp
 ·intro i h1 h2
  simp
theorem zwa {ns:List D}{many:Nat}{as:List bV}{rk:Nat->Nat}{mb g:Nat}{L:List Nat}(gn:GN many as (aw as.length) rk mb)(gG:ns.length=many)(lJ:kD 4 "most_behind" ya (bA ns as) []=some (.int (mb:Int)))(Fy:u0 [bA ns as,.int (g:Int)]=some (.lst (ao L))) :
  ∃d,IY [bA ns as,.int (g:Int)]=some d/\((d=.non/\∀R,¬RG as (dh as L) R)\/∃(R:List Nat) (q:Int×Int) (T:Nat->Int),d=.tup [fr q,.lst (ao R),qL (gF many L T q.2)]/\RG as (dh as L) R/\q=Fq.mk (sT as R) (sB as R)/\(∀R',RG as (dh as L) R'->sT as R' * q.2<=q.1*sB as R')/\(∀n∈dh as L,T (aS as n)+dQ as q n<=T (aG as n))/\∀x,0<=T x/\T x<=1000000000000000):=by
 have g2:=gn.along (rT:=dh as L) (λn hn=>(wg.mp hn).1) (by have:=S5 as L;have:=gn.al;omega)
 obtain⟨d,h1,h2⟩:=Ul g2 gG lJ
 have qn:=zv9 (ns:=ns) (as:=as) (L:=L) (by have:=gn.al;omega) [some (bA ns as),some (.int (g:Int)),some (.lst (ao L)),none,none] rfl rfl
 rcases h2 with⟨rfl,hN⟩|⟨R,q,T,rfl,hR⟩
 ·refine⟨.non,?_,.inl ⟨rfl,hN⟩⟩
  generalize ao (dh as L)=nn,ao L=nl,bA ns as=net at *
  clear hN g2 gn lJ gG
  unfold IY
  walk_at "mir"
 ·refine⟨.tup [fr q,.lst (ao R),qL (gF many L T q.2)],?_,.inr ⟨R,q,T,rfl,hR⟩⟩
  have qt:=zt2 (many:=many) (L:=L) (q:=q) (T:=T) (x:=fr q) (y:=.lst (ao R)) (by have:=gn.m;omega) [some (bA ns as),some (.int (g:Int)),some (.lst (ao L)),some (.tup [fr q,.lst (ao R),qI many q T]),none] rfl rfl
  have i0:∀a b c:D,cF (.tup [a,b,c]) (.int 0)=some a:=λ_ _ _=>rfl
  have i1:∀a b c:D,cF (.tup [a,b,c]) (.int 1)=some b:=λ_ _ _=>rfl
  generalize ao (dh as L)=nn,ao L=nl,ao R=rl,bA ns as=net,qL (gF many L T q.2)=ol,qI many q T=tm,fr q=F at *
  clear hR g2 gn lJ gG
  unfold IY
  walk_at "mir"
theorem Uz (neg:Bool)(w:List Nat):fZ neg (.lst (ao w)) (.lst [])=some (.bl (if neg then !decide (w=[])else decide (w=[]))):=by
 have:=(El Ei).eq (by decide) (neg:=neg) (w.map λ(x:Nat)=>(x:Int)) []
 have e:(El Ei).enc (w.map λ(x:Nat)=>(x:Int))=.lst (ao w):=by
  show D.lst ((w.map λ(x:Nat)=>(x:Int)).map D.int)=_
  rw[bH];rfl
 rw[e]at this
 have hd:decide ((w.map λ(x:Nat)=>(x:Int))=[])=decide (w=[]):=decide_eq_decide.mpr (by simp)
 rw[hd]at this
 exact this
theorem UA {as:List bV}{many:Nat}{left:List Nat}(gK:∀x∈left,x<many)(kd:∀x∈left,∃n,n<as.length/\aG as n=x/\aS as n∈left)(v:Nat):∀(f:Nat) (ws:List Nat) (here:Nat),many<ws.length+f->qE (aS as) (aG as) v ws here->(ws.map (aG as)).Nodup->(∀n∈ws,n<as.length/\aG as n∈left)->here∈left->∃(R:List Nat) (x:Nat),R≠[]/\oy (aS as) (aG as) x R x/\(R.map (aG as)).Nodup/\∀n∈R,n<as.length/\aG as n∈left
 |0,ws,here,hf,_,nd,hw,_=>by
  have:=Kahn.len_le (many:=many) nd λx hx=>by
   obtain⟨n,h1,rfl⟩:=bm.mp hx
   exact gK _ (hw n h1).2
  rw[ah]at this
  omega
 |f+1,ws,here,hf,hc,nd,hw,hh=>by
  by_cases hm:here∈ws.map (aG as)
  ·have sO:=oK.mpr hm
   have vR:(ws.map (aG as))[(ws.map (aG as)).idxOf here]?=some here:=by rw[aT sO,sj]
   generalize (ws.map (aG as)).idxOf here=j at *
   rw[ah]at sO
   rw[aD,aT sO]at vR
   replace vR:aG as ws[j]=here:=by simpa using vR
   have wlk:qE (aS as) (aG as) here (ws.drop j) here:=by
    have:=hc.drop (j:=j) (n:=ws[j]) (aT sO)
    rw[vR]at this
    exact this
   refine⟨(ws.drop j).reverse,here,?_,wlk.wlk,?_,λn hn=>hw n (qM (tZ.mp hn))⟩
   ·intro e
    have:=congrArg mO e
    rw[fN,cU]at this
    simp at this
    omega
   ·rw[mH,gQ]
    exact p4.mpr ((fS.sublist (tw _ _) nd).imp λh e=>h e.symm)
  ·obtain⟨n,n1,n2,n3⟩:=kd here hh
   refine UA gK kd v f (ws++[n]) (aS as n) (by rw[aZ,cO];omega) (hc.snoc n2) ?_ (λk hk=>?_) n3
   ·rw[cL,kO,n2]
    exact br.mpr ⟨nd,by simp,λa ha b hb e=>hm (by rw[←az.mp hb,←e];exact ha)⟩
   ·rcases bg.mp hk with hk|hk
    ·exact hw k hk
    ·rw[az.mp hk,n2];exact⟨n1,hh⟩
theorem KR {S G:Nat->Nat}:∀{w:List Nat} {a b:Nat},oy S G a w b->w.map S++[b]=a::w.map G
 |[],a,b,h=>by
  have h:a=b:=h
  subst h
  rfl
 |n::w,a,b,h=>by
  have ih:=KR h.2
  rw[aP,mF,ih,h.1,aP]
theorem RG.starts {as:List bV}{aU R:List Nat}(h:RG as aU R):∀n∈R,aS as n∈R.map (aG as):=by
 obtain⟨x,hx⟩:=h.w
 have e:=KR hx
 have XY:x∈R.map (aG as):=by
  have i7:R.map (aG as)≠[]:=by simpa using h.ne
  have h2:=(mZ i7).symm
  rw[h2,←mF]at e
  obtain⟨_,h4⟩:=tV e rfl
  have h5:x=(R.map (aG as)).getLast i7:=by simpa using h4
  rw[h5]
  exact List.getLast_mem i7
 intro n hn
 have:aS as n∈R.map (aS as)++[x]:=bx _ (bm.mpr ⟨n,hn,rfl⟩)
 rw[e]at this
 rcases aF.mp this with h|h
 ·rw[h];exact XY
 ·exact h
def qG (as:List bV)(left:List Nat):List Nat:=(as.filter λa=>decide (a.s∈left)).map (·.g)
def stay (as:List bV)(left:List Nat):List Nat:=left.filter λx=>decide (x∈qG as left)
theorem UB {as:List bV}{left:List Nat}{x:Nat}:x∈qG as left↔∃n,n<as.length/\aG as n=x/\aS as n∈left:=by
 unfold qG
 rw[bm]
 constructor
 ·rintro⟨a,ha,rfl⟩
  obtain⟨h1,h2⟩:=bB.mp ha
  obtain⟨n,hn⟩:=bo.mp h1
  have e:aN as n=a:=by unfold aN;rw[hn];rfl
  refine⟨n,(aW.mp hn).1,?_,?_⟩
  ·unfold aG;rw[e]
  ·unfold aS;rw[e];exact of_decide_eq_true h2
 ·rintro⟨n,hn,h1,h2⟩
  exact⟨aN as n,bB.mpr ⟨j5 hn,decide_eq_true h2⟩,h1⟩
theorem zqh {as:List bV}{many:Nat}{L:List Nat}(fT:as.length<=120)(JF:L.length<=40)(gK:∀x∈L,x<many)(hm:many<=40):∃b:Bool,je [.lst (as.map bC),.lst (ao L)]=some (.bl b)/\(b=true↔∀R,¬RG as (dh as L) R):=by
 have jW:∀left:List Nat,left=[]->(∀R,RG as (dh as L) R->∀n∈R,aG as n∈left)->∀R,¬RG as (dh as L) R:=by
  intro left hl h R hR
  obtain⟨n,hn⟩:∃n,n∈R:=iG _ hR.ne
  have:=h R hR n hn
  rw[hl]at this
  cases this
 have lp:=BW (g:=gV 3) (b:=jd) (n:=L.length)
  (λk ρ=>∃(left:List Nat) (y3 y4 y5:Option D),ρ=[some (.lst (as.map bC)),some (.lst (ao L)),some (.lst (ao left)),y3,y4,y5]/\(∀x∈left,x∈L)/\left.length+k<=L.length/\∀R,RG as (dh as L) R->∀n∈R,aG as n∈left)
  (λd=>∃b:Bool,d=.bl b/\(b=true↔∀R,¬RG as (dh as L) R)) (by
   rintro k ρ hk ⟨left,y3,y4,y5,rfl,kZ,dB,ko⟩
   have q2:RN [some (.lst (as.map bC)),some (.lst (ao L)),some (.lst (ao left)),some (.int (k:Int)),y4,y5]=some (.lst (ao (qG as left))):=by
    have e:ao (qG as left)=(as.filter λa=>decide (a.s∈left)).map λa=>D.int (a.g:Int):=by unfold ao qG;rw[bH];rfl
    rw[e]
    refine xP (own:=1) (cap:=[2]) (g:=gV 0) bC (λa=>decide (a.s∈left)) (λa=>D.int (a.g:Int)) as rfl (by omega) λa _=>⟨[some (bC a),some (.lst (ao left))],rfl,?_,λ_=>rfl⟩
    have q:=vz false a.s left
    rw[if_neg (by decide)]at q
    have i0:cF (bC a) (.int 0)=some (.int (a.s:Int)):=rfl
    generalize decide (a.s∈left)=bb,bC a=ea,ao left=nl at *
    clear kZ dB ko jW e
    walk_at "mir"
   have q1:RM [some (.lst (as.map bC)),some (.lst (ao L)),some (.lst (ao left)),some (.int (k:Int)),some (.lst (ao (qG as left))),y5]=some (.lst (ao (stay as left))):=by
    refine xP (own:=1) (cap:=[4]) (g:=gV 0) (λ(x:Nat)=>D.int (x:Int)) (λx=>decide (x∈qG as left)) (λ(x:Nat)=>D.int (x:Int)) left rfl (by omega) λx _=>⟨[some (.int (x:Int)),some (.lst (ao (qG as left)))],rfl,?_,λ_=>rfl⟩
    have q:=vz false x (qG as left)
    rw[if_neg (by decide)]at q
    generalize decide (x∈qG as left)=bb,ao (qG as left)=nl at *
    clear kZ dB ko jW q2
    walk_at "mir"
   have e1:=TJ false (stay as left) left
   rw[if_neg (by decide)]at e1
   have e2':=Uz false left
   rw[if_neg (by decide)]at e2'
   refine⟨[some (.lst (as.map bC)),some (.lst (ao L)),some (.lst (ao left)),some (.int (k:Int)),y4,y5],rfl,?_⟩
   by_cases he:stay as left=left
   ·rw[decide_eq_true he]at e1
    refine .inr ⟨.bl (decide (left=[])),?_,decide (left=[]),rfl,?_⟩
    ·generalize decide (left=[])=bb at *
     generalize ao (stay as left)=ns,ao (qG as left)=ng,ao left=nf,ao L=nl,as.map bC=al at *
     clear he ko dB kZ jW hk hm gK JF fT
     unfold jd
     walk_at "mir"
    ·rw[decide_eq_true_iff]
     constructor
     ·intro h;exact jW left h ko
     ·intro h
      apply Classical.byContradiction
      intro i7
      obtain⟨v,hv⟩:∃v,v∈left:=iG _ i7
      obtain⟨R,x,r1,r2,r3,r4⟩:=UA (as:=as) (many:=many) (left:=left) (λx hx=>gK x (kZ x hx)) (λx hx=>by
       rw[←he]at hx
       exact UB.mp (of_decide_eq_true (bB.mp hx).2)) v (many+1) [] v (by simp) rfl (by simp) (λn hn=>by cases hn) hv
      exact h R ⟨r1,⟨x,r2⟩,r3,λn hn=>wg.mpr ⟨(r4 n hn).1,kZ _ (r4 n hn).2⟩⟩
   ·rw[decide_eq_false he]at e1
    refine .inl ⟨[some (.lst (as.map bC)),some (.lst (ao L)),some (.lst (ao (stay as left))),some (.int (k:Int)),some (.lst (ao (qG as left))),some (.lst (ao (stay as left)))],?_,stay as left,_,_,_,rfl,λx hx=>kZ x (bB.mp hx).1,?_,λR hR n hn=>?_⟩
    ·generalize ao (stay as left)=ns at *
     generalize ao (qG as left)=ng,ao left=nf,ao L=nl,as.map bC=al at *
     clear he ko dB kZ jW hk hm gK JF fT e2'
     unfold jd
     walk_at "mir"
    ·have h1:=eZ (λx=>decide (x∈qG as left)) left
     have h2:(stay as left).length≠left.length:=λz=>he (rH.mpr (List.length_filter_eq_length_iff.mp z))
     have h3:(stay as left).length<=left.length:=h1
     omega
    ·refine bB.mpr ⟨ko R hR n hn,decide_eq_true (UB.mpr ⟨n,(wg.mp (hR.m n hn)).1,rfl,?_⟩)⟩
     obtain⟨m,Bg,n8⟩:=bm.mp (hR.starts n hn)
     rw[←n8]
     exact ko R hR m Bg) L.length 0 [some (.lst (as.map bC)),some (.lst (ao L)),some (.lst (ao L)),none,none,none] (by omega) ⟨L,none,none,none,rfl,λx hx=>hx,by omega,λR hR n hn=>(wg.mp (hR.m n hn)).2⟩
 rw[←de]at lp
 have ll:cX [.lst (ao L)]=some (.int (L.length:Int)):=(wx _).trans (by unfold ao;rw[ah])
 have JM:hJ [.int (L.length:Int)]=some ((aw L.length).map λ(t:Nat)=>D.int (t:Int)):=by
  rw[zE (by omega) (by omega)]
  unfold fJ
  simp
 have li:mC [.lst (ao L)]=some (.lst (ao L)):=rfl
 rcases lp with⟨ρ',l1,left,y3,y4,y5,rfl,kZ,dB,ko⟩|⟨d,l1,b,rfl,hb⟩
 ·have Bj:left=[]:=gU (by omega)
  have e2':=Uz false left
  rw[if_neg (by decide),decide_eq_true Bj]at e2'
  refine⟨true,?_,⟨λ_=>jW left Bj ko,λ_=>rfl⟩⟩
  generalize (aw L.length).map (λ(t:Nat)=>D.int (t:Int))=Cv,ao left=nf,ao L=nl,as.map bC=al at *
  clear ko dB kZ jW hm gK JF fT Bj
  unfold je
  walk_at "mir"
 ·refine⟨b,?_,hb⟩
  generalize (aw L.length).map (λ(t:Nat)=>D.int (t:Int))=Cv,ao L=nl,as.map bC=al at *
  clear jW hm gK JF fT hb
  unfold je
  walk_at "mir"
theorem U6 {q:Int×Int}(hq:Fq.Low q)(hz:Sz 8000 q.2):jx [fr q]=some (.bl true):=by
 have i8:=hq.gt
 obtain⟨s',h1,h2,h3,_⟩:=Ol (c:=tb (e2 (fZ true) (eV 2) (eC (D.int 0)))) (b:=Oa) (λs:Int×Int=>[some (fr q),some (.int s.1),some (.int s.2)]) (λs=>!decide (s.2=0)) (λs=>(s.2,s.1.fmod s.2)) (λs=>s.2.natAbs) (λs=>eF s.1 s.2=eF q.1 q.2)
  (λs hp=>by
   generalize fr q=F
   walk_at "mir") (λs hp ht=>by
   have hs:s.2≠0:=by simpa using ht
   refine⟨.inl ?_,(Fq.gcd_step s.1 s.2).trans hp,Fq.fmod_less s.1 hs⟩
   unfold Oa
   have:=Ue (i:=s.1) hs
   generalize fr q=F
   walk_at "mir") mK q rfl (Pa hz (by decide))
 have h3:s'.2=0:=by simpa using h3
 have h4:=Fq.gcd_end s'.1
 rw[h3]at h2
 rw[h2,hq.cop]at h4
 have ab:uC [.int s'.1]=some (.int 1):=by
  rw[zj8]
  exact congrArg (λx=>some (D.int x)) h4
 have gt:q.2 > 0:=i8
 have w1:uu [.int q.1]=some (.bl true):=rfl
 have w2:uu [.int q.2]=some (.bl true):=rfl
 have t1:jU "tuple" (.tup [.int q.1,.int q.2])=some (.bl true):=rfl
 have l2:cX [.tup [.int q.1,.int q.2]]=some (.int 2):=rfl
 have f0:cF (.tup [.int q.1,.int q.2]) (.int 0)=some (.int q.1):=rfl
 have f1:cF (.tup [.int q.1,.int q.2]) (.int 1)=some (.int q.2):=rfl
 obtain⟨s1,s2⟩:=s'
 dsimp only at h1 h3 ab
 subst h3
 unfold fr at *
 unfold jx gM
 clear h2 h4 hq i8 hz
 generalize (tb (e2 (fZ true) (eV 2) (eC (D.int 0))))=cc at *
 walk_at "mir"
theorem Gb {as:List bV}{i:Int}(h0:0<=i)(h1:i<(as.length:Int)):cF (.lst (as.map bC)) (.int i)=some (.tup [.int ((aN as i.toNat).s:Int),.int ((aN as i.toNat).g:Int),.int (aN as i.toNat).t,.int ((aN as i.toNat).b:Int)]):=by
 obtain⟨n,rfl⟩:∃n:Nat,i=(n:Int):=⟨i.toNat,by omega⟩
 rw[eG]
 exact ui (by rw[aD,xU (by omega)];rfl)
theorem UC {as:List bV}{w:List Nat}{x:Nat}(h:oy (aS as) (aG as) x w x)(hw:w≠[])(hn:∀n∈w,n<as.length)(nd:(w.map (aG as)).Nodup):nt (sI as) (gI as) as.length (w.map λ(n:Nat)=>(n:Int)):=by
 have e1:(w.map λ(n:Nat)=>(n:Int)).map (sI as)=w.map (aS as):=by rw[bH];exact fO λn _=>by simp[sI,aS]
 have e2:(w.map λ(n:Nat)=>(n:Int)).map (gI as)=w.map (aG as):=by rw[bH];exact fO λn _=>by simp[gI,aG]
 refine⟨by simpa using hw,λi hi=>?_,?_,by rw[e2];exact nd⟩
 ·obtain⟨n,h1,rfl⟩:=bm.mp hi
  have:=hn n h1
  omega
 ·rw[e1,e2]
  have h1:=KR h
  have i7:w.map (aG as)≠[]:=by simpa using hw
  have h2:=(mZ i7).symm
  generalize (w.map (aG as)).dropLast=gi at h2
  generalize (w.map (aG as)).getLast i7=gl at h2
  rw[h2,←mF]at h1
  obtain⟨h3,h4⟩:=tV h1 rfl
  rw[h3,h2]
  unfold pR
  have h5:gl=x:=by simpa using h4.symm
  subst h5
  have hl:(gi++[gl]).length-1=gi.length:=by simp
  rw[hl,List.drop_left,List.take_left]
  rfl
theorem zqi {as:List bV}{is:List Int}{L:List Nat}(hl:is.length<=1000)(h:nt (sI as) (gI as) as.length is)(JN:∀j,j<is.length->sI as (is.getD j 0)∈L):qj [.lst (as.map bC),.lst (is.map .int),.lst (ao L)]=some (.bl true):=by
 have la:cX [.lst (as.map bC)]=some (.int (as.length:Int)):=(wx _).trans (by rw[ah])
 have li:cX [.lst (is.map .int)]=some (.int (is.length:Int)):=(wx _).trans (by rw[ah])
 obtain⟨h1,h2⟩:=Uw.mp h
 have wh:∀v:Int,uu [.int v]=some (.bl true):=λv=>rfl
 have Gc:∀k,k<is.length->cF (.lst (is.map .int)) (.int (k:Int))=some (.int (is.getD k 0)):=λk hk=>ui (by rw[aD,vd hk];rfl)
 have Nl:=BW (g:=gV 4) (b:=N7) (n:=is.length) (λk ρ=>∃y4,ρ=[some (.lst (as.map bC)),some (.lst (is.map .int)),some (.lst (ao L)),some (.lst []),y4,none]) (λ_=>False) (by
  rintro k ρ hk ⟨y4,rfl⟩
  refine⟨_,rfl,.inl ⟨[some (.lst (as.map bC)),some (.lst (is.map .int)),some (.lst (ao L)),some (.lst []),some (.int (k:Int)),none],?_,_,rfl⟩⟩
  have i1:=Gc k hk
  obtain⟨⟨c1,c2⟩,_⟩:=h2 k hk
  generalize is.getD k 0=v at *
  have w1:=wh v
  generalize as.map bC=al,is.map D.int=il,ao L=nl at *
  unfold N7
  clear h h1 h2 hl hk wh Gc li JN
  walk_at "mir") is.length 0 [some (.lst (as.map bC)),some (.lst (is.map .int)),some (.lst (ao L)),some (.lst []),none,none] (by omega) ⟨none,rfl⟩
 have Nk:=λy=>BW (g:=gV 4) (b:=q0) (n:=is.length) (λk ρ=>∃y4 y5,ρ=[some (.lst (as.map bC)),some (.lst (is.map .int)),some (.lst (ao L)),some (.lst (ao ((aw k).map λj=>sI as (is.getD j 0)))),y4,y5]) (λ_=>False) (by
  rintro k ρ hk ⟨y4,y5,rfl⟩
  obtain⟨⟨c1,c2⟩,⟨c3,c4⟩,c5,c6⟩:=h2 k hk
  have e3:ao ((aw (k+1)).map λj=>sI as (is.getD j 0))=ao ((aw k).map λj=>sI as (is.getD j 0))++[.int ((aN as (is.getD k 0).toNat).s:Int)]:=by
   unfold ao;rw[List.range_succ,cL,cL];rfl
  refine⟨_,rfl,.inl ⟨[some (.lst (as.map bC)),some (.lst (is.map .int)),some (.lst (ao L)),some (.lst (ao ((aw (k+1)).map λj=>sI as (is.getD j 0)))),some (.int (k:Int)),some (.int ((aN as (is.getD k 0).toNat).s:Int))],?_,_,_,rfl⟩⟩
  have hz:(ao ((aw k).map λj=>sI as (is.getD j 0))).length<16777216:=by unfold ao;rw[ah,ah,bD];omega
  have oX:(aN as (is.getD k 0).toNat).s∉(aw k).map λj=>sI as (is.getD j 0):=λz=>by
   obtain⟨i,hi,e⟩:=bm.mp z
   exact c6 i (bM.mp hi) e
  have q2:=vz false (aN as (is.getD k 0).toNat).s ((aw k).map λj=>sI as (is.getD j 0))
  rw[if_neg (by decide),decide_eq_false oX]at q2
  have q3:=vz true (aN as (is.getD k 0).toNat).s L
  rw[if_pos rfl,decide_eq_true (show(aN as (is.getD k 0).toNat).s∈L from JN k hk)]at q3
  rw[e3]
  clear e3 oX c6
  generalize ao ((aw k).map λj=>sI as (is.getD j 0))=gd at *
  have i1:=Gc k hk
  have hp:mU is.length k<is.length:=by unfold mU;split<;>omega
  have i2:cF (.lst (is.map .int)) (.int ((k:Int)-1))=some (.int (is.getD (mU is.length k) 0)):=by
   by_cases h0:k=0
   ·subst h0
    have e:mU is.length 0=is.length-1:=rfl
    rw[e]at hp ⊢
    show atI _ _=_
    unfold atI
    have:ixN (is.map D.int).length (((0:Nat):Int)-1)=some (is.length-1):=by
     rw[ah]
     unfold ixN
     rw[if_neg (by omega),if_pos (by omega)]
     congr 1
     omega
    rw[this]
    show(is.map D.int)[is.length-1]?=_
    rw[aD,vd hp]
    rfl
   ·have e:mU is.length k=k-1:=by unfold mU;rw[if_neg h0]
    rw[e]at hp ⊢
    rw[show(k:Int)-1=((k-1:Nat):Int)by omega]
    exact ui (by rw[aD,vd hp];rfl)
  have t1:=Gb (as:=as) c1 c2
  have t2:=Gb (as:=as) c3 c4
  have e0:∀(a b c d:D),cF (.tup [a,b,c,d]) (.int 0)=some a:=λ_ _ _ _=>rfl
  have e1:∀(a b c d:D),cF (.tup [a,b,c,d]) (.int 1)=some b:=λ_ _ _ _=>rfl
  generalize is.getD (mU is.length k) 0=u,is.getD k 0=v at *
  have q:fZ true (.int ((aN as v.toNat).s:Int)) (.int ((aN as u.toNat).g:Int))=some (.bl false):=(zdd _ _).trans (by
   rw[if_pos rfl,decide_eq_true (by have:(aN as v.toNat).s=(aN as u.toNat).g:=c5;omega)];rfl)
  have WF:((aN as v.toNat).s:Int)=((aN as u.toNat).g:Int):=by have:(aN as v.toNat).s=(aN as u.toNat).g:=c5;omega
  generalize ((aN as v.toNat).s:Int)=vs,((aN as u.toNat).g:Int)=ug at *
  subst WF
  generalize as.map bC=al,is.map D.int=il,ao L=nl at *
  unfold q0
  clear h h1 h2 hl hk wh Gc li la hp c1 c2 c3 c4 c5 Nl JN
  walk_at "mir") is.length 0 [some (.lst (as.map bC)),some (.lst (is.map .int)),some (.lst (ao L)),some (.lst []),y,none] (by omega) ⟨y,none,rfl⟩
 rw[←de]at Nl
 simp only[←de]at Nk
 rcases Nl with⟨ρ2,l2,y2,rfl⟩|⟨_,_,f⟩
 ·rcases Nk y2 with⟨ρ1,l1,y1,y1',rfl⟩|⟨_,_,f⟩
  ·have q:=(El Ei).eq (by decide) (neg:=true) is []
   replace q:fZ true (.lst (is.map .int)) (.lst [])=some (.bl (!decide (is=[]))):=q
   rw[decide_eq_false h1]at q
   have JM:hJ [.int (is.length:Int)]=some ((aw is.length).map λ(t:Nat)=>D.int (t:Int)):=by
    rw[zE (by omega) (by omega)]
    unfold fJ
    simp
   generalize ao ((aw is.length).map λj=>sI as (is.getD j 0))=gd at *
   clear h h1 h2 wh Gc la Nk hl JN
   generalize (aw is.length).map (λ(t:Nat)=>D.int (t:Int))=Cv,as.map bC=al,is.map D.int=il,ao L=nl at *
   unfold qj
   walk_at "mir"
  ·exact f.elim
 ·exact f.elim
theorem Pl {many:Nat}{L:List Nat}{T:Nat->Int}{W:Int}(h:L=(aw many).filter λx=>decide (x∈L)):sX (gF many L T W)=L:=by
 have hl:(gF many L T W).length=many:=by unfold gF;simp
 unfold sX
 rw[hl]
 have e:(aw many).filter (λg=>(((gF many L T W)[g]?).join).isSome)=(aw many).filter λx=>decide (x∈L):=iL λg hg=>by
  have hg:=bM.mp hg
  unfold gF
  rw[aD,eM hg]
  show(if g∈L then some (Fq.mk (T g) W)else none).isSome=_
  by_cases h:g∈L
  ·rw[if_pos h,decide_eq_true h];rfl
  ·rw[if_neg h,decide_eq_false h];rfl
 rw[e]
 exact h.symm
theorem Pm {many:Nat}{L:List Nat}{T:Nat->Int}{W:Int}{g:Nat}(hg:g<many)(h:g∈L):kj (gF many L T W) g=Fq.mk (T g) W:=by
 unfold kj gF
 rw[aD,eM hg]
 show((if g∈L then some (Fq.mk (T g) W)else none).getD (0,1))=_
 rw[if_pos h]
 rfl
theorem UD {many:Nat}{L:List Nat}{T:Nat->Int}{W:Int}{q:Int×Int}(h:some q∈gF many L T W):∃g,q=Fq.mk (T g) W:=by
 obtain⟨g,_,e⟩:=bm.mp h
 by_cases hg:g∈L
 ·rw[if_pos hg]at e;exact⟨g,(Option.some.inj e).symm⟩
 ·rw[if_neg hg]at e;cases e
structure tL (many:Nat)(as:List bV)(L R:List Nat)(q:Int×Int)(T:Nat->Int):Prop where
 r:RG as (dh as L) R
 qe:q=Fq.mk (sT as R) (sB as R)
 mx:∀R',RG as (dh as L) R'->sT as R' * q.2<=q.1*sB as R'
 k:∀n∈dh as L,T (aS as n)+dQ as q n<=T (aG as n)
 t:∀x,0<=T x/\T x<=1000000000000000
theorem tL.kpt {many:Nat}{as:List bV}{L R:List Nat}{q:Int×Int}{T:Nat->Int}(h:tL many as L R q T)(hq:Fq.Low q)(gK:∀x∈L,x<many)(hc:∀a∈as,a.g∈L->a.s∈L)(hT:∀g,Fq.Low (Fq.mk (T g) q.2)):mN q (kj (gF many L T q.2)) L as=true:=by
 unfold mN
 refine eO.mpr λa ha=>?_
 by_cases hg:a.g∈L
 ·rw[decide_eq_true hg]
  show(!Fq.under _ _)=true
  obtain⟨n,hn⟩:=bo.mp ha
  have ea:aN as n=a:=by unfold aN;rw[hn];rfl
  have hk:=h.k n (wg.mpr ⟨(aW.mp hn).1,by unfold aG;rw[ea];exact hg⟩)
  unfold aS aG dQ at hk
  rw[ea]at hk
  have hs:=hc a ha hg
  have JL:=hq.gt
  have e1:early q (kj (gF many L T q.2)) a=early q (λg=>Fq.mk (T g) q.2) a:=by
   unfold early
   rw[Pm (gK _ hs) hs]
  rw[e1,Pm (gK _ hg) hg]
  have ki:=zqb (pace:=q) (tm:=λg=>Fq.mk (T g) q.2) (a:=a) (W:=q.2) (top:=T) hq hT JL (λg=>Fq.mk_cross (T g) q.2)
  rw[ki]
  refine decide_eq_true ?_
  have h2:=ba hk (cS JL)
  have e2:(T a.s+(a.t*q.2-(a.b:Int)*q.1))*q.2=T a.s*q.2+(a.t*q.2*q.2-q.1*(a.b:Int)*q.2):=by grind
  rw[e2]at h2
  exact h2
 ·rw[decide_eq_false hg];rfl
theorem ON {α:Type}{g:D->L3.Env->Option L3.Env}{b:SF}(enc:α->D)(f:α->Bool)(I:L3.Env->Prop)(w:D):∀(xs:List α) (ρ:L3.Env),I ρ->(∀x∈xs,∀ρ,I ρ->∃ρ1,g (enc x) ρ=some ρ1/\((f x=true/\∃ρ2,b ρ1=some (.nx ρ2)/\I ρ2)\/(f x=false/\b ρ1=some (.rt w)))) ->
  (xs.all f=true/\∃ρ',fQ g b (xs.map enc) ρ=some (.nx ρ')/\I ρ')\/(xs.all f=false/\fQ g b (xs.map enc) ρ=some (.rt w))
 |[],ρ,h,_=>.inl ⟨rfl,ρ,rfl,h⟩
 |x::xs,ρ,h,st=>by
  obtain⟨ρ1,h1,h2⟩:=st x aa ρ h
  have zA:fQ g b ((x::xs).map enc) ρ=(g (enc x) ρ).bind λρ1=>(b ρ1).bind λo=>match o with
    |.nx ρ'=>fQ g b (xs.map enc) ρ'
    |.ct ρ'=>fQ g b (xs.map enc) ρ'
    |.bk ρ'=>some (.nx ρ')
    |.rt d=>some (.rt d):=rfl
  rw[zA,h1,cz,dG]
  rcases h2 with⟨e,ρ2,h2,h3⟩|⟨e,h2⟩
  ·rw[h2,e]
   exact ON enc f I w xs ρ2 h3 λy hy=>st y (aj _ hy)
  ·rw[h2,e]
   exact .inr ⟨rfl,rfl⟩
theorem S6 {as:List bV}{is:List Int}{L:List Nat}{many g:Nat}(hL:Ld many as g L)(h:nt (sI as) (gI as) as.length is):gI as (is.getD 0 0)∈L↔∀j,j<is.length->sI as (is.getD j 0)∈L:=by
 obtain⟨h1,h2⟩:=Uw.mp h
 have i8:=dm.mpr h1
 have cl:∀j,j<is.length->gI as (is.getD j 0)∈L->sI as (is.getD j 0)∈L:=λj hj hg=>by
  have hr:=(h2 j hj).1
  exact hL.cls (j5 (n:=(is.getD j 0).toNat) (by omega)) hg
 constructor
 ·intro h0
  have s0:=cl 0 i8 h0
  have key:∀d j,d+j=is.length->0<d->sI as (is.getD j 0)∈L:=by
   intro d
   induction d with
   |zero=>intro j _ h;omega
   |succ d ih=>
    intro j hj _
    apply cl j (by omega)
    by_cases hd:d=0
    ·have c0:=(h2 0 i8).2.2.1
     have e:mU is.length 0=j:=by unfold mU;rw[if_pos rfl];omega
     rw[e]at c0
     rw[←c0];exact s0
    ·have c1:=(h2 (j+1) (by omega)).2.2.1
     have e:mU is.length (j+1)=j:=by unfold mU;rw[if_neg (by omega)];omega
     rw[e]at c1
     rw[←c1];exact ih (j+1) (by omega) (by omega)
  intro j hj
  exact key (is.length-j) j (by omega) (by omega)
 ·intro ha
  by_cases AV:is.length=1
  ·have c0:=(h2 0 i8).2.2.1
   have e:mU is.length 0=0:=by unfold mU;rw[if_pos rfl];omega
   rw[e]at c0
   rw[←c0];exact ha 0 i8
  ·have c1:=(h2 1 (by omega)).2.2.1
   have e:mU is.length 1=0:=by unfold mU;rw[if_neg (by omega)]
   rw[e]at c1
   rw[←c1];exact ha 1 (by omega)
theorem zqj {many:Nat}{as:List bV}{p:Int×Int}{O:List (Option (Int×Int))}{L:List Nat}(fT:∀a∈as,B8 many a)(lp:Fq.Low p)(zp:Fz 300 p)(hO:∀q,some q∈O->Fq.Low q/\Fz 300 q)(ht:sX O=L)(hc:∀a∈as,a.g∈L->a.s∈L):IK [.lst (as.map bC),fr p,qL O,.lst (ao L)]=some (.bl (mN p (kj O) L as)):=by
 have Nj:=ON (g:=gT (gsCons (gV 4) (gsCons (gV 5) (gsCons (gV 6) (gsCons (gV 7) gsNil))))) (b:=ID) bC (λa=>!decide (a.g∈L) || !Fq.under (kj O a.g) (early p (kj O) a)) (λρ=>∃y4 y5 y6 y7 y8 y9 y10,ρ=[some (.lst (as.map bC)),some (fr p),some (qL O),some (.lst (ao L)),y4,y5,y6,y7,y8,y9,y10]) (.bl false) as [some (.lst (as.map bC)),some (fr p),some (qL O),some (.lst (ao L)),none,none,none,none,none,none,none] ⟨_,_,_,_,_,_,_,rfl⟩ (by
  rintro a ha ρ ⟨y4,y5,y6,y7,y8,y9,y10,rfl⟩
  have ok:=fT a ha
  have qi:=vz false a.g L
  rw[if_neg (by decide)]at qi
  refine⟨[some (.lst (as.map bC)),some (fr p),some (qL O),some (.lst (ao L)),some (.int (a.s:Int)),some (.int (a.g:Int)),some (.int a.t),some (.int (a.b:Int)),y8,y9,y10],rfl,?_⟩
  by_cases kd:a.g∈L
  ·rw[decide_eq_true kd]at qi ⊢
   have i1:=Ji (L:=O) (g:=a.s) (by rw[ht];exact hc a ha kd)
   have i2:=Ji (L:=O) (g:=a.g) (by rw[ht];exact kd)
   have kl:=zqa (a:=a) lp (zF hO a.s).1 (zF hO a.g).1
   have NY:=(zF hO a.s).2.1
   have N1:=(zF hO a.g).2.1
   have zB:=(zF hO a.s).2.2
   have RH:=(zF hO a.g).2.2
   generalize Fq.under (kj O a.g) (early p (kj O) a)=ub,kj O a.s=x at *
   generalize kj O a.g=y at *
   have rn:=zp.1
   have lL:=zp.2
   have tz:Sz 300 a.t:=qo (w:=1000000000) (by have:=ok.t0;omega) ok.t1 (by decide)
   have bz:Sz 300 (a.b:Int):=qo (w:=4) (by omega) (by have:=ok.b;omega) (by decide)
   have m1:dk (.int x.1) (.int p.2)=some (.int (x.1*p.2)):=u7 NY lL (by decide) (by decide)
   have m2:dk (.int a.t) (.int x.2)=some (.int (a.t*x.2)):=u7 tz zB (by decide) (by decide)
   have m3:dk (.int (a.t*x.2)) (.int p.2)=some (.int (a.t*x.2*p.2)):=u7 (tz.mul zB) lL (by decide) (by decide)
   have m4:dk (.int p.1) (.int (a.b:Int))=some (.int (p.1*(a.b:Int))):=u7 rn bz (by decide) (by decide)
   have m5:dk (.int (p.1*(a.b:Int))) (.int x.2)=some (.int (p.1*(a.b:Int)*x.2)):=u7 (rn.mul bz) zB (by decide) (by decide)
   have m6:dk (.int y.1) (.int x.2)=some (.int (y.1*x.2)):=u7 N1 zB (by decide) (by decide)
   have m7:dk (.int (y.1*x.2)) (.int p.2)=some (.int (y.1*x.2*p.2)):=u7 (N1.mul zB) lL (by decide) (by decide)
   have lz:Sz 902 (x.1*p.2+a.t*x.2*p.2-p.1*(a.b:Int)*x.2):=((((NY.mul lL).mono (by decide:300+300<=900)).add ((tz.mul zB).mul lL)).sub (((rn.mul bz).mul zB).mono (by decide)))
   have m8:dk (.int (x.1*p.2+a.t*x.2*p.2-p.1*(a.b:Int)*x.2)) (.int y.2)=some (.int ((x.1*p.2+a.t*x.2*p.2-p.1*(a.b:Int)*x.2)*y.2)):=u7 lz RH (by decide) (by decide)
   have lt':nD (.int (y.1*x.2*p.2)) (.int ((x.1*p.2+a.t*x.2*p.2-p.1*(a.b:Int)*x.2)*y.2))=some (.bl ub):=(zmw _ _).trans (by rw[kl])
   have a0:=wU x
   have a1:=oT x
   have b0:=wU y
   have b1:=oT y
   have p0:=wU p
   have p1:=oT p
   clear lz NY N1 zB RH tz bz ok ha rn lL fT lp zp hO ht hc kd
   generalize fr x=X,fr y=Y,fr p=F,qL O=TM,ao L=nl,as.map bC=al at *
   generalize XX:x.1*p.2+a.t*x.2*p.2-p.1*(a.b:Int)*x.2=w9 at *
   generalize w9*y.2=w1,y.1*x.2*p.2=w2 at *
   generalize y.1*x.2=w3,a.t*x.2*p.2=w4 at *
   generalize a.t*x.2=w5,p.1*(a.b:Int)*x.2=w6 at *
   generalize p.1*(a.b:Int)=w7,x.1*p.2=w8 at *
   subst XX
   cases ub
   ·have gK:=of_decide_eq_false kl.symm
    clear kl
    refine .inl ⟨rfl,[some (.lst al),some F,some TM,some (.lst nl),some (.int (a.s:Int)),some (.int (a.g:Int)),some (.int a.t),some (.int (a.b:Int)),some X,some Y,some (.int (w8+w4-w6))],?_,_,_,_,_,_,_,_,rfl⟩
    unfold ID
    walk_at "mir"
   ·have gK:=of_decide_eq_true kl.symm
    clear kl
    refine .inr ⟨rfl,?_⟩
    unfold ID
    walk_at "mir"
  ·rw[decide_eq_false kd]at qi ⊢
   refine .inl ⟨rfl,[some (.lst (as.map bC)),some (fr p),some (qL O),some (.lst (ao L)),some (.int (a.s:Int)),some (.int (a.g:Int)),some (.int a.t),some (.int (a.b:Int)),y8,y9,y10],?_,_,_,_,_,_,_,_,rfl⟩
   clear ok ha fT lp zp hO ht hc kd
   generalize fr p=F,qL O=TM,ao L=nl,as.map bC=al at *
   unfold ID
   walk_at "mir")
 have lsd:lsD (eV 0) [some (.lst (as.map bC)),some (fr p),some (qL O),some (.lst (ao L)),none,none,none,none,none,none,none]=some (as.map bC):=rfl
 unfold mN
 rcases Nj with⟨h1,ρ',Nj,y4,y5,y6,y7,y8,y9,y10,rfl⟩|⟨h1,Nj⟩
 ·rw[h1]
  clear fT lp zp hO ht hc h1
  generalize qL O=TM,ao L=nl,fr p=F at *
  unfold IK sFor
  generalize lsD (eV 0)=LS,as.map bC=al at *
  walk_at "mir"
 ·rw[h1]
  clear fT lp zp hO ht hc h1
  generalize qL O=TM,ao L=nl,fr p=F at *
  unfold IK sFor
  generalize lsD (eV 0)=LS,as.map bC=al at *
  walk_at "mir"
theorem tL.low {many:Nat}{as:List bV}{L R:List Nat}{q:Int×Int}{T:Nat->Int}{rk:Nat->Nat}{mb:Nat}(h:tL many as L R q T)(g:GN many as (dh as L) rk mb):Fq.Low q/\Fz 300 q/\q.2<=160/\0<=q.1/\q.1<=120000000000:=by
 obtain⟨l,_,z2,n0,n1⟩:=zK h.r g
 rw[←h.qe]at l z2 n0 n1
 have:=l.gt
 exact⟨l,⟨qo (w:=120000000000) (by omega) n1 (by decide),qo (w:=160) (by omega) z2 (by decide)⟩,z2,n0,n1⟩
theorem tL.tz {many:Nat}{as:List bV}{L R:List Nat}{q:Int×Int}{T:Nat->Int}(h:tL many as L R q T)(hq:Fq.Low q)(h2:q.2<=160)(g:Nat):Fq.Low (Fq.mk (T g) q.2)/\Fz 300 (Fq.mk (T g) q.2):=by
 have:=hq.gt
 exact⟨Fq.mk_low (by omega),Jh (by omega) (qo (w:=1000000000000000) (by have:=h.t g;omega) (h.t g).2 (by decide)) (qo (w:=160) (by omega) h2 (by decide))⟩
theorem tL.rng {many:Nat}{as:List bV}{L R:List Nat}{q:Int×Int}{T:Nat->Int}(h:tL many as L R q T):nt (sI as) (gI as) as.length (R.map λ(n:Nat)=>(n:Int)):=by
 obtain⟨x,hx⟩:=h.r.w
 exact UC hx h.r.ne (λn hn=>(wg.mp (h.r.m n hn)).1) h.r.nd
theorem tL.starts {many:Nat}{as:List bV}{L R:List Nat}{q:Int×Int}{T:Nat->Int}(h:tL many as L R q T):∀j,j<(R.map λ(n:Nat)=>(n:Int)).length->sI as ((R.map λ(n:Nat)=>(n:Int)).getD j 0)∈L:=by
 intro j hj
 rw[ah]at hj
 have e:(R.map λ(n:Nat)=>(n:Int)).getD j 0=((R[j]'hj:Nat):Int):=by
  rw[fE,aD,aT hj]
  rfl
 rw[e]
 have hs:=h.r.starts _ (tY hj)
 obtain⟨m,h1,h2⟩:=bm.mp hs
 have:sI as ((R[j]'hj:Nat):Int)=aS as (R[j]'hj):=by unfold sI aS;rw[eG]
 rw[this,←h2]
 exact(wg.mp (h.r.m m h1)).2
theorem zqk {many:Nat}{as:List bV}{L R:List Nat}{q:Int×Int}{T:Nat->Int}{rk:Nat->Nat}{mb g:Nat}(h:tL many as L R q T)(gn:GN many as (dh as L) rk mb)(hL:Ld many as g L):J8 [.lst (as.map bC),.int (many:Int),.tup [fr q,.lst (ao R),qL (gF many L T q.2)],.lst (ao L)]=some (.bl true):=by
 obtain⟨lq,zq,o4,n0,n1⟩:=h.low gn
 have JL:=lq.gt
 have lo:=U6 lq (zq.2.mono (by decide))
 have MD:=h.r.len gn
 have hm:=gn.m
 have ri:=zqi (as:=as) (is:=R.map λ(n:Nat)=>(n:Int)) (L:=L) (by rw[ah];omega) h.rng h.starts
 have en:(R.map λ(n:Nat)=>(n:Int)).map D.int=ao R:=by rw[bH];rfl
 rw[en]at ri
 have hO:∀q',some q'∈gF many L T q.2->Fq.Low q'/\Fz 300 q':=λq' uM=>by
  obtain⟨x,rfl⟩:=UD uM
  exact h.tz lq o4 x
 have ft:=zqj (many:=many) (as:=as) (p:=q) (O:=gF many L T q.2) (L:=L) gn.ok lq zq hO (Pl hL.srt) (λa ha hg=>hL.cls ha hg)
 rw[h.kpt lq hL.lt (λa ha hg=>hL.cls ha hg) (λx=>(h.tz lq o4 x).1)]at ft
 have Cq:(gF many L T q.2).length=many:=by unfold gF;simp
 have Q9:cX [qL (gF many L T q.2)]=some (.int (many:Int)):=(wx _).trans (by rw[ah,Cq])
 have Qu:fZ true (.int (many:Int)) (.int (many:Int))=some (.bl false):=(zdd _ _).trans (by simp)
 have FZ:jU "list" (.lst (ao R))=some (.bl true):=rfl
 have Ga:jU "list" (qL (gF many L T q.2))=some (.bl true):=rfl
 have Nc:jU "tuple" (.tup [fr q,.lst (ao R),qL (gF many L T q.2)])=some (.bl true):=rfl
 have l3:cX [.tup [fr q,.lst (ao R),qL (gF many L T q.2)]]=some (.int 3):=rfl
 have j0:cF (.tup [fr q,.lst (ao R),qL (gF many L T q.2)]) (.int 0)=some (fr q):=rfl
 have lp:=BW (g:=gV 7) (b:=ql) (n:=many) (λk ρ=>∃y7,ρ=[some (.lst (as.map bC)),some (.int (many:Int)),some (.tup [fr q,.lst (ao R),qL (gF many L T q.2)]),some (.lst (ao L)),some (fr q),some (.lst (ao R)),some (qL (gF many L T q.2)),y7,none,none]) (λ_=>False) (by
  rintro k ρ hk ⟨y7,rfl⟩
  refine⟨_,rfl,.inl ⟨[some (.lst (as.map bC)),some (.int (many:Int)),some (.tup [fr q,.lst (ao R),qL (gF many L T q.2)]),some (.lst (ao L)),some (fr q),some (.lst (ao R)),some (qL (gF many L T q.2)),some (.int (k:Int)),none,none],?_,_,rfl⟩⟩
  have q1:=vz false k L
  have q2:=vz true k L
  rw[if_neg (by decide)]at q1
  rw[if_pos rfl]at q2
  by_cases kd:k∈L
  ·rw[decide_eq_true kd]at q1 q2
   have ix:=Ji (L:=gF many L T q.2) (g:=k) (by rw[Pl hL.srt];exact kd)
   rw[Pm hk kd]at ix
   have lk:=U6 (h.tz lq o4 k).1 ((h.tz lq o4 k).2.2.mono (by decide))
   generalize fr (Fq.mk (T k) q.2)=Fk,(D.tup [fr q,.lst (ao R),qL (gF many L T q.2)])=PD at *
   generalize qL (gF many L T q.2)=ol,ao R=rl,ao L=nl,fr q=F,as.map bC=al at *
   clear kd ft hO en ri lo Q9 Ga FZ Nc l3 j0 Qu Cq
   unfold ql
   walk_at "mir"
  ·rw[decide_eq_false kd]at q1 q2
   have ix:cF (qL (gF many L T q.2)) (.int (k:Int))=some .non:=ui (by
    unfold gF
    rw[aD,aD,eM hk]
    show some (dU (if k∈L then some (Fq.mk (T k) q.2)else none))=_
    rw[if_neg kd]
    rfl)
   generalize (D.tup [fr q,.lst (ao R),qL (gF many L T q.2)])=PD at *
   generalize qL (gF many L T q.2)=ol,ao R=rl,ao L=nl,fr q=F,as.map bC=al at *
   clear kd ft hO en ri lo Q9 Ga FZ Nc l3 j0 Qu Cq
   unfold ql
   walk_at "mir") many 0 [some (.lst (as.map bC)),some (.int (many:Int)),some (.tup [fr q,.lst (ao R),qL (gF many L T q.2)]),some (.lst (ao L)),some (fr q),some (.lst (ao R)),some (qL (gF many L T q.2)),none,none,none] (by omega) ⟨none,rfl⟩
 rw[←de]at lp
 have JM:hJ [.int (many:Int)]=some ((aw many).map λ(t:Nat)=>D.int (t:Int)):=by
  rw[zE (by omega) (by omega)]
  unfold fJ
  simp
 rcases lp with⟨ρ',l1,y7,rfl⟩|⟨_,_,f⟩
 ·have ME:∀n∈R,n<as.length:=λn hn=>(wg.mp (h.r.m n hn)).1
  have k2:=U2 (as:=as) (w:=R) (j:=2) (f:=λa=>a.t) (q:=N6) (fi:=lsD (eV 5)) rfl (λ_=>rfl) (by omega) ME [some (.lst (as.map bC)),some (.int (many:Int)),some (.tup [fr q,.lst (ao R),qL (gF many L T q.2)]),some (.lst (ao L)),some (fr q),some (.lst (ao R)),some (qL (gF many L T q.2)),y7,none,none] rfl rfl
  have k3:=U2 (as:=as) (w:=R) (j:=3) (f:=λa=>(a.b:Int)) (q:=N5) (fi:=lsD (eV 5)) rfl (λ_=>rfl) (by omega) ME [some (.lst (as.map bC)),some (.int (many:Int)),some (.tup [fr q,.lst (ao R),qL (gF many L T q.2)]),some (.lst (ao L)),some (fr q),some (.lst (ao R)),some (qL (gF many L T q.2)),y7,some (.int (sT as R)),none] rfl rfl
  replace k2:N6 _=some (.lst ((R.map (tN as)).map .int)):=k2
  replace k3:N5 _=some (.lst ((R.map (bN as)).map .int)):=k3
  have u2:=Jd (R.map (tN as))
  have u3:=Jd (R.map (bN as))
  replace u2:o9 [.lst ((R.map (tN as)).map .int)]=some (.int (sT as R)):=u2
  replace u3:o9 [.lst ((R.map (bN as)).map .int)]=some (.int (sB as R)):=u3
  have bds:=h.r.bds gn
  have hD:=gn.D
  have cr:=Fq.mk_cross (sT as R) (sB as R)
  rw[←h.qe]at cr
  have m1:dk (.int (sT as R)) (.int q.2)=some (.int (sT as R*q.2)):=zc0 (by omega) (by omega)
  have m2:dk (.int q.1) (.int (sB as R))=some (.int (sT as R*q.2)):=(zc0 (by omega) (by omega)).trans (by rw[cr])
  have p0:=wU q
  have p1:=oT q
  have asg:sAsg (gT (gsCons (gV 4) (gsCons (gV 5) (gsCons (gV 6) gsNil)))) (eV 2) [some (.lst (as.map bC)),some (.int (many:Int)),some (.tup [fr q,.lst (ao R),qL (gF many L T q.2)]),some (.lst (ao L)),none,none,none,none,none,none]=some (.nx [some (.lst (as.map bC)),some (.int (many:Int)),some (.tup [fr q,.lst (ao R),qL (gF many L T q.2)]),some (.lst (ao L)),some (fr q),some (.lst (ao R)),some (qL (gF many L T q.2)),none,none,none]):=rfl
  clear cr hD bds ME hO en Cq h gn hL JL lq zq o4 n0 n1 MD
  generalize (R.map (tN as)).map D.int=tl,(R.map (bN as)).map D.int=bl,(aw many).map (λ(t:Nat)=>D.int (t:Int))=Cv,(D.tup [fr q,.lst (ao R),qL (gF many L T q.2)])=PD at *
  generalize qL (gF many L T q.2)=ol,sT as R*q.2=w1 at *
  generalize sT as R=sTR,sB as R=sBR,ao R=rl,ao L=nl,fr q=F,as.map bC=al at *
  unfold J8
  generalize sAsg (gT (gsCons (gV 4) (gsCons (gV 5) (gsCons (gV 6) gsNil)))) (eV 2)=AS at *
  walk_at "mir"
 ·exact f.elim
theorem OO {as:List bV}{f:bV->Int}{L:List Nat}{n:Nat}:n∈dh (as.map λa=>fU a (f a)) L↔n∈dh as L:=by
 rw[wg,wg,ah,wF]
theorem PR {as:List bV}{f:bV->Int}{L R:List Nat}:RG (as.map λa=>fU a (f a)) (dh (as.map λa=>fU a (f a)) L) R↔RG as (dh as L) R:=by
 constructor
 ·intro h
  have w:=h.w
  have nd:=h.nd
  rw[Jg,wF]at w
  rw[wF]at nd
  exact⟨h.ne,w,nd,λn hn=>OO.mp (h.m n hn)⟩
 ·intro h
  refine⟨h.ne,?_,?_,λn hn=>OO.mpr (h.m n hn)⟩
  ·rw[Jg,wF];exact h.w
  ·rw[wF];exact h.nd
theorem K0 (as:List bV)(f:bV->Int)(R:List Nat):sT (as.map λa=>fU a (f a)) R=sT as R:=by
 unfold sT
 have:tN (as.map λa=>fU a (f a))=tN as:=funext λn=>(wD as f n).2.2.1
 rw[this]
theorem K1 (as:List bV)(f:bV->Int)(R:List Nat):sB (as.map λa=>fU a (f a)) R=sB as R:=by
 unfold sB
 have:bN (as.map λa=>fU a (f a))=bN as:=funext λn=>by unfold bN;rw[(wD as f n).2.2.2]
 rw[this]
def Bt (many:Nat)(as:List bV)(g:Nat)(o:Option (Int×Int)):Prop:=∃L,Ld many as g L/\((o=none/\∀R,¬RG as (dh as L) R)\/∃(q:Int×Int) (R:List Nat),o=some q/\RG as (dh as L) R/\q=Fq.mk (sT as R) (sB as R)/\∀R',RG as (dh as L) R'->sT as R' * q.2<=q.1*sB as R')
theorem zt4 {e0 e3:Option D}{ns:List D}{many:Nat}{as:List bV}{rk:Nat->Nat}{mb g:Nat}{bs:List (Option (Int×Int))}(hok:mw many (as.map λa=>fU a a.s))(gG:ns.length=many)(iN:∀a∈as,Drawn many rk a)(gn:GN many (as.map λa=>fU a (a.s:Int)) (aw (as.map λa=>fU a (a.s:Int)).length) rk mb)(rP:∀L:List Nat,GN many as (dh as L) rk mb)(lJ:kD 4 "most_behind" ya (bA ns (as.map λa=>fU a (a.s:Int))) []=some (.int (mb:Int)))(hg:g<many)(QG:bs.length<=1000)(y7 y8 y9 y10 y11 y12 y13:Option D) :
  ∃(o:Option (Int×Int)) (z7 z8:Option D),CL [e0,some (.int (many:Int)),some (.lst (as.map bC)),e3,some (bA ns (as.map λa=>fU a a.s)),some (.lst (bs.map dU)),some (.int (g:Int)),y7,y8,y9,y10,y11,y12,y13]=some (.nx [e0,some (.int (many:Int)),some (.lst (as.map bC)),e3,some (bA ns (as.map λa=>fU a a.s)),some (.lst ((bs++[o]).map dU)),some (.int (g:Int)),z7,z8,y9,y10,y11,y12,y13])/\Bt many as g o:=by
 have hm:=gn.m
 have fT:as.length<=120:=by have:=gn.al;rw[ah]at this;exact this
 obtain⟨L,lead,hL⟩:=zlk (as:=as) (many:=many) (g:=g) hm fT (λa ha=>(iN a ha).s) hg
 obtain⟨L2,rS,JC⟩:=zt0 (ns:=ns) (as:=as.map λa=>fU a (a.s:Int)) (many:=many) (g:=g) hm (by rw[ah];exact fT) (λa ha=>by
  obtain⟨a',h1,rfl⟩:=bm.mp ha
  exact(iN a' h1).s) hg
 have W3:L2=L:=((Ld.made (λa=>(a.s:Int))).mp JC).uniq hL
 subst W3
 obtain⟨b,nr,FI⟩:=zqh (as:=as) (many:=many) (L:=L2) fT (by have:=hL.len;omega) hL.lt hm
 obtain⟨d,rt,XF⟩:=zwa (ns:=ns) (as:=as.map λa=>fU a (a.s:Int)) (g:=g) (L:=L2) gn gG lJ rS
 have hz:(bs.map dU).length<16777216:=by rw[ah];omega
 rcases XF with⟨rfl,hN⟩|⟨R,q,T,rfl,r1,r2,r3,r4,r5⟩
 ·have hb:b=true:=FI.mpr λR hR=>hN R (PR.mpr hR)
  subst hb
  refine⟨none,some (.lst (ao L2)),some .non,?_,L2,hL,.inl ⟨rfl,FI.mp rfl⟩⟩
  have Fh:(bs++[none]).map dU=bs.map dU++[.non]:=by rw[cL];rfl
  rw[Fh]
  clear Fh hN FI hL JC rS lJ gn rP iN gG hok hg QG fT hm
  generalize bs.map dU=bl,ao L2=nl,bA ns (as.map λa=>fU a a.s)=net,as.map bC=al at *
  unfold CL
  walk_at "mir"
 ·have hR:=PR.mp r1
  have hb:b=false:=by
   cases b with
   |false=>rfl
   |true=>exact absurd hR (FI.mp rfl R)
  subst hb
  rw[K0,K1]at r2
  have vN:tL many as L2 R q T:=⟨hR,r2,λR' oV=>by
   have:=r3 R' (PR.mpr oV)
   rw[K0,K1]at this
   exact this,λn hn=>by
   have:=r4 n (OO.mpr hn)
   rw[Jg,wF,zvz]at this
   exact this,r5⟩
  have ri:=zqk vN (rP L2) hL
  obtain⟨lq,zq,o4,n0,n1⟩:=vN.low (rP L2)
  have hO:∀q',some q'∈gF many L2 T q.2->Fq.Low q'/\Fz 300 q':=λq' uM=>by
   obtain⟨x,rfl⟩:=UD uM
   exact vN.tz lq o4 x
  have MD:=hR.len (rP L2)
  have Rv:∀a∈(as.map λa=>fU a (a.s:Int)),a.b=0->rk a.s<rk a.g:=λa ha=>by
   obtain⟨a',h1,rfl⟩:=bm.mp ha
   exact(iN a' h1).r
  obtain⟨bh,ho,MX⟩:=zll (ns:=ns) (g:=g) (is:=R.map λ(n:Nat)=>(n:Int)) (pace:=q) (OL:=gF many L2 T q.2) (L:=L2) hok gG hm (by rw[ah];omega) (by rw[ah];exact fT) (by unfold gF;simp;omega) Rv lq zq hO rS JC
  have en:(R.map λ(n:Nat)=>(n:Int)).map D.int=ao R:=by rw[bH];rfl
  rw[en]at ho
  have s1:sI (as.map λa=>fU a (a.s:Int))=sI as:=funext λi=>(wD as (λa=>(a.s:Int)) i.toNat).1
  have s2:gI (as.map λa=>fU a (a.s:Int))=gI as:=funext λi=>(wD as (λa=>(a.s:Int)) i.toNat).2.1
  have s3:tI (as.map λa=>fU a (a.s:Int))=tI as:=funext λi=>(wD as (λa=>(a.s:Int)) i.toNat).2.2.1
  have s4:bI (as.map λa=>fU a (a.s:Int))=bI as:=funext λi=>by unfold bI;rw[(wD as (λa=>(a.s:Int)) i.toNat).2.2.2]
  have kp:mN q (kj (gF many L2 T q.2)) L2 (as.map λa=>fU a (a.s:Int))=mN q (kj (gF many L2 T q.2)) L2 as:=by unfold mN;rw[lN];rfl
  rw[s1,s2,s3,s4,kp,ah]at MX
  have et:((R.map λ(n:Nat)=>(n:Int)).map (tI as)).sum=sT as R:=by unfold sT;rw[bH];congr 1
  have eb:((R.map λ(n:Nat)=>(n:Int)).map (bI as)).sum=sB as R:=by unfold sB;rw[bH];congr 1
  have Xd:bh=true:=MX.mpr ⟨vN.rng,by rw[et,eb];exact r2.symm,(S6 hL vN.rng).mpr vN.starts,by unfold gF;simp,Pl hL.srt,vN.kpt lq hL.lt (λa ha hg=>hL.cls ha hg) (λx=>(vN.tz lq o4 x).1)⟩
  subst Xd
  refine⟨some q,some (.lst (ao L2)),some (.tup [fr q,.lst (ao R),qL (gF many L2 T q.2)]),?_,L2,hL,.inr ⟨q,R,rfl,hR,r2,vN.mx⟩⟩
  have Fh:(bs++[some q]).map dU=bs.map dU++[fr q]:=by rw[cL];rfl
  have j0:cF (.tup [fr q,.lst (ao R),qL (gF many L2 T q.2)]) (.int 0)=some (fr q):=rfl
  rw[Fh]
  clear Fh MX et eb kp s1 s2 s3 s4 en Rv MD hO lq zq o4 n0 n1 vN hR r1 r2 r3 r4 r5 FI hL JC rS lJ gn rP iN gG hok hg QG fT hm
  generalize (D.tup [fr q,.lst (ao R),qL (gF many L2 T q.2)])=PD,bs.map dU=bl at *
  generalize fr q=F,ao L2=nl,bA ns (as.map λa=>fU a a.s)=net,as.map bC=al at *
  unfold CL
  walk_at "mir"
theorem zok {as:List bV}{g s x:Nat}(h1:sE as g s)(h2:sE as s x):sE as g x:=by
 induction h2 with
 |self=>exact h1
 |step ha _ ih=>exact .step ha ih
theorem RG.sub {as:List bV}{n1 n2 R:List Nat}(h:RG as n1 R)(hs:∀n∈n1,n∈n2):RG as n2 R:=⟨h.ne,h.w,h.nd,λn hn=>hs n (h.m n hn)⟩
theorem PJ {T B q1 q2 p1 p2:Int}(hB:0<B)(hq:0<q2)(e:q1*B=T*q2)(h:T*p2<=p1*B):q1*p2<=p1*q2:=by
 have k:=ba h (cS hq)
 have e1:T*p2*q2=q1*p2*B:=by
  have:T*p2*q2=T*q2*p2:=by grind
  rw[this,←e];grind
 have e2:p1*B*q2=p1*q2*B:=by grind
 rw[e1,e2]at k
 exact d6 k hB
theorem zqn {many:Nat}{as:List bV}{a:bV}{o p:Option (Int×Int)}{rk:Nat->Nat}{mb:Nat}(gn:∀L:List Nat,GN many as (dh as L) rk mb)(ha:a∈as)(ho:Bt many as a.s o)(hp:Bt many as a.g p){q:Int×Int}(e:o=some q):∃p',p=some p'/\q.1*p'.2<=p'.1*q.2:=by
 obtain⟨L,hL,h⟩:=ho
 obtain⟨M,hM,k⟩:=hp
 rcases h with⟨rfl,_⟩|⟨q',R,rfl,hR,hq,_⟩
 ·cases e
 ·have:=Option.some.inj e
  subst this
  have sub:∀n∈dh as L,n∈dh as M:=λn hn=>by
   obtain⟨h1,h2⟩:=wg.mp hn
   exact wg.mpr ⟨h1,(hM.mem _).mpr (zok (.step ha .self) ((hL.mem _).mp h2))⟩
  have oV:=hR.sub sub
  rcases k with⟨_,hN⟩|⟨p',R',rfl,_,_,mx⟩
  ·exact absurd oV (hN R)
  ·refine⟨p',rfl,?_⟩
   have b:=(hR.bds (gn L)).2.1
   obtain⟨l,_⟩:=zK hR (gn L)
   rw[←hq]at l
   have c:=Fq.mk_cross (sT as R) (sB as R)
   rw[←hq]at c
   exact PJ (by omega) l.gt c (mx R oV)
theorem zqo {many:Nat}{as:List bV}{rk:Nat->Nat}{mb:Nat}(gn:∀L:List Nat,GN many as (dh as L) rk mb)(gr:GN many as (aw as.length) rk mb){R:List Nat}{q:Int×Int}(hR:RG as (aw as.length) R)(hq:q=Fq.mk (sT as R) (sB as R))(mx:∀R',RG as (aw as.length) R'->sT as R' * q.2<=q.1*sB as R'):∃x,x<many/\∀o,Bt many as x o->o=some q:=by
 obtain⟨n0,hn0⟩:∃n,n∈R:=iG _ hR.ne
 have gK:∀n∈R,n<as.length:=λn hn=>bM.mp (hR.m n hn)
 obtain⟨xw,JO⟩:=hR.w
 have rng:=UC JO hR.ne gK hR.nd
 have i8:=dm.mpr hR.ne
 have e0:(R.map λ(n:Nat)=>(n:Int)).getD 0 0=((R[0]'i8:Nat):Int):=by
  rw[fE,aD,aT i8]
  rfl
 have Xm:gI as ((R.map λ(n:Nat)=>(n:Int)).getD 0 0)=aG as (R[0]'i8):=by rw[e0];unfold gI aG;rw[eG]
 refine⟨aG as (R[0]'i8),(gr.ok _ (j5 (gK _ (tY i8)))).g,λo ho=>?_⟩
 obtain⟨L,hL,h⟩:=ho
 have kd:gI as ((R.map λ(n:Nat)=>(n:Int)).getD 0 0)∈L:=by rw[Xm];exact(hL.mem _).mpr .self
 have lK:=(S6 hL rng).mp kd
 have uN:∀n∈R,aS as n∈L:=λn hn=>by
  obtain⟨j,hj,e⟩:=dI.mp hn
  have:=lK j (by rw[ah];exact hj)
  have e1:(R.map λ(n:Nat)=>(n:Int)).getD j 0=((R[j]'hj:Nat):Int):=by
   rw[fE,aD,aT hj]
   rfl
  rw[e1]at this
  have e2:sI as ((R[j]'hj:Nat):Int)=aS as (R[j]'hj):=by unfold sI aS;rw[eG]
  rw[e2,e]at this
  exact this
 have Fw:∀n∈R,aG as n∈L:=λn hn=>by
  have e:=KR JO
  have:aG as n∈xw::R.map (aG as):=aj _ (bm.mpr ⟨n,hn,rfl⟩)
  rw[←e]at this
  rcases bg.mp this with h|h
  ·obtain⟨m,h1,h2⟩:=bm.mp h
   rw[←h2];exact uN m h1
  ·rw[az.mp h]
   cases MC:R with
   |nil=>exact absurd MC hR.ne
   |cons m R'=>
    rw[MC]at JO
    rw[←JO.1]
    exact uN m (by rw[MC];exact aa)
 have Ci:RG as (dh as L) R:=⟨hR.ne,hR.w,hR.nd,λn hn=>wg.mpr ⟨gK n hn,Fw n hn⟩⟩
 rcases h with⟨_,hN⟩|⟨p,R',rfl,oV,hp,Yf⟩
 ·exact absurd Ci (hN R)
 ·have b1:=(hR.bds gr).2.1
  have b2:=(oV.bds (gn L)).2.1
  obtain⟨l1,_⟩:=zK hR gr
  obtain⟨l2,_⟩:=zK oV (gn L)
  rw[←hq]at l1
  rw[←hp]at l2
  have c1:=Fq.mk_cross (sT as R) (sB as R)
  have c2:=Fq.mk_cross (sT as R') (sB as R')
  rw[←hq]at c1
  rw[←hp]at c2
  have h1:=PJ (by omega) l1.gt c1 (Yf R Ci)
  have h2:=PJ (by omega) l2.gt c2 (mx R' (oV.sub λn hn=>bM.mpr (wg.mp hn).1))
  exact congrArg some (Fq.uniq l2 l1 (by omega))
theorem TK {e0 e3:Option D}{ns:List D}{many:Nat}{as:List bV}{rk:Nat->Nat}{mb:Nat}{y9 y10 y11 y12 y13:Option D}(hok:mw many (as.map λa=>fU a a.s))(gG:ns.length=many)(iN:∀a∈as,Drawn many rk a)(gn:GN many (as.map λa=>fU a (a.s:Int)) (aw (as.map λa=>fU a (a.s:Int)).length) rk mb)(rP:∀L:List Nat,GN many as (dh as L) rk mb)(lJ:kD 4 "most_behind" ya (bA ns (as.map λa=>fU a (a.s:Int))) []=some (.int (mb:Int))) :
  ∀(post:List Nat) (bs:List (Option (Int×Int))) (y6 y7 y8:Option D),(∀g∈post,g<many)->bs.length+post.length<=1000 ->
  ∃(zY:List (Option (Int×Int))) (z6 z7 z8:Option D),fQ (gV 6) CL (ao post) [e0,some (.int (many:Int)),some (.lst (as.map bC)),e3,some (bA ns (as.map λa=>fU a a.s)),some (.lst (bs.map dU)),y6,y7,y8,y9,y10,y11,y12,y13]=some (.nx [e0,some (.int (many:Int)),some (.lst (as.map bC)),e3,some (bA ns (as.map λa=>fU a a.s)),some (.lst ((bs++zY).map dU)),z6,z7,z8,y9,y10,y11,y12,y13])/\zY.length=post.length/\∀(i g:Nat),post[i]?=some g->∃o,zY[i]?=some o/\Bt many as g o
 |[],bs,y6,y7,y8,_,_=>⟨[],y6,y7,y8,by rw[cA];rfl,rfl,λi g h=>by simp at h⟩
 |g::post,bs,y6,y7,y8,hg,hl=>by
  rw[aI]at hl
  obtain⟨o,z7,z8,st,hB⟩:=zt4 (e0:=e0) (e3:=e3) (ns:=ns) (bs:=bs) hok gG iN gn rP lJ (hg g aa) (by omega) y7 y8 y9 y10 y11 y12 y13
  obtain⟨zY,w6,w7,w8,ih,il,ii⟩:=TK (e0:=e0) (e3:=e3) (ns:=ns) (y9:=y9) (y10:=y10) (y11:=y11) (y12:=y12) (y13:=y13) hok gG iN gn rP lJ post (bs++[o]) (some (.int (g:Int))) z7 z8 (λx hx=>hg x (aj _ hx)) (by rw[aZ,cO];omega)
  refine⟨o::zY,w6,w7,w8,?_,by rw[aI,aI,il],λi x hx=>?_⟩
  ·have e4:bs++o::zY=bs++[o]++zY:=by rw[dN,p5]
   have e5:ao (g::post)=.int (g:Int)::ao post:=rfl
   rw[e4,e5,zto (ρ1:=[e0,some (.int (many:Int)),some (.lst (as.map bC)),e3,some (bA ns (as.map λa=>fU a a.s)),some (.lst (bs.map dU)),some (.int (g:Int)),y7,y8,y9,y10,y11,y12,y13]) rfl st]
   exact ih
  ·cases i with
   |zero=>
    have:g=x:=by simpa using hx
    subst this
    exact⟨o,rfl,hB⟩
   |succ i=>
    obtain⟨o',h1,h2⟩:=ii i x (by simpa using hx)
    exact⟨o',by simpa using h1,h2⟩
theorem Bt.sz {many:Nat}{as:List bV}{g:Nat}{q:Int×Int}{rk:Nat->Nat}{mb:Nat}(gn:∀L:List Nat,GN many as (dh as L) rk mb)(h:Bt many as g (some q)):0<=q.1/\q.1<=120000000000/\0<q.2/\q.2<=160:=by
 obtain⟨L,_,k⟩:=h
 rcases k with⟨e,_⟩|⟨q',R,e,hR,hq,_⟩
 ·cases e
 ·have:=Option.some.inj e
  subst this
  obtain⟨l,_,z2,n0,n1⟩:=zK hR (gn L)
  rw[←hq]at l z2 n0 n1
  exact⟨n0,n1,l.gt,z2⟩
theorem zqp {e0 e3 e4 y6 y7 y8:Option D}{many:Nat}{as:List bV}{rk:Nat->Nat}{mb:Nat}{bs:List (Option (Int×Int))}(rP:∀L:List Nat,GN many as (dh as L) rk mb)(vQ:∀g,g<many->∃o,bs[g]?=some o/\Bt many as g o)(iN:∀a∈as,Drawn many rk a)(y9 y10 y11 y12 y13:Option D) :
  ∃z9 z10 z11 z12 z13:Option D,fQ (gT (gsCons (gV 9) (gsCons (gV 10) (gsCons (gV 11) (gsCons (gV 12) gsNil))))) CK (as.map bC) [e0,some (.int (many:Int)),some (.lst (as.map bC)),e3,e4,some (.lst (bs.map dU)),y6,y7,y8,y9,y10,y11,y12,y13]=some (.nx [e0,some (.int (many:Int)),some (.lst (as.map bC)),e3,e4,some (.lst (bs.map dU)),y6,y7,y8,z9,z10,z11,z12,z13]):=by
 have lp:=ON (g:=gT (gsCons (gV 9) (gsCons (gV 10) (gsCons (gV 11) (gsCons (gV 12) gsNil))))) (b:=CK) bC (λ_=>true) (λρ=>∃z9 z10 z11 z12 z13,ρ=[e0,some (.int (many:Int)),some (.lst (as.map bC)),e3,e4,some (.lst (bs.map dU)),y6,y7,y8,z9,z10,z11,z12,z13]) (.bl false) as [e0,some (.int (many:Int)),some (.lst (as.map bC)),e3,e4,some (.lst (bs.map dU)),y6,y7,y8,y9,y10,y11,y12,y13] ⟨_,_,_,_,_,rfl⟩ (by
  rintro a ha ρ ⟨z9,z10,z11,z12,z13,rfl⟩
  obtain⟨o,ho,JA⟩:=vQ a.s (iN a ha).s
  obtain⟨p,hp,JB⟩:=vQ a.g (iN a ha).g
  have i1:cF (.lst (bs.map dU)) (.int (a.s:Int))=some (dU o):=ui (by rw[aD,ho];rfl)
  have i2:cF (.lst (bs.map dU)) (.int (a.g:Int))=some (dU p):=ui (by rw[aD,hp];rfl)
  refine⟨[e0,some (.int (many:Int)),some (.lst (as.map bC)),e3,e4,some (.lst (bs.map dU)),y6,y7,y8,some (.int (a.s:Int)),some (.int (a.g:Int)),some (.int a.t),some (.int (a.b:Int)),z13],rfl,.inl ⟨rfl,[e0,some (.int (many:Int)),some (.lst (as.map bC)),e3,e4,some (.lst (bs.map dU)),y6,y7,y8,some (.int (a.s:Int)),some (.int (a.g:Int)),some (.int a.t),some (.int (a.b:Int)),some (dU o)],?_,_,_,_,_,_,rfl⟩⟩
  cases o with
  |none=>
   replace i1:cF (.lst (bs.map dU)) (.int (a.s:Int))=some .non:=i1
   show _=some (Out.nx [e0,some (.int (many:Int)),some (.lst (as.map bC)),e3,e4,some (.lst (bs.map dU)),y6,y7,y8,some (.int (a.s:Int)),some (.int (a.g:Int)),some (.int a.t),some (.int (a.b:Int)),some .non])
   generalize bs.map dU=bl,as.map bC=al at *
   clear JA JB ho hp ha iN vQ rP i2
   unfold CK
   walk_at "mir"
  |some q=>
   obtain⟨p',rfl,sP⟩:=zqn rP ha JA JB rfl
   have sq:=JA.sz rP
   have sp:=JB.sz rP
   have m1:dk (.int q.1) (.int p'.2)=some (.int (q.1*p'.2)):=zc0 (by omega) (by omega)
   have m2:dk (.int p'.1) (.int q.2)=some (.int (p'.1*q.2)):=zc0 (by omega) (by omega)
   replace i1:cF (.lst (bs.map dU)) (.int (a.s:Int))=some (.tup [.int q.1,.int q.2]):=i1
   replace i2:cF (.lst (bs.map dU)) (.int (a.g:Int))=some (.tup [.int p'.1,.int p'.2]):=i2
   have f0:cF (.tup [.int q.1,.int q.2]) (.int 0)=some (.int q.1):=rfl
   have f1:cF (.tup [.int q.1,.int q.2]) (.int 1)=some (.int q.2):=rfl
   have g0:cF (.tup [.int p'.1,.int p'.2]) (.int 0)=some (.int p'.1):=rfl
   have g1:cF (.tup [.int p'.1,.int p'.2]) (.int 1)=some (.int p'.2):=rfl
   have Xu:¬p'.1*q.2<q.1*p'.2:=by omega
   show _=some (Out.nx [e0,some (.int (many:Int)),some (.lst (as.map bC)),e3,e4,some (.lst (bs.map dU)),y6,y7,y8,some (.int (a.s:Int)),some (.int (a.g:Int)),some (.int a.t),some (.int (a.b:Int)),some (.tup [.int q.1,.int q.2])])
   generalize bs.map dU=bl,as.map bC=al,q.1*p'.2=u1,p'.1*q.2=u2 at *
   clear JA JB ho hp ha iN vQ rP sq sp sP
   unfold CK
   walk_at "mir")
 rcases lp with⟨_,ρ',lp,z9,z10,z11,z12,z13,rfl⟩|⟨h1,_⟩
 ·exact⟨z9,z10,z11,z12,z13,lp⟩
 ·have:as.all (λ_=>true)=true:=by simp
  rw[this]at h1;cases h1
theorem zw2 {ns:List Int}{c0:Int}{many:Nat}{mk:Int->bV}(QH:wk [.lst (ns.map .int),.int 0]=some (.int c0))(Bi:∀c,vb [.int c,.int (many:Int),.int (c0/8)]=some (bC (mk c)))(r:L3.Env)(h0:r[0]?.join=some (.lst (ns.map .int)))(h1:r[1]?.join=some (.int (many:Int))):Uq r=some (.lst ((((ns.drop 4).take 16).map mk).map bC)):=by
 rw[bH]
 refine qm D.int (λc=>bC (mk c)) ((ns.drop 4).take 16) (zp7 0 4 20 h0) (by rw[eQ];omega) λc _=>⟨_,rfl,?_⟩
 have iI:fw r [1,0]=[some (.int (many:Int)),some (.lst (ns.map .int))]:=by unfold fw;simp[h0,h1]
 rw[iI]
 have:=Bi c
 clear iI Bi h0 h1
 walk_at "mir"
theorem zw3 {many:Nat}(hm:many<=40)(r:L3.Env)(h1:r[1]?.join=some (.int (many:Int))):B5 r=some (.lst (nm many)):=by
 refine qm (λ(t:Nat)=>D.int (t:Int)) (λ(k:Nat)=>D.str ("a"++yQ (k:Int))) (aw many) (PB h1 (by omega)) (by rw[bD];omega) λg hg=>⟨_,rfl,?_⟩
 have hg:=bM.mp hg
 obtain⟨s1,s2⟩:=ztl g (by omega)
 clear hg h1 hm
 walk_at "mir"
theorem zw4 {as:List bV}(hl:as.length<=1000)(r:L3.Env)(h3:r[2]?.join=some (.lst (as.map bC))):B4 r=some (.lst ((as.map λa=>fU a a.s).map bL)):=by
 rw[bH]
 refine qm bC (λa=>bL (fU a a.s)) as (by unfold lsD;have:eV 2 r=_:=h3;rw[this];rfl) (by omega) λa _=>⟨_,rfl,?_⟩
 have i0:cF (bC a) (.int 0)=some (.int (a.s:Int)):=rfl
 have:=zvu a a.s
 clear hl h3
 walk_at "mir"
def iJ:SF:=(sSeq (sSet 5 (λρ=>(aNil ρ).bind λds=>some (.lst ds)))
  (sSeq (sFor (lsD (eV 3)) (gV 6) CL)
  (sSeq (sIf (tb (e2 nD (eN cX (aCons (eV 3) aNil)) (eV 1))) (sRet (eC (.bl true))) sSkip)
  (sSeq (sFor (lsD (eV 2)) (gT (gsCons (gV 9) (gsCons (gV 10) (gsCons (gV 11) (gsCons (gV 12) gsNil))))) CK)
  (sSeq (sSet 8 (λρ=>((aCons (eV 4) aNil) ρ).bind λds=>jb (ds++[])))
  (sSeq (sIf (tb (e2 (pO false) (eV 8) (eC .non))) (sRet (e2 (fZ false) (eV 5) Pe)) sSkip)
  (sRet (e2 (inE false) (e2 cF (eV 8) (eC (.int 0))) (eV 5)))))))))
theorem zw5 {many:Nat}{rk:Nat->Nat}{as:List bV}{ns:List D}(h1:1<=many)(h2:many<=40)(h3:as.length<=120)(iN:∀a∈as,Drawn many rk a):∃mb:Nat,kD 4 "most_behind" ya (bA ns (as.map λa=>fU a (a.s:Int))) []=some (.int (mb:Int))/\(∀aU:List Nat,(∀n∈aU,n<as.length)->aU.length<=120->GN many (as.map λa=>fU a (a.s:Int)) aU rk mb)/\∀aU:List Nat,(∀n∈aU,n<as.length)->aU.length<=120->GN many as aU rk mb:=by
 obtain⟨mb,m1,m2,m3,m4⟩:=ztu (ns:=ns) (as:=as.map λa=>fU a (a.s:Int)) (by rw[ah];exact h3)
 have wX:mb<=4:=m4 4 (by decide) λa ha=>by
  obtain⟨a',h,rfl⟩:=bm.mp ha
  exact(iN a' h).b
 refine⟨mb,m1,λaU hn hl=>⟨h1,h2,by rw[ah];exact h3,λa ha=>?_,λn hx=>by rw[ah];exact hn n hx,hl,λa ha=>?_,m2,wX,m3⟩,λaU hn hl=>⟨h1,h2,h3,λa ha=>⟨(iN a ha).s,(iN a ha).g,(iN a ha).t0,(iN a ha).t1,(iN a ha).b⟩,hn,hl,λa ha=>(iN a ha).r,m2,wX,λa ha=>m3 (fU a (a.s:Int)) (bm.mpr ⟨a,ha,rfl⟩)⟩⟩
 ·obtain⟨a',h,rfl⟩:=bm.mp ha
  exact⟨(iN a' h).s,(iN a' h).g,(iN a' h).t0,(iN a' h).t1,(iN a' h).b⟩
 ·obtain⟨a',h,rfl⟩:=bm.mp ha
  exact(iN a' h).r
theorem zwb {e0:Option D}{ns:List D}{many:Nat}{as:List bV}{rk:Nat->Nat}{asked:List Nat}(h1:1<=many)(h2:many<=40)(h3:as.length<=120)(gG:ns.length=many)(iN:∀a∈as,Drawn many rk a)(hok:mw many (as.map λa=>fU a a.s))(wW:∀g∈asked,g<many)(fT:asked.length<many\/asked=aw many) :
  iJ [e0,some (.int (many:Int)),some (.lst (as.map bC)),some (.lst (ao asked)),some (bA ns (as.map λa=>fU a a.s)),none,none,none,none,none,none,none,none,none]=some (.rt (.bl true)):=by
 obtain⟨mb,lJ,gA,gB⟩:=zw5 (ns:=ns) h1 h2 h3 iN
 have g1:=gA (aw (as.map λa=>fU a (a.s:Int)).length) (λn hn=>by have:=bM.mp hn;rw[ah]at this;exact this) (by rw[bD,ah];exact h3)
 have g2:∀L:List Nat,GN many as (dh as L) rk mb:=λL=>gB _ (λn hn=>(wg.mp hn).1) (by have:=S5 as L;omega)
 have AY:asked.length<=many:=by
  rcases fT with h|h
  ·omega
  ·rw[h,bD];omega
 obtain⟨bs,z6,z7,z8,lp,bl,bb⟩:=TK (e0:=e0) (e3:=some (.lst (ao asked))) (ns:=ns) (y9:=none) (y10:=none) (y11:=none) (y12:=none) (y13:=none) hok gG iN g1 g2 lJ asked [] none none none wW (by simp;omega)
 rw[nh,jE]at lp
 have la:cX [.lst (ao asked)]=some (.int (asked.length:Int)):=(wx _).trans (by unfold ao;rw[ah])
 rcases fT with gK|nB
 ·have lt:(asked.length:Int)<(many:Int):=by omega
  clear bb bl g1 g2 gA gB lJ wW hok iN gG h1 h2 h3 gK AY
  generalize bs.map dU=bq,ao asked=na,bA ns (as.map λa=>fU a a.s)=net,as.map bC=al,(asked.length:Int)=P3 at *
  unfold iJ
  walk_at "mir"
 ·have lt:¬(asked.length:Int)<(many:Int):=by rw[nB,bD];omega
  have vQ:∀g,g<many->∃o,bs[g]?=some o/\Bt many as g o:=λg hg=>bb g g (by rw[nB,eM hg])
  have QF:bs.length=many:=by rw[bl,nB,bD]
  obtain⟨z9,z10,z11,z12,z13,lq⟩:=zqp (e0:=e0) (e3:=some (.lst (ao asked))) (e4:=some (bA ns (as.map λa=>fU a a.s))) (y6:=z6) (y7:=z7) (y8:=z8) (bs:=bs) g2 vQ iN none none none none none
  obtain⟨d,p1,p2⟩:=Ul g1 gG lJ
  have lr:=ztx g1 gG p1
  have Ie:∀R,RG (as.map λa=>fU a (a.s:Int)) (aw (as.map λa=>fU a (a.s:Int)).length) R↔RG as (aw as.length) R:=λR=>by
   constructor
   ·intro h
    have w:=h.w
    have nd:=h.nd
    rw[Jg,wF]at w
    rw[wF]at nd
    exact⟨h.ne,w,nd,λn hn=>by have:=h.m n hn;rw[ah]at this;exact this⟩
   ·intro h
    refine⟨h.ne,?_,?_,λn hn=>by rw[ah];exact h.m n hn⟩
    ·rw[Jg,wF];exact h.w
    ·rw[wF];exact h.nd
  rcases p2 with⟨rfl,hN⟩|⟨R,q,T,rfl,hR,hq,mx,_⟩
  ·have rf:bs=aC many none:=by
    apply fk
    intro i
    by_cases hi:i<many
    ·obtain⟨o,ho,L,_,hB⟩:=vQ i hi
     rw[ho,eP,if_pos hi]
     rcases hB with⟨rfl,_⟩|⟨q,R,_,hR,_⟩
     ·rfl
     ·exact absurd ((Ie R).mpr (hR.sub λn hn=>bM.mpr (wg.mp hn).1)) (hN R)
    ·rw[cY (by omega),cY (by rw[cZ];omega)]
   have qn:Pe [e0,some (.int (many:Int)),some (.lst (as.map bC)),some (.lst (ao asked)),some (bA ns (as.map λa=>fU a a.s)),some (.lst (bs.map dU)),z6,z7,some .non,z9,z10,z11,z12,z13]=some (.lst (bs.map dU)):=by
    have e:bs.map dU=(aw many).map λ_=>D.non:=by rw[rf,List.map_replicate,mY,bD];rfl
    have:=qm (own:=1) (cap:=[]) (g:=gV 0) (f:=eC .non) (fi:=λρ=>((aCons (eV 1) aNil) ρ).bind hJ) (r:=[e0,some (.int (many:Int)),some (.lst (as.map bC)),some (.lst (ao asked)),some (bA ns (as.map λa=>fU a a.s)),some (.lst (bs.map dU)),z6,z7,some .non,z9,z10,z11,z12,z13]) (λ(t:Nat)=>D.int (t:Int)) (λ_=>D.non) (aw many) (PB rfl (by omega)) (by rw[bD];omega) λg _=>⟨_,rfl,rfl⟩
    rw[e]
    rw[e]at this
    exact this
   have Qv:=(El PX).eq (by decide) (neg:=false) bs bs
   replace Qv:fZ false (.lst (bs.map dU)) (.lst (bs.map dU))=some (.bl true):=Qv.trans (by simp)
   clear rf Ie hN p1 QF vQ bb bl g1 g2 gA gB lJ wW hok iN gG h1 h2 h3 AY nB
   generalize bs.map dU=bq,ao asked=na,bA ns (as.map λa=>fU a a.s)=net,as.map bC=al,(asked.length:Int)=P3 at *
   unfold iJ
   walk_at "mir"
  ·have gr:=gB (aw as.length) (λn hn=>bM.mp hn) (by rw[bD];exact h3)
   rw[K0,K1]at hq
   obtain⟨x,hx,QX⟩:=zqo g2 gr ((Ie R).mp hR) hq (λR' oV=>by
    have:=mx R' ((Ie R').mpr oV)
    rw[K0,K1]at this
    exact this)
   obtain⟨o,ho,hB⟩:=vQ x hx
   have FE:some q∈bs:=bo.mpr ⟨x,by rw[ho,QX o hB]⟩
   have ie:=jP.inE PX (by decide) (neg:=false) (some q) bs
   replace ie:inE false (fr q) (.lst (bs.map dU))=some (.bl true):=ie.trans (by simp[FE])
   have j0:cF (.tup [fr q,.lst (ao R),qI many q T]) (.int 0)=some (fr q):=rfl
   clear FE QX Ie p1 QF vQ bb bl g1 g2 gA gB lJ wW hok iN gG h1 h2 h3 AY nB hR hq mx gr ho hB
   generalize qI many q T=TM,ao R=rl,fr q=F,bs.map dU=bq,ao asked=na,bA ns (as.map λa=>fU a a.s)=net,as.map bC=al,(asked.length:Int)=P3 at *
   unfold iJ
   walk_at "mir"
theorem zqq (ns:List Int)(hl:ns.length<=63):KZ [.lst (ns.map .int)]=some (.bl true):=by
 obtain⟨c0,QH⟩:=KQ ns 0 (by decide)
 obtain⟨c1,MI⟩:=KQ ns 1 (by decide)
 obtain⟨c2,Cj⟩:=KQ ns 2 (by decide)
 obtain⟨c3,hc3⟩:=KQ ns 3 (by decide)
 obtain⟨many,FC,Bg,QR⟩:∃m:Nat,1+c0%8=(m:Int)/\1<=m/\m<=8:=⟨(1+c0%8).toNat,by omega,by omega,by omega⟩
 obtain⟨mk,rk,Bi,JE⟩:=drawn (c0/8) Bg (by omega:many<=1000)
 generalize has:((ns.drop 4).take 16).map mk=as
 have fT:as.length<=16:=by rw[←has,ah,eQ];omega
 have iN:∀a∈as,Drawn many rk a:=λa ha=>by
  rw[←has]at ha
  obtain⟨c,_,rfl⟩:=bm.mp ha
  exact JE c
 have k5:=zw2 (ns:=ns) (many:=many) QH Bi [some (.lst (ns.map .int)),some (.int (many:Int)),none,none,none,none,none,none,none,none,none,none,none,none] rfl rfl
 rw[has]at k5
 have lr:kr [.int (many:Int)]=some (.lst (ao (aw many))):=by
  show(if 0<=(many:Int)/\(many:Int)<=16777216 then some (D.lst (fJ 0 (many:Int).toNat))else none)=_
  rw[if_pos ⟨by omega,by omega⟩]
  unfold fJ ao
  simp
 have fin:∀(m:Nat) (bs:List bV) (NC:Nat->Nat) (asked:List Nat),1<=m->m<=40->bs.length<=120->(∀a∈bs,Drawn m NC a)->(∀g∈asked,g<m)->(asked.length<m\/asked=aw m) ->
   (sSeq (sSet 4 (λρ=>((aCons B5 (aCons B4 aNil)) ρ).bind λds=>wz 4 (ds++[]))) iJ) [some (.lst (ns.map .int)),some (.int (m:Int)),some (.lst (bs.map bC)),some (.lst (ao asked)),none,none,none,none,none,none,none,none,none,none]=some (.rt (.bl true)):=by
  intro m bs NC asked m1 Bx bl bd ak al
  have ok:=zqg (rk:=NC) (λa=>(a.s:Int)) m1 Bx (as:=bs) bl bd
  have JI:(nm m).length=m:=by unfold nm;rw[ah,bD]
  have Xw:=zww ok JI (zod m1 Bx)
  have k4:=zw3 Bx [some (.lst (ns.map .int)),some (.int (m:Int)),some (.lst (bs.map bC)),some (.lst (ao asked)),none,none,none,none,none,none,none,none,none,none] rfl
  have k3:=zw4 (as:=bs) (by omega) [some (.lst (ns.map .int)),some (.int (m:Int)),some (.lst (bs.map bC)),some (.lst (ao asked)),none,none,none,none,none,none,none,none,none,none] rfl
  have re:=zwb (e0:=some (.lst (ns.map .int))) (ns:=nm m) (as:=bs) (asked:=asked) m1 Bx bl JI bd ok ak al
  clear ok JI bd ak al lr k5 iN fT has JE Bi hl
  generalize bA (nm m) (bs.map λa=>fU a a.s)=net,(bs.map λa=>fU a a.s).map bL=mks,bs.map bC=WD at *
  generalize nm m=nml,ao asked=na,iJ=RS at *
  walk_at "mir"
 by_cases Xe:c1%9=5
 ·obtain⟨m,bs,big,⟨Yd,Bx⟩,bl,bd⟩:=zw1 c2
  obtain⟨g,hg,QO⟩:∃g:Nat,c3%(m:Int)=(g:Int)/\g<m:=⟨(c3%(m:Int)).toNat,by have:=jO c3 (b:=(m:Int)) (by omega);omega,by have:=jO c3 (b:=(m:Int)) (by omega);have:=tq c3 (b:=(m:Int)) (by omega);omega⟩
  have mo:dY (.int c3) (.int (m:Int))=some (.int (g:Int)):=(j8 (by omega)).trans (by rw[hg])
  have re:=fin m bs id [g] (by omega) Bx (by omega) bd (λx hx=>by rw[az.mp hx];exact QO) (.inl (by simp;omega))
  have n1:ao [g]=[.int (g:Int)]:=rfl
  rw[n1]at re
  clear fin bd bl Yd Bx hg QO iN fT has JE Bi hl n1 Bg QR
  unfold KZ
  show(mOf _ (sSeq _ (sSeq _ (sSeq _ (sSeq _ (sSeq (sSet 4 (λρ=>((aCons B5 (aCons B4 aNil)) ρ).bind λds=>wz 4 (ds++[]))) iJ)))))) _=_
  generalize (sSeq (sSet 4 (λρ=>((aCons B5 (aCons B4 aNil)) ρ).bind λds=>wz 4 (ds++[]))) iJ)=RS,bs.map bC=WD,as.map bC=al,ao (aw many)=nr at *
  walk_at "mir"
 ·have re:=fin many as rk (aw many) Bg (by omega) (by omega) iN (λx hx=>bM.mp hx) (.inr rfl)
  clear fin iN fT has JE Bi hl Bg QR
  unfold KZ
  show(mOf _ (sSeq _ (sSeq _ (sSeq _ (sSeq _ (sSeq (sSet 4 (λρ=>((aCons B5 (aCons B4 aNil)) ρ).bind λds=>wz 4 (ds++[]))) iJ)))))) _=_
  generalize (sSeq (sSet 4 (λρ=>((aCons B5 (aCons B4 aNil)) ρ).bind λds=>wz 4 (ds++[]))) iJ)=RS,as.map bC=al,ao (aw many)=nr at *
  walk_at "mir"
section
variable {P:bJ}{w:cw}{K:ae}{mg:aX->Option af}{base:bc}{a:CU}
theorem zwc (T:Txt K mg a):cH P w K mg base eU 8 a.f_law a.d_law ["_law_script"] (oJ K):=zvd (zvo T) zqq
end
abbrev cJ (x q:aX)(s:bT):=gY x q (mS s) (hE s) (aO s)
theorem all_mk {l:ml}{w:cw}{K:ae}{h:bc}{mg:aX->Option af}(X:K.In h)(G:h.Ns ar mg)(Xj:mg "law"=some (.ref fa))
  
  (aC_Arrow:av K ar "Arrow"=some (some (.ref c_Arrow))) (pg_Arrow:dA K c_Arrow aX.empty=true) (hd_Arrow:dJ K c_Arrow=true) (po_Arrow:el K c_Arrow=true) (sa_Arrow:aE K (.ref c_Arrow) "__setattr__"=some (some (.builtin "object.__setattr__"))) (mk_Arrow:ed K c_Arrow=true) (kc_Arrow:aq K (.ref c_Arrow)=true)
  (aC_Ride:av K ar "Ride"=some (some (.ref c_Ride))) (pg_Ride:dA K c_Ride aX.empty=true) (hd_Ride:dJ K c_Ride=true) (po_Ride:el K c_Ride=true) (sa_Ride:aE K (.ref c_Ride) "__setattr__"=some (some (.builtin "object.__setattr__"))) (mk_Ride:ed K c_Ride=true) (kc_Ride:aq K (.ref c_Ride)=true)
  (aC_Wait:av K ar "Wait"=some (some (.ref c_Wait))) (pg_Wait:dA K c_Wait aX.empty=true) (hd_Wait:dJ K c_Wait=true) (po_Wait:el K c_Wait=true) (sa_Wait:aE K (.ref c_Wait) "__setattr__"=some (some (.builtin "object.__setattr__"))) (mk_Wait:ed K c_Wait=true) (kc_Wait:aq K (.ref c_Wait)=true)
  (aC_Back:av K ar "Back"=some (some (.ref c_Back))) (pg_Back:dA K c_Back aX.empty=true) (hd_Back:dJ K c_Back=true) (po_Back:el K c_Back=true) (sa_Back:aE K (.ref c_Back) "__setattr__"=some (some (.builtin "object.__setattr__"))) (mk_Back:ed K c_Back=true) (kc_Back:aq K (.ref c_Back)=true)
  (aC_Net:av K ar "Net"=some (some (.ref c_Net))) (pg_Net:dA K c_Net aX.empty=true) (hd_Net:dJ K c_Net=true) (po_Net:el K c_Net=true) (sa_Net:aE K (.ref c_Net) "__setattr__"=some (some (.builtin "object.__setattr__"))) (mk_Net:ed K c_Net=true) (kc_Net:aq K (.ref c_Net)=true)
  (a0:aE K (.ref c_Arrow) "__init__"=some (some (.ref f0))) (i0:ej K (.ref f0)=true)
  (l0:K.lookup f0=some ⟨oc0,od0,.func (cJ "__init__" "Arrow.__init__" yp .none QY Qm Ri P4 Li Qe),sl0⟩) (c0:aA K Li "Arrow.__init__"=true) (k0:aq K (.ref f0)=true)
  (a1:aE K (.ref c_Ride) "__init__"=some (some (.ref f1))) (i1:ej K (.ref f1)=true)
  (l1:K.lookup f1=some ⟨oc1,od1,.func (cJ "__init__" "Ride.__init__" yu .none QZ Qn Rj P5 Lj Qf),sl1⟩) (c1:aA K Lj "Ride.__init__"=true) (k1:aq K (.ref f1)=true)
  (a2:aE K (.ref c_Wait) "__init__"=some (some (.ref f2))) (i2:ej K (.ref f2)=true)
  (l2:K.lookup f2=some ⟨oc2,od2,.func (cJ "__init__" "Wait.__init__" yh (.ref Cw) Nf Lv Nx Lb Jp Lr),Ih⟩) (c2:aA K Jp "Wait.__init__"=true) (k2:aq K (.ref f2)=true)
  (t2:K.lookup Cw=some ⟨tc2,aaA,.seq #[.int 0 Iy] tn2,aaC⟩)
  (a3:aE K (.ref c_Back) "__init__"=some (some (.ref f3))) (i3:ej K (.ref f3)=true)
  (l3:K.lookup f3=some ⟨oc3,od3,.func (cJ "__init__" "Back.__init__" yi (.ref Cy) Ng Lw Ny Lc Jq Ls),sl3⟩) (c3:aA K Jq "Back.__init__"=true) (k3:aq K (.ref f3)=true)
  (t3:K.lookup Cy=some ⟨tc3,aaB,.seq #[.int 1 Iz] J1,aaD⟩)
  (a4:av K ar "is_letter"=some (some (.ref f4)))
  (l4:K.lookup f4=some ⟨oc4,od4,.func (cJ "is_letter" "is_letter" xy .none Q1 Qo Rk P6 Lk Qg),sl4⟩) (c4:aA K Lk "is_letter"=true) (k4:aq K (.ref f4)=true)
  (a5:av K ar "is_figure"=some (some (.ref f5)))
  (l5:K.lookup f5=some ⟨oc5,od5,.func (cJ "is_figure" "is_figure" xz .none Q2 Qp Rl P7 Ll Qh),sl5⟩) (c5:aA K Ll "is_figure"=true) (k5:aq K (.ref f5)=true)
  (a6:av K ar "is_name"=some (some (.ref f6)))
  (l6:K.lookup f6=some ⟨oc6,od6,.func (cJ "is_name" "is_name" vn .none Q3 Qq Rm P8 Lm Qi),sl6⟩) (c6:aA K Lm "is_name"=true) (k6:aq K (.ref f6)=true)
  (a7:av K ar "are_names"=some (some (.ref f7)))
  (l7:K.lookup f7=some ⟨oc7,od7,.func (cJ "are_names" "are_names" x6 .none Q4 Qr Rn P9 Ln Qj),sl7⟩) (c7:aA K Ln "are_names"=true) (k7:aq K (.ref f7)=true)
  (a8:av K ar "lies_within"=some (some (.ref f8)))
  (l8:K.lookup f8=some ⟨oc8,od8,.func (cJ "lies_within" "lies_within" yw .none Q5 Qs Ro Qa Lo Qk),sl8⟩) (c8:aA K Lo "lies_within"=true) (k8:aq K (.ref f8)=true)
  (a9:av K ar "is_right"=some (some (.ref f9)))
  (l9:K.lookup f9=some ⟨oc9,od9,.func (cJ "is_right" "is_right" wo .none Q6 Qt Rp Qb Lp Ql),sl9⟩) (c9:aA K Lp "is_right"=true) (k9:aq K (.ref f9)=true)
  (a10:av K ar "placed_goings"=some (some (.ref LB)))
  (l10:K.lookup LB=some ⟨Yi,YY,.func (cJ "placed_goings" "placed_goings" yk .none Gd Ey Hb C3 Aa DO),ZQ⟩) (c10:aA K Aa "placed_goings"=true) (k10:aq K (.ref LB)=true)
  (a11:av K ar "ring_back_from"=some (some (.ref LC)))
  (l11:K.lookup LC=some ⟨Yj,YZ,.func (cJ "ring_back_from" "ring_back_from" yc .none Ge Ez Hc C4 Ab DP),ZR⟩) (c11:aA K Ab "ring_back_from"=true) (k11:aq K (.ref LC)=true)
  (a12:aE K (.ref c_Net) "__init__"=some (some (.ref Ju))) (i12:ej K (.ref Ju)=true)
  (l12:K.lookup Ju=some ⟨Yk,Y0,.func (cJ "__init__" "Net.__init__" xm .none Gf EA Hd C5 Ac DQ),ZS⟩) (c12:aA K Ac "Net.__init__"=true) (k12:aq K (.ref Ju)=true)
  (a13:aE K (.ref c_Net) "most_behind"=some (some (.ref Jv))) (i13:ej K (.ref Jv)=true)
  (l13:K.lookup Jv=some ⟨Yl,Y1,.func (cJ "most_behind" "Net.most_behind" zy .none Gg EB He C6 Ad DR),ZT⟩) (c13:aA K Ad "Net.most_behind"=true) (k13:aq K (.ref Jv)=true)
  (a14:aE K (.ref c_Net) "into"=some (some (.ref Jw))) (i14:ej K (.ref Jw)=true)
  (l14:K.lookup Jw=some ⟨Ym,Y2,.func (cJ "into" "Net.into" wp .none Gh EC Hf C7 Ae DS),ZU⟩) (c14:aA K Ae "Net.into"=true) (k14:aq K (.ref Jw)=true)
  (a15:av K ar "leads_to"=some (some (.ref LD)))
  (l15:K.lookup LD=some ⟨Yn,Y3,.func (cJ "leads_to" "leads_to" wq .none Gi ED Hg C8 Af DT),ZV⟩) (c15:aA K Af "leads_to"=true) (k15:aq K (.ref LD)=true)
  (a16:av K ar "common_divisor"=some (some (.ref LF)))
  (l16:K.lookup LF=some ⟨Yo,Y4,.func (cJ "common_divisor" "common_divisor" ye .none Gj EE Hh C9 Ag DU),ZW⟩) (c16:aA K Ag "common_divisor"=true) (k16:aq K (.ref LF)=true)
  (a17:av K ar "ratio"=some (some (.ref LG)))
  (l17:K.lookup LG=some ⟨Yp,Y5,.func (cJ "ratio" "ratio" jy .none Gk EG Hi Dd Ah DV),ZX⟩) (c17:aA K Ah "ratio"=true) (k17:aq K (.ref LG)=true)
  (a18:av K ar "scaled"=some (some (.ref LH)))
  (l18:K.lookup LH=some ⟨Yq,Y6,.func (cJ "scaled" "scaled" um .none Gm EH Hj De Ai DW),ZY⟩) (c18:aA K Ai "scaled"=true) (k18:aq K (.ref LH)=true)
  (a19:av K ar "plus"=some (some (.ref LI)))
  (l19:K.lookup LI=some ⟨Yr,Y7,.func (cJ "plus" "plus" CH .none Gn EI Hk Df Aj DX),ZZ⟩) (c19:aA K Aj "plus"=true) (k19:aq K (.ref LI)=true)
  (a20:av K ar "minus"=some (some (.ref LJ)))
  (l20:K.lookup LJ=some ⟨Ys,Y8,.func (cJ "minus" "minus" jz .none Gp EJ Hl Dg Ak DY),Z0⟩) (c20:aA K Ak "minus"=true) (k20:aq K (.ref LJ)=true)
  (a21:av K ar "under"=some (some (.ref LK)))
  (l21:K.lookup LK=some ⟨Yt,Y9,.func (cJ "under" "under" j4 .none Gq EK Hm Dh Am DZ),Z1⟩) (c21:aA K Am "under"=true) (k21:aq K (.ref LK)=true)
  (a22:av K ar "is_ring"=some (some (.ref LL)))
  (l22:K.lookup LL=some ⟨Yu,Za,.func (cJ "is_ring" "is_ring" vo .none Gr EL Hn Di An D1),Z2⟩) (c22:aA K An "is_ring"=true) (k22:aq K (.ref LL)=true)
  (a23:av K ar "mean"=some (some (.ref LM)))
  (l23:K.lookup LM=some ⟨Yv,Zb,.func (cJ "mean" "mean" CI .none Gs EN Ho Dj Ao D2),Z3⟩) (c23:aA K Ao "mean"=true) (k23:aq K (.ref LM)=true)
  (a24:av K ar "is_kept"=some (some (.ref LN)))
  (l24:K.lookup LN=some ⟨Yw,Zc,.func (cJ "is_kept" "is_kept" vp .none Gu EO Hq Dk Ap D3),Z4⟩) (c24:aA K Ap "is_kept"=true) (k24:aq K (.ref LN)=true)
  (a25:av K ar "push_once"=some (some (.ref LO)))
  (l25:K.lookup LO=some ⟨Yx,Zd,.func (cJ "push_once" "push_once" x8 .none Gv EQ Hr Dl Aq D4),Z5⟩) (c25:aA K Aq "push_once"=true) (k25:aq K (.ref LO)=true)
  (a26:av K ar "times_or_ring_along"=some (some (.ref LP)))
  (l26:K.lookup LP=some ⟨Yy,Ze,.func (cJ "times_or_ring_along" "times_or_ring_along" zk .none Gw ER Hs Dn Ar D5),Z6⟩) (c26:aA K Ar "times_or_ring_along"=true) (k26:aq K (.ref LP)=true)
  (a27:av K ar "ring_above"=some (some (.ref LQ)))
  (l27:K.lookup LQ=some ⟨Yz,Zf,.func (cJ "ring_above" "ring_above" xn .none Gx ES Ht Do As D6),Z7⟩) (c27:aA K As "ring_above"=true) (k27:aq K (.ref LQ)=true)
  (a28:av K ar "midway"=some (some (.ref LR)))
  (l28:K.lookup LR=some ⟨YA,Zg,.func (cJ "midway" "midway" uo .none Gy ET Hu Dp Au D7),Z8⟩) (c28:aA K Au "midway"=true) (k28:aq K (.ref LR)=true)
  (a29:av K ar "least_gap"=some (some (.ref LU)))
  (l29:K.lookup LU=some ⟨YB,Zh,.func (cJ "least_gap" "least_gap" x9 .none Gz EU Hv Dr Av D8),Z9⟩) (c29:aA K Av "least_gap"=true) (k29:aq K (.ref LU)=true)
  (a30:av K ar "greatest_ring"=some (some (.ref LV)))
  (l30:K.lookup LV=some ⟨YC,Zi,.func (cJ "greatest_ring" "greatest_ring" ym .none GA EV Hw Ds Aw D9),aaa⟩) (c30:aA K Aw "greatest_ring"=true) (k30:aq K (.ref LV)=true)
  (a31:av K ar "paper_along"=some (some (.ref LW)))
  (l31:K.lookup LW=some ⟨YD,Zj,.func (cJ "paper_along" "paper_along" yx .none GB EW Hx Du Ax Ea),aab⟩) (c31:aA K Ax "paper_along"=true) (k31:aq K (.ref LW)=true)
  (a32:av K ar "least_round"=some (some (.ref LX)))
  (l32:K.lookup LX=some ⟨YE,Zk,.func (cJ "least_round" "least_round" yy .none GC EX Hy Dv Ay Ec),aac⟩) (c32:aA K Ay "least_round"=true) (k32:aq K (.ref LX)=true)
  (a33:av K ar "rate"=some (some (.ref LY)))
  (l33:K.lookup LY=some ⟨YF,Zl,.func (cJ "rate" "rate" CJ .none GD EY Hz Dw Az Ed),aad⟩) (c33:aA K Az "rate"=true) (k33:aq K (.ref LY)=true)
  (a34:av K ar "has_mean"=some (some (.ref LZ)))
  (l34:K.lookup LZ=some ⟨YG,Zm,.func (cJ "has_mean" "has_mean" wt .none GF EZ HA Dx AA Ee),aae⟩) (c34:aA K AA "has_mean"=true) (k34:aq K (.ref LZ)=true)
  (a35:av K ar "holds_at"=some (some (.ref L0)))
  (l35:K.lookup L0=some ⟨YH,Zn,.func (cJ "holds_at" "holds_at" wu .none GG E1 HB Dy AB Ef),aaf⟩) (c35:aA K AB "holds_at"=true) (k35:aq K (.ref L0)=true)
  (a36:av K ar "_law_cell_at"=some (some (.ref L1)))
  (l36:K.lookup L1=some ⟨YI,Zo,.func (cJ "_law_cell_at" "_law_cell_at" yz .none GH E3 HC Dz AC Eg),aag⟩) (c36:aA K AC "_law_cell_at"=true) (k36:aq K (.ref L1)=true)
  (a37:av K ar "_law_whole"=some (some (.ref L4)))
  (l37:K.lookup L4=some ⟨YJ,Zp,.func (cJ "_law_whole" "_law_whole" wa .none GJ E4 HD DA AD Eh),aah⟩) (c37:aA K AD "_law_whole"=true) (k37:aq K (.ref L4)=true)
  (a38:av K ar "_law_is_row"=some (some (.ref L5)))
  (l38:K.lookup L5=some ⟨YK,Zq,.func (cJ "_law_is_row" "_law_is_row" xo .none GK E5 HE DB AE Ej),aai⟩) (c38:aA K AE "_law_is_row"=true) (k38:aq K (.ref L5)=true)
  (a39:av K ar "_law_mixed"=some (some (.ref L6)))
  (l39:K.lookup L6=some ⟨YL,Zr,.func (cJ "_law_mixed" "_law_mixed" wb .none GL E6 HF DC AF Ek),aaj⟩) (c39:aA K AF "_law_mixed"=true) (k39:aq K (.ref L6)=true)
  (a40:av K ar "_law_rank"=some (some (.ref L7)))
  (l40:K.lookup L7=some ⟨YM,Zs,.func (cJ "_law_rank" "_law_rank" wv .none GM E7 HG DD AG Em),aak⟩) (c40:aA K AG "_law_rank"=true) (k40:aq K (.ref L7)=true)
  (a41:av K ar "_law_arrow"=some (some (.ref L8)))
  (l41:K.lookup L8=some ⟨YN,Zt,.func (cJ "_law_arrow" "_law_arrow" wc .none GO E8 HH DE AH En),aal⟩) (c41:aA K AH "_law_arrow"=true) (k41:aq K (.ref L8)=true)
  (a42:av K ar "_law_big"=some (some (.ref L9)))
  (l42:K.lookup L9=some ⟨YO,Zu,.func (cJ "_law_big" "_law_big" vq .none GP E9 HI DF AI Eo),aam⟩) (c42:aA K AI "_law_big"=true) (k42:aq K (.ref L9)=true)
  (a43:av K ar "_law_made"=some (some (.ref Ma)))
  (l43:K.lookup Ma=some ⟨YQ,Zv,.func (cJ "_law_made" "_law_made" ww .none GQ Fa HJ DG AJ Ep),aan⟩) (c43:aA K AJ "_law_made"=true) (k43:aq K (.ref Ma)=true)
  (a44:av K ar "_law_leading"=some (some (.ref Mb)))
  (l44:K.lookup Mb=some ⟨YR,Zw,.func (cJ "_law_leading" "_law_leading" xc .none GR Fb HK DH AK Er),aao⟩) (c44:aA K AK "_law_leading"=true) (k44:aq K (.ref Mb)=true)
  (a45:av K ar "_law_no_ring"=some (some (.ref Mc)))
  (l45:K.lookup Mc=some ⟨YS,Zx,.func (cJ "_law_no_ring" "_law_no_ring" xf .none GS Fc HL DI AL Es),aap⟩) (c45:aA K AL "_law_no_ring"=true) (k45:aq K (.ref Mc)=true)
  (a46:av K ar "_law_lowest"=some (some (.ref Md)))
  (l46:K.lookup Md=some ⟨YT,Zy,.func (cJ "_law_lowest" "_law_lowest" xp .none GU Fd HM DJ AM Et),aaq⟩) (c46:aA K AM "_law_lowest"=true) (k46:aq K (.ref Md)=true)
  (a47:av K ar "_law_is_ring"=some (some (.ref Me)))
  (l47:K.lookup Me=some ⟨YU,Zz,.func (cJ "_law_is_ring" "_law_is_ring" xg .none GV Fe HN DK AN Eu),aar⟩) (c47:aA K AN "_law_is_ring"=true) (k47:aq K (.ref Me)=true)
  (a48:av K ar "_law_fit"=some (some (.ref Mf)))
  (l48:K.lookup Mf=some ⟨YV,ZA,.func (cJ "_law_fit" "_law_fit" vt .none GW Ff HP DL AO Ew),aas⟩) (c48:aA K AO "_law_fit"=true) (k48:aq K (.ref Mf)=true)
  (a49:av K ar "_law_right"=some (some (.ref Mg)))
  (l49:K.lookup Mg=some ⟨YW,ZC,.func (cJ "_law_right" "_law_right" we .none GX Fg HQ DM AQ Ex),aat⟩) (c49:aA K AQ "_law_right"=true) (k49:aq K (.ref Mg)=true)
  (a50:av K ar "law"=some (some (.ref Qw)))
  (l50:K.lookup Qw=some ⟨YX,ZD,.func (cJ "law" "law" BZ .none Bu AT BE zW wR AR),aau⟩) (c50:aA K wR "law"=true) (k50:aq K (.ref Qw)=true)
  (qs_Arrow:eo K (.ref c_Arrow) "__getattribute__"=some (some (.builtin "type.__getattribute__"))) (qr_Arrow:i6 K c_Arrow (.type "type")=true) (qf_Arrow:iZ K (.ref c_Arrow) (.type "type") "__init__"=some (.val (.ref f0)))
  (n_Net_arrows:aE K (.ref c_Net) "arrows"=some none)
  (n_Arrow_behind:aE K (.ref c_Arrow) "behind"=some none)
  (n_Ride_behind:aE K (.ref c_Ride) "behind"=some none)
  (n_Wait_behind:aE K (.ref c_Wait) "behind"=some none)
  (n_Back_behind:aE K (.ref c_Back) "behind"=some none)
  (n_Arrow_goal:aE K (.ref c_Arrow) "goal"=some none)
  (n_Ride_goal:aE K (.ref c_Ride) "goal"=some none)
  (n_Wait_goal:aE K (.ref c_Wait) "goal"=some none)
  (n_Back_goal:aE K (.ref c_Back) "goal"=some none)
  (n_Net_names:aE K (.ref c_Net) "names"=some none)
  (n_Arrow_start:aE K (.ref c_Arrow) "start"=some none)
  (n_Ride_start:aE K (.ref c_Ride) "start"=some none)
  (n_Wait_start:aE K (.ref c_Wait) "start"=some none)
  (n_Back_start:aE K (.ref c_Back) "start"=some none)
  (n_Arrow_time:aE K (.ref c_Arrow) "time"=some none)
  (n_Ride_time:aE K (.ref c_Ride) "time"=some none)
  (n_Wait_time:aE K (.ref c_Wait) "time"=some none)
  (n_Back_time:aE K (.ref c_Back) "time"=some none)
  (ign:eo K (.builtin "object.__class__") "__get__"=some (some (.builtin "getset_descriptor.__get__"))) (igt:mq K (.builtin "object.__class__")=some true)
  (iga_Arrow:aE K (.ref c_Arrow) "__class__"=some (some (.builtin "object.__class__"))) (igm_Arrow:fM K c_Arrow (.type "object")=some true)
  (kit_Arrow_Back:bU K (.ref c_Arrow) (.ref c_Back)=some false)
  (kit_Arrow_Ride:bU K (.ref c_Arrow) (.ref c_Ride)=some false)
  (iga_Ride:aE K (.ref c_Ride) "__class__"=some (some (.builtin "object.__class__"))) (igm_Ride:fM K c_Ride (.type "object")=some true)
  (kit_Ride_Back:bU K (.ref c_Ride) (.ref c_Back)=some false)
  (kit_Ride_Ride:bU K (.ref c_Ride) (.ref c_Ride)=some true)
  (iga_Wait:aE K (.ref c_Wait) "__class__"=some (some (.builtin "object.__class__"))) (igm_Wait:fM K c_Wait (.type "object")=some true)
  (kit_Wait_Back:bU K (.ref c_Wait) (.ref c_Back)=some false)
  (kit_Wait_Ride:bU K (.ref c_Wait) (.ref c_Ride)=some false)
  (iga_Back:aE K (.ref c_Back) "__class__"=some (some (.builtin "object.__class__"))) (igm_Back:fM K c_Back (.type "object")=some true)
  (kit_Back_Back:bU K (.ref c_Back) (.ref c_Back)=some true)
  (kit_Back_Ride:bU K (.ref c_Back) (.ref c_Ride)=some false)
  (iga_Net:aE K (.ref c_Net) "__class__"=some (some (.builtin "object.__class__"))) (igm_Net:fM K c_Net (.type "object")=some true)
  (kit_Net_Back:bU K (.ref c_Net) (.ref c_Back)=some false)
  (kit_Net_Ride:bU K (.ref c_Net) (.ref c_Ride)=some false)
  (z0:av K ar "abs"=some none)
  (z1:av K ar "all"=some none)
  (z2:av K ar "bool"=some none)
  (z3:av K ar "enumerate"=some none)
  (z4:av K ar "int"=some none)
  (z5:av K ar "isinstance"=some none)
  (z6:av K ar "len"=some none)
  (z7:av K ar "list"=some none)
  (z8:av K ar "max"=some none)
  (z9:av K ar "min"=some none)
  (z10:av K ar "range"=some none)
  (z11:av K ar "reversed"=some none)
  (z12:av K ar "set"=some none)
  (z13:av K ar "sorted"=some none)
  (z14:av K ar "str"=some none)
  (z15:av K ar "sum"=some none)
  (z16:av K ar "tuple"=some none)
  (gc0:av K ar "MOST_ARROWS"=some (some (.int 120 gt0)))
  (gc1:av K ar "MOST_BEHIND"=some (some (.int 4 gt1)))
  (gc2:av K ar "MOST_NAMES"=some (some (.int 40 gt2)))
  (gc3:av K ar "MOST_SIGNS"=some (some (.int 8 gt3)))
  (gc4:av K ar "MOST_TIME"=some (some (.int 1000000000 gt4))) :
  ∃fd:aK,(∀(s:ap) (v:af),pD s fd ⟨[v],[]⟩ [("_law_script",v)])/\∀base:bc,K.In base->base.Ns ar mg->cH l.prog w K mg base eU 8 fa fd ["_law_script"] (oJ K):=by
 have e:=Xj.symm.trans (aB X G a50)
 cases e
 have F0:=zw (st:=yp) l0 c0 k0
 have b0:bR K (cJ "__init__" "Arrow.__init__" yp .none QY Qm Ri P4 Li Qe) ["self","start","goal","time","behind"] []:=.all (Q7 λ_ _ _ _ _=>rfl)
 have F1:=zw (st:=yu) l1 c1 k1
 have b1:bR K (cJ "__init__" "Ride.__init__" yu .none QZ Qn Rj P5 Lj Qf) ["self","start","goal","time"] []:=.all (JT λ_ _ _ _=>rfl)
 have F2:=zw (st:=yh) l2 c2 k2
 have b2:bR K (cJ "__init__" "Wait.__init__" yh (.ref Cw) Nf Lv Nx Lb Jp Lr) ["self","start","goal","time","behind"] []:=KD (T:=Cw) rfl t2 rfl λus hl=>by
  have hl:us.length=5:=by simpa using hl
  exact match us,hl with|[_,_,_,_,_],_=>⟨_,rfl,rfl⟩
 have Lf:bR K (cJ "__init__" "Wait.__init__" yh (.ref Cw) Nf Lv Nx Lb Jp Lr) ["self","start","goal","time","behind"] [.int 0 Iy]:=KD (T:=Cw) rfl t2 rfl λus hl=>by
  have hl:us.length=4:=by simpa using hl
  exact match us,hl with|[_,_,_,_],_=>⟨_,rfl,rfl⟩
 have F3:=zw (st:=yi) l3 c3 k3
 have b3:bR K (cJ "__init__" "Back.__init__" yi (.ref Cy) Ng Lw Ny Lc Jq Ls) ["self","start","goal","time","behind"] []:=KD (T:=Cy) rfl t3 rfl λus hl=>by
  have hl:us.length=5:=by simpa using hl
  exact match us,hl with|[_,_,_,_,_],_=>⟨_,rfl,rfl⟩
 have Lg:bR K (cJ "__init__" "Back.__init__" yi (.ref Cy) Ng Lw Ny Lc Jq Ls) ["self","start","goal","time","behind"] [.int 1 Iz]:=KD (T:=Cy) rfl t3 rfl λus hl=>by
  have hl:us.length=4:=by simpa using hl
  exact match us,hl with|[_,_,_,_],_=>⟨_,rfl,rfl⟩
 have F4:=zw (st:=xy) l4 c4 k4
 have b4:bR K (cJ "is_letter" "is_letter" xy .none Q1 Qo Rk P6 Lk Qg) ["sign"] []:=.all (sQ λ_=>rfl)
 have F5:=zw (st:=xz) l5 c5 k5
 have b5:bR K (cJ "is_figure" "is_figure" xz .none Q2 Qp Rl P7 Ll Qh) ["sign"] []:=.all (sQ λ_=>rfl)
 have F6:=zw (st:=vn) l6 c6 k6
 have b6:bR K (cJ "is_name" "is_name" vn .none Q3 Qq Rm P8 Lm Qi) ["word"] []:=.all (sQ λ_=>rfl)
 have F7:=zw (st:=x6) l7 c7 k7
 have b7:bR K (cJ "are_names" "are_names" x6 .none Q4 Qr Rn P9 Ln Qj) ["names"] []:=.all (sQ λ_=>rfl)
 have F8:=zw (st:=yw) l8 c8 k8
 have b8:bR K (cJ "lies_within" "lies_within" yw .none Q5 Qs Ro Qa Lo Qk) ["number","least","most"] []:=.all (sR λ_ _ _=>rfl)
 have F9:=zw (st:=wo) l9 c9 k9
 have b9:bR K (cJ "is_right" "is_right" wo .none Q6 Qt Rp Qb Lp Ql) ["arrow","many"] []:=.all (n9 λ_ _=>rfl)
 have Vb:=zw (st:=yk) l10 c10 k10
 have VV:bR K (cJ "placed_goings" "placed_goings" yk .none Gd Ey Hb C3 Aa DO) ["many","arrows"] []:=.all (n9 λ_ _=>rfl)
 have Vc:=zw (st:=yc) l11 c11 k11
 have VW:bR K (cJ "ring_back_from" "ring_back_from" yc .none Ge Ez Hc C4 Ab DP) ["arrows","chosen","going"] []:=.all (sR λ_ _ _=>rfl)
 have Vd:=zw (st:=xm) l12 c12 k12
 have VX:bR K (cJ "__init__" "Net.__init__" xm .none Gf EA Hd C5 Ac DQ) ["self","names","arrows"] []:=.all (sR λ_ _ _=>rfl)
 have Ve:=zw (st:=zy) l13 c13 k13
 have VY:bR K (cJ "most_behind" "Net.most_behind" zy .none Gg EB He C6 Ad DR) ["self"] []:=.all (sQ λ_=>rfl)
 have Vf:=zw (st:=wp) l14 c14 k14
 have VZ:bR K (cJ "into" "Net.into" wp .none Gh EC Hf C7 Ae DS) ["self","going"] []:=.all (n9 λ_ _=>rfl)
 have Vg:=zw (st:=wq) l15 c15 k15
 have V0:bR K (cJ "leads_to" "leads_to" wq .none Gi ED Hg C8 Af DT) ["net","going"] []:=.all (n9 λ_ _=>rfl)
 have Vh:=zw (st:=ye) l16 c16 k16
 have V1:bR K (cJ "common_divisor" "common_divisor" ye .none Gj EE Hh C9 Ag DU) ["one","other"] []:=.all (n9 λ_ _=>rfl)
 have Vi:=zw (st:=jy) l17 c17 k17
 have V2:bR K (cJ "ratio" "ratio" jy .none Gk EG Hi Dd Ah DV) ["top","bottom"] []:=.all (n9 λ_ _=>rfl)
 have Vj:=zw (st:=um) l18 c18 k18
 have V3:bR K (cJ "scaled" "scaled" um .none Gm EH Hj De Ai DW) ["one","whole"] []:=.all (n9 λ_ _=>rfl)
 have Vk:=zw (st:=CH) l19 c19 k19
 have V4:bR K (cJ "plus" "plus" CH .none Gn EI Hk Df Aj DX) ["one","other"] []:=.all (n9 λ_ _=>rfl)
 have Vl:=zw (st:=jz) l20 c20 k20
 have V5:bR K (cJ "minus" "minus" jz .none Gp EJ Hl Dg Ak DY) ["one","other"] []:=.all (n9 λ_ _=>rfl)
 have Vm:=zw (st:=j4) l21 c21 k21
 have V6:bR K (cJ "under" "under" j4 .none Gq EK Hm Dh Am DZ) ["one","other"] []:=.all (n9 λ_ _=>rfl)
 have Vn:=zw (st:=vo) l22 c22 k22
 have V7:bR K (cJ "is_ring" "is_ring" vo .none Gr EL Hn Di An D1) ["net","ring"] []:=.all (n9 λ_ _=>rfl)
 have Vo:=zw (st:=CI) l23 c23 k23
 have V8:bR K (cJ "mean" "mean" CI .none Gs EN Ho Dj Ao D2) ["net","ring"] []:=.all (n9 λ_ _=>rfl)
 have Vp:=zw (st:=vp) l24 c24 k24
 have V9:bR K (cJ "is_kept" "is_kept" vp .none Gu EO Hq Dk Ap D3) ["arrow","pace","times"] []:=.all (sR λ_ _ _=>rfl)
 have Vq:=zw (st:=x8) l25 c25 k25
 have Wa:bR K (cJ "push_once" "push_once" x8 .none Gv EQ Hr Dl Aq D4) ["net","pace","numbers","times","chosen"] []:=.all (Q7 λ_ _ _ _ _=>rfl)
 have Vr:=zw (st:=zk) l26 c26 k26
 have Wb:bR K (cJ "times_or_ring_along" "times_or_ring_along" zk .none Gw ER Hs Dn Ar D5) ["net","pace","numbers"] []:=.all (sR λ_ _ _=>rfl)
 have Vs:=zw (st:=xn) l27 c27 k27
 have Wc:bR K (cJ "ring_above" "ring_above" xn .none Gx ES Ht Do As D6) ["net","pace","numbers"] []:=.all (sR λ_ _ _=>rfl)
 have Vt:=zw (st:=uo) l28 c28 k28
 have Wd:bR K (cJ "midway" "midway" uo .none Gy ET Hu Dp Au D7) ["one","other"] []:=.all (n9 λ_ _=>rfl)
 have Vu:=zw (st:=x9) l29 c29 k29
 have We:bR K (cJ "least_gap" "least_gap" x9 .none Gz EU Hv Dr Av D8) ["net"] []:=.all (sQ λ_=>rfl)
 have Vv:=zw (st:=ym) l30 c30 k30
 have Wf:bR K (cJ "greatest_ring" "greatest_ring" ym .none GA EV Hw Ds Aw D9) ["net","numbers"] []:=.all (n9 λ_ _=>rfl)
 have Vw:=zw (st:=yx) l31 c31 k31
 have Wg:bR K (cJ "paper_along" "paper_along" yx .none GB EW Hx Du Ax Ea) ["net","numbers"] []:=.all (n9 λ_ _=>rfl)
 have Vx:=zw (st:=yy) l32 c32 k32
 have Wi:bR K (cJ "least_round" "least_round" yy .none GC EX Hy Dv Ay Ec) ["net"] []:=.all (sQ λ_=>rfl)
 have Vy:=zw (st:=CJ) l33 c33 k33
 have Wj:bR K (cJ "rate" "rate" CJ .none GD EY Hz Dw Az Ed) ["net","going"] []:=.all (n9 λ_ _=>rfl)
 have Vz:=zw (st:=wt) l34 c34 k34
 have Wl:bR K (cJ "has_mean" "has_mean" wt .none GF EZ HA Dx AA Ee) ["net","ring","pace"] []:=.all (sR λ_ _ _=>rfl)
 have VA:=zw (st:=wu) l35 c35 k35
 have Wm:bR K (cJ "holds_at" "holds_at" wu .none GG E1 HB Dy AB Ef) ["net","going","paper"] []:=.all (sR λ_ _ _=>rfl)
 have VB:=zw (st:=yz) l36 c36 k36
 have Wn:bR K (cJ "_law_cell_at" "_law_cell_at" yz .none GH E3 HC Dz AC Eg) ["_law_script","_law_k"] []:=.all (n9 λ_ _=>rfl)
 have VC:=zw (st:=wa) l37 c37 k37
 have Wo:bR K (cJ "_law_whole" "_law_whole" wa .none GJ E4 HD DA AD Eh) ["_law_found"] []:=.all (sQ λ_=>rfl)
 have VD:=zw (st:=xo) l38 c38 k38
 have Wp:bR K (cJ "_law_is_row" "_law_is_row" xo .none GK E5 HE DB AE Ej) ["_law_cell"] []:=.all (sQ λ_=>rfl)
 have VE:=zw (st:=wb) l39 c39 k39
 have Wq:bR K (cJ "_law_mixed" "_law_mixed" wb .none GL E6 HF DC AF Ek) ["_law_cell","_law_k"] []:=.all (n9 λ_ _=>rfl)
 have VF:=zw (st:=wv) l40 c40 k40
 have Wr:bR K (cJ "_law_rank" "_law_rank" wv .none GM E7 HG DD AG Em) ["_law_turn","_law_many","_law_going"] []:=.all (sR λ_ _ _=>rfl)
 have VG:=zw (st:=wc) l41 c41 k41
 have Ws:bR K (cJ "_law_arrow" "_law_arrow" wc .none GO E8 HH DE AH En) ["_law_cell","_law_many","_law_turn"] []:=.all (sR λ_ _ _=>rfl)
 have VH:=zw (st:=vq) l42 c42 k42
 have Wt:bR K (cJ "_law_big" "_law_big" vq .none GP E9 HI DF AI Eo) ["_law_cell"] []:=.all (sQ λ_=>rfl)
 have VI:=zw (st:=ww) l43 c43 k43
 have Wu:bR K (cJ "_law_made" "_law_made" ww .none GQ Fa HJ DG AJ Ep) ["_law_arrow_here","_law_kind"] []:=.all (n9 λ_ _=>rfl)
 have VJ:=zw (st:=xc) l44 c44 k44
 have Wv:bR K (cJ "_law_leading" "_law_leading" xc .none GR Fb HK DH AK Er) ["_law_arrows","_law_going","_law_many"] []:=.all (sR λ_ _ _=>rfl)
 have VL:=zw (st:=xf) l45 c45 k45
 have Ww:bR K (cJ "_law_no_ring" "_law_no_ring" xf .none GS Fc HL DI AL Es) ["_law_arrows","_law_goings"] []:=.all (n9 λ_ _=>rfl)
 have VM:=zw (st:=xp) l46 c46 k46
 have Wx:bR K (cJ "_law_lowest" "_law_lowest" xp .none GU Fd HM DJ AM Et) ["_law_found"] []:=.all (sQ λ_=>rfl)
 have VN:=zw (st:=xg) l47 c47 k47
 have Wy:bR K (cJ "_law_is_ring" "_law_is_ring" xg .none GV Fe HN DK AN Eu) ["_law_arrows","_law_ring","_law_goings"] []:=.all (sR λ_ _ _=>rfl)
 have VO:=zw (st:=vt) l48 c48 k48
 have Wz:bR K (cJ "_law_fit" "_law_fit" vt .none GW Ff HP DL AO Ew) ["_law_arrows","_law_beat","_law_times","_law_goings"] []:=.all (JT λ_ _ _ _=>rfl)
 have VP:=zw (st:=we) l49 c49 k49
 have WA:bR K (cJ "_law_right" "_law_right" we .none GX Fg HQ DM AQ Ex) ["_law_arrows","_law_many","_law_found","_law_goings"] []:=.all (JT λ_ _ _ _=>rfl)
 have VQ:=zw (st:=BZ) l50 c50 k50
 have WB:bR K (cJ "law" "law" BZ .none Bu AT BE zW wR AR) ["_law_script"] []:=.all (sQ λ_=>rfl)
 have T:Txt K mg ⟨c_Arrow,c_Ride,c_Wait,c_Back,c_Net,f0,cJ "__init__" "Arrow.__init__" yp .none QY Qm Ri P4 Li Qe,f1,cJ "__init__" "Ride.__init__" yu .none QZ Qn Rj P5 Lj Qf,f2,cJ "__init__" "Wait.__init__" yh (.ref Cw) Nf Lv Nx Lb Jp Lr,f3,cJ "__init__" "Back.__init__" yi (.ref Cy) Ng Lw Ny Lc Jq Ls,f4,cJ "is_letter" "is_letter" xy .none Q1 Qo Rk P6 Lk Qg,f5,cJ "is_figure" "is_figure" xz .none Q2 Qp Rl P7 Ll Qh,f6,cJ "is_name" "is_name" vn .none Q3 Qq Rm P8 Lm Qi,f7,cJ "are_names" "are_names" x6 .none Q4 Qr Rn P9 Ln Qj,f8,cJ "lies_within" "lies_within" yw .none Q5 Qs Ro Qa Lo Qk,f9,cJ "is_right" "is_right" wo .none Q6 Qt Rp Qb Lp Ql,LB,cJ "placed_goings" "placed_goings" yk .none Gd Ey Hb C3 Aa DO,LC,cJ "ring_back_from" "ring_back_from" yc .none Ge Ez Hc C4 Ab DP,Ju,cJ "__init__" "Net.__init__" xm .none Gf EA Hd C5 Ac DQ,Jv,cJ "most_behind" "Net.most_behind" zy .none Gg EB He C6 Ad DR,Jw,cJ "into" "Net.into" wp .none Gh EC Hf C7 Ae DS,LD,cJ "leads_to" "leads_to" wq .none Gi ED Hg C8 Af DT,LF,cJ "common_divisor" "common_divisor" ye .none Gj EE Hh C9 Ag DU,LG,cJ "ratio" "ratio" jy .none Gk EG Hi Dd Ah DV,LH,cJ "scaled" "scaled" um .none Gm EH Hj De Ai DW,LI,cJ "plus" "plus" CH .none Gn EI Hk Df Aj DX,LJ,cJ "minus" "minus" jz .none Gp EJ Hl Dg Ak DY,LK,cJ "under" "under" j4 .none Gq EK Hm Dh Am DZ,LL,cJ "is_ring" "is_ring" vo .none Gr EL Hn Di An D1,LM,cJ "mean" "mean" CI .none Gs EN Ho Dj Ao D2,LN,cJ "is_kept" "is_kept" vp .none Gu EO Hq Dk Ap D3,LO,cJ "push_once" "push_once" x8 .none Gv EQ Hr Dl Aq D4,LP,cJ "times_or_ring_along" "times_or_ring_along" zk .none Gw ER Hs Dn Ar D5,LQ,cJ "ring_above" "ring_above" xn .none Gx ES Ht Do As D6,LR,cJ "midway" "midway" uo .none Gy ET Hu Dp Au D7,LU,cJ "least_gap" "least_gap" x9 .none Gz EU Hv Dr Av D8,LV,cJ "greatest_ring" "greatest_ring" ym .none GA EV Hw Ds Aw D9,LW,cJ "paper_along" "paper_along" yx .none GB EW Hx Du Ax Ea,LX,cJ "least_round" "least_round" yy .none GC EX Hy Dv Ay Ec,LY,cJ "rate" "rate" CJ .none GD EY Hz Dw Az Ed,LZ,cJ "has_mean" "has_mean" wt .none GF EZ HA Dx AA Ee,L0,cJ "holds_at" "holds_at" wu .none GG E1 HB Dy AB Ef,L1,cJ "_law_cell_at" "_law_cell_at" yz .none GH E3 HC Dz AC Eg,L4,cJ "_law_whole" "_law_whole" wa .none GJ E4 HD DA AD Eh,L5,cJ "_law_is_row" "_law_is_row" xo .none GK E5 HE DB AE Ej,L6,cJ "_law_mixed" "_law_mixed" wb .none GL E6 HF DC AF Ek,L7,cJ "_law_rank" "_law_rank" wv .none GM E7 HG DD AG Em,L8,cJ "_law_arrow" "_law_arrow" wc .none GO E8 HH DE AH En,L9,cJ "_law_big" "_law_big" vq .none GP E9 HI DF AI Eo,Ma,cJ "_law_made" "_law_made" ww .none GQ Fa HJ DG AJ Ep,Mb,cJ "_law_leading" "_law_leading" xc .none GR Fb HK DH AK Er,Mc,cJ "_law_no_ring" "_law_no_ring" xf .none GS Fc HL DI AL Es,Md,cJ "_law_lowest" "_law_lowest" xp .none GU Fd HM DJ AM Et,Me,cJ "_law_is_ring" "_law_is_ring" xg .none GV Fe HN DK AN Eu,Mf,cJ "_law_fit" "_law_fit" vt .none GW Ff HP DL AO Ew,Mg,cJ "_law_right" "_law_right" we .none GX Fg HQ DM AQ Ex,fa,cJ "law" "law" BZ .none Bu AT BE zW wR AR⟩:=by
  constructor
  ·exact⟨⟨pg_Arrow,hd_Arrow,po_Arrow,sa_Arrow⟩,aB X G aC_Arrow,mk_Arrow,kc_Arrow⟩
  ·exact⟨⟨pg_Ride,hd_Ride,po_Ride,sa_Ride⟩,aB X G aC_Ride,mk_Ride,kc_Ride⟩
  ·exact⟨⟨pg_Wait,hd_Wait,po_Wait,sa_Wait⟩,aB X G aC_Wait,mk_Wait,kc_Wait⟩
  ·exact⟨⟨pg_Back,hd_Back,po_Back,sa_Back⟩,aB X G aC_Back,mk_Back,kc_Back⟩
  ·exact⟨⟨pg_Net,hd_Net,po_Net,sa_Net⟩,aB X G aC_Net,mk_Net,kc_Net⟩
  ·exact⟨F0,⟨a0,i0,k0⟩,b0⟩
  ·exact⟨F1,⟨a1,i1,k1⟩,b1⟩
  ·exact⟨F2,⟨a2,i2,k2⟩,b2⟩
  ·exact⟨_,trivial,(.cons ⟨_,rfl⟩ .nil),Lf⟩
  ·exact⟨F3,⟨a3,i3,k3⟩,b3⟩
  ·exact⟨_,trivial,(.cons ⟨_,rfl⟩ .nil),Lg⟩
  ·exact⟨F4,aB X G a4,b4⟩
  ·exact⟨F5,aB X G a5,b5⟩
  ·exact⟨F6,aB X G a6,b6⟩
  ·exact⟨F7,aB X G a7,b7⟩
  ·exact⟨F8,aB X G a8,b8⟩
  ·exact⟨F9,aB X G a9,b9⟩
  ·exact⟨Vb,aB X G a10,VV⟩
  ·exact⟨Vc,aB X G a11,VW⟩
  ·exact⟨Vd,⟨a12,i12,k12⟩,VX⟩
  ·exact⟨Ve,⟨a13,i13,k13⟩,VY⟩
  ·exact⟨Vf,⟨a14,i14,k14⟩,VZ⟩
  ·exact⟨Vg,aB X G a15,V0⟩
  ·exact⟨Vh,aB X G a16,V1⟩
  ·exact⟨Vi,aB X G a17,V2⟩
  ·exact⟨Vj,aB X G a18,V3⟩
  ·exact⟨Vk,aB X G a19,V4⟩
  ·exact⟨Vl,aB X G a20,V5⟩
  ·exact⟨Vm,aB X G a21,V6⟩
  ·exact⟨Vn,aB X G a22,V7⟩
  ·exact⟨Vo,aB X G a23,V8⟩
  ·exact⟨Vp,aB X G a24,V9⟩
  ·exact⟨Vq,aB X G a25,Wa⟩
  ·exact⟨Vr,aB X G a26,Wb⟩
  ·exact⟨Vs,aB X G a27,Wc⟩
  ·exact⟨Vt,aB X G a28,Wd⟩
  ·exact⟨Vu,aB X G a29,We⟩
  ·exact⟨Vv,aB X G a30,Wf⟩
  ·exact⟨Vw,aB X G a31,Wg⟩
  ·exact⟨Vx,aB X G a32,Wi⟩
  ·exact⟨Vy,aB X G a33,Wj⟩
  ·exact⟨Vz,aB X G a34,Wl⟩
  ·exact⟨VA,aB X G a35,Wm⟩
  ·exact⟨VB,aB X G a36,Wn⟩
  ·exact⟨VC,aB X G a37,Wo⟩
  ·exact⟨VD,aB X G a38,Wp⟩
  ·exact⟨VE,aB X G a39,Wq⟩
  ·exact⟨VF,aB X G a40,Wr⟩
  ·exact⟨VG,aB X G a41,Ws⟩
  ·exact⟨VH,aB X G a42,Wt⟩
  ·exact⟨VI,aB X G a43,Wu⟩
  ·exact⟨VJ,aB X G a44,Wv⟩
  ·exact⟨VL,aB X G a45,Ww⟩
  ·exact⟨VM,aB X G a46,Wx⟩
  ·exact⟨VN,aB X G a47,Wy⟩
  ·exact⟨VO,aB X G a48,Wz⟩
  ·exact⟨VP,aB X G a49,WA⟩
  ·exact⟨VQ,aB X G a50,WB⟩
  ·exact⟨qs_Arrow,qr_Arrow,qf_Arrow⟩
  ·exactλc hc=>by
    simp only[aF,dE,or_false]at hc
    rcases hc with rfl
    all_goals first|exact⟨⟨pg_Net,hd_Net,po_Net,sa_Net⟩,n_Net_arrows⟩
  ·exactλc hc=>by
    simp only[aF,dE,or_false]at hc
    rcases hc with rfl|rfl|rfl|rfl
    all_goals first|exact⟨⟨pg_Arrow,hd_Arrow,po_Arrow,sa_Arrow⟩,n_Arrow_behind⟩|exact⟨⟨pg_Ride,hd_Ride,po_Ride,sa_Ride⟩,n_Ride_behind⟩|exact⟨⟨pg_Wait,hd_Wait,po_Wait,sa_Wait⟩,n_Wait_behind⟩|exact⟨⟨pg_Back,hd_Back,po_Back,sa_Back⟩,n_Back_behind⟩
  ·exactλc hc=>by
    simp only[aF,dE,or_false]at hc
    rcases hc with rfl|rfl|rfl|rfl
    all_goals first|exact⟨⟨pg_Arrow,hd_Arrow,po_Arrow,sa_Arrow⟩,n_Arrow_goal⟩|exact⟨⟨pg_Ride,hd_Ride,po_Ride,sa_Ride⟩,n_Ride_goal⟩|exact⟨⟨pg_Wait,hd_Wait,po_Wait,sa_Wait⟩,n_Wait_goal⟩|exact⟨⟨pg_Back,hd_Back,po_Back,sa_Back⟩,n_Back_goal⟩
  ·exactλc hc=>by
    simp only[aF,dE,or_false]at hc
    rcases hc with rfl
    all_goals first|exact⟨⟨pg_Net,hd_Net,po_Net,sa_Net⟩,n_Net_names⟩
  ·exactλc hc=>by
    simp only[aF,dE,or_false]at hc
    rcases hc with rfl|rfl|rfl|rfl
    all_goals first|exact⟨⟨pg_Arrow,hd_Arrow,po_Arrow,sa_Arrow⟩,n_Arrow_start⟩|exact⟨⟨pg_Ride,hd_Ride,po_Ride,sa_Ride⟩,n_Ride_start⟩|exact⟨⟨pg_Wait,hd_Wait,po_Wait,sa_Wait⟩,n_Wait_start⟩|exact⟨⟨pg_Back,hd_Back,po_Back,sa_Back⟩,n_Back_start⟩
  ·exactλc hc=>by
    simp only[aF,dE,or_false]at hc
    rcases hc with rfl|rfl|rfl|rfl
    all_goals first|exact⟨⟨pg_Arrow,hd_Arrow,po_Arrow,sa_Arrow⟩,n_Arrow_time⟩|exact⟨⟨pg_Ride,hd_Ride,po_Ride,sa_Ride⟩,n_Ride_time⟩|exact⟨⟨pg_Wait,hd_Wait,po_Wait,sa_Wait⟩,n_Wait_time⟩|exact⟨⟨pg_Back,hd_Back,po_Back,sa_Back⟩,n_Back_time⟩
  ·exactλc hc=>by
    simp only[aF,dE,or_false]at hc
    rcases hc with rfl|rfl|rfl|rfl|rfl
    all_goals first|exact⟨⟨⟨pg_Arrow,hd_Arrow,po_Arrow,sa_Arrow⟩,iga_Arrow,ign,igt,igm_Arrow⟩,kit_Arrow_Back⟩|exact⟨⟨⟨pg_Ride,hd_Ride,po_Ride,sa_Ride⟩,iga_Ride,ign,igt,igm_Ride⟩,kit_Ride_Back⟩|exact⟨⟨⟨pg_Wait,hd_Wait,po_Wait,sa_Wait⟩,iga_Wait,ign,igt,igm_Wait⟩,kit_Wait_Back⟩|exact⟨⟨⟨pg_Back,hd_Back,po_Back,sa_Back⟩,iga_Back,ign,igt,igm_Back⟩,kit_Back_Back⟩|exact⟨⟨⟨pg_Net,hd_Net,po_Net,sa_Net⟩,iga_Net,ign,igt,igm_Net⟩,kit_Net_Back⟩
  ·exactλc hc=>by
    simp only[aF,dE,or_false]at hc
    rcases hc with rfl|rfl|rfl|rfl|rfl
    all_goals first|exact⟨⟨⟨pg_Arrow,hd_Arrow,po_Arrow,sa_Arrow⟩,iga_Arrow,ign,igt,igm_Arrow⟩,kit_Arrow_Ride⟩|exact⟨⟨⟨pg_Ride,hd_Ride,po_Ride,sa_Ride⟩,iga_Ride,ign,igt,igm_Ride⟩,kit_Ride_Ride⟩|exact⟨⟨⟨pg_Wait,hd_Wait,po_Wait,sa_Wait⟩,iga_Wait,ign,igt,igm_Wait⟩,kit_Wait_Ride⟩|exact⟨⟨⟨pg_Back,hd_Back,po_Back,sa_Back⟩,iga_Back,ign,igt,igm_Back⟩,kit_Back_Ride⟩|exact⟨⟨⟨pg_Net,hd_Net,po_Net,sa_Net⟩,iga_Net,ign,igt,igm_Net⟩,kit_Net_Ride⟩
  ·exact bF X G z0
  ·exact bF X G z1
  ·exact bF X G z2
  ·exact bF X G z3
  ·exact bF X G z4
  ·exact bF X G z5
  ·exact bF X G z6
  ·exact bF X G z7
  ·exact bF X G z8
  ·exact bF X G z9
  ·exact bF X G z10
  ·exact bF X G z11
  ·exact bF X G z12
  ·exact bF X G z13
  ·exact bF X G z14
  ·exact bF X G z15
  ·exact bF X G z16
  ·exact⟨_,aB X G gc0⟩
  ·exact⟨_,aB X G gc1⟩
  ·exact⟨_,aB X G gc2⟩
  ·exact⟨_,aB X G gc3⟩
  ·exact⟨_,aB X G gc4⟩
 exact⟨cJ "law" "law" BZ .none Bu AT BE zW wR AR,λs v=>.of_eq rfl,λbase _ _=>zwc T⟩
theorem walk {l:ml}{q:bJ}{loose:List aX}{XP:(aX->Option af)->bc->Prop}{YP:cw->bc->Prop}{d:DefRec}{K:Params->ae}(hn:l.most=some 63)(Ft:d.params.defaults=[])
  (hY:∀(w:cw) (h:bc),YP w h->(K w.params).In h)
  (F:∀(w:cw) (mg:aX->Option af) (fa:ai) (h:bc),(K w.params).In h->h.Ns ar mg->mg d.name=some (.ref fa) ->
   ∃fd:aK,(∀(s:ap) (u:af),pD s fd ⟨[u],[]⟩ [("_law_script",u)])/\∀base:bc,(K w.params).In base->base.Ns ar mg->cH l.prog w (K w.params) mg base eU 8 fa fd ["_law_script"] (oJ (K w.params))) :
  t5 q loose XP YP l.row.toRowW d [] (λf vs=>PySem.call f vs) :=
 L2.walk_of (n:=63) (k:=8) (x:="_law_script") (CX:=λ_=>eU) (sp:=λw=>oJ (K w.params)) hn (by decide) Ft ⟨rfl,by decide,by decide⟩ hY F (λ_ _ a ns hl _ hS=>⟨a,ns,rfl,hS,hl,λ_=>rfl⟩) λ_ _ _ _ _ z=>z
end My
-- KEEP
namespace PySem.W.Fast
def tw16344932259453024523:=0
def tw7574968415065873671:=0
def tw16787002812337720254:=0
def tw14480796326548349511:=0
def tw9588602915727338386:=0
def tw6856098682938472814:=0
def tw7941108174532308865:=0
def tw9081162789474518229:=0
def tw5640156872143760250:=0
def tw14527112992393806290:=0
def tw5493906519262555025:=0
def tw8176834261980439415:=0
def tw407883887670938594:=0
def tw11058847248335954729:=0
def tw18172029026813418171:=0
def tw10043401089551967974:=0
def tw15737530471370764471:=0
def tw6383163725420882101:=0
def tw15858291706706498266:=0
def tw10879611053680486662:=0
def tw2152003599735816653:=0
def tw11852780937322764728:=0
def tw5653743516823246730:=0
def tw12223076941842296056:=0
def tw2416173623579451216:=0
def tw17444363737384876485:=0
def tw10886060728720866407:=0
def tw5145979230442939073:=0
def tw14174918308088504873:=0
def tw8469384477987746833:=0
def tw11760203398988792508:=0
def tw1160205635232034504:=0
def tw1072331255020944262:=0
def tw3372672157791891898:=0
def tw11117623475240761509:=0
def tw17963522924750131697:=0
def tw14371987312263504322:=0
def tw1662814962437924037:=0
def tw3624402070749752102:=0
def tw11460383331382648865:=0
def tw10106838142673418777:=0
def tw10880525921543858621:=0
def tw6939875492244257341:=0
def tw9032652098995592928:=0
def tw3554899003699959930:=0
def tw5109714349599389608:=0
def tw11507235965505929239:=0
def tw2773271841690413823:=0
def tw16618917425519439569:=0
def tw3631024967303436781:=0
def tw10804166072068024134:=0
def tw16245305510491196312:=0
def tw11808521894186415516:=0
def tw10477902790659920191:=0
def tw9266549047107928465:=0
def tw10224081357507723409:=0
def tw13092001327389028002:=0
def tw2048354732837632040:=0
def tw4468424279319213298:=0
def tw13421534871655821547:=0
def tw7194385083241950122:=0
def tw5852828935430063823:=0
def tw5529956755989505345:=0
def tw16349277551535145065:=0
def tw8120223834285861010:=0
def tw1819982557601210175:=0
def tw11255157578616594196:=0
def tw608152663053385406:=0
def tw12480678399646787533:=0
def tw7469022736564898248:=0
def tw2233782829144740874:=0
def tw14988569364141328676:=0
def tw8912550424457579020:=0
def tw15903988237723690135:=0
def tw2623182825118248399:=0
def tw15502535346341521698:=0
def tw2411625355373068648:=0
def tw13541671863856994437:=0
def tw7465320494303553393:=0
def tw7158952125214407290:=0
def tw7337597915948219469:=0
def tw9987856181347961179:=0
def tw4267426329189945260:=0
def tw18265616855056335088:=0
def tw804234759224630795:=0
def tw4960082699614481836:=0
def tw9040341585383495235:=0
def tw14547717900496372950:=0
def tw4346491774184052023:=0
def tw8724602153204070560:=0
def tw11703407667552706551:=0
def tw6519039832020599631:=0
def tw17251704620651365212:=0
def tw996777324445288715:=0
def tw9586293323602793225:=0
def tw8998094458405730844:=0
def tw2617668784107994120:=0
def tw8973470084938477191:=0
def tw216577919668833489:=0
def tw4770094587658592517:=0
def tw11238205591657895129:=0
def tw7603735772134734046:=0
def tw8879298104956226607:=0
def tw16267603597332678888:=0
def tw4154607112746332202:=0
def tw12746247140286359555:=0
def tw8930745410856972296:=0
def tw13906741955370854415:=0
def tw5184274155861276032:=0
def tw11604742584148518337:=0
def tw4267218783355849564:=0
def tw8453014031728095090:=0
def tw15626486082990232328:=0
def tw2318394655869578912:=0
def tw1611091495440923644:=0
def tw13483468602485118702:=0
def tw18078465938176624029:=0
def tw3893791510360521814:=0
def tw18215974785943279920:=0
def tw3124633378484762344:=0
def tw11749673959958882758:=0
def tw2405240962774161797:=0
def tw936382369961187222:=0
def tw11288839156389823853:=0
def tw6204900255363317481:=0
def tw1487978613044796185:=0
def tw7382519891097323361:=0
def tw37569371571891265:=0
def tw17456610396871787748:=0
def tw6395279330236560669:=0
def tw11667911393353932289:=0
def tw12616367153634000667:=0
def tw11156502917879835328:=0
def tw15789449429254760549:=0
def tw2345442899533944093:=0
def tw15344165610034344253:=0
def tw10596311704003638555:=0
def tw4434381334392468834:=0
def tw1641595913896262101:=0
def tw11228806045845445491:=0
def tw4328605499681521710:=0
def tw15318085398317581600:=0
def tw6743283569919199671:=0
def tw11573592985298381936:=0
def tw15258378867055856577:=0
def tw5101315773808690049:=0
def tw771115395767949847:=0
def tw13139150511233248355:=0
def tw9087672277407334188:=0
def tw10082295299748500155:=0
def tw13425386892395021926:=0
def tw969910291292530041:=0
def tw6592389901965413773:=0
def tw14737154770973151399:=0
def tw4562234746729885312:=0
def tw6897293055200701806:=0
def tw7387597713948666983:=0
def tw933514116761363116:=0
def tw11633945392893230344:=0
def tw62284341893394547:=0
def tw9281129922106077587:=0
def tw13613274749870058948:=0
def tw8875041886701177170:=0
def tw6413320877761153622:=0
def tw15219537656357626220:=0
def tw4800033302433605060:=0
def tw13677454958317812703:=0
def tw18237008139091717033:=0
def tw17906226029780414992:=0
def tw8846233990032980374:=0
def tw1470939399025736842:=0
def tw10330837682556545534:=0
def tw11290081908274892429:=0
def tw5691600406551332765:=0
def tw6397108925686516372:=0
def tw10504796355743776919:=0
def tw1156608463425985722:=0
def tw3969213695158744504:=0
def tw3752036926173506863:=0
def tw11380223263653584348:=0
def tw2828104978994920350:=0
def tw3125318760701243727:=0
def tw8490067106410542184:=0
def tw14390357885076129438:=0
def tw18335217164649043755:=0
def tw885011044343607170:=0
def tw17347698672928273910:=0
def tw12241214201772347474:=0
def tw10258478203602463736:=0
def tw5273819804979421370:=0
def tw13464812165954035388:=0
def tw9047892710816875983:=0
def tw14062025816762459348:=0
def tw1396885777680675568:=0
def tw14426109556370148297:=0
def tw15012471800352304255:=0
def tw8790489015455512474:=0
def tw14468243508022458170:=0
def tw9220025191679610453:=0
def tw12275410565063372117:=0
def tw7854290270454659029:=0
def tw8903196144238188417:=0
def tw10919843916919186297:=0
def tw8421131039771736492:=0
def tw15571897135335181022:=0
def tw432544945198448809:=0
def tw1620321123072135933:=0
def tw8864775399211863763:=0
def tw8012257006587574205:=0
def tw12214437354047780914:=0
def tw6783557711409861899:=0
def tw3911806834745539855:=0
def tw11616930962157513497:=0
def tw10102696250609676573:=0
def tw12875978482745776568:=0
def tw6764236940881187233:=0
def tw7017312234207518248:=0
def tw2295043346495531867:=0
def tw14330852509520172688:=0
def tw2645497244794941245:=0
def tw16509735210578720008:=0
def tw13174007589266009409:=0
def tw14524719832173314765:=0
def tw2887792637185587267:=0
def tw16014465657595852095:=0
def tw6929717204234652838:=0
def tw5459679013194593110:=0
def tw4852988332529639335:=0
def tw4447099790521317325:=0
def tw3001387438817387293:=0
def tw13788311038069659566:=0
def tw3702824529824399561:=0
def tw9914367410445372890:=0
def tw3194248176903956113:=0
def tw12266367348023210651:=0
def tw2562644946247733296:=0
def tw8168629017216599962:=0
def tw12628139111436170936:=0
def tw15843949798957738312:=0
def tw3833930722805131307:=0
def tw12425589554167504437:=0
def tw17781702957204341213:=0
def tw5854659053714418773:=0
def tw9424550848322995705:=0
def tw15834889391092859945:=0
def tw8994218065159880832:=0
def tw14274692802495965085:=0
def tw3269589026945170860:=0
def tw17393403954047145665:=0
def tw17335821358450505981:=0
def tw5903853475339248736:=0
def tw5832098265459986334:=0
def tw16044259125720740260:=0
def tw3749978060310829265:=0
def tw18178839828932343457:=0
def tw3038616295283375032:=0
def tw11103157627053280452:=0
def tw826830125539852739:=0
def tw18253156089588518960:=0
def tw3921403966081531688:=0
def tw1370795153430197952:=0
def tw596181186472400771:=0
def tw13643956840841390514:=0
def tw2369308643940086778:=0
def tw824671588629995666:=0
def tw8611765588244564601:=0
def tw16491547809350278992:=0
def tw18081196989114507363:=0
def tw18098245423382796689:=0
def tw1938755549140515831:=0
def tw14514027239586714126:=0
def tw3680452008432664790:=0
def tw6155426487898924801:=0
def tw11309032094528084508:=0
def tw4466390236760458705:=0
def tw12016235507115047334:=0
def tw17770301804207948918:=0
def tw6635199566130622836:=0
def tw16559422670690192599:=0
def tw8184010088002655705:=0
def tw12586307782461416912:=0
def tw1773310678230314525:=0
def tw1004053277584430784:=0
def tw11138818761039166689:=0
def tw17231717871793853499:=0
def tw13235660384853133405:=0
def tw2867137731975380602:=0
def tw5133844503188497430:=0
def tw9748412712681203391:=0
def tw10906388367932495739:=0
def tw1198574651165725824:=0
def tw2125280758449928977:=0
def tw1573128632087284303:=0
def tw164614117784303447:=0
def tw9994863499381204867:=0
def tw2316097967532020581:=0
def tw17160653479114405222:=0
def tw2998413970589212730:=0
def tw1414680766909344544:=0
def tw3701203665491804723:=0
def tw15061777352197598616:=0
def tw6649687816180365410:=0
def tw6806644528648921740:=0
def tw856588764115803464:=0
def tw14501273817878192005:=0
def tw974935341873425399:=0
def tw8186221706435378775:=0
def tw4046516892976454142:=0
def tw4220979097842462494:=0
def tw9649825847014137676:=0
def tw17995517137825760505:=0
def tw9422481024320563749:=0
def tw2154901377497818895:=0
def tw7868800719266080776:=0
def tw7404384843114837299:=0
def tw5440942148366901817:=0
def tw629777982745491421:=0
def tw5626835447278679757:=0
def tw1778622297197116665:=0
def tw16817819782117203032:=0
def tw15340440052419181190:=0
def tw17455088137853483553:=0
def tw4110399194596753779:=0
def tw4570779282612056113:=0
def tw17245043816459264360:=0
def tw12917794472249969924:=0
def tw10194410426257443044:=0
def tw8491317502874327146:=0
def tw13056589385583300899:=0
def tw15355717069560097933:=0
end PySem.W.Fast
open PySem PySem.W PyProof.Rows
set_option maxRecDepth 100000 in
set_option maxHeartbeats 0 in
theorem PySem.Challenge.cw_ringbeat_k37_whole_rates_holds : PySem.Challenge.rw_ringbeat_k37_whole_rates.Holds := by
  w_on; o_law; k_head; (case hw => w_witness2)
  k_fill
  refine My.walk (l := PySem.Challenge.rw_ringbeat_k37_whole_rates) rfl rfl (fun w h Y => PySem.W.kIn_of Y) ?F
  case F =>
    intro w mg fa h KX G hmg
    refine' My.all_mk KX G hmg ?aC_Arrow ?pg_Arrow ?hd_Arrow ?po_Arrow ?sa_Arrow ?mk_Arrow ?kc_Arrow ?aC_Ride ?pg_Ride ?hd_Ride ?po_Ride ?sa_Ride ?mk_Ride ?kc_Ride ?aC_Wait ?pg_Wait ?hd_Wait ?po_Wait ?sa_Wait ?mk_Wait ?kc_Wait ?aC_Back ?pg_Back ?hd_Back ?po_Back ?sa_Back ?mk_Back ?kc_Back ?aC_Net ?pg_Net ?hd_Net ?po_Net ?sa_Net ?mk_Net ?kc_Net ?a0 ?i0 ?l0 ?c0 ?k0 ?a1 ?i1 ?l1 ?c1 ?k1 ?a2 ?i2 ?l2 ?c2 ?k2 ?t2 ?a3 ?i3 ?l3 ?c3 ?k3 ?t3 ?a4 ?l4 ?c4 ?k4 ?a5 ?l5 ?c5 ?k5 ?a6 ?l6 ?c6 ?k6 ?a7 ?l7 ?c7 ?k7 ?a8 ?l8 ?c8 ?k8 ?a9 ?l9 ?c9 ?k9 ?a10 ?l10 ?c10 ?k10 ?a11 ?l11 ?c11 ?k11 ?a12 ?i12 ?l12 ?c12 ?k12 ?a13 ?i13 ?l13 ?c13 ?k13 ?a14 ?i14 ?l14 ?c14 ?k14 ?a15 ?l15 ?c15 ?k15 ?a16 ?l16 ?c16 ?k16 ?a17 ?l17 ?c17 ?k17 ?a18 ?l18 ?c18 ?k18 ?a19 ?l19 ?c19 ?k19 ?a20 ?l20 ?c20 ?k20 ?a21 ?l21 ?c21 ?k21 ?a22 ?l22 ?c22 ?k22 ?a23 ?l23 ?c23 ?k23 ?a24 ?l24 ?c24 ?k24 ?a25 ?l25 ?c25 ?k25 ?a26 ?l26 ?c26 ?k26 ?a27 ?l27 ?c27 ?k27 ?a28 ?l28 ?c28 ?k28 ?a29 ?l29 ?c29 ?k29 ?a30 ?l30 ?c30 ?k30 ?a31 ?l31 ?c31 ?k31 ?a32 ?l32 ?c32 ?k32 ?a33 ?l33 ?c33 ?k33 ?a34 ?l34 ?c34 ?k34 ?a35 ?l35 ?c35 ?k35 ?a36 ?l36 ?c36 ?k36 ?a37 ?l37 ?c37 ?k37 ?a38 ?l38 ?c38 ?k38 ?a39 ?l39 ?c39 ?k39 ?a40 ?l40 ?c40 ?k40 ?a41 ?l41 ?c41 ?k41 ?a42 ?l42 ?c42 ?k42 ?a43 ?l43 ?c43 ?k43 ?a44 ?l44 ?c44 ?k44 ?a45 ?l45 ?c45 ?k45 ?a46 ?l46 ?c46 ?k46 ?a47 ?l47 ?c47 ?k47 ?a48 ?l48 ?c48 ?k48 ?a49 ?l49 ?c49 ?k49 ?a50 ?l50 ?c50 ?k50 ?qs_Arrow ?qr_Arrow ?qf_Arrow ?n_Net_arrows ?n_Arrow_behind ?n_Ride_behind ?n_Wait_behind ?n_Back_behind ?n_Arrow_goal ?n_Ride_goal ?n_Wait_goal ?n_Back_goal ?n_Net_names ?n_Arrow_start ?n_Ride_start ?n_Wait_start ?n_Back_start ?n_Arrow_time ?n_Ride_time ?n_Wait_time ?n_Back_time ?ign ?igt ?iga_Arrow ?igm_Arrow ?kit_Arrow_Back ?kit_Arrow_Ride ?iga_Ride ?igm_Ride ?kit_Ride_Back ?kit_Ride_Ride ?iga_Wait ?igm_Wait ?kit_Wait_Back ?kit_Wait_Ride ?iga_Back ?igm_Back ?kit_Back_Back ?kit_Back_Ride ?iga_Net ?igm_Net ?kit_Net_Back ?kit_Net_Ride ?z0 ?z1 ?z2 ?z3 ?z4 ?z5 ?z6 ?z7 ?z8 ?z9 ?z10 ?z11 ?z12 ?z13 ?z14 ?z15 ?z16 ?gc0 ?gc1 ?gc2 ?gc3 ?gc4
    (case aC_Arrow => k_is)
    (case pg_Arrow => k_is)
    (case hd_Arrow => k_is)
    (case po_Arrow => k_is)
    (case sa_Arrow => k_is)
    (case mk_Arrow => k_is)
    (case kc_Arrow => k_is)
    (case aC_Ride => k_is)
    (case pg_Ride => k_is)
    (case hd_Ride => k_is)
    (case po_Ride => k_is)
    (case sa_Ride => k_is)
    (case mk_Ride => k_is)
    (case kc_Ride => k_is)
    (case aC_Wait => k_is)
    (case pg_Wait => k_is)
    (case hd_Wait => k_is)
    (case po_Wait => k_is)
    (case sa_Wait => k_is)
    (case mk_Wait => k_is)
    (case kc_Wait => k_is)
    (case aC_Back => k_is)
    (case pg_Back => k_is)
    (case hd_Back => k_is)
    (case po_Back => k_is)
    (case sa_Back => k_is)
    (case mk_Back => k_is)
    (case kc_Back => k_is)
    (case aC_Net => k_is)
    (case pg_Net => k_is)
    (case hd_Net => k_is)
    (case po_Net => k_is)
    (case sa_Net => k_is)
    (case mk_Net => k_is)
    (case kc_Net => k_is)
    (case a0 => k_is)
    (case i0 => k_is)
    (case l0 => k_is)
    (case c0 => k_is)
    (case k0 => k_is)
    (case a1 => k_is)
    (case i1 => k_is)
    (case l1 => k_is)
    (case c1 => k_is)
    (case k1 => k_is)
    (case a2 => k_is)
    (case i2 => k_is)
    (case l2 => k_is)
    (case c2 => k_is)
    (case k2 => k_is)
    (case t2 => k_is)
    (case a3 => k_is)
    (case i3 => k_is)
    (case l3 => k_is)
    (case c3 => k_is)
    (case k3 => k_is)
    (case t3 => k_is)
    (case a4 => k_is)
    (case l4 => k_is)
    (case c4 => k_is)
    (case k4 => k_is)
    (case a5 => k_is)
    (case l5 => k_is)
    (case c5 => k_is)
    (case k5 => k_is)
    (case a6 => k_is)
    (case l6 => k_is)
    (case c6 => k_is)
    (case k6 => k_is)
    (case a7 => k_is)
    (case l7 => k_is)
    (case c7 => k_is)
    (case k7 => k_is)
    (case a8 => k_is)
    (case l8 => k_is)
    (case c8 => k_is)
    (case k8 => k_is)
    (case a9 => k_is)
    (case l9 => k_is)
    (case c9 => k_is)
    (case k9 => k_is)
    (case a10 => k_is)
    (case l10 => k_is)
    (case c10 => k_is)
    (case k10 => k_is)
    (case a11 => k_is)
    (case l11 => k_is)
    (case c11 => k_is)
    (case k11 => k_is)
    (case a12 => k_is)
    (case i12 => k_is)
    (case l12 => k_is)
    (case c12 => k_is)
    (case k12 => k_is)
    (case a13 => k_is)
    (case i13 => k_is)
    (case l13 => k_is)
    (case c13 => k_is)
    (case k13 => k_is)
    (case a14 => k_is)
    (case i14 => k_is)
    (case l14 => k_is)
    (case c14 => k_is)
    (case k14 => k_is)
    (case a15 => k_is)
    (case l15 => k_is)
    (case c15 => k_is)
    (case k15 => k_is)
    (case a16 => k_is)
    (case l16 => k_is)
    (case c16 => k_is)
    (case k16 => k_is)
    (case a17 => k_is)
    (case l17 => k_is)
    (case c17 => k_is)
    (case k17 => k_is)
    (case a18 => k_is)
    (case l18 => k_is)
    (case c18 => k_is)
    (case k18 => k_is)
    (case a19 => k_is)
    (case l19 => k_is)
    (case c19 => k_is)
    (case k19 => k_is)
    (case a20 => k_is)
    (case l20 => k_is)
    (case c20 => k_is)
    (case k20 => k_is)
    (case a21 => k_is)
    (case l21 => k_is)
    (case c21 => k_is)
    (case k21 => k_is)
    (case a22 => k_is)
    (case l22 => k_is)
    (case c22 => k_is)
    (case k22 => k_is)
    (case a23 => k_is)
    (case l23 => k_is)
    (case c23 => k_is)
    (case k23 => k_is)
    (case a24 => k_is)
    (case l24 => k_is)
    (case c24 => k_is)
    (case k24 => k_is)
    (case a25 => k_is)
    (case l25 => k_is)
    (case c25 => k_is)
    (case k25 => k_is)
    (case a26 => k_is)
    (case l26 => k_is)
    (case c26 => k_is)
    (case k26 => k_is)
    (case a27 => k_is)
    (case l27 => k_is)
    (case c27 => k_is)
    (case k27 => k_is)
    (case a28 => k_is)
    (case l28 => k_is)
    (case c28 => k_is)
    (case k28 => k_is)
    (case a29 => k_is)
    (case l29 => k_is)
    (case c29 => k_is)
    (case k29 => k_is)
    (case a30 => k_is)
    (case l30 => k_is)
    (case c30 => k_is)
    (case k30 => k_is)
    (case a31 => k_is)
    (case l31 => k_is)
    (case c31 => k_is)
    (case k31 => k_is)
    (case a32 => k_is)
    (case l32 => k_is)
    (case c32 => k_is)
    (case k32 => k_is)
    (case a33 => k_is)
    (case l33 => k_is)
    (case c33 => k_is)
    (case k33 => k_is)
    (case a34 => k_is)
    (case l34 => k_is)
    (case c34 => k_is)
    (case k34 => k_is)
    (case a35 => k_is)
    (case l35 => k_is)
    (case c35 => k_is)
    (case k35 => k_is)
    (case a36 => k_is)
    (case l36 => k_is)
    (case c36 => k_is)
    (case k36 => k_is)
    (case a37 => k_is)
    (case l37 => k_is)
    (case c37 => k_is)
    (case k37 => k_is)
    (case a38 => k_is)
    (case l38 => k_is)
    (case c38 => k_is)
    (case k38 => k_is)
    (case a39 => k_is)
    (case l39 => k_is)
    (case c39 => k_is)
    (case k39 => k_is)
    (case a40 => k_is)
    (case l40 => k_is)
    (case c40 => k_is)
    (case k40 => k_is)
    (case a41 => k_is)
    (case l41 => k_is)
    (case c41 => k_is)
    (case k41 => k_is)
    (case a42 => k_is)
    (case l42 => k_is)
    (case c42 => k_is)
    (case k42 => k_is)
    (case a43 => k_is)
    (case l43 => k_is)
    (case c43 => k_is)
    (case k43 => k_is)
    (case a44 => k_is)
    (case l44 => k_is)
    (case c44 => k_is)
    (case k44 => k_is)
    (case a45 => k_is)
    (case l45 => k_is)
    (case c45 => k_is)
    (case k45 => k_is)
    (case a46 => k_is)
    (case l46 => k_is)
    (case c46 => k_is)
    (case k46 => k_is)
    (case a47 => k_is)
    (case l47 => k_is)
    (case c47 => k_is)
    (case k47 => k_is)
    (case a48 => k_is)
    (case l48 => k_is)
    (case c48 => k_is)
    (case k48 => k_is)
    (case a49 => k_is)
    (case l49 => k_is)
    (case c49 => k_is)
    (case k49 => k_is)
    (case a50 => k_is)
    (case l50 => k_is)
    (case c50 => k_is)
    (case k50 => k_is)
    (case qs_Arrow => k_is)
    (case qr_Arrow => k_is)
    (case qf_Arrow => k_is)
    (case n_Net_arrows => k_is)
    (case n_Arrow_behind => k_is)
    (case n_Ride_behind => k_is)
    (case n_Wait_behind => k_is)
    (case n_Back_behind => k_is)
    (case n_Arrow_goal => k_is)
    (case n_Ride_goal => k_is)
    (case n_Wait_goal => k_is)
    (case n_Back_goal => k_is)
    (case n_Net_names => k_is)
    (case n_Arrow_start => k_is)
    (case n_Ride_start => k_is)
    (case n_Wait_start => k_is)
    (case n_Back_start => k_is)
    (case n_Arrow_time => k_is)
    (case n_Ride_time => k_is)
    (case n_Wait_time => k_is)
    (case n_Back_time => k_is)
    (case ign => k_is)
    (case igt => k_is)
    (case iga_Arrow => k_is)
    (case igm_Arrow => k_is)
    (case kit_Arrow_Back => kit_is)
    (case kit_Arrow_Ride => kit_is)
    (case iga_Ride => k_is)
    (case igm_Ride => k_is)
    (case kit_Ride_Back => kit_is)
    (case kit_Ride_Ride => kit_is)
    (case iga_Wait => k_is)
    (case igm_Wait => k_is)
    (case kit_Wait_Back => kit_is)
    (case kit_Wait_Ride => kit_is)
    (case iga_Back => k_is)
    (case igm_Back => k_is)
    (case kit_Back_Back => kit_is)
    (case kit_Back_Ride => kit_is)
    (case iga_Net => k_is)
    (case igm_Net => k_is)
    (case kit_Net_Back => kit_is)
    (case kit_Net_Ride => kit_is)
    (case z0 => k_is)
    (case z1 => k_is)
    (case z2 => k_is)
    (case z3 => k_is)
    (case z4 => k_is)
    (case z5 => k_is)
    (case z6 => k_is)
    (case z7 => k_is)
    (case z8 => k_is)
    (case z9 => k_is)
    (case z10 => k_is)
    (case z11 => k_is)
    (case z12 => k_is)
    (case z13 => k_is)
    (case z14 => k_is)
    (case z15 => k_is)
    (case z16 => k_is)
    (case gc0 => k_is)
    (case gc1 => k_is)
    (case gc2 => k_is)
    (case gc3 => k_is)
    (case gc4 => k_is)
