import PyProof.Rows.All
import Wide.All
import OpenK.AllK
import Wide.FinOn
import Lean
import PyProof.EqAt
import PyProof.EqKinds
import PyProof.TupleCall
import PySem.Challenge.RW_ringbeat_k36_whole_least_round
set_option Elab.async false
set_option linter.all false
set_option maxRecDepth 100000
open Array renaming length_toList→cC,getElem?_toList→oI
open Bool renaming false_ne_true→aK,and_eq_true→bE,false_eq_true→dA,or_eq_false_iff→pK,or_false→vK
open Int renaming mul_le_mul_of_nonneg_right→aU,mul_le_mul_of_nonneg_left→cv,le_of_lt→cK,mul_pos→cU,gcd→dm,mul_le_mul→dR,eq_of_mul_eq_mul_right→eU,le_of_mul_le_mul_right→eW,le_refl→fv,mul_nonneg→fN,fdiv_eq_ediv_of_nonneg→gP,toNat_natCast→hX,mul_comm→iP,mul_nonneg_of_nonpos_of_nonpos→ku,gcd_dvd_right→kQ,mul_one→lV,nonneg_of_mul_nonneg_left→lW,one_mul→lX,mul_ne_zero→mI,fmod_eq_emod_of_nonneg→nt,pos_of_mul_pos_right→oB,fdiv_eq_ediv_of_dvd→oJ,fmod_nonneg_of_pos→pd,le_total→pf,mul_ediv_cancel'→qB,add_mul→qC,toNat_of_nonneg→qT,fmod_lt_of_pos→rS,gcd_dvd_left→tQ,emod_nonneg→uE,le_antisymm→uF,natAbs_mul→vL
open List renaming mem_cons_self→af,mem_cons_of_mem→aj,length_map→ak,mem_append_right→av,range→ax,replicate→az,mem_singleton→aD,size_toArray→aE,mem_cons→aF,length_cons→aI,map_cons→aO,getElem?_eq_some_iff→aV,nodup_append→aW,getElem?_map→aX,mem_append→aY,mem_append_left→bc,length_append→bg,lookup_cons→bm,getElem?_eq_getElem→br,sum_cons→bu,nodup_cons→bv,mem_range→bx,nodup_nil→bA,length_range→bD,map_map→bF,mem_iff_getElem?→bG,mem_map→bM,mem_filter→ce,append_nil→cz,Nodup→cD,length_drop→cJ,replicate_succ→cM,length_singleton→cN,getElem?_set_ne→cS,find?_cons→cZ,map_append→dc,getElem?_append_left→dh,length_replicate→dq,not_mem_nil→dB,all_cons→dE,map_congr_left→dM,getElem?_eq_none→dS,append_assoc→d8,flatten_cons→d9,length_take→ei,take_of_length_le→er,length_zip→eA,any_cons→eD,range_eq_range'→eO,getElem?_append_right→eP,mem_iff_getElem→eQ,length_pos_iff→eY,length_reverse→eZ,zip_cons_cons→fk,getElem?_replicate→fu,drop_of_length_le→fJ,ext_getElem?→fK,all_eq_true→fY,countP_cons→fZ,map_drop→gb,eq_nil_of_length_eq_zero→gh,lookup→gj,of_mem_zip→gw,countP_append→gN,range'→hJ,getElem_map→iy,nodup_range→iz,getElem?_set_self→iK,foldl_cons→iQ,filterMap_cons→jI,getElem?_range→jJ,Pairwise→jQ,findIdx?_cons→jW,map_singleton→jX,Sublist→kz,map_nil→kA,reverse_cons→kB,eraseIdxIfInBounds_toArray→kR,any_eq_true→lB,cons_append→lC,getElem_inj→lD,map_reverse→lE,length→lN,take_append_of_le_length→lO,dropLast_concat_getLast→lY,forIn_cons→lZ,perm_ext_iff_of_nodup→mS,drop_eq_getElem_cons→nu,exists_mem_of_ne_nil→nv,pairwise_iff_getElem→nw,sublist_append_right→ny,idxOf_lt_length_iff→nQ,map_take→nR,eraseIdx_cons_succ→oC,filter_cons_of_neg→oE,filter_cons_of_pos→oF,length_eq_zero_iff→oG,drop_eq_nil_of_le→oK,sublist_cons_self→oM,countP_singleton→pj,length_filter_le→pq,pairwise_reverse→pv,getElem_toArray→pL,mem_of_mem_drop→pM,mem_of_mem_take→pN,filter_eq_self→qD,contains_cons→qU,find?_eq_none→qV,foldl→qW,getElem_idxOf→qX,map_inj_right→qY,mem_filterMap→qZ,drop_sublist→rT,foldl_append→rV,getElem?_set→rW,getElem_take→rX,idxOf_append→rY,pairwise_map→rZ,append_inj'→sA,mem_reverse→sC,map_const'→tR,find?_some→tS,length_nil→tT,length_set→tU,nil_append→tV,zip_append→tW,forIn_nil→uG,contains→vM
open Nat renaming le_refl→aM,lt_of_lt_of_le→bj,ne_of_lt→bw,le_trans→cL,zero_le→de,pow_le_pow_right→dG,lt_irrefl→eh,lt_succ_of_lt→eI,min_self→gJ,mod_lt→gQ,lt_succ_self→iG,pow_succ→iR,lt_of_le_of_lt→kx,le_of_lt→kS,le_of_succ_le→kT,min_eq_right→lP,le_succ→ma,log2_lt→mh,min_eq_left→mJ,le_total→pw,zero_add→pz,mul_le_mul→vN
open Option renaming bind_some→dr,map_eq_some_iff→dN,isSome_map→jY,isSome_iff_exists→mT,getD_none→rc,map_some→se
open PyProof.Rows renaming callWith_type1→cw,step_dedup→kU
open PySem renaming Value→ae,Addr→ah,Shared→am,mainGlobals→ap,starEach→aq,FuncData→aH,Str→aQ,wpAny_bind→aR,Heap→aZ,model→ba,wpAny→bi,NameKind→bq,Program→bB,eval→bJ,bootBuiltins→bK,Stmt→bP,Around→bR,wpAny_pure→bS,World→cj,compareOp→ck,PyData→cn,sizeLine_eq→cy,backTo→cB,PassesOwn→cI,strIterType→cP,Pos→cY,wpAny_truthy_bool→di,swapsWith→dw,keywordEach→dC,wpAny_Call_Name_kw→dH,attributeBase→dJ,behindInMarks→dL,foldedSetIterable→dP,wpAny_mono→dQ,Obj→dU,assignEach→d6,binaryOp→d7,holding→eG,backToKw→eL,wpAny_passesOwn→eM,Builtin→e6,Keyword→fL,sysModules→fO,Scope→fQ,codeAny→gc,getMethod→gC,swappedStores→gF,swapsWithSole→gG,cLine→gK,sliceBounds→gL,letOwnedTupleGo→gR,standAt→hU,assign→ip,call_meets→iq,tupleKind_room_in1→ir,Operator→i8,callWith→i9,CmpOp→jK,wpAny_execs_nil→jL,Data→jR,newFunctionEnv→ky,wpAny_holding→lF,wpAny_standAt→lG,callerA→mK,codeAny_mono→mL,getItem→mM,seqIndex_neg→mN,valueAt→mO,wpAny_newObj_type→mP,tupleKind→nz,seqIndex_of→nS,subscripted→nU,wpAny_specialOf→oH,BindsTo→oN,Sem→oO,setItem→oP,atKey→pA,closureFor→pB,compEnvC→pC,compPost→pD,typeLookup→pE,Code→qE,nums_intItems→qF,bindC→rf,bindL→rh,concat_meets→sf,isTrue→sg,builtinsNs→vO,revObj→vP,typeIs_int→vQ,wpAny_Name→vR
open PySem.Heap renaming get?_push_of_some→aC,lt_size→aP,get?_push_size→bQ,size_push→fI,SameBut→gE,get?_update_other→iJ,get?_update_self→o9
open PySem.W renaming Frag→aa,keepIn→ao,nsIn→ar,codeIn→aw,mg_of→ay,findIn→aA,mg_none_of→bC,kitOne→bO,kia_one→cF,emptyDict→cW,plainGet→dk,hasDictIn→dF,instObj→dW,makesIn→dX,plainOver→dY,specialIn→dZ,isFn→el,mroIn→eX,methodCall_KW→fM,fnOf→gq,callWith_K→gD,cellsFrom_some→iu,findCls→iA,readsIn→iB,lookIn→iS,plainGet_of→jA,kitx_list→jS,methodObj→jT,OpenLaw→kW,takerIn→kX,takesIn→kY,kitx_dict→pO,handedIn→qG,WalkO→sD
namespace L2
open PySem PySem.Spec PyProof.Rows
abbrev eR:=Sum Int aQ
def nH:eR->ae->Bool
 |.inl k,v=>ae.isInt k v
 |.inr x,v=>ae.isStrOf x v
def L0 (w:cj):eR->Int
 |.inl k=>hashInt k
 |.inr x=>hashStr w x
theorem vo:∀{k:eR} {v:ae},nH k v=true->(∃i t,k=Sum.inl i/\v=ae.int i t)\/(∃x t,k=Sum.inr x/\v=ae.str x t)
 |.inl i,v,h=>by
  obtain⟨t,e⟩:=ae.isInt_shape (k:=i) (v:=v) h
  exact .inl ⟨i,t,rfl,e⟩
 |.inr x,v,h=>by
  obtain⟨t,e⟩:=ae.isStrOf_shape (x:=x) (v:=v) h
  exact .inr ⟨x,t,rfl,e⟩
theorem ZX (i:Int)(t:Tok):nH (.inl i) (.int i t)=true:=by simp[nH,ae.isInt]
theorem ZY (x:aQ)(t:Tok):nH (.inr x) (.str x t)=true:=by simp[nH,ae.isStrOf]
theorem zsg (a b:Int):decide ((Sum.inl a:eR)=Sum.inl b)=(a==b):=by
 by_cases e:a=b
 ·subst e;simp
 ·have h:¬(Sum.inl a:eR)=Sum.inl b:=λq=>e (Sum.inl.inj q)
  rw[decide_eq_false h]
  exact(beq_eq_false_iff_ne.mpr e).symm
theorem zsh (a b:aQ):decide ((Sum.inr a:eR)=Sum.inr b)=decide (a=b):=by
 by_cases e:a=b
 ·subst e;simp
 ·have h:¬(Sum.inr a:eR)=Sum.inr b:=λq=>e (Sum.inr.inj q)
  rw[decide_eq_false h,decide_eq_false e]
theorem zsi (a:Int)(b:aQ):decide ((Sum.inl a:eR)=Sum.inr b)=false:=decide_eq_false (λq=>nomatch q)
theorem zsj (a:aQ)(b:Int):decide ((Sum.inr a:eR)=Sum.inl b)=false:=decide_eq_false (λq=>nomatch q)
def eT (prog:bB)(w:cj):PySem.KeyKind prog w eR where
 is:=nH
 hash:=L0 w
 inj:=λv a b ha hb=>by
  rcases vo ha with⟨i,t,rfl,rfl⟩|⟨x,t,rfl,rfl⟩
  ·rcases vo hb with⟨j,u,rfl,e⟩|⟨y,u,rfl,e⟩
   ·injection e with e1 _;rw[e1]
   ·exact nomatch e
  ·rcases vo hb with⟨j,u,rfl,e⟩|⟨y,u,rfl,e⟩
   ·exact nomatch e
   ·injection e with e1 _;rw[e1]
 byValue:=λk v h=>by
  rcases vo h with⟨i,t,rfl,rfl⟩|⟨x,t,rfl,rfl⟩<;>rfl
 pyHash:=λhv h=>by
  rcases vo hv with⟨i,t,rfl,rfl⟩|⟨x,t,rfl,rfl⟩
  ·exact wpAny_pyHash_int h
  ·exact wpAny_pyHash_str h
 eqBool:=λhu hv h=>by
  rcases vo hu with⟨i,t,rfl,rfl⟩|⟨x,t,rfl,rfl⟩
  ·rcases vo hv with⟨j,u,rfl,rfl⟩|⟨y,u,rfl,rfl⟩
   ·rw[zsg]at h;exact wpAny_eqBool_int h
   ·rw[zsi]at h;exact SeqAt.EqAt.int_str i t y u _ _ _ _ h
  ·rcases vo hv with⟨j,u,rfl,rfl⟩|⟨y,u,rfl,rfl⟩
   ·rw[zsj]at h;exact SeqAt.EqAt.str_int x t j u _ _ _ _ h
   ·rw[zsh]at h;exact wpAny_eqBool_str h
 «strs»:=λk x t v h=>by
  rcases vo h with⟨i,u,rfl,e⟩|⟨y,u,rfl,e⟩
  ·exact nomatch e
  ·injection e with e1 _
   subst e1
   cases v<;>rfl
theorem Zn (prog:bB)(w:cj)(i:Int)(t:Tok):(eT prog w).is (.inl i) (.int i t)=true:=ZX i t
theorem Zo (prog:bB)(w:cj)(x:aQ)(t:Tok):(eT prog w).is (.inr x) (.str x t)=true:=ZY x t
end L2
namespace L2
open PySem PySem.Spec PyProof.Rows
inductive V where
 |non|bl (b:Bool)|int (i:Int)|str (x:aQ)|byt (b:Array UInt8)|flt (b:UInt64)|ref (a:ah)|ty (n:String)
 deriving DecidableEq
def RelV:V->ae->Prop
 |.non,u=>u=ae.none
 |.bl b,u=>u=ae.bool b
 |.int i,u=>∃t,u=ae.int i t
 |.str x,u=>∃t,u=ae.str x t
 |.byt b,u=>∃t,u=ae.bytes b t
 |.flt b,u=>∃t,u=ae.float b t
 |.ref a,u=>u=ae.ref a
 |.ty n,u=>u=ae.type n
abbrev bX:List V->List ae->Prop:=Paired RelV
theorem bX.length {xs:List V}{us:List ae}(r:bX xs us):xs.length=us.length:=Paired.length r
theorem bX.get:∀{xs:List V} {us:List ae} {i:Nat} {x:V},bX xs us->xs[i]?=some x->∃u,us[i]?=some u/\RelV x u
 |_,_,_,_,.nil,e=>by simp at e
 |_,_,0,_,.cons r _,e=>by simp at e;subst e;exact⟨_,rfl,r⟩
 |_,_,i+1,x,.cons _ t,e=>by
  obtain⟨u,h1,h2⟩:=bX.get (i:=i) (x:=x) t (by simpa using e)
  exact⟨u,by simpa using h1,h2⟩
theorem bX.set {x:V}{u:ae}(r:RelV x u):∀{xs:List V} {us:List ae} (i:Nat),bX xs us->bX (xs.set i x) (us.set i u)
 |_,_,_,.nil=>.nil
 |_,_,0,.cons _ t=>.cons r t
 |_,_,i+1,.cons q t=>.cons q (bX.set r i t)
theorem bX.append:∀{xs ys:List V} {us ws:List ae},bX xs us->bX ys ws->bX (xs++ys) (us++ws)
 |_,_,_,_,.nil,s=>s
 |_,_,_,_,.cons r t,s=>.cons r (bX.append t s)
theorem bX.take:∀{xs:List V} {us:List ae} (n:Nat),bX xs us->bX (xs.take n) (us.take n)
 |_,_,0,_=>.nil
 |_,_,_+1,.nil=>.nil
 |_,_,n+1,.cons r t=>.cons r (bX.take n t)
theorem bX.drop:∀{xs:List V} {us:List ae} (n:Nat),bX xs us->bX (xs.drop n) (us.drop n)
 |_,_,0,r=>r
 |_,_,_+1,.nil=>.nil
 |_,_,n+1,.cons _ t=>bX.drop n t
def jD:Option V->Option ae->Prop
 |some v,some u=>RelV v u
 |none,none=>True
 |_,_=>False
def KV {κ:Type}:List (κ×V)->List (κ×ae)->Prop:=Paired λ(p:κ×V) (q:κ×ae)=>p.1=q.1/\RelV p.2 q.2
def kV:eR->V
 |.inl i=>.int i
 |.inr x=>.str x
inductive HO where
 |lst (xs:List V)
 |tup (xs:List V)
 |dK (cE:List (eR×V))|dT (cE:List (List eR×V))
 |set (S:Int->Bool) (n:Nat)
 |ins (C dx:ah) (fs:List (aQ×V))
 |own (x:ah)
 |xd (fs:List (aQ×V))
 |met (f x:ah)
 |rng (lo hi:Int)
 |frz (o:dU) (u:HO)
 |tbl (ps:Array ae)
 |ext (φ:aZ->Prop)
abbrev Hp:=ah->Option HO
def upd (H:Hp)(a:ah)(o:HO):Hp:=λb=>if b=a then some o else H b
theorem yt {H:Hp}{a:ah}{o:HO}:upd H a o a=some o:=by unfold upd;rw[if_pos rfl]
theorem ym {H:Hp}{a b:ah}{o:HO}(h:b≠a):upd H a o b=H b:=by unfold upd;rw[if_neg h]
theorem zuo {H:Hp}{a b:ah}{o u:HO}(h:H a=some o)(h':H b=some u)(d:o≠u):a≠b:=by
 intro e;subst e;rw[h]at h';exact d (Option.some.inj h')
theorem x8 {H:Hp}{a b:ah}{o:HO}(h:H a=some o)(h':H b=none):a≠b:=by
 intro e;subst e;rw[h]at h';cases h'
section
variable (P:bB)(w:cj)
def d4 (H:Hp)(h:aZ)(a:ah):HO->Prop
  |.lst xs=>xs.length<=sizeLine/\∃(bZ:List ae) (n:Nat),bX xs bZ/\h.get? a=some { cls:=.type "list",data:=.seq bZ.toArray n }
  |.tup xs=>xs.length<=sizeLine/\∃bZ:List ae,bX xs bZ/\IsTup h a bZ.toArray
  |.dK cE=>cE.length<=sizeLine/\(a==fO)=false/\∃vs,KV cE vs/\h.DictOf (eT P w) a vs
  |.dT cE=>cE.length<=sizeLine/\(a==fO)=false/\∃xs:List (List eR×ah×ae),
      Paired (λ(p:List eR×V) (q:List eR×ah×ae)=>p.1=q.1/\H q.2.1=some (.tup (p.1.map kV))/\RelV p.2 q.2.2) cE xs /\
      ∃o es ep,h.get? a=some o/\o.ExactDict/\o.data=.dict es ep/\es.toList=xs.map (entryOfKey (nz (eT P w)))/\(xs.map (·.1)).Nodup
  |.set S n=>h.SetOf (intKind P w) a S n
  |.ins C dx fs=>H dx=some (.own a)/\fs.length<=1000/\dx≠a/\h.get? a=some (dW C dx) /\
      ∃mA,h.Ns1 dx mA/\(∀f,jD (fs.lookup f) (mA f))/\PySem.Within mA (fs.map (·.1))
  |.own _=>∃o,h.get? a=some o
  |.xd fs=>∃mA,h.Ns1 a mA/\∀f,jD (fs.lookup f) (mA f)
  |.rng lo hi=>∃t u v,h.get? a=some { cls:=.type "range",data:=.fields #[.int lo t,.int hi u,.int 1 v] }
  |.frz o u=>h.get? a=some o/\d4 H h a u
  |.tbl ps=>h.get? a=some { cls:=.none,data:=.fields ps }
  |.met f x=>h.get? a=some (jT (.ref f) (.ref x))
  |.ext φ=>φ h/\(∃o,h.get? a=some o)/\∀h1 h2:aZ,φ h1->(∀o,h1.get? a=some o->h2.get? a=some o)->φ h2
def jU (H:Hp)(h:aZ):Prop:=∀a o,H a=some o->d4 P w H h a o
end
section
variable {P:bB}{w:cj}{H H':Hp}{h h':aZ}{a:ah}{o:HO}
theorem d4.lt (x:d4 P w H h a o):a<h.objs.size:=by
 cases o with
 |lst xs=>obtain⟨_,_,_,_,e⟩:=x;exact aP e
 |tup xs=>obtain⟨_,_,_,p⟩:=x;exact p.lt
 |dK cE=>obtain⟨_,_,_,_,o,_,_,e,_⟩:=x;exact aP e
 |dT cE=>obtain⟨_,_,_,_,o,_,_,e,_⟩:=x;exact aP e
 |set S n=>obtain⟨o,_,_,_,e,_⟩:=x;exact aP e
 |ins C dx fs=>obtain⟨_,_,_,e,_⟩:=x;exact aP e
 |own y=>obtain⟨_,e⟩:=x;exact aP e
 |xd fs=>obtain⟨_,⟨_,_,_,e,_⟩,_⟩:=x;exact aP e
 |rng lo hi=>obtain⟨_,_,_,e⟩:=x;exact aP e
 |frz ob u=>obtain⟨e,_⟩:=x;exact aP e
 |tbl ps=>exact aP (show h.get? a=some _ from x)
 |met f y=>exact aP (show h.get? a=some _ from x)
 |ext φ=>obtain⟨_,⟨_,e⟩,_⟩:=x;exact aP e
theorem Paired.mapP {α β:Type}{F G:α->β->Prop}:∀{l₁:List α} {l₂:List β},Paired F l₁ l₂->(∀a b,F a b->G a b)->Paired G l₁ l₂
 |_,_,.nil,_=>.nil
 |_,_,.cons r t,f=>.cons (f _ _ r) (Paired.mapP t f)
theorem d4.stay (x:d4 P w H h a o)(k:∀b u,(b=a\/H b=some (.own a))->h.get? b=some u->h'.get? b=some u)
    (ho:∀b,H b=some (.own a)->H' b=some (.own a)) (ht:∀b xs,H b=some (.tup xs)->H' b=some (.tup xs)):d4 P w H' h' a o:=by
  induction o with
  |lst xs=>obtain⟨z,bZ,n,r,e⟩:=x;exact⟨z,bZ,n,r,k _ _ (.inl rfl) e⟩
  |tup xs=>obtain⟨z,bZ,r,ob,e,c⟩:=x;exact⟨z,bZ,r,ob,k _ _ (.inl rfl) e,c⟩
  |dK cE=>obtain⟨z,y,vs,r,ob,es,ep,e,c⟩:=x;exact⟨z,y,vs,r,ob,es,ep,k _ _ (.inl rfl) e,c⟩
  |dT cE=>
    obtain⟨z,y,xs,r,ob,es,ep,e,c⟩:=x
    exact⟨z,y,xs,Paired.mapP r λp q z=>⟨z.1,ht _ _ z.2.1,z.2.2⟩,ob,es,ep,k _ _ (.inl rfl) e,c⟩
  |set S n=>obtain⟨ob,es,ep,t,e,c⟩:=x;exact⟨ob,es,ep,t,k _ _ (.inl rfl) e,c⟩
  |ins C dx fs=>
    obtain⟨d,z,ne,e,mA,⟨od,es,ep,e2,c⟩,r⟩:=x
    exact⟨ho _ d,z,ne,k _ _ (.inl rfl) e,mA,⟨od,es,ep,k _ _ (.inr d) e2,c⟩,r⟩
  |own y=>obtain⟨ob,e⟩:=x;exact⟨ob,k _ _ (.inl rfl) e⟩
  |xd fs=>obtain⟨mA,⟨od,es,ep,e,c⟩,r⟩:=x;exact⟨mA,⟨od,es,ep,k _ _ (.inl rfl) e,c⟩,r⟩
  |rng lo hi=>obtain⟨t,u,v,e⟩:=x;exact⟨t,u,v,k _ _ (.inl rfl) e⟩
  |frz ob u ih=>obtain⟨e,q⟩:=x;exact⟨k _ _ (.inl rfl) e,ih q⟩
  |tbl ps=>
    have e:h.get? a=some { cls:=.none,data:=.fields ps }:=x
    show h'.get? a=some { cls:=.none,data:=.fields ps }
    exact k a _ (.inl rfl) e
  |met f y=>
    have e:h.get? a=some (jT (.ref f) (.ref y)):=x
    show h'.get? a=some (jT (.ref f) (.ref y))
    exact k a _ (.inl rfl) e
  |ext φ=>obtain⟨p,⟨o,e⟩,st⟩:=x;exact⟨st _ _ p λo q=>k _ _ (.inl rfl) q,⟨o,k _ _ (.inl rfl) e⟩,st⟩
theorem jU.lt (x:jU P w H h)(e:H a=some o):a<h.objs.size:=(x a o e).lt
theorem jU.fresh (x:jU P w H h)(e:h.objs.size<=a):H a=none:=by
 cases q:H a with
 |none=>rfl
 |some u=>exact absurd (bj (x.lt q) e) (eh _)
theorem jU.kept (x:jU P w H h)(k:∀b u,h.get? b=some u->h'.get? b=some u):jU P w H h':=λa o e=>
 (x a o e).stay (λb u _ q=>k b u q) (λ_ q=>q) λ_ _ q=>q
theorem jU.laid (x:jU P w H h)(k:∀b u,h.get? b=some u->h'.get? b=some u)(hp:h.objs.size<=a)(new:d4 P w (upd H a o) h' a o):jU P w (upd H a o) h':=λb u e=>by
 have hn:=x.fresh hp
 by_cases hb:b=a
 ·subst hb;rw[yt]at e;cases e;exact new
 ·rw[ym hb]at e
  exact(x b u e).stay (λc v _ q=>k c v q) (λc q=>by rw[ym (x8 q hn)];exact q) λc xs q=>by rw[ym (x8 q hn)];exact q
end
def Rd (H:Hp)(a:ah)(u:HO):Prop:=H a=some u\/∃o,H a=some (.frz o u)
theorem Rd.ok {P:bB}{w:cj}{H:Hp}{h:aZ}{a:ah}{u:HO}(r:Rd H a u)(x:jU P w H h):d4 P w H h a u:=by
 rcases r with r|⟨o,r⟩
 ·exact x a u r
 ·obtain⟨_,q⟩:=x a _ r
  exact q
def BZ:Option HO->Prop
 |some (.lst _)=>True
 |some (.dK _)=>True
 |some (.dT _)=>True
 |some (.set _ _)=>True
 |some (.ins _ _ _)=>True
 |some (.ext _)=>True
 |_=>False
section
variable {P:bB}{w:cj}{H:Hp}{h h':aZ}{x e:ah}{o':HO}
theorem jU.write (ok:jU P w H h)(mu:BZ (H x))(he:e=x\/H e=some (.own x))(k:∀b u,b≠e->h.get? b=some u->h'.get? b=some u)(Bk:∃u,h'.get? e=some u)
  (new:d4 P w (upd H x o') h' x o'):jU P w (upd H x o') h':=λb u q=>by
 have FV:∀c y,H c=some (.own y)->c≠x:=λc y r z=>by subst z;rw[r]at mu;exact mu
 have L9:∀c xs,H c=some (.tup xs)->c≠x:=λc xs r z=>by subst z;rw[r]at mu;exact mu
 by_cases hb:b=x
 ·subst hb;rw[yt]at q;cases q;exact new
 ·rw[ym hb]at q
  by_cases zM:b=e
  ·have q':H b=some (.own x):=by
    rcases he with z|z
    ·exact absurd (zM.trans z) hb
    ·rw[zM];exact z
   rw[q]at q';cases q'
   obtain⟨v,hv⟩:=Bk
   exact⟨v,by rw[zM];exact hv⟩
  ·refine(ok b u q).stay (λc v hc r=>k c v ?_ r) (λc r=>by rw[ym (FV c b r)];exact r) λc xs r=>by rw[ym (L9 c xs r)];exact r
   rcases hc with rfl|hc
   ·exact zM
   ·rintro rfl
    rcases he with z|z
    ·exact FV c b hc z
    ·rw[hc]at z;cases z;exact hb rfl
end
structure Un (fs ex:List ah)(H H':Hp)(h h':aZ):Prop where
 keep:∀b o,h.get? b=some o->H b=none->b∉fs->b∉ex->h'.get? b=some o
 slot:∀b o,h.get? b=some o->H b=none->b∈fs->b∉ex->∃sl,h'.get? b=some { o with slots:=sl }
 free:∀b o,h.get? b=some o->H b=none->b∉ex->H' b=none
 there:∀b o,h.get? b=some o->b∉ex->∃o',h'.get? b=some o'
 tups:∀b xs,H b=some (.tup xs)->H' b=some (.tup xs)
 frzs:∀b o u,H b=some (.frz o u)->H' b=some (.frz o u)
 tbls:∀b ps,H b=some (.tbl ps)->∃more,H' b=some (.tbl (ps++more))
section
variable {fs UC ex ex':List ah}{H H1 H2:Hp}{h h1 h2 h':aZ}{a x e:ah}{o:HO}
theorem Un.any (u:Un fs ex H H1 h h1){b:ah}{ob:dU}(q:h.get? b=some ob)(n:H b=none)(hx:b∉ex):∃sl,h1.get? b=some { ob with slots:=sl }:=by
 by_cases hb:b∈fs
 ·exact u.slot b ob q n hb hx
 ·exact⟨ob.slots,u.keep b ob q n hb hx⟩
theorem Un.kept (k:∀b u,h.get? b=some u->h'.get? b=some u):Un fs ex H H h h' :=
 ⟨λb ob q _ _ _=>k b ob q,λb ob q _ _ _=>⟨ob.slots,k b ob q⟩,λ_ _ _ n _=>n,λb ob q _=>⟨ob,k b ob q⟩,λ_ _ q=>q,λ_ _ _ q=>q,λ_ ps q=>⟨#[],by rw[q];simp⟩⟩
theorem Un.refl:Un fs ex H H h h:=Un.kept λ_ _ q=>q
theorem Un.laid (k:∀b u,h.get? b=some u->h'.get? b=some u)(hp:h.objs.size<=a)(hn:H a=none):Un fs ex H (upd H a o) h h' where
 keep:=λb u q _ _ _=>k b u q
 slot:=λb u q _ _ _=>⟨u.slots,k b u q⟩
 free:=λb u q n _=>by rw[ym (bw (bj (aP q) hp))];exact n
 there:=λb u q _=>⟨u,k b u q⟩
 tups:=λb xs q=>by rw[ym (x8 q hn)];exact q
 frzs:=λb u xs q=>by rw[ym (x8 q hn)];exact q
 tbls:=λb ps q=>⟨#[],by rw[ym (x8 q hn),q];simp⟩
theorem Un.write (mu:BZ (H x))(he:e=x\/H e=some (.own x))(k:∀b u,b≠e->h.get? b=some u->h'.get? b=some u)(Bk:∃u,h'.get? e=some u):Un fs ex H (upd H x o) h h':=by
 have hx:∀b,H b=none->b≠x:=λb n z=>by subst z;rw[n]at mu;exact mu
 have hb:∀b,H b=none->b≠e:=λb n z=>by
  subst z
  rcases he with r|r
  ·exact hx b n r
  ·rw[n]at r;cases r
 have hm:∀b u,H b=some u->¬BZ (some u)->b≠x:=λb u q nm z=>by subst z;rw[q]at mu;exact nm mu
 refine⟨λb u q n _ _=>k b u (hb b n) q,λb u q n _ _=>⟨u.slots,k b u (hb b n) q⟩,λb u q n _=>by rw[ym (hx b n)];exact n,λb u q _=>?_,
  λb xs q=>by rw[ym (hm b _ q λz=>z)];exact q,λb u xs q=>by rw[ym (hm b _ q λz=>z)];exact q,λb ps q=>⟨#[],by rw[ym (hm b _ q λz=>z),q];simp⟩⟩
 by_cases zM:b=e
 ·subst zM;exact Bk
 ·exact⟨u,k b u zM q⟩
end
def IN (h:aZ)(H:Hp):List ah:=(ax h.objs.size).filter λa=>(H a).isSome
def n6 (h:aZ)(H:Hp):aZ:=PySem.W.hideAll h (IN h H)
theorem ZZ (h:aZ)(H:Hp):(n6 h H).objs.size=h.objs.size:=PySem.W.hideAll_size _ _
theorem zmz {h:aZ}{H:Hp}{b:ah}{o:dU}(e:h.get? b=some o)(n:H b=none):(n6 h H).get? b=some o :=
 PySem.W.hideAll_get _ e λhm=>by
  have q:(H b).isSome=true:=(ce.mp hm).2
  rw[n]at q;simp at q
theorem zpu {h:aZ}{H:Hp}{b:ah}{o:dU}(e:(n6 h H).get? b=some o):h.get? b=some o/\H b=none:=by
 have e':h.get? b=some o:=PySem.W.of_hideAll (IN h H) e
 refine⟨e',?_⟩
 cases q:H b with
 |none=>rfl
 |some x=>
  have hm:b∈IN h H:=ce.mpr ⟨bx.mpr (aP e'),by simp[q]⟩
  have z:(n6 h H).get? b=none:=PySem.W.hideAll_none (IN h H) hm
  rw[z]at e;cases e
def uL (g h:aZ)(L:ah):List (ah×dU):=(ax h.objs.size).filterMap λa=>if a=L\/(g.get? a).isSome=true then none else(h.get? a).map λo=>(a,o)
def rest (g h:aZ)(L d:ah):List (ah×dU):=(uL g h L).filter λp=>decide (p.1≠d)
end L2
namespace L2
open PySem PySem.Spec PyProof.Rows
structure Mod (K:aa)(mg:aQ->Option ae)(base:aZ):Prop where
 kin:K.In base
 glob:base.Ns ap mg
 blt:∃mb,base.Ns vO mb/\∀x:aQ,x≠"__name__"->mb x=bK x
 nolimit:base.NoLimit
structure Cx where
 prog:bB
 w:cj
 K:aa
 mg:aQ->Option ae
 base:aZ
 A:bR
 N:List aQ
 s₀:am
 H₀:Hp
 env:Env
 outer:List Env
 stack:List Env
 ex:List ah
 fn:aQ->Bool
 calm:Bool
 pn:List (ah×dU)
 xe:ae->am->Prop
def sN (l:List Env):List ah:=l.filterMap (·.frame)
abbrev Cx.fs (X:Cx):List ah:=sN X.outer
def lQ (sc:fQ)(x:aQ):Prop:=sc.names.lookup x=some .local\/sc.names.lookup x=some .cell\/sc.names.lookup x=some .free
def Loc (sc:fQ)(x:aQ):Prop:=sc.names.lookup x=some .local\/sc.names.lookup x=some .cell
def Look (env:Env)(h:aZ)(m:aQ->Option ae)(x:aQ)(u:ae):Prop :=
 (env.kindOf x=some .local/\m x=some u)\/((env.kindOf x=some .cell\/env.kindOf x=some .free)/\∃c,env.cells.lookup x=some c/\h.IsCell c (some u))
structure Cx.Ok (X:Cx):Prop where
 mod:Mod X.K X.mg X.base
 kind:X.env.scope.kind=.function
 glob:X.env.globals=ap
 blt:X.env.builtins=vO
 above:X.s₀.heap.objs.size<=X.env.locals
 inj:∀x y c,X.env.cells.lookup x=some c->X.env.cells.lookup y=some c->x=y
 has:∀x,(X.env.kindOf x=some .cell\/X.env.kindOf x=some .free)->∃c,X.env.cells.lookup x=some c
 cab:∀x c,X.fn x=true->X.env.cells.lookup x=some c->X.s₀.heap.objs.size<=c
 hd:X.calm=true->X.A.handled=none
 frames:X.A.frames=some X.stack
 stk:X.stack=X.outer\/(X.stack=X.env::X.outer/\X.env.frame=some X.env.locals)
 exf:∀b∈X.ex,b≠X.env.locals/\∀x c,X.env.cells.lookup x=some c->c≠b
 bs:∀b o,X.base.get? b=some o->X.s₀.heap.get? b=some o/\X.H₀ b=none
 bsz:X.base.objs.size<=X.s₀.heap.objs.size
 noex:∀b o,X.base.get? b=some o->b∉X.ex
 exfs:∀b∈X.ex,b∉X.fs
 funs:X.s₀.heap.FunFrames X.base X.outer
 frf:∀b∈X.fs,X.H₀ b=none
structure Inv (X:Cx)(ai:List (ah×dU))(σ:List (Option V))(H:Hp)(s:am):Prop where
 ok:X.Ok
 os:s.os=X.s₀.os
 bare:AllBare s.gens
 base:Un X.fs X.ex X.H₀ H X.s₀.heap s.heap
 loc:∃m,s.heap.Ns X.env.locals m/\∀(i:Nat) (x:aQ) (v:V),X.N[i]?=some x->σ[i]?=some (some v)->lQ X.env.scope x->∃u,RelV v u/\Look X.env s.heap m x u
 cell:∀x c,X.env.cells.lookup x=some c->∃v,s.heap.IsCell c v
 free:H X.env.locals=none
 freeC:∀x c,X.env.cells.lookup x=some c->H c=none
 pin:∀p∈X.pn++ai,s.heap.get? p.1=some p.2/\H p.1=none/\p.1≠X.env.locals/\p.1∉X.fs/\∀v,p.2.data≠.cell v
 hok:jU X.prog X.w H s.heap
 len:σ.length=X.N.length
section
variable {X:Cx}{ai:List (ah×dU)}{σ:List (Option V)}{H H':Hp}{s:am}{h':aZ}
theorem Cx.Ok.nofr (ok:X.Ok){b:ah}{o:dU}(e:X.base.get? b=some o):b∉X.fs:=λhb=>by
 have:=(ok.funs.mem hb).1
 rw[e]at this;cases this
theorem Inv.bs (I:Inv X ai σ H s):∀b o,X.base.get? b=some o->s.heap.get? b=some o/\H b=none:=λb o e=>
 ⟨I.base.keep b o (I.ok.bs b o e).1 (I.ok.bs b o e).2 (I.ok.nofr e) (I.ok.noex b o e),I.base.free b o (I.ok.bs b o e).1 (I.ok.bs b o e).2 (I.ok.noex b o e)⟩
theorem Inv.bk (I:Inv X ai σ H s):∀b o,X.base.get? b=some o->s.heap.get? b=some o:=λb o e=>(I.bs b o e).1
theorem Inv.mod (I:Inv X ai σ H s):Mod X.K X.mg X.base:=I.ok.mod
theorem Inv.kIn (I:Inv X ai σ H s):X.K.In s.heap:=I.ok.mod.kin.keeps I.bk
theorem Inv.fr (I:Inv X ai σ H s):∃m,Fr X.base X.env.locals s.heap m :=
 let⟨m,hn,_⟩:=I.loc
 ⟨m,hn,I.bk,cL I.ok.bsz I.ok.above⟩
theorem Inv.lt (I:Inv X ai σ H s):X.env.locals<s.heap.objs.size:=let⟨_,hn,_⟩:=I.loc;hn.lt
theorem Inv.sz (I:Inv X ai σ H s):X.s₀.heap.objs.size<=s.heap.objs.size:=cL I.ok.above (kS I.lt)
theorem Inv.nofs (I:Inv X ai σ H s){a:ah}(h:s.heap.objs.size<=a):a∉X.fs:=λhb=>by
 obtain⟨_,o,ho,_⟩:=I.ok.funs.mem hb
 exact absurd (bj (aP ho) (cL I.sz h)) (eh _)
theorem Inv.cne (I:Inv X ai σ H s):∀x c,X.env.cells.lookup x=some c->c≠X.env.locals:=λx c e z=>by
 obtain⟨v,o,ho,hd⟩:=I.cell x c e
 obtain⟨m,⟨o',es,ep,qN,Eo,_⟩,_⟩:=I.loc
 rw[z,qN]at ho;cases ho;rw[Eo]at hd;cases hd
theorem Inv.funs (I:Inv X ai σ H s):s.heap.FunFrames X.base X.outer:=by
 have all:∀(l:List Env),(∀b∈sN l,b∈X.fs)->X.s₀.heap.FunFrames X.base l->s.heap.FunFrames X.base l:=by
  intro l
  induction l with
  |nil=>intro _ _;trivial
  |cons env r ih=>
   intro hs hl
   obtain⟨hk,⟨L,o,hf,hn,ho,hd⟩,hr⟩:=hl
   have hL:L∈X.fs:=hs L (by unfold sN;rw[jI,hf];exact af)
   obtain⟨sl,e⟩:=I.base.slot L o ho (I.ok.frf L hL) hL λz=>I.ok.exfs L z hL
   exact⟨hk,⟨L,_,hf,hn,e,hd⟩,ih (λb hb=>hs b (by unfold sN;rw[jI,hf];exact aj _ hb)) hr⟩
 exact all X.outer (λ_ hb=>hb) I.ok.funs
theorem Inv.stack (I:Inv X ai σ H s):s.heap.FunFrames X.base X.stack:=by
 rcases I.ok.stk with e|⟨e,hf⟩
 ·rw[e];exact I.funs
 ·rw[e]
  obtain⟨m,hn,_⟩:=I.loc
  refine .cons (by rw[I.ok.kind];decide) hf hn ?_ I.funs
  exact aZ.get?_none_of_le (cL I.ok.bsz I.ok.above)
theorem Inv.stkSub (I:Inv X ai σ H s):∀b∈sN X.stack,b∈X.env.locals::X.fs:=λb hb=>by
 rcases I.ok.stk with e|⟨e,hf⟩
 ·rw[e]at hb;exact aj _ hb
 ·rw[e]at hb
  unfold sN at hb
  rw[jI,hf]at hb
  exact hb
theorem Inv.stkFree (I:Inv X ai σ H s):∀b∈sN X.stack,H b=none:=λb hb=>by
 rcases aF.mp (I.stkSub b hb)with e|hb
 ·rw[e];exact I.free
 ·obtain⟨_,o,ho,_⟩:=I.ok.funs.mem hb
  exact I.base.free b o ho (I.ok.frf b hb) λz=>I.ok.exfs b z hb
theorem Inv.step {g':Array GenState}{t':Nat}{d':Drawn}{ch:List ah}(I:Inv X ai σ H s)
  (kl:∀b∈ch,(b∈X.ex\/X.s₀.heap.objs.size<=b)/\b≠X.env.locals/\(∀x c,X.env.cells.lookup x=some c->c≠b)/\∀p∈X.pn++ai,p.1≠b)
  (keep:∀b o,b≠X.env.locals->b∉X.fs->b∉ch->s.heap.get? b=some o->H b=none->h'.get? b=some o)
  (slot:∀b o,b≠X.env.locals->b∈X.fs->b∉ch->s.heap.get? b=some o->H b=none->∃sl,h'.get? b=some { o with slots:=sl }) (free:∀b o,b∉ch->s.heap.get? b=some o->H b=none->H' b=none)
  (there:∀b o,b∉ch->s.heap.get? b=some o->∃o',h'.get? b=some o')
  (tups:∀b xs,H b=some (.tup xs)->H' b=some (.tup xs)) (frzs:∀b o u,H b=some (.frz o u)->H' b=some (.frz o u)) (tbls:∀b ps,H b=some (.tbl ps)->∃more,H' b=some (.tbl (ps++more)))
  (ns:∀m,s.heap.Ns X.env.locals m->h'.Ns X.env.locals m) (hok:jU X.prog X.w H' h') (hg:AllBare g') :
  Inv X ai σ H' { s with heap:=h',gens:=g',drawn:=d',toks:=t' }:=by
 have Pn:∀b o,X.s₀.heap.get? b=some o->b≠X.env.locals:=λb o e=>bw (bj (aP e) I.ok.above)
 have IC:∀b o,X.s₀.heap.get? b=some o->b∉X.ex->b∉ch:=λb o e hx hb=>by
  rcases(kl b hb).1 with z|z
  ·exact hx z
  ·exact absurd (bj (aP e) z) (eh _)
 have cellK:∀x c,X.env.cells.lookup x=some c->∀v,s.heap.IsCell c v->h'.IsCell c v:=λx c e v ⟨o,ho,hd⟩=>by
  have FR:c∉ch:=λz=>(kl c z).2.2.1 x c e rfl
  by_cases hc:c∈X.fs
  ·obtain⟨sl,q⟩:=slot c o (I.cne x c e) hc FR ho (I.freeC x c e)
   exact⟨_,q,hd⟩
  ·exact⟨o,keep c o (I.cne x c e) hc FR ho (I.freeC x c e),hd⟩
 refine⟨I.ok,I.os,hg,⟨λb o e n hb hx=>?_,λb o e n hb hx=>?_,λb o e n hx=>?_,λb o e hx=>?_,λb xs e=>tups b xs (I.base.tups b xs e),λb o xs e=>frzs b o xs (I.base.frzs b o xs e),λb ps e=>?_⟩,?_,λx c e=>?_,?_,λx c e=>?_,λp hp=>?_,hok,I.len⟩
 ·exact keep b o (Pn b o e) hb (IC b o e hx) (I.base.keep b o e n hb hx) (I.base.free b o e n hx)
 ·obtain⟨sl,e1⟩:=I.base.slot b o e n hb hx
  obtain⟨Xn,e2⟩:=slot b _ (Pn b o e) hb (IC b o e hx) e1 (I.base.free b o e n hx)
  exact⟨Xn,e2⟩
 ·obtain⟨o',e1⟩:=I.base.there b o e hx
  exact free b o' (IC b o e hx) e1 (I.base.free b o e n hx)
 ·obtain⟨o',e1⟩:=I.base.there b o e hx
  exact there b o' (IC b o e hx) e1
 ·obtain⟨m1,e1⟩:=I.base.tbls b ps e
  obtain⟨m2,e2⟩:=tbls b _ e1
  exact⟨m1++m2,by rw[e2,Array.append_assoc]⟩
 ·obtain⟨m,hn,hl⟩:=I.loc
  refine⟨m,ns m hn,λi x v e1 e2 e3=>?_⟩
  obtain⟨u,r,l⟩:=hl i x v e1 e2 e3
  refine⟨u,r,?_⟩
  rcases l with l|⟨k,c,e,z⟩
  ·exact .inl l
  ·exact .inr ⟨k,c,e,cellK x c e _ z⟩
 ·obtain⟨v,z⟩:=I.cell x c e
  exact⟨v,cellK x c e v z⟩
 ·obtain⟨m,⟨o,_,_,ho,_⟩,_⟩:=I.loc
  exact free _ o (λz=>(kl _ z).2.1 rfl) ho I.free
 ·obtain⟨v,o,ho,hd⟩:=I.cell x c e
  exact free c o (λz=>(kl c z).2.2.1 x c e rfl) ho (I.freeC x c e)
 ·obtain⟨e,n,ne,nf,d⟩:=I.pin p hp
  have FR:p.1∉ch:=λz=>(kl p.1 z).2.2.2 p hp rfl
  exact⟨keep p.1 p.2 ne nf FR e n,free p.1 p.2 FR e n,ne,nf,d⟩
theorem Inv.un {t':Nat}(I:Inv X ai σ H s)(u:Un X.fs [] H H' s.heap h')(hok:jU X.prog X.w H' h'):Inv X ai σ H' { s with heap:=h',toks:=t' }:=by
 obtain⟨m,⟨o,es,ep,ho,r⟩,_⟩:=id I.loc
 obtain⟨sl,hL⟩:=u.any ho I.free (by simp)
 exact I.step (g':=s.gens) (d':=s.drawn) (ch:=[]) (λ_ z=>nomatch z) (λb o _ hb _ e n=>u.keep b o e n hb (by simp)) (λb o _ hb _ e n=>u.slot b o e n hb (by simp)) (λb o _ e n=>u.free b o e n (by simp)) (λb o _ e=>u.there b o e (by simp)) u.tups u.frzs u.tbls (λm' hm=>by
  obtain⟨o',Kl,Kk,qN,r'⟩:=hm
  rw[ho]at qN;cases qN
  exact⟨_,Kl,Kk,hL,r'⟩) hok I.bare
theorem Inv.call {g':Array GenState}{t':Nat}{d':Drawn}{ch:List ah}(I:Inv X ai σ H s)(u:Un (sN X.stack) ch H H' s.heap h')(hok:jU X.prog X.w H' h')(hg:AllBare g')
  (kl:∀b∈ch,(b∈X.ex\/X.s₀.heap.objs.size<=b)/\b≠X.env.locals/\(∀x c,X.env.cells.lookup x=some c->c≠b)/\∀p∈X.pn++ai,p.1≠b) :
  Inv X ai σ H' { s with heap:=h',gens:=g',drawn:=d',toks:=t' }:=by
 obtain⟨m,⟨o,es,ep,ho,r⟩,_⟩:=id I.loc
 obtain⟨sl,hL⟩:=u.any ho I.free λz=>(kl _ z).2.1 rfl
 exact I.step (ch:=ch) kl (λb o hL hb hc e n=>u.keep b o e n (λz=>(aF.mp (I.stkSub b z)).elim hL hb) hc) (λb o _ _ hc e n=>u.any e n hc) (λb o hc e n=>u.free b o e n hc) (λb o hc e=>u.there b o e hc) u.tups u.frzs u.tbls (λm' hm=>by
  obtain⟨o',Kl,Kk,qN,r'⟩:=hm
  rw[ho]at qN;cases qN
  exact⟨_,Kl,Kk,hL,r'⟩) hok hg
theorem Inv.turned {t':Nat}{it:ah}(I:Inv X ai σ H s)(k:∀b o,b≠it->s.heap.get? b=some o->h'.get? b=some o)(hn:H it=none)(hL:it≠X.env.locals)
  (h1:it∈X.ex\/X.s₀.heap.objs.size<=it) (h2:∀x c,X.env.cells.lookup x=some c->c≠it) (h3:∀p∈X.pn++ai,p.1≠it):Inv X ai σ H { s with heap:=h',toks:=t' }:=by
 have Po:∀b u,H b=some u->b≠it:=λb u e z=>by rw[z,hn]at e;cases e
 refine I.step (g':=s.gens) (d':=s.drawn) (ch:=[it]) (λb hb=>?_) (λb o _ _ hc e _=>k b o (λz=>hc (by simp[z])) e) (λb o _ _ hc e _=>⟨o.slots,k b o (λz=>hc (by simp[z])) e⟩) (λ_ _ _ _ n=>n)
  (λb o hc e=>⟨o,k b o (λz=>hc (by simp[z])) e⟩) (λ_ _ e=>e) (λ_ _ _ e=>e) (λb ps e=>⟨#[],by rw[e];simp⟩) (λm hm=>?_) (λb u e=>?_) I.bare
 ·have e:b=it:=by simpa using hb
  subst e
  exact⟨h1,hL,h2,h3⟩
 ·obtain⟨o,es,ep,ho,r⟩:=hm
  exact⟨o,es,ep,k _ o (Ne.symm hL) ho,r⟩
 ·refine(I.hok b u e).stay (λc v hc q=>k c v ?_ q) (λ_ q=>q) λ_ _ q=>q
  rcases hc with z|z
  ·rw[z];exact Po b u e
  ·exact Po c _ z
theorem Inv.tok (I:Inv X ai σ H s)(t:Nat):Inv X ai σ H { s with toks:=t }:=I.un (h':=s.heap) (t':=t) Un.refl I.hok
theorem Inv.kept {t':Nat}(I:Inv X ai σ H s)(k:∀b u,s.heap.get? b=some u->h'.get? b=some u):Inv X ai σ H { s with heap:=h',toks:=t' }:=I.un (Un.kept k) (I.hok.kept k)
theorem Inv.laid {a:ah}{o:HO}{t':Nat}(I:Inv X ai σ H s)(k:∀b u,s.heap.get? b=some u->h'.get? b=some u)(hp:s.heap.objs.size<=a)(new:d4 X.prog X.w (upd H a o) h' a o) :
  Inv X ai σ (upd H a o) { s with heap:=h',toks:=t' }:=I.un (Un.laid k hp (I.hok.fresh hp)) (I.hok.laid k hp new)
theorem Inv.write {x e:ah}{o:HO}{t':Nat}(I:Inv X ai σ H s)(mu:BZ (H x))(he:e=x\/H e=some (.own x))(k:∀b u,b≠e->s.heap.get? b=some u->h'.get? b=some u)(Bk:∃u,h'.get? e=some u)
  (new:d4 X.prog X.w (upd H x o) h' x o):Inv X ai σ (upd H x o) { s with heap:=h',toks:=t' }:=I.un (Un.write mu he k Bk) (I.hok.write mu he k Bk new)
theorem Inv.weak {σ':List (Option V)}(I:Inv X ai σ H s)(hl:σ'.length = σ.length)(w:∀(i:Nat) v,σ'[i]?=some (some v)->σ[i]?=some (some v)):Inv X ai σ' H s :=
 ⟨I.ok,I.os,I.bare,I.base,let⟨m,hn,zT⟩:=I.loc;⟨m,hn,λi x v e1 e2 e3=>zT i x v e1 (w i v e2) e3⟩,I.cell,I.free,I.freeC,I.pin,I.hok,hl.trans I.len⟩
theorem Inv.pins_of {wJ:List (ah×dU)}(I:Inv X ai σ H s)(h:∀p∈wJ,s.heap.get? p.1=some p.2/\H p.1=none/\p.1≠X.env.locals/\p.1∉X.fs/\∀v,p.2.data≠.cell v):Inv X wJ σ H s :=
 ⟨I.ok,I.os,I.bare,I.base,I.loc,I.cell,I.free,I.freeC,λp hp=>(aY.mp hp).elim (λz=>I.pin p (bc _ z)) (h p),I.hok,I.len⟩
theorem Rh {N:List aQ}(hN:N.Nodup){i j:Nat}{x:aQ}(a:N[i]?=some x)(b:N[j]?=some x):i=j:=by
 obtain⟨h1,e1⟩:=aV.mp a
 obtain⟨h2,e2⟩:=aV.mp b
 exact(lD hN).mp (e1.trans e2.symm)
theorem QE {M:Model}{A:bR}{E:ae->am->Prop}{i:Nat}{x:aQ}{v:V}{u:ae}{Q:Unit->am->Prop}(I:Inv X ai σ H s)(hN:X.N.Nodup)(hi:X.N[i]?=some x)(hx:Loc X.env.scope x)(r:RelV v u)
  (h:∀s',Inv X ai (σ.set i (some v)) H s'->(∃a,gE a s.heap s'.heap/\(a=X.env.locals\/X.env.cells.lookup x=some a))->Q () s') (hf:X.fn x=true\/X.env.scope.names.lookup x=some .local:=by first|exact .inl rfl|exact .inr rfl|assumption):bi M A (storeName X.env x u) Q E s:=by
 obtain⟨m,hn,hl⟩:=id I.loc
 have Ls:(X.env.scope.kind==.class || (X.env.scope.kind==.module&&X.env.locals != X.env.globals))=false:=by rw[I.ok.kind];rfl
 have OZ:i < σ.length:=by rw[I.len];exact(aV.mp hi).1
 have cne:=I.cne
 have tracked:∀{a:ah} {h':aZ},(∃o,s.heap.get? a=some o/\H a=none)->gE a s.heap h'->jU X.prog X.w H h':=λ{a h'} ha hs b ob e=>by
  obtain⟨_,_,vY⟩:=ha
  refine(I.hok b ob e).stay (λc w' hc q=>(hs.2 c ?_).trans q) (λ_ q=>q) λ_ _ q=>q
  rintro rfl
  rcases hc with rfl|hc
  ·rw[vY]at e;cases e
  ·rw[vY]at hc;cases hc
 rcases hx with hk|hk
 ·refine wpAny_storeName_local hk hn (λh' EB hs=>?_) Ls
  obtain⟨oL,_,_,Vn,_⟩:=id hn
  refine h _ ⟨I.ok,I.os,I.bare,⟨λb o e n hb hx=>?_,λb o e n hb hx=>?_,I.base.free,λb o e hx=>?_,I.base.tups,I.base.frzs,I.base.tbls⟩,⟨_,EB,λj y v' e1 e2 e3=>?_⟩,λy c e=>?_,I.free,I.freeC,λp hp=>?_,tracked ⟨oL,Vn,I.free⟩ hs,by simpa using I.len⟩ ⟨_,hs,.inl rfl⟩
  ·exact(hs.2 b (bw (bj (aP e) I.ok.above))).trans (I.base.keep b o e n hb hx)
  ·obtain⟨sl,e1⟩:=I.base.slot b o e n hb hx
   exact⟨sl,(hs.2 b (bw (bj (aP e) I.ok.above))).trans e1⟩
  ·obtain⟨o',e1⟩:=I.base.there b o e hx
   exact⟨o',(hs.2 b (bw (bj (aP e) I.ok.above))).trans e1⟩
  ·by_cases hj:j=i
   ·subst hj
    rw[hi]at e1;cases e1
    rw[iK OZ]at e2
    cases e2
    exact⟨u,r,.inl ⟨hk,by simp⟩⟩
   ·rw[cS (Ne.symm hj)]at e2
    obtain⟨u',r',q⟩:=hl j y v' e1 e2 e3
    refine⟨u',r',?_⟩
    rcases q with⟨k,e⟩|⟨k,c,e,z⟩
    ·refine .inl ⟨k,?_⟩
     have:y≠x:=λe=>hj (Rh hN e1 (e▸hi))
     simp[this,e]
    ·exact .inr ⟨k,c,e,z.sameBut hs (cne y c e)⟩
  ·obtain⟨w',z⟩:=I.cell y c e
   exact⟨w',z.sameBut hs (cne y c e)⟩
  ·obtain⟨e,n,ne,nf,d⟩:=I.pin p hp
   exact⟨(hs.2 p.1 ne).trans e,n,ne,nf,d⟩
 ·have Bm:X.fn x=true:=by
   rcases hf with z|z
   ·exact z
   ·rw[z]at hk;cases hk
  obtain⟨c,hc⟩:=I.ok.has x (.inl hk)
  obtain⟨w',z⟩:=I.cell x c hc
  refine wpAny_storeName_cell I.ok.kind hk hc z (λh' vX hs=>?_)
  obtain⟨oc,O4,LG⟩:=id z
  refine h { s with heap:=h' } ⟨I.ok,I.os,I.bare,⟨λb o e n hb hx=>?_,λb o e n hb hx=>?_,I.base.free,λb o e hx=>?_,I.base.tups,I.base.frzs,I.base.tbls⟩,⟨m,hn.sameBut hs (Ne.symm (cne x c hc)),λj y v' e1 e2 e3=>?_⟩,λy c' e=>?_,I.free,I.freeC,λp hp=>?_,tracked ⟨oc,O4,I.freeC x c hc⟩ hs,by simpa using I.len⟩ ⟨c,hs,.inr hc⟩
  ·exact(hs.2 b (bw (bj (aP e) (I.ok.cab x c Bm hc)))).trans (I.base.keep b o e n hb hx)
  ·obtain⟨sl,e1⟩:=I.base.slot b o e n hb hx
   exact⟨sl,(hs.2 b (bw (bj (aP e) (I.ok.cab x c Bm hc)))).trans e1⟩
  ·obtain⟨o',e1⟩:=I.base.there b o e hx
   exact⟨o',(hs.2 b (bw (bj (aP e) (I.ok.cab x c Bm hc)))).trans e1⟩
  ·by_cases hj:j=i
   ·subst hj
    rw[hi]at e1;cases e1
    rw[iK OZ]at e2
    cases e2
    exact⟨u,r,.inr ⟨.inl hk,c,hc,vX⟩⟩
   ·rw[cS (Ne.symm hj)]at e2
    obtain⟨u',r',q⟩:=hl j y v' e1 e2 e3
    refine⟨u',r',?_⟩
    rcases q with q|⟨k,c',e,z'⟩
    ·exact .inl q
    ·refine .inr ⟨k,c',e,z'.sameBut hs ?_⟩
     rintro rfl
     exact hj (Rh hN e1 (I.ok.inj _ _ _ e hc▸hi))
  ·by_cases OT:c'=c
   ·subst OT;exact⟨_,vX⟩
   ·obtain⟨w2,z2⟩:=I.cell y c' e
    exact⟨w2,z2.sameBut hs OT⟩
  ·obtain⟨e,n,ne,nf,d⟩:=I.pin p hp
   refine⟨(hs.2 p.1 ?_).trans e,n,ne,nf,d⟩
   intro q
   rw[q,O4]at e
   have q':oc=p.2:=Option.some.inj e
   exact d w' (by rw[←q'];exact LG)
theorem Hs {M:Model}{A:bR}{E:ae->am->Prop}{i:Nat}{x:aQ}{v:V}{u:ae}{Q:Unit->am->Prop}(I:Inv X ai σ H s)(hN:X.N.Nodup)(hi:X.N[i]?=some x)(hx:Loc X.env.scope x)(r:RelV v u)
  (h:∀s',Inv X ai (σ.set i (some v)) H s'->Q () s') (hf:X.fn x=true\/X.env.scope.names.lookup x=some .local:=by first|exact .inl rfl|exact .inr rfl|assumption):bi M A (storeName X.env x u) Q E s :=
 QE I hN hi hx r (λs' I' _=>h s' I') hf
theorem Inv.call' {s':am}{ch:List ah}(I:Inv X ai σ H s)(ho:s'.os=s.os)(u:Un (sN X.stack) ch H H' s.heap s'.heap)(hok:jU X.prog X.w H' s'.heap)(hg:AllBare s'.gens)
  (kl:∀b∈ch,(b∈X.ex\/X.s₀.heap.objs.size<=b)/\b≠X.env.locals/\(∀x c,X.env.cells.lookup x=some c->c≠b)/\∀p∈X.pn++ai,p.1≠b):Inv X ai σ H' s':=by
 obtain⟨h',g',d',t',o'⟩:=s'
 have e:o'=s.os:=ho
 subst e
 exact I.call (g':=g') (t':=t') (d':=d') u hok hg kl
end
abbrev XK:=ae->Option ah->Hp->Prop
abbrev St:=List (Option V)
abbrev VK:=V->Hp->Prop
abbrev TE:=St->Hp->VK->Prop
abbrev TT:=St->Hp->(Bool->Hp->Prop)->Prop
abbrev TA:=St->Hp->(List V->Hp->Prop)->Prop
structure kD where
 nx:St->Hp->Prop
 rt:VK
 bk:St->Hp->Prop:=λ_ _=>False
 ct:St->Hp->Prop:=λ_ _=>False
abbrev TS:=kD->St->Hp->Prop
def EP (X:Cx)(ai:List (ah×dU))(σ:St)(Q:VK)(u:ae)(s':am):Prop:=∃v H',Inv X ai σ H' s'/\RelV v u/\Q v H'
def TP (X:Cx)(ai:List (ah×dU))(σ:St)(Q:Bool->Hp->Prop)(b:Bool)(s':am):Prop:=∃H',Inv X ai σ H' s'/\Q b H'
def AP (X:Cx)(ai:List (ah×dU))(σ:St)(Q:List V->Hp->Prop)(us:List ae)(s':am):Prop:=∃vs H',Inv X ai σ H' s'/\bX vs us/\Q vs H'
def SP (X:Cx)(ai:List (ah×dU))(D:kD)(f:Flow)(s':am):Prop :=
 match f with
 |.next=>∃σ' H',Inv X ai σ' H' s'/\D.nx σ' H'
 |.brk=>∃σ' H',Inv X ai σ' H' s'/\D.bk σ' H'
 |.cont=>∃σ' H',Inv X ai σ' H' s'/\D.ct σ' H'
 |.ret u=>∃v σ' H',Inv X ai σ' H' s'/\RelV v u/\D.rt v H'
def PE (X:Cx)(e:Expr)(t:TE):Prop :=
 ∀(ai:List (ah×dU)) (s:am) (σ:St) (H:Hp) (Q:VK),Inv X ai σ H s->t σ H Q->bi (ba X.prog X.w) X.A (bJ e X.env) (EP X ai σ Q) X.xe s
def PT (X:Cx)(e:Expr)(t:TT):Prop :=
 ∀(ai:List (ah×dU)) (s:am) (σ:St) (H:Hp) (Q:Bool->Hp->Prop),Inv X ai σ H s->t σ H Q->bi (ba X.prog X.w) X.A (sg e X.env (bJ e X.env)) (TP X ai σ Q) X.xe s
def PW (X:Cx)(e:Expr)(t:TT):Prop :=
 ∀(whole:oO ae) (ai:List (ah×dU)) (s:am) (σ:St) (H:Hp) (Q:Bool->Hp->Prop),Inv X ai σ H s->t σ H Q->bi (ba X.prog X.w) X.A (sg e X.env whole) (TP X ai σ Q) X.xe s
theorem PW.pt {X:Cx}{e:Expr}{t:TT}(h:PW X e t):PT X e t:=h _
def PA (X:Cx)(es:List Expr)(t:TA):Prop :=
 ∀(pos:cY) (ai:List (ah×dU)) (s:am) (σ:St) (H:Hp) (Q:List V->Hp->Prop),Inv X ai σ H s->t σ H Q->bi (ba X.prog X.w) X.A (spliced (cB pos (aq es X.env))) (AP X ai σ Q) X.xe s
def PS (X:Cx)(st:bP)(t:TS):Prop :=
 ∀(ai:List (ah×dU)) (s:am) (σ:St) (H:Hp) (D:kD),Inv X ai σ H s->t D σ H->bi (ba X.prog X.w) X.A (exec st X.env) (SP X ai D) X.xe s
def pV (X:Cx)(st:List bP)(t:TS):Prop :=
 ∀(ai:List (ah×dU)) (s:am) (σ:St) (H:Hp) (D:kD),Inv X ai σ H s->t D σ H->bi (ba X.prog X.w) X.A (execs st X.env) (SP X ai D) X.xe s
theorem dz {α:Type}{t:oO α}{Q Q':α->am->Prop}{M:Model}{A:bR}{E:ae->am->Prop}{s:am}(h:bi M A t Q E s)(hQ:∀a s,Q a s->Q' a s):bi M A t Q' E s:=dQ h hQ λ_ _ x=>x
end L2
namespace L2
open PySem PySem.Spec PyProof.Rows
section
variable {X:Cx}
theorem bin {a b:Expr}{ta tb:TE}(ha:PE X a ta)(hb:PE X b tb){ai:List (ah×dU)}{s:am}{σ:St}{H:Hp}{R:V->V->Hp->Prop}(I:Inv X ai σ H s)(h:ta σ H λx H1=>tb σ H1 λy H2=>R x y H2)
  {α:Type} {Q:α->am->Prop} {f:ae->ae->oO α}
  (hf:∀v u s2 x y H2,Inv X ai σ H2 s2->RelV x v->RelV y u->R x y H2->bi (ba X.prog X.w) X.A (f v u) Q X.xe s2) :
  bi (ba X.prog X.w) X.A (bJ a X.env) (λv s₁=>bi (ba X.prog X.w) X.A (bJ b X.env) (λu s₂=>bi (ba X.prog X.w) X.A (f v u) Q X.xe s₂) X.xe s₁) X.xe s:=by
 refine dz (ha ai s σ H _ I h) λv s1 ⟨x,H1,I1,r1,q1⟩=>?_
 refine dz (hb ai s1 σ H1 _ I1 q1) λu s2 ⟨y,H2,I2,r2,q2⟩=>?_
 exact hf v u s2 x y H2 I2 r1 r2 q2
def ME (i:Nat):TE:=λσ H Q=>∃v,σ[i]?=some (some v)/\Q v H
def tC (v:V):TE:=λ_ H Q=>Q v H
theorem um {i:Nat}{x:aQ}{pos:cY}(hN:X.N[i]?=some x)(hv:lQ X.env.scope x)(hd:(x==("__debug__":aQ))=false:=by decide)(gA:(x==("__classdict__":aQ))=false:=by decide):PE X (.Name x pos) (ME i):=by
 intro ai s σ H Q I h
 obtain⟨v,e,h⟩:=h
 obtain⟨m,hn,hl⟩:=I.loc
 obtain⟨u,r,l⟩:=hl i x v hN e hv
 have fin:EP X ai σ Q u s:=⟨v,H,I,r,h⟩
 rcases l with⟨hk,hm⟩|⟨hk,c,hc,qM⟩
 ·exact vR (wpAny_loadName_local I.ok.kind hk hn hm fin) hd
 ·rcases hk with hk|hk
  ·exact vR (wpAny_loadName_cell I.ok.kind hk hc qM fin) hd
  ·exact vR (wpAny_loadName_free I.ok.kind hk hc qM fin gA) hd
theorem zsk {i j pos}:PE X (.Constant (.int i) j pos) (tC (.int i)):=λ_ _ _ H _ I h=>wpAny_Constant_int ⟨.int i,H,I.tok _,⟨_,rfl⟩,h⟩
theorem zup {b j pos}:PE X (.Constant (.bool b) j pos) (tC (.bl b)):=λ_ _ _ H _ I h=>Constant_bool ⟨.bl b,H,I,rfl,h⟩
theorem zsl {j pos}:PE X (.Constant .none j pos) (tC .non):=λ_ _ _ H _ I h=>Constant_none ⟨.non,H,I,rfl,h⟩
theorem zsm {x j pos}:PE X (.Constant (.str x) j pos) (tC (.str x)):=λ_ _ _ H _ I h=>Calls.Constant_str ⟨.str x,H,I.tok _,⟨_,rfl⟩,h⟩
def Gl (X:Cx)(x:aQ):Prop:=X.env.kindOf x=some .globalImplicit
theorem Jo {E:ae->am->Prop}{ai:List (ah×dU)}{s:am}{σ:St}{H:Hp}{x:aQ}{u:ae}{pos:cY}{Q:ae->am->Prop}(I:Inv X ai σ H s)(hg:Gl X x)(hm:X.mg x=some u)(h:Q u s)
  (hd:(x==("__debug__":aQ))=false:=by decide):bi (ba X.prog X.w) X.A (bJ (.Name x pos) X.env) Q E s :=
 Calls.Name_function_global I.ok.kind hg (Calls.loadGlobal_global (by rw[I.ok.glob];exact I.mod.glob.keeps I.bk) hm h) hd
theorem vI {E:ae->am->Prop}{ai:List (ah×dU)}{s:am}{σ:St}{H:Hp}{x:aQ}{u:ae}{pos:cY}{Q:ae->am->Prop}(I:Inv X ai σ H s)(hg:Gl X x)(hm:X.mg x=none)(hv:bK x=some u)(h:Q u s)
  (hn:x≠"__name__":=by decide) (hd:(x==("__debug__":aQ))=false:=by decide):bi (ba X.prog X.w) X.A (bJ (.Name x pos) X.env) Q E s:=by
 obtain⟨mb,h1,h2⟩:=I.mod.blt
 exact Calls.Name_function_global I.ok.kind hg (Calls.loadGlobal_builtin (by rw[I.ok.glob];exact I.mod.glob.keeps I.bk) hm (by rw[I.ok.blt];exact h1.keeps I.bk) ((h2 x hn).trans hv) h) hd
theorem RC {x:aQ}{v:V}{u:ae}{pos:cY}(hg:Gl X x)(hm:X.mg x=some u)(r:RelV v u)(hd:(x==("__debug__":aQ))=false:=by decide):PE X (.Name x pos) (tC v) :=
 λ_ _ _ H _ I h=>Jo I hg hm ⟨v,H,I,r,h⟩ hd
theorem zpv {x:aQ}{v:V}{u:ae}{pos:cY}(hg:Gl X x)(hm:X.mg x=none)(hv:bK x=some u)(r:RelV v u)(hn:x≠"__name__":=by decide)(hd:(x==("__debug__":aQ))=false:=by decide):PE X (.Name x pos) (tC v) :=
 λ_ _ _ H _ I h=>vI I hg hm hv ⟨v,H,I,r,h⟩ hn hd
variable {a b:Expr}{ta tb:TE}{pos:cY}
def PC (X:Cx)(op:jK)(a b:Expr)(t:TE):Prop :=
 ∀(ai:List (ah×dU)) (s:am) (σ:St) (H:Hp) (Q:VK),Inv X ai σ H s->t σ H Q ->
  bi (ba X.prog X.w) X.A (bJ a X.env) (λv s₁=>bi (ba X.prog X.w) X.A (bJ b X.env) (λu s₂=>bi (ba X.prog X.w) X.A (ck op v u) (EP X ai σ Q) X.xe s₂) X.xe s₁) X.xe s
theorem tq (b:Expr){op:jK}(h:op≠.In)(h2:op≠.NotIn):dL op b=false:=by
 have e1:(op==jK.In)=false:=by cases op<;>first|rfl|exact absurd rfl h
 have e2:(op==jK.NotIn)=false:=by cases op<;>first|rfl|exact absurd rfl h2
 cases b<;>simp[dL,e1,e2]
def tB (t:TE):TT:=λσ H Q=>t σ H λx H1=>∃c,x=.bl c/\Q c H1
theorem Sa {op:jK}{t:TE}(h:PC X op a b t)(h1:dL op b=false:=by first|exact tq _ (by decide) (by decide)|rfl):PT X (.Compare a [op] [b] pos) (tB t):=by
 intro ai s σ H Q I hw
 refine wpAny_isTrue_Compare1 (dz (h ai s σ H _ I hw) λv s1 h1=>dz h1 λu s2 h2=>dz h2 λc s3 ⟨x,H1,I1,r1,q1⟩=>?_) h1
 obtain⟨d,rfl,q⟩:=q1
 cases r1
 exact di ⟨H1,I1,q⟩
theorem zsn {e:Expr}{t:TE}(h:PE X e t)(he:∀whole,sg e X.env whole=(do let v ← whole;hU e.pos;eG [v] (truthy v)):=by intro _;rfl):PT X e (tB t):=by
 intro ai s σ H Q I hw
 refine isTrue_plain (dz (h ai s σ H _ I hw) λv s1 ⟨x,H1,I1,r1,q1⟩=>?_) (he _)
 obtain⟨d,rfl,q⟩:=q1
 cases r1
 exact di ⟨H1,I1,q⟩
variable {tA IJ:TT}{rest:List Expr}
def Mn (t u:TT):TT:=λσ H Q=>t σ H λc H1=>if c=true then u σ H1 Q else Q false H1
def Yi (t u:TT):TT:=λσ H Q=>t σ H λc H1=>if c=true then Q true H1 else u σ H1 Q
def Mx (t:TT):TT:=λσ H Q=>t σ H λc H1=>Q (!c) H1
theorem zpw (ha:PT X a tA):PW X (.BoolOp .And [a] pos) tA:=by
 intro wh ai s σ H Q I h
 refine isTrue_and (dz (ha ai s σ H Q I h) λc s1 e=>?_)
 cases c with
 |true=>exact isTrue_and_nil e
 |false=>exact e
theorem zso (ha:PT X a tA):PW X (.BoolOp .Or [a] pos) tA:=by
 intro wh ai s σ H Q I h
 refine isTrue_or (dz (ha ai s σ H Q I h) λc s1 e=>?_)
 cases c with
 |false=>exact isTrue_or_nil e
 |true=>exact e
theorem zsp (ha:PT X a tA)(hb:PW X (.BoolOp .And (b::rest) pos) IJ):PW X (.BoolOp .And (a::b::rest) pos) (Mn tA IJ):=by
 intro wh ai s σ H Q I h
 refine isTrue_and (dz (ha ai s σ H _ I h) λc s1 ⟨H1,I1,q1⟩=>?_)
 cases c with
 |true=>exact hb wh ai s1 σ H1 Q I1 q1
 |false=>exact⟨H1,I1,q1⟩
theorem zuq (ha:PT X a tA)(hb:PW X (.BoolOp .Or (b::rest) pos) IJ):PW X (.BoolOp .Or (a::b::rest) pos) (Yi tA IJ):=by
 intro wh ai s σ H Q I h
 refine isTrue_or (dz (ha ai s σ H _ I h) λc s1 ⟨H1,I1,q1⟩=>?_)
 cases c with
 |true=>exact⟨H1,I1,q1⟩
 |false=>exact hb wh ai s1 σ H1 Q I1 q1
theorem zsq (ha:PT X a tA):PT X (.UnaryOp .Not a pos) (Mx tA):=by
 intro ai s σ H Q I h
 exact isTrue_not (ha ai s σ H (λc H1=>Q (!c) H1) I h)
def G5 (ta tb:TE):TE:=λσ H Q=>ta σ H λx H1=>∃c,x=.bl c/\if c=true then tb σ H1 Q else Q (.bl false) H1
def Mz (ta tb:TE):TE:=λσ H Q=>ta σ H λx H1=>∃c,x=.bl c/\if c=true then Q (.bl true) H1 else tb σ H1 Q
def He (ta:TE):TE:=λσ H Q=>ta σ H λx H1=>∃c,x=.bl c/\Q (.bl (!c)) H1
theorem zsr {op}{t:TE}(h:PE X a t):PE X (.BoolOp op [a] pos) t:=λai s σ H Q I hw=>BoolOp_one (h ai s σ H Q I hw)
theorem zss (ha:PE X a ta)(hb:PE X (.BoolOp .And (b::rest) pos) tb):PE X (.BoolOp .And (a::b::rest) pos) (G5 ta tb):=by
 intro ai s σ H Q I h
 refine BoolOp_and (dz (ha ai s σ H _ I h) λv s1 ⟨x,H1,I1,r1,q1⟩=>?_)
 obtain⟨c,rfl,q1⟩:=q1
 cases r1
 refine di ?_
 cases c with
 |true=>exact hb ai s1 σ H1 Q I1 q1
 |false=>exact⟨.bl false,H1,I1,rfl,q1⟩
theorem zur (ha:PE X a ta)(hb:PE X (.BoolOp .Or (b::rest) pos) tb):PE X (.BoolOp .Or (a::b::rest) pos) (Mz ta tb):=by
 intro ai s σ H Q I h
 refine BoolOp_or (dz (ha ai s σ H _ I h) λv s1 ⟨x,H1,I1,r1,q1⟩=>?_)
 obtain⟨c,rfl,q1⟩:=q1
 cases r1
 refine di ?_
 cases c with
 |false=>exact hb ai s1 σ H1 Q I1 q1
 |true=>exact⟨.bl true,H1,I1,rfl,q1⟩
theorem zst (ha:PE X a ta):PE X (.UnaryOp .Not a pos) (He ta):=by
 intro ai s σ H Q I h
 refine UnaryOp_ (dz (ha ai s σ H _ I h) λv s1 ⟨x,H1,I1,r1,q1⟩=>?_)
 obtain⟨c,rfl,q1⟩:=q1
 cases r1
 exact not_of (di ⟨.bl (!c),H1,I1,rfl,q1⟩)
def Yh (t:TT)(ta tb:TE):TE:=λσ H Q=>t σ H λc H1=>if c=true then ta σ H1 Q else tb σ H1 Q
theorem Ri {c:Expr}(hc:PT X c tA)(ha:PE X a ta)(hb:PE X b tb):PE X (.IfExp c a b pos) (Yh tA ta tb):=by
 intro ai s σ H Q I h
 refine wpAny_IfExp (dz (hc ai s σ H _ I h) λd s1 ⟨H1,I1,q1⟩=>?_)
 cases d with
 |true=>exact ha ai s1 σ H1 Q I1 q1
 |false=>exact hb ai s1 σ H1 Q I1 q1
end
end L2
namespace L2
open PySem PySem.Spec PyProof.Rows
def e5 (K:aa)(H:Hp)(a:ah)(xs:List V):Prop :=
 Rd H a (.lst xs) \/
  ∃(o:dU) (bZ:Array ae) (n:Nat),K.lookup a=some o/\o.cls=.type "list"/\o.dict=none/\o.data=.seq bZ n/\bZ.size<=sizeLine/\bX xs bZ.toList
def kJ (K:aa)(H:Hp)(a:ah)(xs:List V):Prop :=
 Rd H a (.tup xs) \/
  ∃(o:dU) (bZ:Array ae) (n:Nat),K.lookup a=some o/\o.cls=.type "tuple"/\o.data=.seq bZ n/\bZ.size<=sizeLine/\bX xs bZ.toList
def JV:ae->Option V
 |.none=>some .non
 |.bool b=>some (.bl b)
 |.int i _=>some (.int i)
 |.str x _=>some (.str x)
 |.bytes b _=>some (.byt b)
 |.float b _=>some (.flt b)
 |.ref a=>some (.ref a)
 |.type n=>some (.ty n)
 |_=>none
theorem RelV.abs {x:V}{u:ae}(r:RelV x u):JV u=some x:=by
 cases x with
 |non=>cases r;rfl
 |bl _=>cases r;rfl
 |int _=>obtain⟨t,rfl⟩:=r;rfl
 |str _=>obtain⟨t,rfl⟩:=r;rfl
 |byt _=>obtain⟨t,rfl⟩:=r;rfl
 |flt _=>obtain⟨t,rfl⟩:=r;rfl
 |ref _=>cases r;rfl
 |ty _=>cases r;rfl
theorem RelV.inj {x y:V}{u:ae}(r:RelV x u)(q:RelV y u):x=y:=Option.some.inj (r.abs.symm.trans q.abs)
theorem bX.inj:∀{xs ys:List V} {us:List ae},bX xs us->bX ys us->xs=ys
 |_,_,_,.nil,.nil=>rfl
 |_,_,_,.cons r t,.cons r' t'=>by rw[r.inj r',bX.inj t t']
section
variable {X:Cx}{ai:List (ah×dU)}{σ:St}{H:Hp}{s:am}{a:ah}{xs ys:List V}
theorem e5.of {K:aa}(h:H a=some (.lst xs)):e5 K H a xs:=.inl (.inl h)
theorem kJ.of {K:aa}(h:H a=some (.tup xs)):kJ K H a xs:=.inl (.inl h)
theorem Inv.list (I:Inv X ai σ H s)(h:e5 X.K H a xs):∃bZ:List ae,bX xs bZ/\PlainL s.heap a bZ.toArray/\xs.length<=sizeLine:=by
 rcases h with h|⟨o,bZ,n,hk,hc,hd,hs,hz,r⟩
 ·obtain⟨z,bZ,n,r,e⟩:=h.ok I.hok
  exact⟨bZ,r,⟨_,n,e,rfl,rfl,rfl⟩,z⟩
 ·refine⟨bZ.toList,r,⟨o,n,I.kIn a o hk,hc,hd,by simpa using hs⟩,?_⟩
  have e:=r.length
  simp only[cC]at e
  omega
theorem Inv.tuple (I:Inv X ai σ H s)(h:kJ X.K H a xs):∃bZ:List ae,bX xs bZ/\IsTup s.heap a bZ.toArray/\xs.length<=sizeLine:=by
 rcases h with h|⟨o,bZ,n,hk,hc,hs,hz,r⟩
 ·obtain⟨z,bZ,r,p⟩:=h.ok I.hok
  exact⟨bZ,r,p,z⟩
 ·refine⟨bZ.toList,r,⟨o,I.kIn a o hk,hc,n,by simpa using hs⟩,?_⟩
  have e:=r.length
  simp only[cC]at e
  omega
theorem Inv.list_inj (I:Inv X ai σ H s)(h:e5 X.K H a xs)(h':e5 X.K H a ys):xs=ys:=by
 obtain⟨bZ,r,⟨o,n,e,_,_,d⟩,_⟩:=I.list h
 obtain⟨its',r',⟨o',n',e',_,_,d'⟩,_⟩:=I.list h'
 rw[e]at e';cases e'
 rw[d]at d'
 injection d' with d1 _
 have:bZ=its':=by simpa using congrArg Array.toList d1
 subst this
 exact r.inj r'
end
abbrev Cx.wish (X:Cx)(E:ae->am->Prop):Cx:={ X with xe:=E }
abbrev Cx.nox (X:Cx):Cx:=X.wish λ_ _=>False
theorem Cx.Ok.wish {X:Cx}(ok:X.Ok)(E:ae->am->Prop):(X.wish E).Ok :=
 ⟨ok.mod,ok.kind,ok.glob,ok.blt,ok.above,ok.inj,ok.has,ok.cab,ok.hd,ok.frames,ok.stk,ok.exf,ok.bs,ok.bsz,ok.noex,ok.exfs,ok.funs,ok.frf⟩
theorem Cx.Ok.unwish {X:Cx}{E:ae->am->Prop}(ok:(X.wish E).Ok):X.Ok :=
 ⟨ok.mod,ok.kind,ok.glob,ok.blt,ok.above,ok.inj,ok.has,ok.cab,ok.hd,ok.frames,ok.stk,ok.exf,ok.bs,ok.bsz,ok.noex,ok.exfs,ok.funs,ok.frf⟩
section
variable {X:Cx}{ai:List (ah×dU)}{σ:St}{H:Hp}{s:am}{E:ae->am->Prop}
theorem Inv.wish (I:Inv X ai σ H s)(E:ae->am->Prop):Inv (X.wish E) ai σ H s:=⟨I.ok.wish E,I.os,I.bare,I.base,I.loc,I.cell,I.free,I.freeC,I.pin,I.hok,I.len⟩
theorem Inv.unwish (I:Inv (X.wish E) ai σ H s):Inv X ai σ H s:=⟨I.ok.unwish,I.os,I.bare,I.base,I.loc,I.cell,I.free,I.freeC,I.pin,I.hok,I.len⟩
theorem SP.unwish {D:kD}{f:Flow}{s':am}(h:SP (X.wish E) ai D f s'):SP X ai D f s':=by
 cases f with
 |next=>obtain⟨σ',H',I,q⟩:=h;exact⟨σ',H',I.unwish,q⟩
 |brk=>obtain⟨σ',H',I,q⟩:=h;exact⟨σ',H',I.unwish,q⟩
 |cont=>obtain⟨σ',H',I,q⟩:=h;exact⟨σ',H',I.unwish,q⟩
 |ret u=>obtain⟨v,σ',H',I,r,q⟩:=h;exact⟨v,σ',H',I.unwish,r,q⟩
theorem pV.nox {st:List bP}{t:TS}(h:pV X.nox st t):pV X st t:=λai s σ H D I hw=>
 dQ (h ai s σ H D (I.wish _) hw) (λ_ _ q=>q.unwish) λ_ _ z=>False.elim z
end
section
variable {X:Cx}{st:bP}{rest:List bP}{t u:TS}{e:Expr}{te:TE}{pos:cY}
def Hc:TS:=λD σ H=>D.nx σ H
def MC (t u:TS):TS:=λD σ H=>t { D with nx:=u D } σ H
theorem zpx:pV X [] Hc:=λ_ _ σ H _ I h=>jL ⟨σ,H,I,h⟩
theorem Rj (h1:PS X st t)(h2:pV X rest u):pV X (st::rest) (MC t u):=by
 intro ai s σ H D I h
 refine wpAny_execs_cons (dz (h1 ai s σ H { D with nx:=u D } I h) λf s1 q=>?_)
 cases f with
 |next=>
  obtain⟨σ',H',I',q⟩:=q
  exact h2 ai s1 σ' H' D I' q
 |ret v=>exact q
 |brk=>exact q
 |cont=>exact q
theorem RD (h1:PS X st t):pV X [st] t:=by
 intro ai s σ H D I h
 refine wpAny_execs_cons (dz (h1 ai s σ H D I h) λf s1 q=>?_)
 cases f with
 |next=>exact jL q
 |ret v=>exact q
 |brk=>exact q
 |cont=>exact q
theorem Inv.quiet {ai:List (ah×dU)}{σ:St}{H:Hp}{s:am}(I:Inv X ai σ H s):interactive X.env=false:=by simp[interactive,I.ok.kind]
def G9 (te:TE):TS:=λD σ H=>te σ H λ_ H1=>D.nx σ H1
theorem Hv (he:PE X e te)(hs:dw e none pos.line X.env=pure false:=by rfl):PS X (.Expr e pos) (G9 te):=by
 intro ai s σ H D I h
 exact wpAny_Expr_any (dz (he ai s σ H _ I h) λv s1 ⟨x,H1,I1,r1,q1⟩=>⟨σ,H1,I1,q1⟩) I.quiet hs
def MB (te:TE):TS:=λD σ H=>te σ H D.rt
theorem BK (he:PE X e te):PS X (.Return (some e) pos) (MB te):=by
 intro ai s σ H D I h
 exact wpAny_Return_some (dz (he ai s σ H _ I h) λv s1 ⟨x,H1,I1,r1,q1⟩=>⟨x,σ,H1,I1,r1,q1⟩)
def Mv (c:TT)(t u:TS):TS:=λD σ H=>c σ H λb H1=>if b=true then t D σ H1 else u D σ H1
theorem zus {c:Expr}{a b:List bP}{tc:TT}(hc:PT X c tc)(ha:pV X a t)(hb:pV X b u):PS X (.If c a b pos) (Mv tc t u):=by
 intro ai s σ H D I h
 refine wpAny_If (dz (hc ai s σ H _ I h) λd s1 ⟨H1,I1,q1⟩=>?_)
 cases d with
 |true=>exact ha ai s1 σ H1 D I1 q1
 |false=>exact hb ai s1 σ H1 D I1 q1
def AJ:TS:=λ_ _ _=>False
theorem zm0:PS X st AJ:=λ_ _ _ _ _ _ h=>h.elim
end
abbrev TG:=V->St->Hp->(St->Hp->Prop)->Prop
abbrev xH:=List V->St->Hp->(St->Hp->Prop)->Prop
def PG (X:Cx)(target:Expr)(t:TG):Prop :=
 ∀(ai:List (ah×dU)) (s:am) (σ:St) (H:Hp) (v:V) (u:ae) (Q:St->Hp->Prop),Inv X ai σ H s->RelV v u->t v σ H Q ->
  bi (ba X.prog X.w) X.A (ip target X.env u) (λ_ s'=>∃σ' H',Inv X ai σ' H' s'/\Q σ' H') X.xe s
def B4 (X:Cx)(ts:List Expr)(t:xH):Prop :=
 ∀(ai:List (ah×dU)) (s:am) (σ:St) (H:Hp) (vs:List V) (us:List ae) (Q:St->Hp->Prop),Inv X ai σ H s->bX vs us->t vs σ H Q ->
  bi (ba X.prog X.w) X.A (assignInOrder ((d6 ts X.env).map (·.2)) us) (λ_ s'=>∃σ' H',Inv X ai σ' H' s'/\Q σ' H') X.xe s
abbrev sL:=V->V->V->Hp->(Hp->Prop)->Prop
def xG (X:Cx)(t:sL):Prop :=
 ∀(ai:List (ah×dU)) (s:am) (σ:St) (H:Hp) (o i v:V) (ov iv u:ae) (Q:Hp->Prop),Inv X ai σ H s->RelV o ov->RelV i iv->RelV v u->t o i v H Q ->
  bi (ba X.prog X.w) X.A (oP ov iv u) (λ_ s'=>∃H',Inv X ai σ H' s'/\Q H') X.xe s
abbrev Bc:=V->V->Hp->VK->Prop
def A9 (X:Cx)(op:i8)(t:Bc):Prop :=
 ∀(ai:List (ah×dU)) (s:am) (σ:St) (H:Hp) (x y:V) (v u:ae) (Q:VK),Inv X ai σ H s->RelV x v->RelV y u->t x y H Q ->
  bi (ba X.prog X.w) X.A (inplaceOp op v u) (EP X ai σ Q) X.xe s
section
variable {X:Cx}{pos:cY}
def qL (i:Nat):TG:=λv σ H Q=>Q (σ.set i (some v)) H
theorem Nz {i:Nat}{x:aQ}(hN:X.N.Nodup)(hi:X.N[i]?=some x)(hx:Loc X.env.scope x)(hf:X.fn x=true\/X.env.scope.names.lookup x=some .local:=by first|exact .inl rfl|exact .inr rfl|assumption):PG X (.Name x pos) (qL i):=by
 intro ai s σ H v u Q I r h
 exact wpAny_assign_Name (Hs I hN hi hx r (λs' I'=>⟨_,H,I',h⟩) hf)
def K9:xH:=λvs σ H Q=>vs=[]/\Q σ H
def Ef (t:TG)(u:xH):xH:=λvs σ H Q=>∃v r,vs=v::r/\t v σ H λσ' H'=>u r σ' H' Q
theorem zpy:B4 X [] K9:=by
 intro ai s σ H vs us Q I r h
 obtain⟨e,h⟩:=h
 subst e
 cases r
 exact assignInOrder_nil ⟨σ,H,I,h⟩
theorem zm1 {e:Expr}{es:List Expr}{t:TG}{u:xH}(h1:PG X e t)(h2:B4 X es u)
  (hs:(d6 (e::es) X.env).map (·.2)=ip e X.env::(d6 es X.env).map (·.2):=by rfl):B4 X (e::es) (Ef t u):=by
 intro ai s σ H vs us Q I r h
 obtain⟨v,vr,e1,h⟩:=h
 subst e1
 cases r with
 |cons r rr=>
  rw[hs]
  refine assignInOrder_cons (dz (h1 ai s σ H _ _ _ I r h) λ_ s1 ⟨σ1,H1,I1,q1⟩=>?_)
  exact h2 ai s1 σ1 H1 _ _ Q I1 rr q1
def Lb (K:aa)(n:Nat)(t:xH):TG:=λv σ H Q=>∃a xs,v=.ref a/\kJ K H a xs/\xs.length=n/\t xs σ H Q
theorem zsu {es:List Expr}{k:Nat}{t:xH}{n:Nat}(hc:X.calm=true)(h:B4 X es t)
  (hn:(d6 es X.env).length=n:=by rfl) (kK:(d6 es X.env).findIdx? (·.1)=none:=by rfl):PG X (.Tuple es k pos) (Lb X.K n t):=by
 intro ai s σ H v u Q I r hw
 obtain⟨a,xs,e1,hq,hl,hw⟩:=hw
 subst e1
 cases r
 obtain⟨bZ,rv,ht,hz⟩:=I.tuple hq
 refine assign_Tuple_tuple (I.ok.hd hc) ht (by simp[hn,←hl,rv.length]) kK λh' hx=>?_
 have I1:Inv X ai σ H { s with heap:=h' }:=I.kept (t':=s.toks) λb o e=>hx b o (bw (aP e)) e
 exact h ai _ σ H xs _ Q I1 (by simpa using rv) hw
def La (to ti:TE)(t:sL):TG:=λv σ H Q=>to σ H λo H1=>ti σ H1 λi H2=>t o i v H2 λH3=>Q σ H3
theorem zsv {o i:Expr}{to ti:TE}{t:sL}(ho:PE X o to)(hi:PE X i ti)(hs:xG X t)
  (ha:∀v,ip (.Subscript o i pos) X.env v=(do
   let ov ← eG [v] (bJ o X.env)
   let iv ← eG [v,ov] (bJ i X.env)
   hU pos
   eG [v,ov,iv] (oP ov iv v)
   release [v,ov,iv] []):=by intro _;rfl):PG X (.Subscript o i pos) (La to ti t):=by
 intro ai s σ H v u Q I r h
 rw[ha]
 refine aR (lF (dz (ho ai s σ H _ I h) λov s1 ⟨x,H1,I1,r1,q1⟩=>?_))
 refine aR (lF (dz (hi ai s1 σ H1 _ I1 q1) λiv s2 ⟨y,H2,I2,r2,q2⟩=>?_))
 refine aR (lG (aR (lF (dz (hs ai s2 σ H2 x y v ov iv u _ I2 r1 r2 r q2) λ_ s3 ⟨H3,I3,q3⟩=>?_))))
 exact wpAny_release ⟨σ,H3,I3,q3⟩
def AH (te:TE)(g:TG):TS:=λD σ H=>te σ H λx H1=>g x σ H1 D.nx
theorem NR {tg e:Expr}{te:TE}{g:TG}(he:PE X e te)(hg:PG X tg g)(hs:gG [tg] e pos.line X.env=pure false:=by rfl)(hw:gF [tg] e X.env=pure none:=by rfl)
  (h1:(d6 [tg] X.env).map (·.2)=[ip tg X.env]:=by rfl):PS X (.Assign [tg] e pos) (AH te g):=by
 intro ai s σ H D I h
 refine wpAny_Assign_stores (dz (he ai s σ H _ I h) λv s1 ⟨x,H1,I1,r1,q1⟩=>?_) hs hw
 rw[h1]
 exact dz (hg ai s1 σ H1 x v _ I1 r1 q1) λ_ s2 q=>q
theorem NS {i:Nat}{x:aQ}{e:Expr}{te:TE}{pos':cY}(hN:X.N.Nodup)(hi:X.N[i]?=some x)(hx:Loc X.env.scope x)(he:PE X e te)(hs:dw e (some (.Name x pos')) pos.line X.env=pure false:=by rfl)(hf:X.fn x=true\/X.env.scope.names.lookup x=some .local:=by first|exact .inl rfl|exact .inr rfl|assumption) :
  PS X (.Assign [.Name x pos'] e pos) (AH te (qL i)):=by
 intro ai s σ H D I h
 refine wpAny_Assign_Name (dz (he ai s σ H _ I h) λv s1 ⟨y,H1,I1,r1,q1⟩=>?_) hs
 exact Hs I1 hN hi hx r1 (λs2 I2=>⟨_,H1,I2,q1⟩) hf
def MA (i j:Nat)(ta:TA):TS:=λD σ H=>ta σ H λvs H1=>∃v w,vs=[v,w]/\D.nx ((σ.set i (some v)).set j (some w)) H1
theorem zsw {i j:Nat}{x y:aQ}{a b:Expr}{ta:TA}{px py pt:cY}{kt k2 mC}(hc:X.calm=true)(hN:X.N.Nodup)(hi:X.N[i]?=some x)(hj:X.N[j]?=some y)(pZ:i≠j)
    (hx:X.env.scope.names.lookup x=some .local) (hy:X.env.scope.names.lookup y=some .local) (ha:PA X [a,b] ta)
    (hw:gF [.Tuple [.Name x px,.Name y py] kt pt] (.Tuple [a,b] k2 mC) X.env=pure (some [x,y]))
    (hs:gG [.Tuple [.Name x px,.Name y py] kt pt] (.Tuple [a,b] k2 mC) pos.line X.env=pure false:=by rfl) :
    PS X (.Assign [.Tuple [.Name x px,.Name y py] kt pt] (.Tuple [a,b] k2 mC) pos) (MA i j ta):=by
  intro ai s σ H D I h
  rw[exec_Assign_arm]
  refine aR (lG ?_)
  rw[hs]
  refine aR (bS ?_)
  rw[if_neg (by decide)]
  refine aR (Tuple_ (dz (ha _ ai s σ H _ I h) λus s1 ⟨vs,H1,I1,r1,q1⟩=>?_))
  obtain⟨v,w,e1,q1⟩:=q1
  subst e1
  obtain⟨u1,u2,rfl,rv,nq⟩:∃u1 u2,us=[u1,u2]/\RelV v u1/\RelV w u2:=by
    cases r1 with
    |cons p q=>
      cases q with
      |cons p' q'=>
        cases q'
        exact⟨_,_,rfl,p,p'⟩
  refine mP ?_ (by show 2<=sizeLine;decide)
  have I2:Inv X ai σ H1 { s1 with heap:=s1.heap.push { cls:=.type "tuple",data:=.seq [u1,u2].toArray } }:=I1.kept (t':=s1.toks) λb o e=>aC _ e
  rw[hw]
  refine aR (bS ?_)
  show bi (ba X.prog X.w) X.A (do rule "assign.swapped-stores";let items ← unpackItems (.ref s1.heap.objs.size) 2 none;assignInOrder [λv=>bindName X.env y v,λv=>bindName X.env x v] items.reverse;pure Flow.next) _ _ _
  refine aR (wpAny_rule (aR (unpackItems_tuple (items:=#[u1,u2]) (I.ok.hd hc) (IsTup.new s1.heap _) λh' Bq=>?_)))
  have I3:=I2.kept (h':=h') (t':=s1.toks) λb o e=>Bq b o (bw (aP e)) e
  show bi _ _ (assignInOrder [λv=>bindName X.env y v,λv=>bindName X.env x v] [u2,u1] >>= λ_=>pure Flow.next) _ _ _
  refine aR (assignInOrder_cons (wpAny_bindName (Hs I3 hN hj (.inl hy) nq (λs2 I4=>?_) (.inr hy))))
  refine assignInOrder_cons (wpAny_bindName (Hs I4 hN hi (.inl hx) rv (λs3 I5=>assignInOrder_nil (bS ?_)) (.inr hx)))
  rw[List.set_comm _ _ (Ne.symm pZ)]at I5
  exact⟨_,H1,I5,q1⟩
def Mp (i:Nat)(te:TE)(ti:Bc):TS:=λD σ H=>∃x,σ[i]?=some (some x)/\te σ H λy H1=>ti x y H1 λz H2=>D.nx (σ.set i (some z)) H2
theorem zsx {i:Nat}{x:aQ}{e:Expr}{te:TE}{op:i8}{ti:Bc}{pos':cY}(hN:X.N.Nodup)(hi:X.N[i]?=some x)(hx:Loc X.env.scope x)(he:PE X e te)(ho:A9 X op ti)(hf:X.fn x=true\/X.env.scope.names.lookup x=some .local:=by first|exact .inl rfl|exact .inr rfl|assumption) :
  PS X (.AugAssign (.Name x pos') op e pos) (Mp i te ti):=by
 intro ai s σ H D I h
 obtain⟨v,e1,h⟩:=h
 obtain⟨m,hn,hl⟩:=I.loc
 have Yr:lQ X.env.scope x:=by rcases hx with k|k;exact .inl k;exact .inr (.inl k)
 obtain⟨u,r,l⟩:=hl i x v hi e1 Yr
 refine wpAny_AugAssign_Name ?_
 have go:bi (ba X.prog X.w) X.A (bJ e X.env) (λw s₂=>bi (ba X.prog X.w) X.A (inplaceOp op u w) (λr s₃=>bi (ba X.prog X.w) X.A (storeName X.env x r) (λ_=>SP X ai D .next) X.xe s₃) X.xe s₂) X.xe s:=by
  refine dz (he ai s σ H _ I h) λw s1 ⟨y,H1,I1,r1,q1⟩=>?_
  refine dz (ho ai s1 σ H1 v y u w _ I1 r r1 q1) λz s2 ⟨zv,H2,I2,r2,q2⟩=>?_
  exact Hs I2 hN hi hx r2 (λs3 I3=>⟨_,H2,I3,q2⟩) hf
 rcases l with⟨hk,hm⟩|⟨hk,c,hc,qM⟩
 ·exact wpAny_loadName_local I.ok.kind hk hn hm go
 ·rcases hk with hk|hk
  ·exact wpAny_loadName_cell I.ok.kind hk hc qM go
  ·rcases hx with k|k
   ·have:X.env.scope.names.lookup x=some .free:=hk
    rw[k]at this;cases this
   ·have:X.env.scope.names.lookup x=some .free:=hk
    rw[k]at this;cases this
def G6 (to ti te:TE)(vF:V->V->Hp->VK->Prop)(IL:Bc)(vG:sL):TS:=λD σ H=>to σ H λo H1=>ti σ H1 λi H2=>vF o i H2 λx H3=>te σ H3 λy H4=>IL x y H4 λz H5=>vG o i z H5 λH6=>D.nx σ H6
def B3 (X:Cx)(t:V->V->Hp->VK->Prop):Prop :=
 ∀(ai:List (ah×dU)) (s:am) (σ:St) (H:Hp) (o i:V) (ov iv:ae) (Q:VK),Inv X ai σ H s->RelV o ov->RelV i iv->t o i H Q ->
  bi (ba X.prog X.w) X.A (mM ov iv) (EP X ai σ Q) X.xe s
theorem zpz {o i e:Expr}{to ti te:TE}{vF:V->V->Hp->VK->Prop}{IL:Bc}{vG:sL}{op:i8}{iF:cY}(ho:PE X o to)(hi:PE X i ti)(hg:B3 X vF)(he:PE X e te)(hp:A9 X op IL)(hs:xG X vG)
  (ha:∀ov iv new,augStore i ov iv new=(do eG [new,ov,iv] (oP ov iv new);release [new,ov,iv] [];pure .next):=by intros;rfl):PS X (.AugAssign (.Subscript o i iF) op e pos) (G6 to ti te vF IL vG):=by
 intro ai s σ H D I h
 refine wpAny_AugAssign_SubscriptAny (dz (ho ai s σ H _ I h) λov s1 ⟨x1,H1,I1,r1,q1⟩=>?_) ha
 refine dz (hi ai s1 σ H1 _ I1 q1) λiv s2 ⟨x2,H2,I2,r2,q2⟩=>?_
 refine dz (hg ai s2 σ H2 x1 x2 ov iv _ I2 r1 r2 q2) λold s3 ⟨x3,H3,I3,r3,q3⟩=>?_
 refine dz (he ai s3 σ H3 _ I3 q3) λv s4 ⟨x4,H4,I4,r4,q4⟩=>?_
 refine dz (hp ai s4 σ H4 x3 x4 old v _ I4 r3 r4 q4) λnew s5 ⟨x5,H5,I5,r5,q5⟩=>?_
 exact dz (hs ai s5 σ H5 x1 x2 x5 ov iv new _ I5 r1 r2 r5 q5) λ_ s6 ⟨H6,I6,q6⟩=>⟨σ,H6,I6,q6⟩
def Iz (f:Int->Int->Int):Bc:=λx y H Q=>∃i j,x=.int i/\y=.int j/\Q (.int (f i j)) H
theorem Sb:A9 X .Add (Iz λi j=>i+j):=by
 intro ai s σ H x y v u Q I r1 r2 h
 obtain⟨i,j,e1,e2,q⟩:=h
 subst e1;subst e2
 obtain⟨t,rfl⟩:=r1
 obtain⟨t',rfl⟩:=r2
 exact iadd_int ⟨.int _,H,I.tok _,⟨_,rfl⟩,q⟩
theorem zsy:A9 X .Sub (Iz λi j=>i-j):=by
 intro ai s σ H x y v u Q I r1 r2 h
 obtain⟨i,j,e1,e2,q⟩:=h
 subst e1;subst e2
 obtain⟨t,rfl⟩:=r1
 obtain⟨t',rfl⟩:=r2
 exact isub_int ⟨.int _,H,I.tok _,⟨_,rfl⟩,q⟩
end
section
variable {X:Cx}{pos:cY}
def AK (c:TT)(tb:TS):TS:=λD σ H=>∃W:Nat->St->Hp->Prop,(∃m,W m σ H)/\∀m σ H,W m σ H ->
 c σ H λb H1=>if b=true then∃N:St->Hp->Prop,(∀σ' H',N σ' H'->∃m',m'<m/\W m' σ' H')/\tb { D with nx:=N,ct:=N,bk:=D.nx } σ H1 else D.nx σ H1
theorem zm3 {c:Expr}{body:List bP}{tc:TT}{tb:TS}(hp:cI (ba X.prog X.w) X.A X.env X.xe)(hc:PT X c tc)(hb:pV X body tb):PS X (.While c body [] pos) (AK tc tb):=by
 intro ai s σ H D I h
 obtain⟨W,⟨m0,w0⟩,bW⟩:=h
 refine wpAny_While (codeAny_whileLoop (λn s'=>∃σ' H',Inv X ai σ' H' s'/\W n σ' H') ?_ m0 ⟨σ,H,I,w0⟩)
 rintro n s1 ⟨σ1,H1,I1,w1⟩
 refine eM hp (dz (hc ai s1 σ1 H1 _ I1 (bW n σ1 H1 w1)) λb s2 ⟨H2,I2,q2⟩=>?_)
 cases b with
 |true=>
  obtain⟨N,hN,q2⟩:=q2
  rw[if_pos rfl]
  refine eM hp (dz (hb ai s2 σ1 H2 _ I2 q2) λf s3 q3=>?_)
  cases f with
  |next=>
   obtain⟨σ3,H3,I3,n3⟩:=q3
   obtain⟨m',hm,w3⟩:=hN σ3 H3 n3
   exact⟨m',hm,σ3,H3,I3,w3⟩
  |cont=>
   obtain⟨σ3,H3,I3,n3⟩:=q3
   obtain⟨m',hm,w3⟩:=hN σ3 H3 n3
   exact⟨m',hm,σ3,H3,I3,w3⟩
  |brk=>exact q3
  |ret v=>exact q3
 |false=>
  rw[if_neg aK]
  exact jL ⟨σ1,H2,I2,q2⟩
end
structure It where
 go:Nat->Hp->Prop
 yld:Nat->Hp->V->Hp->Prop
 stop:Nat->Hp->Prop
def kb (X:Cx)(ai:List (ah×dU))(H:Hp)(b:ah):Prop :=
 H b=none/\b≠X.env.locals/\b∉X.fs/\(b∈X.ex\/X.s₀.heap.objs.size<=b)/\(∀x c,X.env.cells.lookup x=some c->c≠b)/\∀p∈X.pn++ai,p.1≠b
theorem Inv.fpOk {X:Cx}{ai:List (ah×dU)}{σ:St}{H H':Hp}{s:am}{b:ah}(I:Inv X ai σ H s)(hb:s.heap.objs.size<=b)(hn:H' b=none):kb X ai H' b:=by
 refine⟨hn,Nat.ne_of_gt (bj I.lt hb),I.nofs hb,.inr (cL I.sz hb),λx c e z=>?_,λp hp z=>?_⟩
 ·obtain⟨v,q⟩:=I.cell x c e
  exact absurd (bj q.lt (by rw[z];exact hb)) (eh _)
 ·exact absurd (bj (aP (I.pin p hp).1) (by rw[z];exact hb)) (eh _)
structure Turn (P:bB)(w:cj)(K:aa)(tg:Expr)(J:It)(fp:List ah)(it:ah)(tn:Nat->aZ->Prop):Prop where
 mem:it∈fp
 obj:∀i h,tn i h->∀b∈fp,∃o,h.get? b=some o/\∀v,o.data≠.cell v
 keep:∀i h h',tn i h->(∀b∈fp,∀o,h.get? b=some o->h'.get? b=some o)->tn i h'
 item:∀(X:Cx),X.prog=P->X.w=w->X.K=K->X.calm=true->∀(i:Nat) (ai:List (ah×dU)) (s:am) (σ:St) (H:Hp) (E:ae->am->Prop),Inv X ai σ H s->(∀b∈fp,kb X ai H b)->tn i s.heap->J.go i H ->
  bi (ba P w) X.A (pyNext (.ref it)) (λr s1=>∃u,r=some u /\
   bi (ba P w) X.A (gR tg (.ref it) u) (λ_ s2=>∃x H',Inv X ai σ H' s2/\RelV x u/\J.yld i H x H'/\tn (i+1) s2.heap/\∀b∈fp,H' b=none) E s1) E s
 done:∀(X:Cx),X.prog=P->X.w=w->X.K=K->X.calm=true->∀(i:Nat) (ai:List (ah×dU)) (s:am) (σ:St) (H:Hp) (E:ae->am->Prop),Inv X ai σ H s->(∀b∈fp,kb X ai H b)->tn i s.heap->J.stop i H ->
  bi (ba P w) X.A (pyNext (.ref it)) (λr s1=>r=none/\Inv X ai σ H s1) E s
 self:∀(A:bR) (i:Nat) (s:am) (Q:ae->am->Prop) (E:ae->am->Prop),tn i s.heap->Q (.ref it) s->bi (ba P w) A (pyIter (.ref it)) Q E s
abbrev TI:=St->Hp->(It->Hp->Prop)->Prop
def Od (X:Cx)(ai:List (ah×dU))(σ:St)(tg:Expr)(R:It->Hp->Prop)(IA:ae)(s2:am):Prop :=
 ∃(it:ah) (fp:List ah) (tn:Nat->aZ->Prop) (J:It) (H':Hp),IA=.ref it/\Inv X ai σ H' s2/\Turn X.prog X.w X.K tg J fp it tn/\tn 0 s2.heap/\(∀b∈fp,kb X ai H' b)/\R J H'
def PI (X:Cx)(tg iter:Expr)(wi:TI):Prop :=
 ∀(ai:List (ah×dU)) (s:am) (σ:St) (H:Hp) (R:It->Hp->Prop),Inv X ai σ H s->wi σ H R ->
  bi (ba X.prog X.w) X.A (bJ iter X.env) (λv s1=>bi (ba X.prog X.w) X.A (pyIter v) (Od X ai σ tg R) X.xe s1) X.xe s
theorem N7 {M:Model}{A:bR}{E:ae->am->Prop}{s:am}{tg:Expr}{it:ah}{u:ae}{o:dU}{n:String}{vs:Array ae}{Q:Unit->am->Prop}(ho:s.heap.get? it=some o)(hc:o.cls=.type n)(hd:o.data=.fields vs)
    (hn:["enumerate","zip","dict_itemiterator","dict_reverseitemiterator","odict_iterator","itertools.zip_longest","itertools.pairwise"].contains n=false) (hQ:Q () s):bi M A (gR tg (.ref it) u) Q E s:=by
  unfold gR
  cases tg<;>first
    |exact bS hQ
    |(cases u<;>first
        |exact bS hQ
        |(refine aR (wpAny_load ho ?_)
          rw[hc,hd]
          show bi M A (if(["enumerate","zip","dict_itemiterator","dict_reverseitemiterator","odict_iterator","itertools.zip_longest","itertools.pairwise"].contains n&&vs[0]?==some (rawInt _))=true then _ else _) Q E s
          rw[if_neg (by intro h;rw[hn,Bool.false_and]at h;cases h)]
          exact bS hQ))
def JR (K:aa)(a:ah):It :=
 ⟨λi H=>∃xs x,e5 K H a xs/\xs[i]?=some x,λi H x H'=>H'=H/\∀xs,e5 K H a xs->xs[i]?=some x,λi H=>∃xs,e5 K H a xs/\xs.length<=i⟩
def HM (lo:Int)(n:Nat):It:=⟨λi _=>i<n,λi H x H'=>H'=H/\x=.int (lo+i),λi _=>n<=i⟩
theorem Z0 {P:bB}{w:cj}{K:aa}{tg:Expr}(a it:ah):Turn P w K tg (JR K a) [it] it (λi h=>h.IsListIter it a i) where
 mem:=by simp
 obj:=λi h st b hb=>by
  have e:b=it:=by simpa using hb
  subst e
  obtain⟨o,e,c,d⟩:=st
  exact⟨o,e,λv z=>by rw[d]at z;cases z⟩
 keep:=λi h h' st k=>st.at λo e=>k it (by simp) o e
 item:=by
  intro X hP hw hK hc i ai s σ H E I hf st hg
  subst hP hw hK
  obtain⟨xs,x,hq,hx⟩:=hg
  obtain⟨bZ,rv,p,hz⟩:=I.list hq
  obtain⟨u,hu,ru⟩:=rv.get hx
  obtain⟨f0,f1,f2,f3,f4,f5⟩:=hf it (by simp)
  refine wpAny_pyNext_list_item st p.isList (x:=u) (by simpa using hu) λh' su sb=>?_
  have I1:Inv X ai σ H { s with heap:=h' }:=I.turned (t':=s.toks) (λb o hb e=>(sb.2 b hb).trans e) f0 f1 f3 f4 f5
  obtain⟨o,e,c,d⟩:=id su
  exact⟨u,rfl,N7 (s:={ s with heap:=h' }) e c d (by decide) ⟨x,H,I1,ru,⟨rfl,λys hy=>by rw[I.list_inj hy hq];exact hx⟩,su,λb hb=>(hf b hb).1⟩⟩
 done:=by
  intro X hP hw hK hc i ai s σ H E I hf st hg
  subst hP hw hK
  obtain⟨xs,hq,hx⟩:=hg
  obtain⟨bZ,rv,p,hz⟩:=I.list hq
  obtain⟨f0,f1,f2,f3,f4,f5⟩:=hf it (by simp)
  have hl:=rv.length
  exact wpAny_pyNext_list_end (I.ok.hd hc) st p.isList (by simp;omega) λh' eb=>⟨rfl,I.turned (t':=s.toks) (λb o hb e=>eb b o hb e) f0 f1 f3 f4 f5⟩
 self:=λ_ _ _ _ _ st h=>wpAny_pyIter_listiter st h
theorem ZD {P:bB}{w:cj}{K:aa}{tg:Expr}(it:ah)(lo:Int)(n:Nat):Turn P w K tg (HM lo n) [it] it (λi h=>IsRangeIter h it (lo+(i:Nat)*1) ((n:Int)-(i:Nat)) 1) where
 mem:=by simp
 obj:=λi h st b hb=>by
  have e:b=it:=by simpa using hb
  subst e
  exact⟨_,st,λv z=>by
   have z':jR.fields _=jR.cell v:=z
   cases z'⟩
 keep:=λi h h' st k=>k it (by simp) _ st
 item:=by
  intro X hP hw hK hc i ai s σ H E I hf st hg
  subst hP hw hK
  obtain⟨f0,f1,f2,f3,f4,f5⟩:=hf it (by simp)
  have W:=Walks.range (prog:=X.prog) (w:=X.w) (I.ok.hd hc) it lo 1 n
  refine W.item i s _ _ hg st λv h' tk hv su kk=>?_
  obtain⟨t,rfl⟩:=hv
  have I1:Inv X ai σ H { s with heap:=h',toks:=tk }:=I.turned (λb o hb e=>kk b o (by simpa using hb) e) f0 f1 f3 f4 f5
  refine⟨_,rfl,N7 (s:={ s with heap:=h',toks:=tk }) (n:="range_iterator") su rfl rfl (by decide) ⟨.int (lo+i),H,I1,⟨t,?_⟩,⟨rfl,rfl⟩,su,λb hb=>(hf b hb).1⟩⟩
  rw[lV]
 done:=by
  intro X hP hw hK hc i ai s σ H E I hf st hg
  subst hP hw hK
  obtain⟨f0,f1,f2,f3,f4,f5⟩:=hf it (by simp)
  exact wpAny_pyNext_range_end (I.ok.hd hc) st (by have:n<=i:=hg;omega) λh' eb=>⟨rfl,I.turned (t':=s.toks) (λb o hb e=>eb b o hb e) f0 f1 f3 f4 f5⟩
 self:=λ_ _ _ _ _ st h=>wpAny_pyIter_rangeiter st h
end L2
namespace L2
open PySem PySem.Spec PyProof.Rows
section
variable {X:Cx}{tg:Expr}
def EU (K:aa)(tl:TE):TI:=λσ H R=>tl σ H λx H1=>∃a,x=.ref a/\(∃xs,e5 K H1 a xs)/\R (JR K a) H1
theorem RE {l:Expr}{tl:TE}(hl:PE X l tl):PI X tg l (EU X.K tl):=by
 intro ai s σ H R I h
 refine dz (hl ai s σ H _ I h) λv s1 ⟨x,H1,I1,r1,q1⟩=>?_
 obtain⟨a,e,⟨xs,hq⟩,q⟩:=q1
 subst e
 cases r1
 obtain⟨bZ,rv,p,hz⟩:=I1.list hq
 refine wpAny_pyIter_list p.isList ?_
 refine⟨s1.heap.objs.size,[s1.heap.objs.size],_,_,H1,rfl,I1.kept (t':=s1.toks) λb o e=>aC _ e,Z0 a _,⟨_,bQ _ rfl,rfl,rfl⟩,λb hb=>?_,q⟩
 have e:b=s1.heap.objs.size:=by simpa using hb
 subst e
 exact I1.fpOk (aM _) (I1.hok.fresh (aM _))
theorem zm4 {ai:List (ah×dU)}{σ:St}{H:Hp}{s:am}{R:It->Hp->Prop}{E:ae->am->Prop}{lo hi:Int}{t u v:Tok}{tk:Nat}(I:Inv X ai σ H s)(h1:-(2 ^ 62)<=lo)(h2:lo<2 ^ 62)(h3:-(2 ^ 62)<=hi)(h4:hi<2 ^ 62)
    (q:R (HM lo (hi-lo).toNat) H):bi (ba X.prog X.w) X.A (pyIter (.ref s.heap.objs.size)) (Od X ai σ tg R) E { s with heap:=s.heap.push { cls:=.type "range",data:=.fields #[.int lo t,.int hi u,.int 1 v] },toks:=tk }:=by
  refine wpAny_pyIter_range (IsRange.new ..) (small_one h1 h2 h3 h4) ?_
  have I1:Inv X ai σ H { s with heap:=s.heap.push { cls:=.type "range",data:=.fields #[.int lo t,.int hi u,.int 1 v] },toks:=tk }:=I.kept λb o e=>aC _ e
  refine⟨(s.heap.push { cls:=.type "range",data:=.fields #[.int lo t,.int hi u,.int 1 v] }).objs.size,[(s.heap.push { cls:=.type "range",data:=.fields #[.int lo t,.int hi u,.int 1 v] }).objs.size],_,_,H,rfl,
    I1.kept (t':=tk) λb o e=>aC _ e,ZD _ lo (hi-lo).toNat,?_,λb hb=>?_,q⟩
  · have e1:lo+((0:Nat):Int)*1=lo:=by simp
    have e2:(((hi-lo).toNat:Nat):Int)-((0:Nat):Int)=e6.Range.rangeSize lo hi 1:=by rw[rangeSize_one];split<;>omega
    show IsRangeIter _ _ (lo+((0:Nat):Int)*1) ((((hi-lo).toNat:Nat):Int)-((0:Nat):Int)) 1
    rw[e1,e2]
    exact bQ _ rfl
  · have e:b=(s.heap.push { cls:=.type "range",data:=.fields #[.int lo t,.int hi u,.int 1 v] }).objs.size:=by simpa using hb
    subst e
    exact I1.fpOk (aM _) (I1.hok.fresh (aM _))
def EV (ta:TA):TI:=λσ H R=>ta σ H λvs H1=>∃j:Int,vs=[.int j]/\-(2 ^ 62)<=j/\j<2 ^ 62/\R (HM 0 j.toNat) H1
theorem Z1 {a:Expr}{ta:TA}{p pos:cY}(hg:Gl X "range")(hm:X.mg "range"=none)(ha:PA X [a] ta)(hs:aq [a] X.env=[(false,bJ a X.env)]:=by rfl):PI X tg (.Call (.Name "range" p) [a] [] pos) (EV ta):=by
 intro ai s σ H R I h
 refine Call_ (vI I hg hm boot_range (cw (dz (ha pos ai s σ H _ I h) λus s1 ⟨vs,H1,I1,r1,q1⟩=>?_) hs rfl))
 obtain⟨j,e,q1,q2,q⟩:=q1
 subst e
 cases r1 with
 |cons r rr=>
  cases rr
  obtain⟨t,rfl⟩:=r
  exact call_range_1 (zm4 I1 (by omega) (by omega) q1 q2 (by simpa using q))
def Mu (wi:TI)(g:TG)(tb:TS):TS:=λD σ H=>wi σ H λJ H1=>∃W:Nat->Nat->St->Hp->Prop,(∃m,W 0 m σ H1)/\∀i m σ H,W i m σ H ->
 (J.stop i H/\D.nx σ H)\/(J.go i H/\∃N:St->Hp->Prop,(∀σ' H',N σ' H'->∃m',m'<m/\W (i+1) m' σ' H')/\∀x H',J.yld i H x H'->g x σ H' λσ2 H2=>tb { D with nx:=N,ct:=N,bk:=D.nx } σ2 H2)
def kM (fp:List ah)(h:aZ):List (ah×dU):=fp.filterMap λb=>(h.get? b).map λo=>(b,o)
theorem j4 {fp:List ah}{h:aZ}{b:ah}{o:dU}(hb:b∈fp)(e:h.get? b=some o):(b,o)∈kM fp h:=qZ.mpr ⟨b,hb,by rw[e];rfl⟩
theorem Z2 {fp:List ah}{h:aZ}{p:ah×dU}(hp:p∈kM fp h):p.1∈fp/\h.get? p.1=some p.2:=by
 obtain⟨b,hb,e⟩:=qZ.mp hp
 cases q:h.get? b with
 |none=>rw[q]at e;cases e
 |some o=>
  rw[q]at e
  have e':(b,o)=p:=Option.some.inj e
  subst e'
  exact⟨hb,q⟩
theorem Inv.pinned {ai:List (ah×dU)}{σ:St}{H:Hp}{s:am}{fp:List ah}(I:Inv X ai σ H s)(hf:∀b∈fp,kb X ai H b)(ho:∀b∈fp,∃o,s.heap.get? b=some o/\∀v,o.data≠.cell v):Inv X (ai++kM fp s.heap) σ H s :=
 I.pins_of λp hp=>(aY.mp hp).elim (λz=>I.pin p (av _ z)) λz=>by
  obtain⟨hb,e⟩:=Z2 z
  obtain⟨f0,f1,f2,_⟩:=hf p.1 hb
  obtain⟨o,e',d⟩:=ho p.1 hb
  rw[e]at e';cases e'
  exact⟨e,f0,f1,f2,d⟩
theorem Inv.unpinned {ai pl:List (ah×dU)}{σ:St}{H:Hp}{s:am}(I:Inv X (ai++pl) σ H s):Inv X ai σ H s:=I.pins_of λp hp=>I.pin p (av _ (bc _ hp))
theorem zsz {iter:Expr}{body:List bP}{wi:TI}{g:TG}{tb:TS}{pos:cY}(hp:cI (ba X.prog X.w) X.A X.env X.xe)(hc:X.calm=true)(hi:PI X tg iter wi)(hg:PG X tg g)(hb:pV X body tb)
  (hs:∀x,dP iter X.env x=pure x:=by intro _;rfl):PS X (.For tg iter body [] pos) (Mu wi g tb):=by
 intro ai s σ H D I h
 refine wpAny_For (dz (hi ai s σ H _ I h) λv s1 h1=>dz h1 λIA s2 h2=>?_) hs
 obtain⟨it,fp,tn,J,H2,e,I2,T,t8,f2,W,⟨m0,w0⟩,bW⟩:=h2
 subst e
 have mF:∀{H':Hp},(∀b∈fp,H' b=none)->∀b∈fp,kb X ai H' b:=λhn b hb=>⟨hn b hb,(f2 b hb).2⟩
 refine codeAny_forLoop_any (λn s'=>∃i σ' H',Inv X ai σ' H' s'/\tn i s'.heap/\(∀b∈fp,H' b=none)/\W i n σ' H') ?_ m0 ⟨0,σ,H2,I2,t8,λb hb=>(f2 b hb).1,w0⟩
 rintro n s3 ⟨i,σ3,H3,I3,PN,Ih,w3⟩
 rcases bW i n σ3 H3 w3 with⟨stop,qn⟩|⟨go,N,hN,step⟩
 ·refine eM hp (dz (T.done X rfl rfl rfl hc i ai s3 σ3 H3 X.xe I3 (mF Ih) PN stop) λr s4 ⟨hr,I4⟩=>?_)
  subst hr
  exact jL ⟨σ3,H3,I4,qn⟩
 ·refine eM hp (dz (T.item X rfl rfl rfl hc i ai s3 σ3 H3 X.xe I3 (mF Ih) PN go) λr s4 ⟨u,hr,h4⟩=>?_)
  subst hr
  refine eM hp (dz h4 λ_ s5 ⟨x,H5,I5,r5,y5,vB,zE⟩=>?_)
  have Tx:=I5.pinned (mF zE) (T.obj _ _ vB)
  refine eM hp (dz (hg _ s5 σ3 H5 x u _ Tx r5 (step x H5 y5)) λ_ s6 ⟨σ6,H6,I6,q6⟩=>?_)
  refine eM hp (dz (hb _ s6 σ6 H6 _ I6 q6) λf s7 q7=>?_)
  have again:∀{σ7:St} {H7:Hp},Inv X (ai++kM fp s5.heap) σ7 H7 s7->N σ7 H7->∃m,m<n/\∃i σ' H',Inv X ai σ' H' s7/\tn i s7.heap/\(∀b∈fp,H' b=none)/\W i m σ' H':=λ{σ7 H7} I7 n7=>by
   obtain⟨m',hm,w7⟩:=hN σ7 H7 n7
   refine⟨m',hm,i+1,σ7,H7,I7.unpinned,T.keep _ _ _ vB λb hb o e=>(I7.pin (b,o) (av _ (av _ (j4 hb e)))).1,λb hb=>?_,w7⟩
   obtain⟨o,e,d⟩:=T.obj _ _ vB b hb
   exact(I7.pin (b,o) (av _ (av _ (j4 hb e)))).2.1
  cases f with
  |next=>obtain⟨σ7,H7,I7,n7⟩:=q7;exact again I7 n7
  |cont=>obtain⟨σ7,H7,I7,n7⟩:=q7;exact again I7 n7
  |brk=>obtain⟨σ7,H7,I7,q7⟩:=q7;exact⟨σ7,H7,I7.unpinned,q7⟩
  |ret v=>obtain⟨x7,σ7,H7,I7,r7,q7⟩:=q7;exact⟨x7,σ7,H7,I7.unpinned,r7,q7⟩
end
end L2
namespace L2
open PySem PySem.Spec PyProof.Rows
abbrev R2:=V->V->Hp->VK->Prop
def fP (X:Cx)(f:ae->ae->oO ae)(r:R2):Prop :=
 ∀(ai:List (ah×dU)) (s:am) (σ:St) (H:Hp) (x y:V) (v u:ae) (Q:VK),Inv X ai σ H s->RelV x v->RelV y u->r x y H Q ->
  bi (ba X.prog X.w) X.A (f v u) (EP X ai σ Q) X.xe s
def HP (X:Cx)(f:ae->oO ae)(r:V->Hp->VK->Prop):Prop :=
 ∀(ai:List (ah×dU)) (s:am) (σ:St) (H:Hp) (x:V) (v:ae) (Q:VK),Inv X ai σ H s->RelV x v->r x H Q ->
  bi (ba X.prog X.w) X.A (f v) (EP X ai σ Q) X.xe s
def et (X:Cx)(f:ae)(r:List V->Hp->VK->Prop):Prop :=
 ∀(ai:List (ah×dU)) (s:am) (σ:St) (H:Hp) (xs:List V) (us:List ae) (Q:VK),Inv X ai σ H s->bX xs us->r xs H Q ->
  bi (ba X.prog X.w) X.A (call f us) (EP X ai σ Q) X.xe s
def IK (r:R2)(ta tb:TE):TE:=λσ H Q=>ta σ H λx H1=>tb σ H1 λy H2=>r x y H2 Q
def Yk (r:V->Hp->VK->Prop)(ta:TE):TE:=λσ H Q=>ta σ H λx H1=>r x H1 Q
def rI (C:Int->Int->Prop)(g:Int->Int->V):R2:=λx y H Q=>∃i j,x=.int i/\y=.int j/\C i j/\Q (g i j) H
def pJ (g:Int->Int->V):R2:=λx y H Q=>∃i j,x=.int i/\y=.int j/\Q (g i j) H
def rU (g:Int->V):V->Hp->VK->Prop:=λx H Q=>∃i,x=.int i/\Q (g i) H
section
variable {X:Cx}{a b c:Expr}{ta tb tc:TE}{pos:cY}
theorem xL (ha:PE X a ta)(hb:PE X b tb){ai:List (ah×dU)}{s:am}{σ:St}{H:Hp}{R:V->V->Hp->Prop}(I:Inv X ai σ H s)
  (h:ta σ H λx H1=>tb σ H1 λy H2=>R x y H2) {Q:ae->am->Prop} {f:ae->ae->oO ae}
  (hf:∀v u s2 x y H2,Inv X ai σ H2 s2->RelV x v->RelV y u->R x y H2->bi (ba X.prog X.w) X.A (f v u) Q X.xe s2) :
  bi (ba X.prog X.w) X.A (bJ a X.env) (λv s₁=>bi (ba X.prog X.w) X.A (bJ b X.env) (λu s₂=>bi (ba X.prog X.w) X.A (f v u) Q X.xe s₂) X.xe s₁) X.xe s:=by
 refine dz (ha ai s σ H _ I h) λv s1 ⟨x,H1,I1,r1,q1⟩=>?_
 refine dz (hb ai s1 σ H1 _ I1 q1) λu s2 ⟨y,H2,I2,r2,q2⟩=>?_
 exact hf v u s2 x y H2 I2 r1 r2 q2
theorem N8 {op:i8}{r:R2}(ho:fP X (d7 op) r)(ha:PE X a ta)(hb:PE X b tb):PE X (.BinOp a op b pos) (IK r ta tb):=by
 intro ai s σ H Q I h
 exact wpAny_BinOp (xL ha hb I h λv u s2 x y H2 I2 rx ry q=>ho ai s2 σ H2 x y v u Q I2 rx ry q)
theorem zut {op:UnaryOp}{r:V->Hp->VK->Prop}(ho:HP X (unaryOp op) r)(ha:PE X a ta):PE X (.UnaryOp op a pos) (Yk r ta):=by
 intro ai s σ H Q I h
 exact UnaryOp_ (dz (ha ai s σ H _ I h) λv s1 ⟨x,H1,I1,r1,q1⟩=>ho ai s1 σ H1 x v Q I1 r1 q1)
theorem Bs {f:ae->ae->oO ae}{C:Int->Int->Prop}{g:Int->Int->Int}
  (rule:∀(i j:Int) (t u:Tok) (s:am) (Q:ae->am->Prop) (E:ae->am->Prop),C i j->Q (.int (g i j) s.toks) { s with toks:=s.toks+1 }->bi (ba X.prog X.w) X.A (f (.int i t) (.int j u)) Q E s) :
  fP X f (rI C λi j=>.int (g i j)):=by
 intro ai s σ H x y v u Q I rx ry h
 obtain⟨i,j,rfl,rfl,hc,q⟩:=h
 obtain⟨t,rfl⟩:=rx
 obtain⟨t',rfl⟩:=ry
 exact rule i j t t' s _ _ hc ⟨.int (g i j),H,I.tok _,⟨_,rfl⟩,q⟩
theorem FW {f:ae->ae->oO ae}{g:Int->Int->Int}
  (rule:∀(i j:Int) (t u:Tok) (s:am) (Q:ae->am->Prop) (E:ae->am->Prop),Q (.int (g i j) s.toks) { s with toks:=s.toks+1 }->bi (ba X.prog X.w) X.A (f (.int i t) (.int j u)) Q E s) :
  fP X f (pJ λi j=>.int (g i j)):=by
 intro ai s σ H x y v u Q I rx ry h
 obtain⟨i,j,rfl,rfl,q⟩:=h
 obtain⟨t,rfl⟩:=rx
 obtain⟨t',rfl⟩:=ry
 exact rule i j t t' s _ _ ⟨.int (g i j),H,I.tok _,⟨_,rfl⟩,q⟩
theorem uY {f:ae->ae->oO ae}{g:Int->Int->Bool}
  (rule:∀(i j:Int) (t u:Tok) (s:am) (Q:ae->am->Prop) (E:ae->am->Prop),Q (.bool (g i j)) s->bi (ba X.prog X.w) X.A (f (.int i t) (.int j u)) Q E s) :
  fP X f (pJ λi j=>.bl (g i j)):=by
 intro ai s σ H x y v u Q I rx ry h
 obtain⟨i,j,rfl,rfl,q⟩:=h
 obtain⟨t,rfl⟩:=rx
 obtain⟨t',rfl⟩:=ry
 exact rule i j t t' s _ _ ⟨.bl (g i j),H,I,rfl,q⟩
def uH (i j:Int):Prop:=0<=j/\j<=1000000/\i.natAbs<2 ^ 64
def xB (i j:Int):Prop:=(-(2 ^ 64)<i/\i<2 ^ 64)\/(-(2 ^ 64)<j/\j<2 ^ 64)
theorem xB.ok {i j:Int}(h:xB i j):IntMulOk i j:=by
 rcases h with⟨h1,h2⟩|⟨h1,h2⟩
 ·exact .of_left (intBits_le_64 h1 h2)
 ·exact .of_right (intBits_le_64 h1 h2)
theorem ZE (k:Nat):(0:Int)<=2 ^ k:=by
 rw[two_pow_cast]
 exact Int.natCast_nonneg _
theorem zs0:fP X (d7 .Add) (pJ λi j=>.int (i+j)):=FW λ_ _ _ _ _ _ _ q=>add_int q
theorem AX:fP X (d7 .Sub) (pJ λi j=>.int (i-j)):=FW λ_ _ _ _ _ _ _ q=>sub_int q
theorem yz:fP X (d7 .Mod) (rI (λ_ j=>j≠0) λi j=>.int (i.fmod j)):=Bs λ_ _ _ _ _ _ _ hc q=>mod_int' hc q
theorem Sd:fP X (d7 .Pow) (rI uH λi j=>.int (i ^ j.toNat)):=Bs λ_ _ _ _ _ _ _ hc q=>pow_int_small hc.1 hc.2.1 hc.2.2 q
theorem zs1:fP X (d7 .LShift) (rI uH λi j=>.int (i*2 ^ j.toNat)):=Bs λ_ _ _ _ _ _ _ hc q=>lshift_int_small hc.1 hc.2.1 hc.2.2 q
theorem Se:fP X (d7 .RShift) (rI (λ_ j=>0<=j) λi j=>.int (i/2 ^ j.toNat)):=Bs λi j _ _ _ _ _ hc q=>
 rshift_int hc (by rw[gP i (ZE _)];exact q)
theorem Yq {f:ae->oO ae}{g:Int->Int}
  (rule:∀(i:Int) (t:Tok) (s:am) (Q:ae->am->Prop) (E:ae->am->Prop),Q (.int (g i) s.toks) { s with toks:=s.toks+1 }->bi (ba X.prog X.w) X.A (f (.int i t)) Q E s) :
  HP X f (rU λi=>.int (g i)):=by
 intro ai s σ H x v Q I rx h
 obtain⟨i,rfl,q⟩:=h
 obtain⟨t,rfl⟩:=rx
 exact rule i t s _ _ ⟨.int (g i),H,I.tok _,⟨_,rfl⟩,q⟩
theorem zs2:HP X (unaryOp .USub) (rU λi=>.int (-i)):=Yq λ_ _ _ _ _ q=>neg_int q
end
section
variable {X:Cx}{a b c:Expr}{ta tb tc:TE}{pos:cY}
theorem JB {ai:List (ah×dU)}{σ:St}{H:Hp}{s:am}{Q:VK}{k k':Bool}(I:Inv X ai σ H s)(q:Q (.bl k) H)(e:k=k'):EP X ai σ Q (.bool k') s:=by
 subst e
 exact⟨.bl k,H,I,rfl,q⟩
theorem sy:fP X (ck .Lt) (pJ λi j=>.bl (decide (i<j))):=uY λ_ _ _ _ _ _ _ q=>lt_int q
theorem zuu:fP X (ck .LtE) (pJ λi j=>.bl (decide (i<=j))):=uY λ_ _ _ _ _ _ _ q=>le_int q
theorem A0:fP X (ck .Gt) (pJ λi j=>.bl (decide (j<i))):=uY λ_ _ _ _ _ _ _ q=>gt_int q
theorem JI:fP X (ck .GtE) (pJ λi j=>.bl (decide (j<=i))):=uY λ_ _ _ _ _ _ _ q=>ge_int q
theorem zs3:fP X (ck .Is) (λx y H Q=>y=.non/\Q (.bl (decide (x=.non))) H):=by
 intro ai s σ H x y v u Q I rx ry h
 obtain⟨rfl,q⟩:=h
 cases ry
 refine is_none_gen (JB I q ?_)
 cases x<;>first
  |(cases rx;rfl)
  |(obtain⟨t,rfl⟩:=rx;rfl)
theorem zp2:fP X (ck .IsNot) (λx y H Q=>y=.non/\Q (.bl (!decide (x=.non))) H):=by
 intro ai s σ H x y v u Q I rx ry h
 obtain⟨rfl,q⟩:=h
 cases ry
 refine isnot_none_gen (JB I q ?_)
 cases x<;>first
  |(cases rx;rfl)
  |(obtain⟨t,rfl⟩:=rx;rfl)
theorem fP.or {f:ae->ae->oO ae}{r r':R2}(h:fP X f r)(h':fP X f r'):fP X f (λx y H Q=>r x y H Q\/r' x y H Q):=by
 intro ai s σ H x y v u Q I rx ry q
 rcases q with q|q
 ·exact h ai s σ H x y v u Q I rx ry q
 ·exact h' ai s σ H x y v u Q I rx ry q
theorem bo (b:Expr){op:jK}(h:op≠.In:=by decide)(h2:op≠.NotIn:=by decide):dL op b=false:=by
 have e1:(op==jK.In)=false:=by cases op<;>first|rfl|exact absurd rfl h
 have e2:(op==jK.NotIn)=false:=by cases op<;>first|rfl|exact absurd rfl h2
 cases b<;>simp[dL,e1,e2]
theorem zp3 {op:jK}{r:R2}(ho:fP X (ck op) r)(ha:PE X a ta)(hb:PE X b tb)(hm:dL op b=false):PE X (.Compare a [op] [b] pos) (IK r ta tb):=by
 intro ai s σ H Q I h
 exact wpAny_Compare1 (xL ha hb I h λv u s2 x y H2 I2 rx ry q=>ho ai s2 σ H2 x y v u Q I2 rx ry q) hm
def wR (t:TE):TT:=λσ H Q=>t σ H λx H'=>∃k,x=.bl k/\Q k H'
theorem zp4 {op:jK}{r:R2}(ho:fP X (ck op) r)(ha:PE X a ta)(hb:PE X b tb)(hm:dL op b=false):PT X (.Compare a [op] [b] pos) (wR (IK r ta tb)):=by
 intro ai s σ H Q I h
 refine wpAny_isTrue_Compare1 (dz (ha ai s σ H _ I h) λv s1 ⟨x,H1,I1,r1,q1⟩=>dz (hb ai s1 σ H1 _ I1 q1) λu s2 ⟨y,H2,I2,r2,q2⟩=>
  dz (ho ai s2 σ H2 x y v u _ I2 r1 r2 q2) λc s3 ⟨z,H3,I3,r3,k,e,q3⟩=>?_) hm
 subst e
 cases r3
 exact di ⟨H3,I3,q3⟩
def tM (r r':R2)(ta tb tc:TE):TE:=λσ H Q=>ta σ H λx H1=>tb σ H1 λy H2=>r x y H2 λz H3=>∃k,z=.bl k /\
 (if k=true then tc σ H3 λw' H4=>r' y w' H4 Q else Q (.bl false) H3)
theorem zm6 {op Au:jK}{r r':R2}(ho:fP X (ck op) r)(qN:fP X (ck Au) r')(ha:PE X a ta)(hb:PE X b tb)(hc:PE X c tc)
  (hm:lastMarks [op,Au] [b,c]=false:=by with_unfolding_all rfl):PT X (.Compare a [op,Au] [b,c] pos) (wR (tM r r' ta tb tc)):=by
 intro ai s σ H Q I h
 refine isTrue_chain (dz (ha ai s σ H _ I h) λv s1 ⟨x,H1,I1,r1,q1⟩=>test_link (dz (hb ai s1 σ H1 _ I1 q1) λu s2 ⟨y,H2,I2,r2,q2⟩=>
  dz (ho ai s2 σ H2 x y v u _ I2 r1 r2 q2) λd s3 ⟨z,H3,I3,r3,k,e,q3⟩=>?_)) hm
 subst e
 cases r3
 refine di ?_
 cases k with
 |false=>
  obtain⟨k',e',q'⟩:=q3
  cases e'
  exact ite_ff ⟨H3,I3,q'⟩
 |true=>
  refine ite_tt (test_last (dz (hc ai s3 σ H3 _ I3 q3) λw' s4 ⟨z',H4,I4,r4,q4⟩=>dz (qN ai s4 σ H4 y z' u w' _ I4 r2 r4 q4) λd' s5 ⟨z2,H5,I5,r5,k2,e2,q5⟩=>?_))
  subst e2
  cases r5
  exact di ⟨H5,I5,q5⟩
theorem jN:(sizeLine:Nat)<2 ^ 63:=by rw[cy];decide
theorem ZF:fP X (d7 .Add) (λx y H Q=>∃i j,x=.str i/\y=.str j/\i.length+j.length<=sizeLine/\Q (.str (i++j)) H):=by
 intro ai s σ H x y v u Q I rx ry h
 obtain⟨i,j,rfl,rfl,hz,q⟩:=h
 obtain⟨t,rfl⟩:=rx
 obtain⟨t',rfl⟩:=ry
 exact add_str (λt' tk=>⟨.str (i++j),H,I.tok _,⟨_,rfl⟩,q⟩) hz
theorem mG {x:V}{us:List ae}(r:bX [x] us):∃u,us=[u]/\RelV x u:=by
 cases r with
 |cons r1 r2=>cases r2;exact⟨_,rfl,r1⟩
theorem vals2 {x y:V}{us:List ae}(r:bX [x,y] us):∃u w',us=[u,w']/\RelV x u/\RelV y w':=by
 cases r with
 |cons r1 r2=>
  cases r2 with
  |cons r3 r4=>cases r4;exact⟨_,_,rfl,r1,r3⟩
theorem Jb:et X (.builtin "abs") (λxs H Q=>∃i,xs=[.int i]/\Q (.int (if i<0 then -i else i)) H):=by
 intro ai s σ H xs us Q I r h
 obtain⟨i,rfl,q⟩:=h
 obtain⟨u,rfl,t,rfl⟩:=mG r
 exact call_abs_int λu tk=>⟨.int (if i<0 then -i else i),H,I.tok _,⟨_,rfl⟩,q⟩
theorem YX:et X (.type "str") (λxs H Q=>∃i,xs=[.int i]/\i.natAbs.log2<1920/\Q (.str (toString i)) H):=by
 intro ai s σ H xs us Q I r h
 obtain⟨i,rfl,hz,q⟩:=h
 obtain⟨u,rfl,t,rfl⟩:=mG r
 exact PySem.P.str_of_int hz ⟨.str _,H,I.tok _,⟨_,rfl⟩,q⟩
end
end L2
namespace L2
open PySem PySem.Spec PyProof.Rows
structure pU (h:aZ)(x dx C:ah)(mA:aQ->Option ae):Prop where
 obj:h.get? x=some (dW C dx)
 ns:h.Ns1 dx mA
 ne:dx≠x
theorem Z3 {h:aZ}{dx:ah}{mA:aQ->Option ae}(n:h.Ns1 dx mA):∃od,h.get? dx=some od/\∀name,iS name od=some (mA name):=by
 obtain⟨o,es,ep,ho,hd,hk,_,hm⟩:=n
 refine⟨o,ho,λname=>?_⟩
 have e:=hm name
 unfold nsFind findBy at e
 rw[←Array.find?_toList]at e
 unfold iS
 rw[hd]
 dsimp only
 split
 ·rename_i y q
  rw[q]at e
  exact congrArg some e
 ·rename_i q
  rw[q]at e
  have a:es.toList.any (·.refKey)=false:=by
   rw[List.any_eq_false]
   intro y hy
   obtain⟨z,t,LB⟩:=hk y (Array.mem_toList_iff.mp hy)
   simp[DictEntry.refKey,LB]
  have a':¬es.toList.any (·.refKey)=true:=by rw[a];exact aK
  rw[if_neg a']
  exact congrArg some e
theorem pU.look {h:aZ}{x dx C:ah}{mA:aQ->Option ae}(I:pU h x dx C mA):∃od,PySem.W.InstAt h x (dW C dx) C (some od)/\∀name,iS name od=some (mA name) :=
 let⟨od,ho,hl⟩:=Z3 I.ns
 ⟨od,⟨I.obj,rfl,rfl,ho⟩,hl⟩
section
variable {prog:bB}{w:cj}{A:bR}{E:ae->am->Prop}{s:am}{K:aa}{x dx C f:ah}{mA:aQ->Option ae}{name:aQ}{v:ae}
theorem zp5 {expr:Bool}{Q:ae->am->Prop}(X:K.In s.heap)(I:pU s.heap x dx C mA)(hg:dk K C name=true)(hh:dF K C=true)
  (ha:aA K (.ref C) name=some none) (hv:mA name=some v) (Af:qG v=true) (h:Q v { s with toks:=s.toks+1 }) :
  bi (ba prog w) A (getAttr (.ref x) name expr) Q E s:=by
 obtain⟨od,J,hl⟩:=I.look
 exact PySem.W.get_value X J (jA hg).1 (PySem.W.findObj_own hh ha rfl (by rw[hl,hv])) Af h
theorem zm7 {pl:oO Bool}{Q:ae×List ae->am->Prop}(X:K.In s.heap)(I:pU s.heap x dx C mA)(hg:dk K C name=true)
  (hf:aA K (.ref C) name=some (some (.ref f))) (ht:el K (.ref f)=true) (hv:mA name=none) (h:Q (.ref f,[.ref x]) s) :
  bi (ba prog w) A (gC (.ref x) name pl) Q E s:=by
 obtain⟨od,J,hl⟩:=I.look
 exact PySem.W.method_fn X J (jA hg).1 (jA hg).2 hf (beq_iff_eq.mp ht) (by show(iS name od).map (·.isSome)=some false;rw[hl,hv];rfl) h
theorem zp6 {ns:List aQ}{Q:Unit->am->Prop}(X:K.In s.heap)(I:pU s.heap x dx C mA)
  (hs:aA K (.ref C) "__setattr__"=some (some (.builtin "object.__setattr__"))) (hp:dY K C=true) (ht:kX K C name=some none) (hh:dF K C=true)
  (hw:PySem.Within mA ns) (hsz:ns.length<=sizeLine)
  (h:∀h',pU h' x dx C (λy=>if y=name then some v else mA y)->gE dx s.heap h'->Q () { s with heap:=h',toks:=s.toks+2 }) :
  bi (ba prog w) A (setAttr (.ref x) name v) Q E s:=by
 obtain⟨od,J,hl⟩:=I.look
 refine PySem.W.set_plain X J hs (PySem.W.osa_open (s:={ s with toks:=s.toks+1 }) (r:=none) X J hp ht λb=>?_)
 obtain⟨cd,hc,Eo⟩:=PySem.W.any_some hh
 have hx:s.heap.get? x=some ⟨.ref C,some dx,.plain,#[]⟩:=I.obj
 refine aR (bS (aR (aR (wpAny_loadPart hx (aR (PySem.W.Looks.here (s:={ s with toks:=s.toks+1 }) (PySem.W.looks_clsIn X hc) ?_))))))
 rw[Eo]
 refine bS (a:=some dx) (aR (bS (aR ?_)))
 refine wpAny_nsSet1 (s:={ s with toks:=s.toks+1 }) I.ns λh' wC mR=>?_
 obtain⟨oD,esD,epD,Vm,U7,U6⟩:=wC.count (PySem.Within.cons name v hw)
 refine aR (wpAny_lookBehind Vm (by rw[U7];exact pastItsLine_dict (cL U6 (by rw[aI];omega))) ?_)
 exact bS (h _ ⟨(mR.2 _ (Ne.symm I.ne)).trans I.obj,wC,I.ne⟩ mR)
theorem zm8 {R:Result->am->Prop}{vs:List ae}{kw:List (aQ×ae)}(X:K.In s.heap)(hm:dX K C=true)
  (hi:aA K (.ref C) "__init__"=some (some (.ref f))) (hf:PySem.W.typeIn K (.ref f)=some (.type "function"))
  (h:gc (ba prog w) (A.under (.builtin "type.__call__" ⟨.ref C::vs,kw⟩)) (.call (.ref f) ⟨.ref (s.heap.objs.size+1)::vs,kw⟩) (PySem.W.InitBack (s.heap.objs.size+1) R)
   { s with heap:=(s.heap.push cW).push (dW C s.heap.objs.size) }) :
  gc (ba prog w) A (.call (.ref C) ⟨vs,kw⟩) R s:=by
 obtain⟨hh,g,d,t,os⟩:=s
 exact PySem.W.make_core (PySem.W.makes_of X hm) (PySem.W.looks_findIn X hi) (λself=>PySem.W.bind_fn X self hf) (.inl rfl) h
end
def iN (f:aQ)(v:V):List (aQ×V)->List (aQ×V)
 |[]=>[(f,v)]
 |(g,x)::r=>if g=f then(g,v)::r else(g,x)::iN f v r
theorem Ql (f g:aQ)(v:V):∀fs:List (aQ×V),(iN f v fs).lookup g=if g=f then some v else fs.lookup g
 |[]=>by
  show gj g [(f,v)]=_
  by_cases h:g=f
  ·have hb:(g==f)=true:=beq_iff_eq.mpr h
   simp only[gj,hb,if_pos h]
  ·have hb:(g==f)=false:=beq_eq_false_iff_ne.mpr h
   simp only[gj,hb,if_neg h]
 |(k,x)::r=>by
  have ih:=Ql f g v r
  rw[show iN f v ((k,x)::r)=(if k=f then(k,v)::r else(k,x)::iN f v r)from rfl]
  by_cases hk:k=f
  ·rw[if_pos hk]
   by_cases h:g=k
   ·have hb:(g==k)=true:=beq_iff_eq.mpr h
    simp only[gj,hb,if_pos (h.trans hk)]
   ·have hb:(g==k)=false:=beq_eq_false_iff_ne.mpr h
    simp only[gj,hb,if_neg (λe:g=f=>h (e.trans hk.symm))]
  ·rw[if_neg hk]
   by_cases h:g=k
   ·have hb:(g==k)=true:=beq_iff_eq.mpr h
    simp only[gj,hb,if_neg (λe:g=f=>hk (h.symm.trans e))]
   ·have hb:(g==k)=false:=beq_eq_false_iff_ne.mpr h
    simp only[gj,hb]
    exact ih
theorem M3 (f:aQ)(v:V):∀fs:List (aQ×V),f∈(iN f v fs).map (·.1)/\∀g,g∈fs.map (·.1)->g∈(iN f v fs).map (·.1)
 |[]=>⟨by simp[iN],λg h=>by simp at h⟩
 |(k,x)::r=>by
  obtain⟨i1,i2⟩:=M3 f v r
  rw[show iN f v ((k,x)::r)=(if k=f then(k,v)::r else(k,x)::iN f v r)from rfl]
  by_cases hk:k=f
  ·rw[if_pos hk]
   subst hk
   exact⟨by simp,λg h=>by simpa using h⟩
  ·rw[if_neg hk]
   refine⟨?_,λg h=>?_⟩
   ·rw[aO]
    exact aj _ i1
   ·rw[aO]at h ⊢
    rcases aF.mp h with e|e
    ·exact aF.mpr (.inl e)
    ·exact aj _ (i2 g e)
theorem Qm (f:aQ)(v:V):∀fs:List (aQ×V),(iN f v fs).length<=fs.length+1
 |[]=>by simp[iN]
 |(k,x)::r=>by
  have ih:=Qm f v r
  rw[show iN f v ((k,x)::r)=(if k=f then(k,v)::r else(k,x)::iN f v r)from rfl]
  by_cases hk:k=f
  ·rw[if_pos hk,aI,aI];omega
  ·rw[if_neg hk,aI,aI];omega
theorem jD.some_of {v:V}{o:Option ae}(r:jD (some v) o):∃u,o=some u/\RelV v u:=by
 cases o with
 |none=>exact(show False from r).elim
 |some u=>exact⟨u,rfl,r⟩
theorem jD.none_of {o:Option ae}(r:jD none o):o=none:=by
 cases o with
 |none=>rfl
 |some u=>exact(show False from r).elim
theorem Z4 {v:V}{u:ae}(r:RelV v u):qG u=true:=by
 cases v with
 |non=>cases(show u=ae.none from r);rfl
 |bl b=>cases(show u=ae.bool b from r);rfl
 |int i=>obtain⟨t,e⟩:=(show∃t,u=ae.int i t from r);cases e;rfl
 |str x=>obtain⟨t,e⟩:=(show∃t,u=ae.str x t from r);cases e;rfl
 |byt b=>obtain⟨t,e⟩:=(show∃t,u=ae.bytes b t from r);cases e;rfl
 |flt b=>obtain⟨t,e⟩:=(show∃t,u=ae.float b t from r);cases e;rfl
 |ref a=>cases(show u=ae.ref a from r);rfl
 |ty n=>cases(show u=ae.type n from r);rfl
section
variable {P:bB}{w:cj}{H H':Hp}{h h':aZ}{a C dx:ah}{fs UC:List (aQ×V)}
theorem Jl (hok:jU P w H h)(e:H a=some (.ins C dx fs)):∃mA,pU h a dx C mA/\(∀f,jD (fs.lookup f) (mA f))/\PySem.Within mA (fs.map (·.1))/\fs.length<=1000/\H dx=some (.own a):=by
 obtain⟨d,z,ne,ob,mA,n,r,q⟩:=(show d4 P w H h a (.ins C dx fs)from hok a _ e)
 exact⟨mA,⟨ob,n,ne⟩,r,q,z,d⟩
end
structure mj (K:aa)(C:ah):Prop where
 pg:dk K C aQ.empty=true
 hd:dF K C=true
 po:dY K C=true
 sa:aA K (.ref C) "__setattr__"=some (some (.builtin "object.__setattr__"))
theorem mj.get {K:aa}{C:ah}(c:mj K C)(f:aQ):dk K C f=true:=c.pg
def fD (K:aa)(C:ah)(f:aQ):Prop:=aA K (.ref C) f=some none
theorem fD.taker {K:aa}{C:ah}{f:aQ}(n:fD K C f):kX K C f=some none:=by
 unfold kX
 rw[show aA K (.ref C) f=some none from n]
 rfl
structure pT (K:aa)(C:ah)(m:aQ)(f:ah):Prop where
 at_:aA K (.ref C) m=some (some (.ref f))
 fn:el K (.ref f)=true
 kp:ao K (.ref f)=true
section
variable {X:Cx}{ai:List (ah×dU)}{σ:St}{H:Hp}{s:am}{a C dx:ah}{fs:List (aQ×V)}{f:aQ}{v:V}{A:bR}{E:ae->am->Prop}
theorem ZG {b:Bool}{Q:ae->am->Prop}(I:Inv X ai σ H s)(e:H a=some (.ins C dx fs))(c:mj X.K C)(n:fD X.K C f)(l:fs.lookup f=some v)
  (h:∀u s',Inv X ai σ H s'->RelV v u->Q u s'):bi (ba X.prog X.w) A (getAttr (.ref a) f b) Q E s:=by
 obtain⟨mA,O,r,_,_,_⟩:=Jl I.hok e
 obtain⟨u,hu,ru⟩:=jD.some_of (v:=v) (o:=mA f) (by rw[←l];exact r f)
 exact zp5 I.kIn O (c.get f) c.hd n hu (Z4 ru) (h u _ (I.tok _) ru)
theorem MY {m:aQ}{g:ah}{pl:oO Bool}{Q:ae×List ae->am->Prop}(I:Inv X ai σ H s)(e:H a=some (.ins C dx fs))(c:mj X.K C)(k:pT X.K C m g)(l:fs.lookup m=none)
  (h:Q (.ref g,[.ref a]) s):bi (ba X.prog X.w) A (gC (.ref a) m pl) Q E s:=by
 obtain⟨mA,O,r,_,_,_⟩:=Jl I.hok e
 have hn:mA m=none:=jD.none_of (by rw[←l];exact r m)
 exact zm7 I.kIn O (c.get m) k.at_ k.fn hn h
theorem ZH {y:V}{u:ae}{Q:Unit->am->Prop}(I:Inv X ai σ H s)(e:H a=some (.ins C dx fs))(c:mj X.K C)(n:fD X.K C f)(hl:fs.length<1000)(ry:RelV y u)
  (h:∀s',Inv X ai σ (upd H a (.ins C dx (iN f y fs))) s'->Q () s'):bi (ba X.prog X.w) A (setAttr (.ref a) f u) Q E s:=by
 obtain⟨mA,O,r,wi,_,ho⟩:=Jl I.hok e
 have hz:(fs.map (·.1)).length<=sizeLine:=by rw[ak,cy];omega
 refine zp6 I.kIn O c.sa c.po n.taker c.hd wi hz λh' O' sb=>h _ ?_
 have hd:∃o,h'.get? dx=some o:=let⟨o,_,_,e',_⟩:=O'.ns;⟨o,e'⟩
 refine I.write (x:=a) (e:=dx) (by rw[e];exact True.intro) (.inr ho) (λb q hb z=>(sb.2 b hb).trans z) hd ?_
 refine⟨by rw[ym O.ne];exact ho,?_,O.ne,O'.obj,_,O'.ns,λg=>?_,λg hg=>?_⟩
 ·have:=Qm f y fs;omega
 ·show jD ((iN f y fs).lookup g) (if g=f then some u else mA g)
  rw[Ql]
  by_cases q:g=f
  ·rw[if_pos q,if_pos q];exact ry
  ·rw[if_neg q,if_neg q];exact r g
 ·by_cases q:g=f
  ·rw[q];exact(M3 f y fs).1
  ·refine(M3 f y fs).2 g (wi g λz=>hg ?_)
   show(if g=f then some u else mA g)=none
   rw[if_neg q];exact z
theorem Inv.made (I:Inv X ai σ H s):Inv X ai σ (upd (upd H s.heap.objs.size (.own (s.heap.objs.size+1))) (s.heap.objs.size+1) (.ins C s.heap.objs.size []))
  { s with heap:=(s.heap.push cW).push (dW C s.heap.objs.size) }:=by
 have e1:(s.heap.push cW).get? s.heap.objs.size=some cW:=bQ s.heap rfl
 have e2:((s.heap.push cW).push (dW C s.heap.objs.size)).get? (s.heap.objs.size+1)=some (dW C s.heap.objs.size):=by
  have:=bQ (s.heap.push cW) (o:=dW C s.heap.objs.size) rfl
  rwa[fI]at this
 have e3:(s.heap.push cW).Ns s.heap.objs.size (λ_=>none):=⟨cW,#[],_,e1,rfl,(λe he=>absurd he (by simp)),λ_=>rfl⟩
 have I1:=I.laid (a:=s.heap.objs.size) (o:=.own (s.heap.objs.size+1)) (h':=s.heap.push cW) (t':=s.toks) (λb u q=>aC _ q) (aM _) ⟨_,e1⟩
 refine I1.laid (a:=s.heap.objs.size+1) (o:=.ins C s.heap.objs.size []) (t':=s.toks) (λb u q=>aC _ q) (Nat.le_of_eq (fI _ _)) ?_
 have ne:s.heap.objs.size≠s.heap.objs.size+1:=bw (iG _)
 refine⟨by rw[ym ne,yt],de _,ne,e2,λ_=>none,(aZ.Ns1.of_empty e3).at λo q=>aC _ q,λ_=>True.intro,λy hy=>absurd rfl hy⟩
theorem zp7 {prog:bB}{w:cj}{env:Env}{e:Expr}{f:aQ}{pos:cY}{s:am}{Q:ae->am->Prop}(hb:dJ e f env (bJ e env)=bJ e env)
  (h:bi (ba prog w) A (bJ e env) (λo s₁=>bi (ba prog w) A (getAttr o f true) Q E s₁) E s):bi (ba prog w) A (bJ (.Attribute e f pos) env) Q E s :=
 Attribute_any_ h (by rw[arm_eval_Attribute,hb])
end
def Mt (K:aa)(ta:TE)(f:aQ):TE:=λσ H Q=>ta σ H λx H1=>∃a C dx fs v,x=.ref a/\H1 a=some (.ins C dx fs)/\mj K C/\fD K C f/\fs.lookup f=some v/\Q v H1
def Mj (K:aa)(ta tv:TE)(f:aQ):TS:=λD σ H=>tv σ H λy H1=>ta σ H1 λx H2=>∃a C dx fs,x=.ref a/\H2 a=some (.ins C dx fs)/\mj K C/\fD K C f/\fs.length<1000 /\
 D.nx σ (upd H2 a (.ins C dx (iN f y fs)))
section
variable {X:Cx}{o e value:Expr}{f:aQ}{pos pos' iF:cY}{ta tv:TE}
theorem zs4 (he:PE X e ta)(hb:dJ e f X.env (bJ e X.env)=bJ e X.env):PE X (.Attribute e f pos) (Mt X.K ta f):=by
 intro ai s σ H Q I h
 refine zp7 hb (dz (he ai s σ H _ I h) λu s1 ⟨x,H1,I1,rx,a,C,dx,fs,v,ex,ea,c,n,l,q⟩=>?_)
 subst ex
 obtain rfl:u=ae.ref a:=rx
 exact ZG I1 ea c n l λu' s2 I2 ru=>⟨v,H1,I2,ru,q⟩
theorem zs5 (ha:PE X o ta)(hv:PE X value tv)(hs:dw value (some (.Attribute o f pos')) pos.line X.env=pure false):PS X (.Assign [.Attribute o f pos'] value pos) (Mj X.K ta tv f):=by
 intro ai s σ H D I h
 refine plainObj_wpAny_Assign_Attribute (dz (hv ai s σ H _ I h) λu s1 ⟨y,H1,I1,ry,q⟩=>dz (ha ai s1 σ H1 _ I1 q) λov s2 ⟨x,H2,I2,rx,a,C,dx,fs,ex,ea,c,n,l,q2⟩=>?_) hs
 subst ex
 obtain rfl:ov=ae.ref a:=rx
 exact ZH I2 ea c n l ry λs3 I3=>⟨σ,_,I3,q2⟩
def Az:V->V->Hp->VK->Prop:=λx y H Q=>∃i j,x=.int i/\y=.int j/\Q (.int (i+j)) H
theorem zp8 {pl:oO Bool}{m:aQ}{dD:cY}{args:List Expr}{ai:List (ah×dU)}{s:am}{σ:St}{H:Hp}{Q:ae->am->Prop}{te:TE}(he:PE X e te)(I:Inv X ai σ H s)
  (h:te σ H λx H1=>∃a C dx fs g,x=.ref a/\H1 a=some (.ins C dx fs)/\mj X.K C/\pT X.K C m g/\fs.lookup m=none /\
   ∀s1,Inv X ai σ H1 s1->bi (ba X.prog X.w) X.A (i9 pos (.ref g) [.ref a] (cB pos (aq args X.env)) (eL pos (dC [] X.env))) Q X.xe s1)
  (ht:bJ (.Call (.Attribute e m dD) args [] pos) X.env=(do
   let ov ← bJ e X.env
   hU dD.atName
   let(f,first) ← eG [ov] (gC ov m pl)
   i9 pos f first (cB pos (aq args X.env)) (eL pos (dC [] X.env)))) :
  bi (ba X.prog X.w) X.A (bJ (.Call (.Attribute e m dD) args [] pos) X.env) Q X.xe s:=by
 refine fM (pl:=pl) (dz (he ai s σ H _ I h) λu s1 ⟨x,H1,I1,rx,a,C,dx,fs,g,ex,ea,c,k,l,q⟩=>?_) ht
 subst ex
 obtain rfl:u=ae.ref a:=rx
 exact MY I1 ea c k l (q s1 I1)
end
section
variable {X:Cx}{ai:List (ah×dU)}{σ:St}{H:Hp}{s:am}{A:bR}{E:ae->am->Prop}{Q:ae->am->Prop}{c:ae}{b:Bool}
inductive jM (K:aa)(H:Hp):V->ae->Prop where
 |non:jM K H .non (.type "NoneType")
 |bl (x:Bool):jM K H (.bl x) (.type "bool")
 |int (i:Int):jM K H (.int i) (.type "int")
 |str (x:aQ):jM K H (.str x) (.type "str")
 |flt (x:UInt64):jM K H (.flt x) (.type "float")
 |lst {a:ah} {xs:List V} (e:H a=some (.lst xs)):jM K H (.ref a) (.type "list")
 |frz {a:ah} {o:dU} {xs:List V} (e:H a=some (.frz o (.lst xs))):jM K H (.ref a) (.type "list")
 |tup {a:ah} {xs:List V} (e:H a=some (.tup xs)):jM K H (.ref a) (.type "tuple")
 |dK {a:ah} {cE:List (eR×V)} (e:H a=some (.dK cE)):jM K H (.ref a) (.type "dict")
 |dT {a:ah} {cE:List (List eR×V)} (e:H a=some (.dT cE)):jM K H (.ref a) (.type "dict")
 |ins {a C dx:ah} {fs:List (aQ×V)} (e:H a=some (.ins C dx fs)) (cl:mj K C) (ha:aA K (.ref C) "__class__"=some (some (.builtin "object.__class__")))
   (hn:dZ K (.builtin "object.__class__") "__get__"=some (some (.builtin "getset_descriptor.__get__"))) (O7:kY K (.builtin "object.__class__")=some true)
   (hm:eX K C (.type "object")=some true):jM K H (.ref a) (.ref C)
theorem QF {x:V}{u t:ae}(I:Inv X ai σ H s)(rx:RelV x u)(ty:jM X.K H x t)(e:bO X.K t c=some b)(h:∀tk,Q (.bool b) { s with toks:=tk }) :
  bi (ba X.prog X.w) A (call (.builtin "isinstance") [u,c]) Q E s:=by
 cases ty with
 |non=>cases(show u=ae.none from rx);exact cF PySem.W.kitx_none I.kIn True.intro e (λz=>nomatch z) h
 |bl y=>cases(show u=ae.bool y from rx);exact cF PySem.W.kitx_bool I.kIn True.intro e (λz=>nomatch z) h
 |int i=>obtain⟨t,q⟩:=(show∃t,u=ae.int i t from rx);cases q;exact cF PySem.W.kitx_int I.kIn True.intro e (λz=>nomatch z) h
 |str y=>obtain⟨t,q⟩:=(show∃t,u=ae.str y t from rx);cases q;exact cF PySem.W.kitx_str I.kIn True.intro e (λz=>nomatch z) h
 |flt y=>obtain⟨t,q⟩:=(show∃t,u=ae.float y t from rx);cases q;exact cF PySem.W.kitx_float I.kIn True.intro e (λz=>nomatch z) h
 |@lst a xs ea=>
  cases(show u=ae.ref a from rx)
  obtain⟨_,_,n,_,h1⟩:=(show d4 X.prog X.w H s.heap a (.lst xs)from I.hok a _ ea)
  exact cF jS I.kIn ⟨_,h1,rfl⟩ e (λz=>nomatch z) h
 |@frz a ob xs ea=>
  cases(show u=ae.ref a from rx)
  obtain⟨_,_,_,n,_,h1⟩:=(show d4 X.prog X.w H s.heap a (.frz ob (.lst xs))from I.hok a _ ea)
  exact cF jS I.kIn ⟨_,h1,rfl⟩ e (λz=>nomatch z) h
 |@tup a xs ea=>
  cases(show u=ae.ref a from rx)
  obtain⟨_,_,_,p⟩:=(show d4 X.prog X.w H s.heap a (.tup xs)from I.hok a _ ea)
  obtain⟨o,h1,h2,_⟩:=p
  exact cF PySem.W.kitx_tuple I.kIn ⟨o,h1,h2⟩ e (λz=>nomatch z) h
 |@dK a cE ea=>
  cases(show u=ae.ref a from rx)
  obtain⟨_,_,vs,_,p⟩:=(show d4 X.prog X.w H s.heap a (.dK cE)from I.hok a _ ea)
  obtain⟨o,es,ep,h1,h2,_⟩:=p
  exact cF pO I.kIn ⟨o,h1,h2.1⟩ e (λz=>nomatch z) h
 |@dT a cE ea=>
  cases(show u=ae.ref a from rx)
  obtain⟨_,_,xs,_,o,es,ep,h1,h2,_⟩:=(show d4 X.prog X.w H s.heap a (.dT cE)from I.hok a _ ea)
  exact cF pO I.kIn ⟨o,h1,h2.1⟩ e (λz=>nomatch z) h
 |@ins a C dx fs ea cl ha hn O7 hm=>
  cases(show u=ae.ref a from rx)
  obtain⟨mA,O,_⟩:=Jl I.hok ea
  obtain⟨od,J,_⟩:=O.look
  exact cF (PySem.W.kitx_own (cl.get _) cl.hd ha hn O7 hm) I.kIn J e (λz=>nomatch z) h
end
end L2
namespace L2
open PySem PySem.Spec PyProof.Rows
structure eo (k:Nat)(A:bR):Prop where
 hd:A.handled=none
 dp:A.depth+3*k+5<recursionLimit
 un:A.units+16*k+200<gK
theorem eo.mono {j k:Nat}{A:bR}(r:eo k A)(h:j<=k):eo j A:=⟨r.hd,by have:=r.dp;omega,by have:=r.un;omega⟩
theorem eo.deeper {k:Nat}{A:bR}(r:eo (k+1) A)(env:Env):eo k (A.deeper env) :=
 ⟨r.hd,by have:=r.dp;show A.depth+1+3*k+5<_;omega,by have:=r.un;show A.units+3+16*k+200<_;omega⟩
theorem ZI {A:bR}{C:ah}{us:List ae}{kw:List (aQ×ae)}:(A.under (.builtin "type.__call__" ⟨.ref C::us,kw⟩)).depth=A.depth+1:=by
 first|rfl|simp[bR.under,qE.weight,qE.isCreation,qE.isGuard,qE.isCaller,qE.frames,qE.isFrame,guardIds]
theorem ZJ {A:bR}{C:ah}{us:List ae}{kw:List (aQ×ae)}:(A.under (.builtin "type.__call__" ⟨.ref C::us,kw⟩)).units=A.units+1:=by
 first|rfl|simp[bR.under,qE.cUnits,qE.frames,qE.isFrame]
theorem eo.make {k:Nat}{A:bR}(r:eo (k+1) A)(C:ah)(us:List ae)(kw:List (aQ×ae)):eo k (A.under (.builtin "type.__call__" ⟨.ref C::us,kw⟩)) :=
 ⟨r.hd,by have:=r.dp;rw[ZI];omega,by have:=r.un;rw[ZJ];omega⟩
theorem eo.depth {k:Nat}{A:bR}(r:eo k A):A.depth<recursionLimit:=by have:=r.dp;omega
theorem eo.units {k:Nat}{A:bR}(r:eo k A):A.units+64<gK:=by have:=r.un;omega
def Hd:TA:=λ_ H Q=>Q [] H
def G7 (ta:TE)(tr:TA):TA:=λσ H Q=>ta σ H λx H1=>tr σ H1 λxs H2=>Q (x::xs) H2
section
variable {X:Cx}{e:Expr}{es:List Expr}{te:TE}{t:TA}{pos:cY}
theorem q0:PA X [] Hd:=λ_ _ _ _ H Q I h=>Calls.spliced_nil ⟨[],H,I,.nil,h⟩
theorem vi (ha:PE X e te)(hr:PA X es t)(hs:aq (e::es) X.env=(false,bJ e X.env)::aq es X.env:=by rfl):PA X (e::es) (G7 te t):=by
 intro pos ai s σ H Q I h
 rw[hs]
 show bi _ _ (spliced ((false,bJ e X.env)::cB pos (aq es X.env))) _ _ s
 refine Calls.spliced_cons (dz (ha ai s σ H _ I h) λu s1 ⟨x,H1,I1,r1,q1⟩=>?_)
 exact dz (hr pos ai s1 σ H1 _ I1 q1) λus s2 ⟨xs,H2,I2,r2,q2⟩=>⟨x::xs,H2,I2,.cons r1 r2,q2⟩
def MD (t:TA):TE:=λσ H Q=>t σ H λxs H1=>xs.length<=sizeLine/\∀p,H1 p=none->Q (.ref p) (upd H1 p (.tup xs))
def Mw (t:TA):TE:=λσ H Q=>t σ H λxs H1=>xs.length<=sizeLine/\∀p,H1 p=none->Q (.ref p) (upd H1 p (.lst xs))
theorem Sf {x1}(h:PA X es t):PE X (.Tuple es x1 pos) (MD t):=by
 intro ai s σ H Q I hq
 refine wpAny_Tuple_spliced (dz (h pos ai s σ H _ I hq) λus s1 ⟨xs,H1,I1,r,z,q⟩=>⟨by rw[←r.length];exact z,?_⟩)
 have hf:H1 s1.heap.objs.size=none:=I1.hok.fresh (aM _)
 refine⟨.ref s1.heap.objs.size,upd H1 s1.heap.objs.size (.tup xs),I1.laid (t':=s1.toks) (λb u e=>aC _ e) (aM _) ?_,rfl,q _ hf⟩
 exact⟨z,us,r,⟨_,bQ _ rfl,rfl,_,rfl⟩⟩
theorem zs6 (h:PA X es t):PE X (.List es pos) (Mw t):=by
 intro ai s σ H Q I hq
 refine wpAny_List_spliced (dz (h pos ai s σ H _ I hq) λus s1 ⟨xs,H1,I1,r,z,q⟩=>⟨by rw[←r.length];exact z,?_⟩)
 have hf:H1 s1.heap.objs.size=none:=I1.hok.fresh (aM _)
 refine⟨.ref s1.heap.objs.size,upd H1 s1.heap.objs.size (.lst xs),I1.laid (t':=s1.toks) (λb u e=>aC _ e) (aM _) ?_,rfl,q _ hf⟩
 exact⟨z,us,0,r,bQ _ rfl⟩
end
abbrev Sp:=List V->Hp->VK->XK->Prop
abbrev sk:=List Env->Hp->am->XK->ae->am->Prop
structure pP (P:bB)(w:cj)(K:aa)(mg:aQ->Option ae)(base:aZ)(A:bR)(outer:List Env)(s:am)(H:Hp):Prop where
 frames:A.frames=some outer
 mod:Mod K mg base
 bs:∀b o,base.get? b=some o->s.heap.get? b=some o/\H b=none
 bsz:base.objs.size<=s.heap.objs.size
 funs:s.heap.FunFrames base outer
 frf:∀b∈sN outer,H b=none
 hok:jU P w H s.heap
 bare:AllBare s.gens
def CE (outer:List Env)(P:bB)(w:cj)(H:Hp)(s:am)(Q:VK)(u:ae)(s':am):Prop :=
 ∃v H',s'.os=s.os/\AllBare s'.gens/\Un (sN outer) [] H H' s.heap s'.heap/\jU P w H' s'.heap/\RelV v u/\Q v H'
def CR (CX:sk)(outer:List Env)(P:bB)(w:cj)(H:Hp)(s:am)(Q:VK)(E:XK)(r:Result)(s':am):Prop :=
 match r with
 |.ok (.ret u)=>CE outer P w H s Q u s'
 |.ok _=>False
 |.error e=>CX outer H s E e s'
structure cx (P:bB)(w:cj)(K:aa)(mg:aQ->Option ae)(base:aZ)(CX:sk)(k:Nat)(f:ah)(fd:aH)(ps:List aQ)(sp:Sp):Prop where
 len:∀vs H Q E,sp vs H Q E->vs.length=ps.length
 run:∀(A:bR) (outer:List Env) (s:am) (H:Hp) (args:Args) (us:List ae) (vs:List V) (Q:VK) (E:XK),eo k A->pP P w K mg base A outer s H->oN s fd args (ps.zip us)->bX vs us->sp vs H Q E ->
  gc (ba P w) A (.call (.ref f) args) (CR CX outer P w H s Q E) s
theorem pP.make {P:bB}{w:cj}{K:aa}{mg:aQ->Option ae}{base:aZ}{A:bR}{outer:List Env}{s:am}{H:Hp}(e:pP P w K mg base A outer s H)(C:ah)(us:List ae)(kw:List (aQ×ae)) :
  pP P w K mg base (A.under (.builtin "type.__call__" ⟨.ref C::us,kw⟩)) outer s H:=⟨by first|exact e.frames|(simpa[bR.under,qE.envs,qE.isFrame,pushEnvs]using e.frames),e.mod,e.bs,e.bsz,e.funs,e.frf,e.hok,e.bare⟩
section
variable {X:Cx}{ai:List (ah×dU)}{σ:St}{H:Hp}{s s':am}
theorem Inv.env0 (I:Inv X ai σ H s):pP X.prog X.w X.K X.mg X.base X.A X.stack s H :=
 ⟨I.ok.frames,I.ok.mod,I.bs,cL I.ok.bsz I.sz,I.stack,I.stkFree,I.hok,I.bare⟩
theorem Inv.after {Q:VK}{u:ae}(I:Inv X ai σ H s)(h:CE X.stack X.prog X.w H s Q u s'):EP X ai σ Q u s':=by
 obtain⟨v,H',os,bare,un,hok,r,q⟩:=h
 obtain⟨hh,g,d,t,Xb⟩:=s'
 obtain rfl:Xb=s.os:=os
 exact⟨v,H',I.call (h':=hh) (g':=g) (d':=d) (t':=t) (ch:=[]) un hok bare (λb z=>absurd z (by simp)),r,q⟩
end
def wO (sp:Sp)(iM:List V)(E:XK)(t:TA):TE:=λσ H Q=>t σ H λvs H1=>sp (vs++iM) H1 Q E
def wQ (C:ah)(m:aQ)(sp:Sp)(iM:List V)(E:XK)(ta:TE)(t:TA):TE:=λσ H Q=>ta σ H λx H1=>∃a dx fs,x=.ref a/\H1 a=some (.ins C dx fs)/\fs.lookup m=none /\
 t σ H1 λvs H2=>sp (x::(vs++iM)) H2 Q E
def Hb (C:ah)(sp:Sp)(iM:List V)(E:XK)(t:TA):TE:=λσ H Q=>t σ H λvs H1=>∀x dx,H1 x=none->H1 dx=none->dx≠x ->
 sp (.ref x::(vs++iM)) (upd (upd H1 dx (.own x)) x (.ins C dx [])) (λv H2=>v=.non/\Q (.ref x) H2) E
def bH (K:aa)(fd:aH)(ps:List aQ)(ds:List ae):Prop :=
 ∀(s:am) (us:List ae),K.In s.heap->(us++ds).length=ps.length->oN s fd ⟨us,[]⟩ (ps.zip (us++ds))
theorem bH.all {K:aa}{fd:aH}{ps:List aQ}(h:∀us:List ae,us.length=ps.length->bindArgs fd ⟨us,[]⟩=pure (ps.zip us)):bH K fd ps []:=λs us _ hl=>by
 rw[cz]at hl ⊢
 exact .of_eq (h us hl)
def iU (CX:sk)(X:Cx)(E:XK):Prop:=∀(ai:List (ah×dU)) (σ:St) (H:Hp) (s:am) (e:ae) (s':am),Inv X ai σ H s->CX X.stack H s E e s'->X.xe e s'
section
variable {X:Cx}{CX:sk}{k:Nat}{f C:ah}{fd:aH}{ps:List aQ}{sp:Sp}{iM:List V}{ds:List ae}{E:XK}{x m:aQ}{p pos dD:cY}{e o:Expr}{es:List Expr}{ta:TE}{t:TA}
theorem JC {ai:List (ah×dU)}{σ:St}{H:Hp}{s:am}{Q:VK}{us:List ae}{vs:List V}(F:cx X.prog X.w X.K X.mg X.base CX k f fd ps sp)(hr:eo k X.A)(hb:bH X.K fd ps ds)(hd:bX iM ds)(hx:iU CX X E)
  (I:Inv X ai σ H s) (r:bX vs us) (h:sp (vs++iM) H Q E):bi (ba X.prog X.w) X.A (call (.ref f) us) (EP X ai σ Q) X.xe s:=by
 have r2:bX (vs++iM) (us++ds):=r.append hd
 have hl:(us++ds).length=ps.length:=by rw[←r2.length];exact F.len _ _ _ _ h
 refine wpAny_call (mL (F.run X.A X.stack s H ⟨us,[]⟩ (us++ds) (vs++iM) Q E hr I.env0 (hb s us I.kIn hl) r2 h) λr s' hq=>?_)
 cases r with
 |error e=>exact hx ai σ H s e s' I hq
 |ok fl=>
  cases fl with
  |ret u=>exact I.after hq
  |next=>exact False.elim hq
  |brk=>exact False.elim hq
  |cont=>exact False.elim hq
theorem RF (F:cx X.prog X.w X.K X.mg X.base CX k f fd ps sp)(hr:eo k X.A)(hg:Gl X x)(hm:X.mg x=some (.ref f))(hk:ao X.K (.ref f)=true)(hb:bH X.K fd ps ds)(hd:bX iM ds)(hx:iU CX X E)
  (ha:PA X (e::es) t) (lM:(x==("__debug__":aQ))=false:=by decide) (he:aq (e::es) X.env=(false,bJ e X.env)::aq es X.env:=by rfl) (iT:(cB pos (aq es X.env)).any (·.1)=false:=by rfl) :
  PE X (.Call (.Name x p) (e::es) [] pos) (wO sp iM E t):=by
 intro ai s σ H Q I h
 refine dH (Jo I hg hm ?_ lM)
 refine gD (h₀:=X.base) I.ok.mod.kin hk (dz (ha pos ai s σ H _ I h) λus s1 ⟨vs,H1,I1,r,q⟩=>⟨I1.kIn,?_⟩) he iT
 exact JC F hr hb hd hx I1 r q
theorem zp9 {pl:oO Bool}(he:PE X o ta)(c:mj X.K C)(hm:pT X.K C m f)(F:cx X.prog X.w X.K X.mg X.base CX k f fd ps sp)(hr:eo k X.A)(hb:bH X.K fd ps ds)(hd:bX iM ds)(hx:iU CX X E)(ha:PA X (e::es) t)
  (kK:aq (e::es) X.env=(false,bJ e X.env)::aq es X.env:=by rfl) (iT:(cB pos (aq es X.env)).any (·.1)=false:=by rfl)
  (ht:bJ (.Call (.Attribute o m dD) (e::es) [] pos) X.env=(do
   let ov ← bJ o X.env
   hU dD.atName
   let(f,first) ← eG [ov] (gC ov m pl)
   i9 pos f first (cB pos (aq (e::es) X.env)) (eL pos (dC [] X.env))):=by rfl) :
  PE X (.Call (.Attribute o m dD) (e::es) [] pos) (wQ C m sp iM E ta t):=by
 intro ai s σ H Q I h
 refine fM (pl:=pl) (dz (he ai s σ H _ I h) λu s1 ⟨x,H1,I1,rx,a,dx,fs,ex,ea,l,q⟩=>?_) ht
 subst ex
 obtain rfl:u=ae.ref a:=rx
 refine MY I1 ea c hm l ?_
 refine gD (first:=[.ref a]) (h₀:=X.base) I.ok.mod.kin hm.kp (dz (ha pos ai s1 σ H1 _ I1 q) λus s2 ⟨vs,H2,I2,r,q2⟩=>⟨I2.kIn,?_⟩) kK iT
 exact JC (us:=.ref a::us) (vs:=.ref a::vs) F hr hb hd hx I2 (.cons rfl r) q2
theorem zm9 {pl:oO Bool}(he:PE X o ta)(c:mj X.K C)(hm:pT X.K C m f)(F:cx X.prog X.w X.K X.mg X.base CX k f fd ps sp)(hr:eo k X.A)(hb:bH X.K fd ps ds)(hd:bX iM ds)(hx:iU CX X E)
  (ht:bJ (.Call (.Attribute o m dD) [] [] pos) X.env=(do
   let ov ← bJ o X.env
   hU dD.atName
   let(f,first) ← eG [ov] (gC ov m pl)
   i9 pos f first (cB pos (aq [] X.env)) (eL pos (dC [] X.env))):=by rfl) :
  PE X (.Call (.Attribute o m dD) [] [] pos) (wQ C m sp iM E ta Hd):=by
 intro ai s σ H Q I h
 refine fM (pl:=pl) (dz (he ai s σ H _ I h) λu s1 ⟨x,H1,I1,rx,a,dx,fs,ex,ea,l,q⟩=>?_) ht
 subst ex
 obtain rfl:u=ae.ref a:=rx
 refine MY I1 ea c hm l ?_
 exact PySem.W.callWith_K0 (first:=[.ref a]) I1.kIn hm.kp (JC (us:=[.ref a]) (vs:=[.ref a]) F hr hb hd hx I1 (.cons rfl .nil) q)
structure Mk (K:aa)(C f:ah):Prop where
 makes:dX K C=true
 init:aA K (.ref C) "__init__"=some (some (.ref f))
 fn:el K (.ref f)=true
 kp:ao K (.ref C)=true
theorem zna {ai:List (ah×dU)}{σ:St}{H:Hp}{s:am}{Q:VK}{us:List ae}{vs:List V}(M:Mk X.K C f)(F:cx X.prog X.w X.K X.mg X.base CX k f fd ps sp)(hr:eo (k+1) X.A)(hb:bH X.K fd ps ds)(hd:bX iM ds)
  (hx:iU CX X E) (I:Inv X ai σ H s) (r:bX vs us)
  (h:∀x dx,H x=none->H dx=none->dx≠x->sp (.ref x::(vs++iM)) (upd (upd H dx (.own x)) x (.ins C dx [])) (λv H2=>v=.non/\Q (.ref x) H2) E) :
  bi (ba X.prog X.w) X.A (call (.ref C) us) (EP X ai σ Q) X.xe s:=by
 have hq:=h (s.heap.objs.size+1) s.heap.objs.size (I.hok.fresh (ma _)) (I.hok.fresh (aM _)) (bw (iG _))
 have I2:=Inv.made (C:=C) I
 have r2:bX (V.ref (s.heap.objs.size+1)::(vs++iM)) (ae.ref (s.heap.objs.size+1)::(us++ds)):=.cons rfl (r.append hd)
 have hl:(ae.ref (s.heap.objs.size+1)::us++ds).length=ps.length:=by
  have e:=r2.length
  rw[F.len _ _ _ _ hq]at e
  exact e.symm
 refine wpAny_call (zm8 (f:=f) I.kIn M.makes M.init (beq_iff_eq.mp M.fn) (mL (F.run _ X.stack _ _ ⟨ae.ref (s.heap.objs.size+1)::us,[]⟩ (ae.ref (s.heap.objs.size+1)::(us++ds)) _ _ E (hr.make C us [])
  (I2.env0.make C us []) (hb _ (ae.ref (s.heap.objs.size+1)::us) I2.kIn hl) r2 hq) λr s' EG=>?_))
 cases r with
 |error e=>exact hx ai σ _ _ e s' I2 EG
 |ok fl=>
  cases fl with
  |ret u=>
   obtain⟨v,H',I3,rv,ev,q3⟩:=I2.after EG
   subst ev
   exact⟨rv,⟨V.ref (s.heap.objs.size+1),H',I3,rfl,q3⟩⟩
  |next=>exact False.elim EG
  |brk=>exact False.elim EG
  |cont=>exact False.elim EG
theorem zqa (M:Mk X.K C f)(F:cx X.prog X.w X.K X.mg X.base CX k f fd ps sp)(hr:eo (k+1) X.A)(hg:Gl X x)(hm:X.mg x=some (.ref C))(hb:bH X.K fd ps ds)(hd:bX iM ds)(hx:iU CX X E)
  (ha:PA X (e::es) t) (lM:(x==("__debug__":aQ))=false:=by decide) (he:aq (e::es) X.env=(false,bJ e X.env)::aq es X.env:=by rfl) (iT:(cB pos (aq es X.env)).any (·.1)=false:=by rfl) :
  PE X (.Call (.Name x p) (e::es) [] pos) (Hb C sp iM E t):=by
 intro ai s σ H Q I h
 refine dH (Jo I hg hm ?_ lM)
 refine gD (h₀:=X.base) I.ok.mod.kin M.kp (dz (ha pos ai s σ H _ I h) λus s1 ⟨vs,H1,I1,r,q⟩=>⟨I1.kIn,?_⟩) he iT
 exact zna M F hr hb hd hx I1 r q
end
section
variable {X:Cx}{CX:sk}{k:Nat}{f C:ah}{fd:aH}{ps ks:List aQ}{sp:Sp}{E:XK}{x m:aQ}{p pos dD Ak:cY}{e o:Expr}{es:List Expr}{kws:List fL}{te ta:TE}{t tk:TA}{nm:Option aQ}
variable {g:List ae->List ae->List ae}{gV:List V->List V->List V}
end
structure bp (N P:List aQ)(sc:fQ):Prop where
 kind:sc.kind=.function
 co:sc.isCoroutine=false
 gen:sc.isGenerator=false
 nd:N.Nodup
 pre:N.take P.length=P
 par:∀x∈P,sc.names.lookup x=some .local\/sc.names.lookup x=some .cell
 nofree:∀y∈sc.names,y.2≠.free
theorem QG {kindOf:aQ->Option bq}{x:aQ}:∀{binds:List (aQ×ae)} {m:aQ->Option ae},(∀v,(x,v)∉binds)->rh kindOf binds m x=m x
 |[],_,_=>rfl
 |(n,v)::r,m,h=>by
  unfold rh
  rw[QG λw hw=>h w (aj _ hw)]
  split
  ·have:x≠n:=by rintro rfl;exact h v af
   simp[this]
  ·rfl
theorem QH {kindOf:aQ->Option bq}{x:aQ}:∀{binds:List (aQ×ae)} {m:aQ->Option ae},(∀v,(x,v)∉binds)->rf kindOf binds m x=m x
 |[],_,_=>rfl
 |(n,v)::r,m,h=>by
  unfold rf
  rw[QH λw hw=>h w (aj _ hw)]
  split
  ·rfl
  ·have:x≠n:=by rintro rfl;exact h v af
   simp[this]
theorem QL {kindOf:aQ->Option bq}{x:aQ}{v:ae}:∀{P:List aQ} {vs:List ae} {i:Nat} {m:aQ->Option ae},P.Nodup->P[i]?=some x->vs[i]?=some v->kindOf x=some .local ->
  rh kindOf (P.zip vs) m x=some v
 |[],_,_,_,_,h,_,_=>by simp at h
 |_::_,[],_,_,_,_,h,_=>by simp at h
 |p::P,w::vs,0,m,nd,h1,h2,hk=>by
  simp at h1 h2;subst h1;subst h2
  show rh kindOf ((p,w)::P.zip vs) m p=_
  unfold rh
  rw[QG λv hv=>(bv.mp nd).1 (gw hv).1,if_pos hk]
  simp
 |p::P,w::vs,i+1,m,nd,h1,h2,hk=>by
  show rh kindOf ((p,w)::P.zip vs) m x=_
  unfold rh
  exact QL (i:=i) (bv.mp nd).2 (by simpa using h1) (by simpa using h2) hk
theorem QM {kindOf:aQ->Option bq}{x:aQ}{v:ae}:∀{P:List aQ} {vs:List ae} {i:Nat} {m:aQ->Option ae},P.Nodup->P[i]?=some x->vs[i]?=some v->kindOf x≠some .local ->
  rf kindOf (P.zip vs) m x=some v
 |[],_,_,_,_,h,_,_=>by simp at h
 |_::_,[],_,_,_,_,h,_=>by simp at h
 |p::P,w::vs,0,m,nd,h1,h2,hk=>by
  simp at h1 h2;subst h1;subst h2
  show rf kindOf ((p,w)::P.zip vs) m p=_
  unfold rf
  rw[QH λv hv=>(bv.mp nd).1 (gw hv).1,if_neg hk]
  simp
 |p::P,w::vs,i+1,m,nd,h1,h2,hk=>by
  show rf kindOf ((p,w)::P.zip vs) m x=_
  unfold rf
  exact QM (i:=i) (bv.mp nd).2 (by simpa using h1) (by simpa using h2) hk
def start (N:List aQ)(vs:List V):St:=vs.map some++az (N.length-vs.length) none
def ni (CX:sk)(P:bB)(w:cj)(K:aa)(mg:aQ->Option ae)(base:aZ)(N:List aQ)(qual:aQ)(scope:fQ)(f:ah)(cd:ae)(A:bR)(outer:List Env)(s:am)(H:Hp)(E:XK):Cx where
 prog:=P
 w:=w
 K:=K
 mg:=mg
 base:=base
 A:=A.deeper (envOfC qual scope s.heap.objs.size f cd)
 N:=N
 s₀:=s
 H₀:=H
 env:=envOfC qual scope s.heap.objs.size f cd
 outer:=outer
 stack:=envOfC qual scope s.heap.objs.size f cd::outer
 ex:=[]
 calm:=true
 fn:=λ_=>true
 pn:=[]
 xe:=λe s'=>bi (ba P w) (A.deeper (envOfC qual scope s.heap.objs.size f cd)) (leaving (envOfC qual scope s.heap.objs.size f cd) e) (λ_ s''=>CX outer H s E e s'') (λe' s''=>CX outer H s E e' s'') s'
theorem Rk {sc:fQ}{n:Nat}{x:aQ}(h:sc.names.lookup x=some .cell):∃c,(cellsFrom n sc.names []).lookup x=some c:=by
 have q:=iu sc.names n [] (.inl h)
 exact mT.mp q
theorem Z5 {CX:sk}{P:bB}{w:cj}{K:aa}{mg:aQ->Option ae}{base:aZ}{N ps:List aQ}{qual:aQ}{scope:fQ}{f:ah}{cd:ae}{A:bR}{outer:List Env}{s s1:am}{H:Hp}{E:XK}{us:List ae}{vs:List V}
  (S:bp N ps scope) (hd:A.handled=none) (e0:pP P w K mg base A outer s H) (hl:vs.length=ps.length) (r:bX vs us)
  (x:InCallC s s.heap.objs.size (rh (envOfC qual scope s.heap.objs.size f cd).kindOf (ps.zip us) λ_=>none) (cellsFrom (s.heap.objs.size+1) scope.names []) (rf (envOfC qual scope s.heap.objs.size f cd).kindOf (ps.zip us) λ_=>none) s1) :
  Inv (ni CX P w K mg base N qual scope f cd A outer s H E) [] (start N vs) H s1:=by
 have iT:ps.length<=N.length:=by have:=congrArg lN S.pre;rw[ei]at this;omega
 obtain⟨h1,tk,rfl,hk⟩:=x.done
 have FU:∀b:ah,b∉(ni CX P w K mg base N qual scope f cd A outer s H E).ex:=λb z=>absurd (show b∈([]:List ah)from z) (by simp)
 refine⟨⟨e0.mod,S.kind,rfl,rfl,aM _,λy z c h1 h2=>?_,λy hy=>?_,λy c _ h=>?_,λ_=>hd,bR.frames_deeper e0.frames,.inr ⟨rfl,rfl⟩,λb z=>absurd z (FU b),e0.bs,e0.bsz,λb _ _=>FU b,λb z=>absurd z (FU b),e0.funs,e0.frf⟩,
  rfl,e0.bare,Un.kept hk,⟨_,x.toInCall.ns,λi y v h1 h2 h3=>?_⟩,λy c h=>⟨_,x.cell y c h⟩,e0.hok.fresh (aM _),λy c h=>?_,λp hp=>absurd (show p∈([]:List (ah×dU))from hp) (by simp),e0.hok.kept hk,?_⟩
 ·exact name_of_addr x.apart (PySem.mem_of_lookup h1) (PySem.mem_of_lookup h2)
 ·have hy:scope.names.lookup y=some .cell\/scope.names.lookup y=some .free:=hy
  rcases hy with hy|hy
  ·exact Rk hy
  ·exact absurd rfl (S.nofree _ (PySem.mem_of_lookup hy))
 ·exact kS (x.above y c (PySem.mem_of_lookup h))
 ·have hi:i<vs.length:=by
   unfold start at h2
   by_cases hi:i<vs.length
   ·exact hi
   ·rw[eP (by simpa using hi)]at h2
    rw[fu]at h2
    split at h2<;>cases h2
  have ha:vs[i]?=some v:=by
   unfold start at h2
   rw[dh (by simpa using hi),aX]at h2
   cases e:vs[i]? with
   |none=>rw[e]at h2;cases h2
   |some a=>rw[e]at h2;cases h2;rfl
  obtain⟨u,hu,rv⟩:=r.get ha
  have hp:ps[i]?=some y:=by
   rw[←S.pre,List.getElem?_take_of_lt (by omega)];exact h1
  have Pm:ps.Nodup:=by rw[←S.pre];exact S.nd.sublist (List.take_sublist _ _)
  refine⟨u,rv,?_⟩
  rcases S.par y (List.mem_of_getElem? hp)with k|k
  ·exact .inl ⟨k,QL Pm hp hu k⟩
  ·obtain⟨c,e⟩:=Rk (n:=s.heap.objs.size+1) k
   refine .inr ⟨.inl k,c,e,?_⟩
   have q:=x.cell y c e
   rw[QM Pm hp hu (by show scope.names.lookup y≠_;rw[k];decide)]at q
   exact q
 ·exact e0.hok.fresh (kS (x.above y c (PySem.mem_of_lookup h)))
 ·unfold start
  show _=N.length
  rw[bg,ak,dq]
  omega
theorem zuv {CX:sk}{P:bB}{w:cj}{K:aa}{mg:aQ->Option ae}{base:aZ}{k:Nat}{f:ah}{name qual:aQ}{params:Arguments}{body:List bP}{scope:fQ}{dV kV doc pm gW ct oc:ae}{an od:Option ah}
    {Av:Array (Option ae)} {N ps:List aQ} {sp:Sp} (lk:K.lookup f=some ⟨oc,od,.func (gq name qual params body scope dV kV doc pm an gW ct),Av⟩) (gA:aw K gW qual=true) (S:bp N ps scope)
    (len:∀vs H Q E,sp vs H Q E->vs.length=ps.length)
    (sQ:∀(A:bR) (outer:List Env) (s:am) (H:Hp) (vs:List V) (Q:VK) (E:XK),eo k (A.deeper (envOfC qual scope s.heap.objs.size f gW))->sp vs H Q E ->
      ∃t,pV (ni CX P w K mg base N qual scope f gW A outer s H E) body t/\t { nx:=λ_ H'=>Q .non H',rt:=Q } (start N vs) H) :
    cx P w K mg base CX (k+1) f (gq name qual params body scope dV kV doc pm an gW ct) ps sp:=by
  refine⟨len,λA outer s H args us vs Q E hr e0 hb r wF=>?_⟩
  have hl:=len _ _ _ _ wF
  have KX:K.In s.heap:=e0.mod.kin.keeps λb o e=>(e0.bs b o e).1
  have lim:s.heap.NoLimit:=e0.mod.nolimit.keeps λb o e=>(e0.bs b o e).1
  have Eu:∀y∈ps.zip us,scope.names.lookup y.1=some .local\/(scope.names.lookup y.1=some .cell/\((cellsFrom (s.heap.objs.size+1) scope.names []).lookup y.1).isSome=true):=λ⟨n,v⟩ hy=>by
    rcases S.par n (gw hy).1 with q|q
    · exact .inl q
    · exact .inr ⟨q,iu _ _ _ (.inl q)⟩
  refine codeAny_call_function hr.depth (KX _ _ lk) rfl S.co S.gen rfl (PySem.W.codeRec_of KX gA) (hb _ _ _ _ ?_)
  refine wpAny_newFunctionEnv_cells S.kind Eu λenv he s1 x=>?_
  subst he
  refine⟨lim.keeps x.toInCall.keep,codeAny_func ?_⟩
  obtain⟨t,ht,hq⟩:=sQ A outer s H vs Q E (hr.deeper _) wF
  have I:Inv (ni CX P w K mg base N qual scope f gW A outer s H E) [] (start N vs) H s1:=Z5 S hr.hd e0 hl r x
  refine dQ (ht [] s1 (start N vs) H _ I hq) (λfl s' hs=>?_) λe s' hs=>hs
  have fin:∀{σ':St} {H':Hp} {v:V} {u:ae},Inv (ni CX P w K mg base N qual scope f gW A outer s H E) [] σ' H' s'->RelV v u->Q v H'->CE outer P w H s Q u s' :=
    λ{σ' H' v u} J rv q=>⟨v,H',J.os,J.bare,J.base,J.hok,rv,q⟩
  cases fl with
  |ret u=>
    obtain⟨v,σ',H',J,rv,q⟩:=hs
    exact fin J rv q
  |next=>
    obtain⟨σ',H',J,q⟩:=hs
    exact fin (v:=V.non) (u:=ae.none) J rfl q
  |brk=>
    obtain⟨_,_,_,q⟩:=hs
    exact False.elim q
  |cont=>
    obtain⟨_,_,_,q⟩:=hs
    exact False.elim q
end L2
namespace L2
open PySem PySem.Spec PyProof.Rows
section
variable {X:Cx}{x:aQ}{p pos:cY}{e:Expr}{es:List Expr}{t:TA}{id T:String}{r:List V->Hp->VK->Prop}
def Mr (r:List V->Hp->VK->Prop)(t:TA):TE:=λσ H Q=>t σ H λvs H1=>r vs H1 Q
theorem Jc (hc:et X (.builtin id) r)(hg:Gl X x)(hm:X.mg x=none)(hv:bK x=some (.builtin id))(ha:PA X (e::es) t)(hn:x≠"__name__":=by decide)(lM:(x==("__debug__":aQ))=false:=by decide)
  (he:aq (e::es) X.env=(false,bJ e X.env)::aq es X.env:=by rfl) (iT:(cB pos (aq es X.env)).any (·.1)=false:=by rfl):PE X (.Call (.Name x p) (e::es) [] pos) (Mr r t):=by
 intro ai s σ H Q I h
 refine dH (vI I hg hm hv ?_ hn lM)
 exact PyProof.Rows.callWith_builtin1 (dz (ha pos ai s σ H _ I h) λus s1 ⟨vs,H1,I1,r1,q1⟩=>hc ai s1 σ H1 vs us Q I1 r1 q1) he iT
theorem M4 (hc:et X (.type T) r)(hg:Gl X x)(hm:X.mg x=none)(hv:bK x=some (.type T))(ha:PA X (e::es) t)(hn:x≠"__name__":=by decide)(lM:(x==("__debug__":aQ))=false:=by decide)
  (he:aq (e::es) X.env=(false,bJ e X.env)::aq es X.env:=by rfl) (iT:(cB pos (aq es X.env)).any (·.1)=false:=by rfl):PE X (.Call (.Name x p) (e::es) [] pos) (Mr r t):=by
 intro ai s σ H Q I h
 refine dH (vI I hg hm hv ?_ hn lM)
 exact cw (dz (ha pos ai s σ H _ I h) λus s1 ⟨vs,H1,I1,r1,q1⟩=>hc ai s1 σ H1 vs us Q I1 r1 q1) he iT
end
end L2
namespace HT
open PySem PyProof.Rows
section
open PySem.SeqAt
open PySem.AutoSeq1 (wpAny_loadPart')
open PySem.MeetsSeq PySem.MeetsSeq2 PySem.MeetsSeq3
end
section
variable {prog:bB}{w:cj}{A:bR}{E:ae->am->Prop}{s:am}
theorem cat_tup {t b:ah}{vs ws:List ae}{Q:ae->am->Prop}(ht:IsTup s.heap t vs.toArray)(hb:IsTup s.heap b ws.toArray)(hv:vs≠[])
    (h1:ws=[]->Q (.ref t) s) (h2:ws≠[]->Q (.ref s.heap.objs.size) { s with heap:=s.heap.push { cls:=.type "tuple",data:=.seq (vs++ws).toArray } })
    (hsz:vs.length+ws.length<=sizeLine):bi (ba prog w) A (d7 .Add (.ref t) (.ref b)) Q E s:=by
  obtain⟨⟨cls,dd,data,sl⟩,ho,hc,n,hd⟩:=id ht
  obtain⟨⟨Ka,HZ,data2,G4⟩,Iv,Bj,n2,hd2⟩:=id hb
  simp only at hc hd Bj hd2
  subst hc hd Bj hd2
  have e:vs.toArray++ws.toArray=(vs++ws).toArray:=by simp
  by_cases hw:ws=[]
  · exact sf ⟨_,ho,rfl⟩ ⟨_,Iv,rfl⟩ noFill_tuple_add seq_tuple_add PySem.F.slot_tuple_add PySem.F.entry_tuple_add (PySem.F.args_tuple_add_2 _ _)
      (tuple_addW1 t b vs.toArray ws.toArray n n2 dd HZ sl G4 (by simpa using hv) (by simp[hw])) ⟨ho,Iv,h1 hw⟩
  · refine sf ⟨_,ho,rfl⟩ ⟨_,Iv,rfl⟩ noFill_tuple_add seq_tuple_add PySem.F.slot_tuple_add PySem.F.entry_tuple_add (PySem.F.args_tuple_add_2 _ _)
      (tuple_addW2 t b vs.toArray ws.toArray n n2 dd HZ sl G4 (by simpa using hv) (by simpa using hw) (by rw[aE,aE];exact hsz)) ⟨ho,Iv,?_⟩
    rw[e]
    exact h2 hw
def sIx (n d:Nat):Option Int->Nat
 |none=>d
 |some v=>if v<0 then(v+(n:Int)).toNat else min v.toNat n
theorem sIx_none (n d:Nat):sIx n d none=d:=rfl
theorem sIx_nat (n d k:Nat):sIx n d (some (k:Int))=min k n:=by
 show(if(k:Int)<0 then((k:Int)+(n:Int)).toNat else min (k:Int).toNat n)=min k n
 rw[if_neg (by omega),hX]
end
end HT
namespace L2
open PySem PySem.Spec PyProof.Rows
abbrev TO:=St->Hp->(Option Int->Hp->Prop)->Prop
def PO (X:Cx)(e:Option Expr)(t:TO):Prop :=
 ∀(ai:List (ah×dU)) (s:am) (σ:St) (H:Hp) (Q:Option Int->Hp->Prop),Inv X ai σ H s->t σ H Q ->
  bi (ba X.prog X.w) X.A (evalPart e X.env) (λu s'=>∃o H',Inv X ai σ H' s'/\IsPart u o/\Q o H') X.xe s
def vD:TO:=λ_ H Q=>Q none H
def Hf (t:TE):TO:=λσ H Q=>t σ H λx H1=>∃i,x=.int i/\Q (some i) H1
theorem ZK {ns:List Int}:∀{us:List ae},bX (ns.map V.int) us->IntsAre us ns:=by
 induction ns with
 |nil=>intro us r;rw[kA]at r;cases r;exact .nil
 |cons n ns ih=>
  intro us r
  rw[aO]at r
  cases r with
  |cons r1 r2=>
   obtain⟨t,e⟩:=r1
   subst e
   exact .cons n t (ih r2)
section
variable {X:Cx}{e:Expr}{te:TE}{lo hi:Option Expr}{tl th:TO}{pos p2:cY}
theorem zqb:PO X none vD:=by
 intro ai s σ H Q I h
 rw[evalPart_none]
 exact bS ⟨none,H,I,.none,h⟩
theorem zqc (h:PE X e te):PO X (some e) (Hf te):=by
 intro ai s σ H Q I hw
 rw[evalPart_some]
 refine dz (h ai s σ H _ I hw) λu s1 ⟨x,H1,I1,r1,q1⟩=>?_
 obtain⟨i,rfl,q⟩:=q1
 obtain⟨t,rfl⟩:=r1
 exact⟨some i,H1,I1,.int i t,q⟩
def Oe (X:Cx)(r:V->Option Int->Option Int->Hp->VK->Prop):Prop :=
 ∀(ai:List (ah×dU)) (s:am) (σ:St) (H:Hp) (x:V) (v vl vu:ae) (lo hi:Option Int) (sl:ah) (Q:VK),Inv X ai σ H s->RelV x v->s.heap.IsSliceOf sl vl vu .none->IsPart vl lo->IsPart vu hi->r x lo hi H Q ->
  ∃T id,pE (.type T) "__getitem__"=pure (some (.builtin id))/\s.TypeIs v T/\bi (ba X.prog X.w) X.A (mM v (.ref sl)) (EP X ai σ Q) X.xe s
def Yj (r:V->Option Int->Option Int->Hp->VK->Prop)(te:TE)(tl th:TO):TE:=λσ H Q=>te σ H λx H1=>tl σ H1 λl H2=>th σ H2 λu H3=>r x l u H3 Q
theorem znb {r:V->Option Int->Option Int->Hp->VK->Prop}(hr:Oe X r)(he:PE X e te)(hl:PO X lo tl)(hu:PO X hi th):PE X (.Subscript e (.Slice lo hi none p2) pos) (Yj r te tl th):=by
  intro ai s σ H Q I h
  refine Subscript_ (dz (he ai s σ H _ I h) λv s1 ⟨x,H1,I1,r1,q1⟩=>?_)
  refine wpAny_Slice (dz (hl ai s1 σ H1 _ I1 q1) λvl s2 ⟨l,H2,I2,pl,q2⟩=>dz (hu ai s2 σ H2 _ I2 q2) λvu s3 ⟨u,H3,I3,pu,q3⟩=>?_)
  rw[evalPart_none]
  refine bS ?_
  have I4:Inv X ai σ H3 { s3 with heap:=s3.heap.push { cls:=.type "slice",data:=.fields #[vl,vu,.none] } }:=I3.kept (t':=s3.toks) λb ob q=>aC _ q
  obtain⟨T,id,hT,ht,hg⟩:=hr ai { s3 with heap:=s3.heap.push { cls:=.type "slice",data:=.fields #[vl,vu,.none] } } σ H3 x v vl vu l u s3.heap.objs.size Q I4 r1 (aZ.IsSliceOf.new ..) pl pu q3
  show bi (ba X.prog X.w) X.A (subscriptTail e (.Slice lo hi none p2) v (.ref s3.heap.objs.size)) (EP X ai σ Q) X.xe { s3 with heap:=s3.heap.push { cls:=.type "slice",data:=.fields #[vl,vu,.none] } }
  exact tail_any (ops:=[.ref s3.heap.objs.size,v]) ht hT hg (by with_unfolding_all rfl)
def rD (xs:List V)(lo hi:Option Int):List V:=(xs.drop (HT.sIx xs.length 0 lo)).take (HT.sIx xs.length xs.length hi-HT.sIx xs.length 0 lo)
theorem Zp (xs:List V)(lo hi:Option Int):(rD xs lo hi).length<=xs.length:=by
 unfold rD
 rw[ei,cJ]
 omega
def wL (K:aa):R2:=λx y H Q=>∃a b xs ys,x=.ref a/\y=.ref b/\kJ K H a xs/\kJ K H b ys/\xs≠[]/\xs.length+ys.length<=sizeLine /\
 (ys=[]->Q (.ref a) H)/\(ys≠[]->∀p,H p=none->Q (.ref p) (upd H p (.tup (xs++ys))))
theorem bX.nil_iff {xs:List V}{us:List ae}(r:bX xs us):us=[]↔xs=[]:=by
 cases r with
 |nil=>simp
 |cons _ _=>simp
theorem zqd:fP X (d7 .Add) (wL X.K):=by
 intro ai s σ H x y v u Q I rx ry h
 obtain⟨a,b,xs,ys,rfl,rfl,ha,hb,hx,hz,q1,q2⟩:=h
 cases rx
 cases ry
 obtain⟨bZ,r1,p1,_⟩:=I.tuple ha
 obtain⟨uS,r2,p2,_⟩:=I.tuple hb
 refine HT.cat_tup p1 p2 (λz=>hx (r1.nil_iff.mp z)) (λz=>⟨.ref a,H,I,rfl,q1 (r2.nil_iff.mp z)⟩) (λz=>?_) (by rw[←r1.length,←r2.length];exact hz)
 refine⟨.ref s.heap.objs.size,_,I.laid (t':=s.toks) (o:=.tup (xs++ys)) (λb ob q=>aC _ q) (aM _) ?_,rfl,q2 (λw=>z (r2.nil_iff.mpr w)) _ (I.hok.fresh (aM _))⟩
 exact⟨by rw[bg];exact hz,_,r1.append r2,IsTup.new _ _⟩
end
end L2
namespace L2
open PySem PySem.Spec PyProof.Rows
def ixN (n:Nat)(i:Int):Option Nat:=if 0<=i then(if i<n then some i.toNat else none)else if -(n:Int)<=i then some (i+n).toNat else none
def atI {α:Type}(xs:List α)(i:Int):Option α:=(ixN xs.length i).bind λj=>xs[j]?
theorem NA {n:Nat}{i:Int}{j:Nat}(h:ixN n i=some j):seqIndex? i n=some j/\j<n/\-(n:Int)<=i/\i<n:=by
 unfold ixN at h
 by_cases h0:0<=i
 ·rw[if_pos h0]at h
  by_cases h1:i<n
  ·rw[if_pos h1]at h
   have e:i.toNat=j:=Option.some.inj h
   exact⟨by rw[nS h0 h1,e],by omega,by omega,h1⟩
  ·rw[if_neg h1]at h;cases h
 ·rw[if_neg h0]at h
  by_cases h1:-(n:Int)<=i
  ·rw[if_pos h1]at h
   have e:(i+n).toNat=j:=Option.some.inj h
   exact⟨by rw[mN (by omega) h1,e],by omega,h1,by omega⟩
  ·rw[if_neg h1]at h;cases h
theorem Jm {α:Type}{xs:List α}{i:Int}{v:α}(h:atI xs i=some v):∃j,seqIndex? i xs.length=some j/\xs[j]?=some v/\j<xs.length/\-(xs.length:Int)<=i/\i<xs.length:=by
 unfold atI at h
 cases e:ixN xs.length i with
 |none=>rw[e]at h;cases h
 |some j=>
  rw[e]at h
  obtain⟨h1,h2,h3,h4⟩:=NA e
  exact⟨j,h1,h,h2,h3,h4⟩
theorem j5 {α:Type}{xs:List α}{j:Nat}{v:α}(h:xs[j]?=some v):atI xs (j:Int)=some v:=by
 have hj:j<xs.length:=(aV.mp h).1
 have e:ixN xs.length (j:Int)=some j:=by
  unfold ixN
  rw[if_pos (by omega),if_pos (by omega)];simp
 unfold atI;rw[e];exact h
def gU (b:Expr):Prop:=∀o i,nU b false o i=operate [o,i] (mM o i)
def tX (X:Cx)(r:R2):Prop :=
 ∀(value slice:Expr) (ai:List (ah×dU)) (s:am) (σ:St) (H:Hp) (x y:V) (v u:ae) (Q:VK),Inv X ai σ H s->RelV x v->RelV y u->r x y H Q ->
  nU slice false v u=operate [v,u] (mM v u)->bi (ba X.prog X.w) X.A (subscriptTail value slice v u) (EP X ai σ Q) X.xe s
def JT (X:Cx)(id:String)(r:V->List V->Hp->VK->Prop):Prop :=
 ∀(ai:List (ah×dU)) (s:am) (σ:St) (H:Hp) (x:V) (xs:List V) (v:ae) (us:List ae) (Q:VK),Inv X ai σ H s->RelV x v->bX xs us->r x xs H Q ->
  bi (ba X.prog X.w) X.A (call (.builtin id) (v::us)) (EP X ai σ Q) X.xe s
section
variable {X:Cx}{a b:Expr}{ta tb:TE}{pos:cY}
theorem tX.or {r r':R2}(h:tX X r)(h':tX X r'):tX X (λx y H Q=>r x y H Q\/r' x y H Q):=by
 intro value slice ai s σ H x y v u Q I rx ry q hs
 rcases q with q|q
 ·exact h value slice ai s σ H x y v u Q I rx ry q hs
 ·exact h' value slice ai s σ H x y v u Q I rx ry q hs
theorem BQ {r:R2}(hr:tX X r)(ha:PE X a ta)(hb:PE X b tb)(hs:gU b):PE X (.Subscript a b pos) (IK r ta tb):=by
 intro ai s σ H Q I h
 exact Subscript_ (xL ha hb I h λv u s2 x y H2 I2 rx ry q=>hr a b ai s2 σ H2 x y v u Q I2 rx ry q (hs _ _))
def GX (K:aa):R2:=λx y H Q=>∃p xs i v,x=.ref p/\y=.int i/\e5 K H p xs/\atI xs i=some v/\Q v H
def GZ (K:aa):R2:=λx y H Q=>∃p xs i v,x=.ref p/\y=.int i/\kJ K H p xs/\atI xs i=some v/\Q v H
def GY:R2:=λx y H Q=>∃z i c,x=.str z/\y=.int i/\z.length<=sizeLine/\atI z.cps.toList i=some c/\Q (.str ⟨#[c]⟩) H
theorem zqe:tX X (GX X.K):=by
 intro value slice ai s σ H x y v u Q I rx ry h hs
 obtain⟨p,xs,i,z,rfl,rfl,hq,he,q⟩:=h
 cases rx
 obtain⟨t,rfl⟩:=ry
 obtain⟨bZ,r,pl,hz⟩:=I.list hq
 obtain⟨j,h1,h2,h3,h4,h5⟩:=Jm he
 obtain⟨w,ew,nq⟩:=r.get h2
 have hl:=r.length
 have hn:=jN
 have fin:EP X ai σ Q w s:=⟨z,H,I,nq,q⟩
 by_cases h0:0<=i
 ·have hj:i.toNat=j:=by
   rw[nS h0 h5]at h1
   exact Option.some.inj h1
  exact item_listR pl.isList h0 (by omega) (by rw[hj];simpa using ew) fin hs
 ·have hj:(i+(bZ.toArray.size:Int)).toNat=j:=by
   rw[mN (by omega) h4]at h1
   rw[aE,←hl]
   exact Option.some.inj h1
  exact subscriptTail_builtinR (x:=w) pl.isList.typeIs slot_list_getitem.lookup
   (wpAny_getItem_list_neg (Q:=λr s'=>r=w/\EP X ai σ Q r s') pl.isList (by omega) (by rw[aE]<;>omega) (by omega) (by rw[hj];simpa using ew) ⟨rfl,fin⟩) hs
theorem zs7:tX X (GZ X.K):=by
 intro value slice ai s σ H x y v u Q I rx ry h hs
 obtain⟨p,xs,i,z,rfl,rfl,hq,he,q⟩:=h
 cases rx
 obtain⟨t,rfl⟩:=ry
 obtain⟨bZ,r,pl,hz⟩:=I.tuple hq
 obtain⟨j,h1,h2,h3,h4,h5⟩:=Jm he
 obtain⟨w,ew,nq⟩:=r.get h2
 have hl:=r.length
 have hn:=jN
 have fin:EP X ai σ Q w s:=⟨z,H,I,nq,q⟩
 exact subscriptTail_builtinR (x:=w) pl.typeIs slot_tuple_getitem.lookup
  (getItem_tuple (j:=j) (Q:=λr s'=>r=w/\EP X ai σ Q r s') pl (by omega) (by omega) (by rw[aE,←hl];exact h1) (by simpa using ew) ⟨rfl,fin⟩) hs
theorem zs8:tX X GY:=by
 intro value slice ai s σ H x y v u Q I rx ry h hs
 obtain⟨z,i,c,rfl,rfl,hz,he,q⟩:=h
 obtain⟨t,rfl⟩:=rx
 obtain⟨t',rfl⟩:=ry
 obtain⟨j,h1,h2,h3,h4,h5⟩:=Jm he
 have hl:z.cps.toList.length=z.length:=by simp[aQ.length]
 rw[hl]at h1 h4 h5
 have hn:=jN
 exact tail_any (typeIs_str s z t) slot_str_getitem.lookup (getItem_str (c:=c) (by
  have e1:decide (i < -(2 ^ 63:Int))=false:=decide_eq_false (by omega)
  have e2:decide (i >= 2 ^ 63)=false:=decide_eq_false (by omega)
  rw[e1,e2,vK]) (by rw[h1];simpa using h2) ⟨.str ⟨#[c]⟩,H,I.tok _,⟨_,rfl⟩,q⟩) hs
def IH (K:aa):R2:=λx y H Q=>GX K x y H Q\/GZ K x y H Q\/GY x y H Q
theorem xu:tX X (IH X.K):=zqe.or (zs7.or zs8)
theorem ZL (bZ:List ae)(n j:Nat)(u:ae):dU.mapSeq (·.setIfInBounds j u) { cls:=.type "list",data:=.seq bZ.toArray n } = { cls:=.type "list",data:=.seq (bZ.set j u).toArray n }:=by
  simp[dU.mapSeq]
theorem Inv.lst {ai:List (ah×dU)}{σ:St}{H:Hp}{s:am}{p:ah}{xs:List V}(I:Inv X ai σ H s)(h:H p=some (.lst xs)) :
    ∃(bZ:List ae) (n:Nat),bX xs bZ/\s.heap.get? p=some { cls:=.type "list",data:=.seq bZ.toArray n }/\xs.length<=sizeLine:=by
  obtain⟨z,bZ,n,r,e⟩:=I.hok p _ h
  exact⟨bZ,n,r,e,z⟩
theorem Inv.lstUpd {ai:List (ah×dU)}{σ:St}{H:Hp}{s:am}{p:ah}{xs ys:List V}{bZ its':List ae}{n n':Nat}{f:dU->dU}(I:Inv X ai σ H s)(h:H p=some (.lst xs))
    (ho:s.heap.get? p=some { cls:=.type "list",data:=.seq bZ.toArray n }) (hf:f { cls:=.type "list",data:=.seq bZ.toArray n } = { cls:=.type "list",data:=.seq its'.toArray n' }) (r:bX ys its') (hz:ys.length<=sizeLine) (t:Nat) :
    Inv X ai σ (upd H p (.lst ys)) { s with heap:=s.heap.update p f,toks:=t }:=by
  have e:(s.heap.update p f).get? p=some { cls:=.type "list",data:=.seq its'.toArray n' }:=by
    rw[o9 f ho (by rw[hf]<;>rfl),hf]
  refine I.write (x:=p) (e:=p) (by rw[h];trivial) (.inl rfl) (λb u hb q=>(iJ _ _ (Ne.symm hb)).trans q) ⟨_,e⟩ ?_
  exact⟨hz,its',n',r,e⟩
def G2:V->V->V->Hp->(Hp->Prop)->Prop:=λo i v H Q=>∃p xs k j,o=.ref p/\i=.int k/\H p=some (.lst xs)/\ixN xs.length k=some j/\Q (upd H p (.lst (xs.set j v)))
theorem Rl:xG X G2:=by
 intro ai s σ H o i v ov iv u Q I ro ri rv h
 obtain⟨p,xs,k,j,rfl,rfl,hp,hj,q⟩:=h
 cases ro
 obtain⟨t,rfl⟩:=ri
 obtain⟨bZ,n,r,ho,hz⟩:=I.lst hp
 obtain⟨h1,h2,h3,h4⟩:=NA hj
 have hl:=r.length
 have hn:=jN
 have I':Inv X ai σ (upd H p (.lst (xs.set j v))) { s with heap:=s.heap.update p (dU.mapSeq (·.setIfInBounds j u)) } :=
  I.lstUpd hp ho (ZL bZ n j u) (r.set rv j) (by rw[tU];exact hz) s.toks
 by_cases h0:0<=k
 ·have hk:k.toNat=j:=by
   rw[nS h0 h4]at h1
   exact Option.some.inj h1
  exact PySem.W.ki_setAt ho h0 (by omega) (by rw[aE,←hl];exact h4) (by rw[hk];exact⟨_,I',q⟩)
 ·have hk:(k+(bZ.toArray.size:Int)).toNat=j:=by
   rw[mN (by omega) h3]at h1
   rw[aE,←hl]
   exact Option.some.inj h1
  exact PySem.W.ki_setBack ho (by omega) (by rw[aE,←hl];exact h3) (by omega) (by rw[hk];exact⟨_,I',q⟩)
theorem Zb (lo hi:Option Int)(n:Nat):(gL lo hi none n).1=((HT.sIx n 0 lo:Nat):Int)/\(gL lo hi none n).2.1=((HT.sIx n n hi:Nat):Int)/\(gL lo hi none n).2.2=1:=by
 refine⟨?_,?_,rfl⟩
 ·cases lo with
  |none=>simp[gL,HT.sIx]
  |some i=>
   simp only[gL,HT.sIx,rc,show(1:Int) > 0 by decide,if_true]
   by_cases h:i<0
   ·simp only[h,if_true]<;>omega
   ·simp only[h,if_false]<;>omega
 ·cases hi with
  |none=>simp[gL,HT.sIx]
  |some i=>
   simp only[gL,HT.sIx,rc,show(1:Int) > 0 by decide,if_true]
   by_cases h:i<0
   ·simp only[h,if_true]<;>omega
   ·simp only[h,if_false]<;>omega
theorem YO (bZ:List ae)(lo hi:Option Int):slicePick bZ.toArray lo hi none=((bZ.drop (HT.sIx bZ.length 0 lo)).take (HT.sIx bZ.length bZ.length hi-HT.sIx bZ.length 0 lo)).toArray:=by
 obtain⟨h1,h2,h3⟩:=Zb lo hi bZ.toArray.size
 unfold slicePick
 rw[h1,h2,h3]
 simp only[sliceRange_one,pick_run,aE]<;>rfl
def Mg (K:aa):V->Option Int->Option Int->Hp->VK->Prop:=λx lo hi H Q=>∃a xs,x=.ref a/\e5 K H a xs/\∀p,H p=none->Q (.ref p) (upd H p (.lst (rD xs lo hi)))
theorem zqf:Oe X (Mg X.K):=by
 intro ai s σ H x v vl vu lo hi sl Q I rx hs pl pu h
 obtain⟨a,xs,rfl,hx,q⟩:=h
 cases rx
 obtain⟨bZ,r,ht,hz⟩:=I.list hx
 have eS:=r.length
 refine⟨"list",_,slot_list_getitem.lookup,ht.isList.typeIs,?_⟩
 refine wpAny_getItem_list_slice ht.isList hs pl pu .none (by simp) ?_ (by rw[aE]<;>omega)
 rw[YO,←eS]
 refine⟨.ref s.heap.objs.size,_,I.laid (t':=s.toks) (o:=.lst (rD xs lo hi)) (λb ob q=>aC _ q) (aM _) ?_,rfl,q _ (I.hok.fresh (aM _))⟩
 exact⟨cL (Zp xs lo hi) hz,_,0,(r.drop (HT.sIx xs.length 0 lo)).take (HT.sIx xs.length xs.length hi-HT.sIx xs.length 0 lo),bQ _ rfl⟩
def ie:V->Bool
 |.non=>true
 |.bl _=>true
 |.int _=>true
 |.str _=>true
 |_=>false
def rG:V->V->Bool
 |.non,.non=>true
 |.bl a,.bl b=>a==b
 |.bl a,.int b=>(if a then 1 else 0)==b
 |.int a,.bl b=>a==(if b then 1 else 0)
 |.int a,.int b=>a==b
 |.str a,.str b=>a==b
 |_,_=>false
theorem zs9 {A:bR}{s:am}{y x:V}{u v:ae}(ry:RelV y u)(rx:RelV x v)(fy:ie y=true)(fx:ie x=true):SeqAt.EqAt A s u v (rG y x):=by
 cases y with
 |non=>
  cases ry
  cases x with
  |non=>cases rx;exact SeqAt.EqAt.same _
  |bl b=>cases rx;exact SeqAt.EqAt.none_bool b
  |int b=>obtain⟨t,rfl⟩:=rx;exact SeqAt.EqAt.none_int b t
  |str b=>obtain⟨t,rfl⟩:=rx;exact SeqAt.EqAt.none_str b t
  |_=>exact absurd (show false=true from fx) aK
 |bl a=>
  cases ry
  cases x with
  |non=>cases rx;exact SeqAt.EqAt.bool_none a
  |bl b=>cases rx;exact SeqAt.EqAt.bool_bool a b
  |int b=>obtain⟨t,rfl⟩:=rx;exact SeqAt.EqAt.bool_int a b t
  |str b=>obtain⟨t,rfl⟩:=rx;exact SeqAt.EqAt.bool_str a b t
  |_=>exact absurd (show false=true from fx) aK
 |int a=>
  obtain⟨t',rfl⟩:=ry
  cases x with
  |non=>cases rx;exact SeqAt.EqAt.int_none a t'
  |bl b=>cases rx;exact SeqAt.EqAt.int_bool a t' b
  |int b=>obtain⟨t,rfl⟩:=rx;exact SeqAt.EqAt.int_int a t' b t
  |str b=>obtain⟨t,rfl⟩:=rx;exact SeqAt.EqAt.int_str a t' b t
  |_=>exact absurd (show false=true from fx) aK
 |str a=>
  obtain⟨t',rfl⟩:=ry
  cases x with
  |non=>cases rx;exact SeqAt.EqAt.str_none a t'
  |bl b=>cases rx;exact SeqAt.EqAt.str_bool a t' b
  |int b=>obtain⟨t,rfl⟩:=rx;exact SeqAt.EqAt.str_int a t' b t
  |str b=>obtain⟨t,rfl⟩:=rx;exact SeqAt.EqAt.str_str a t' b t
  |_=>exact absurd (show false=true from fx) aK
 |_=>exact absurd (show false=true from fy) aK
def sn (x:V)(u:ae):Bool:=match u with
 |.none=>rG .non x
 |.bool b=>rG (.bl b) x
 |.int i _=>rG (.int i) x
 |.str z _=>rG (.str z) x
 |_=>false
theorem NT {x y:V}{u:ae}(r:RelV y u)(f:ie y=true):sn x u=rG y x:=by
 cases y with
 |non=>cases r;rfl
 |bl b=>cases r;rfl
 |int i=>obtain⟨t,rfl⟩:=r;rfl
 |str z=>obtain⟨t,rfl⟩:=r;rfl
 |_=>exact absurd (show false=true from f) aK
theorem NB {x:V}:∀{xs:List V} {us:List ae},bX xs us->xs.all ie=true->us.any (sn x)=xs.any λy=>rG y x
 |_,_,.nil,_=>rfl
 |y::xs,u::us,.cons r t,f=>by
  rw[dE,bE]at f
  rw[eD,eD,NT r f.1,NB t f.2]
theorem Jd {A:bR}{s:am}{x:V}{v:ae}(rx:RelV x v)(fx:ie x=true):∀{xs:List V} {us:List ae},bX xs us->xs.all ie=true->∀u∈us,SeqAt.EqAt A s u v (sn x u)
 |_,_,.nil,_=>λu hu=>by cases hu
 |y::xs,u::us,.cons r t,f=>λu' hu=>by
  rw[dE,bE]at f
  rcases aF.mp hu with rfl|hu
  ·rw[NT r f.1];exact zs9 r rx f.1 fx
  ·exact Jd rx fx t f.2 u' hu
def Iy (x:V)(xs:List V):Bool:=xs.any λy=>rG y x
def PH (K:aa)(neg:Bool):R2:=λx y H Q=>∃p xs,y=.ref p/\(e5 K H p xs\/kJ K H p xs)/\ie x=true/\xs.all ie=true/\Q (.bl (if neg then !Iy x xs else Iy x xs)) H
theorem M5:fP X (ck .In) (PH X.K false):=by
 intro ai s σ H x y v u Q I rx ry h
 obtain⟨p,xs,rfl,hq,fx,fs,q⟩:=h
 cases ry
 rcases hq with hq|hq
 ·obtain⟨bZ,r,pl,hz⟩:=I.list hq
  refine SeqAt.in_listAt (sn x) pl.isList (λw hw=>Jd rx fx r fs w (by simpa using hw)) ⟨.bl _,H,I,rfl,?_⟩
  rw[show bZ.toArray.any (sn x)=bZ.any (sn x)by simp,NB r fs]
  exact q
 ·obtain⟨bZ,r,pl,hz⟩:=I.tuple hq
  refine SeqAt.in_tupleAt (sn x) pl (λw hw=>Jd rx fx r fs w (by simpa using hw)) ⟨.bl _,H,I,rfl,?_⟩
  rw[show bZ.toArray.any (sn x)=bZ.any (sn x)by simp,NB r fs]
  exact q
theorem Zc:et X (.builtin "len") (λxs H Q=>∃p ys,xs=[.ref p]/\(e5 X.K H p ys\/kJ X.K H p ys)/\Q (.int ys.length) H):=by
 intro ai s σ H xs us Q I r h
 obtain⟨p,ys,rfl,hq,q⟩:=h
 obtain⟨u,rfl,rx⟩:=mG r
 cases rx
 have hn:=jN
 rcases hq with hq|hq
 ·obtain⟨bZ,r',pl,hz⟩:=I.list hq
  have eS:=r'.length
  exact Calls.call_len_list pl.isList (by simp only[aE]<;>omega) ⟨.int ys.length,H,I.tok _,⟨s.toks+1,by rw[aE,eS]⟩,q⟩
 ·obtain⟨bZ,r',pl,hz⟩:=I.tuple hq
  have eS:=r'.length
  exact len_tuple pl (by simp only[aE]<;>omega) ⟨.int ys.length,H,I.tok _,⟨s.toks+1,by rw[aE,eS]⟩,q⟩
theorem Zd:et X (.builtin "len") (λxs H Q=>∃z,xs=[.str z]/\z.length<=sizeLine/\Q (.int z.length) H):=by
 intro ai s σ H xs us Q I r h
 obtain⟨z,rfl,hz,q⟩:=h
 obtain⟨u,rfl,t,rfl⟩:=mG r
 have hn:=jN
 exact len_str (by omega) ⟨.int z.length,H,I.tok _,⟨_,rfl⟩,q⟩
theorem et.or {f:ae}{r r':List V->Hp->VK->Prop}(h:et X f r)(h':et X f r'):et X f (λxs H Q=>r xs H Q\/r' xs H Q):=by
 intro ai s σ H xs us Q I rs q
 rcases q with q|q
 ·exact h ai s σ H xs us Q I rs q
 ·exact h' ai s σ H xs us Q I rs q
theorem Qd:et X (.type "list") (λxs H Q=>∃p ys,xs=[.ref p]/\(e5 X.K H p ys\/kJ X.K H p ys)/\∀l,H l=none->Q (.ref l) (upd H l (.lst ys))):=by
  intro ai s σ H xs us Q I r h
  obtain⟨p,ys,rfl,hq,q⟩:=h
  obtain⟨u,rfl,rx⟩:=mG r
  cases rx
  have fin:∀(bZ:List ae),bX ys bZ->ys.length<=sizeLine->∀(h':aZ) (c':Nat),(∀b o',s.heap.get? b=some o'->h'.get? b=some o') ->
      h'.get? s.heap.objs.size=some { cls:=.type "list",dict:=none,data:=.seq bZ.toArray c',slots:=#[] }->EP X ai σ Q (.ref s.heap.objs.size) { s with heap:=h' }:=λbZ r' hz h' c' kp e=>
    ⟨.ref s.heap.objs.size,_,I.laid (t':=s.toks) kp (aM _) (show d4 X.prog X.w _ h' _ (.lst ys)from⟨hz,bZ,c',r',e⟩),rfl,q _ (I.hok.fresh (aM _))⟩
  rcases hq with hq|hq
  · obtain⟨bZ,r',pl,hz⟩:=I.list hq
    have eS:=r'.length
    obtain⟨o,ho,hc,n,hd⟩:=pl.isList
    exact call_list_seq p (.inl rfl) ho hc hd (λh' c' kp e=>fin bZ r' hz h' c' kp e) (by simp only[aE]<;>omega)
  · obtain⟨bZ,r',pl,hz⟩:=I.tuple hq
    have eS:=r'.length
    obtain⟨o,ho,hc,n,hd⟩:=pl
    exact call_list_seq p (.inr rfl) ho hc hd (λh' c' kp e=>fin bZ r' hz h' c' kp e) (by simp only[aE]<;>omega)
def MG (K:aa)(T:String)(x:V)(H:Hp):Prop:=match x with
 |.str _=>T = "str"
 |.int _=>T = "int"
 |.ref p=>(T = "list"/\∃xs,e5 K H p xs)\/(T = "tuple"/\∃o,K.lookup p=some o/\o.cls=.type "tuple"/\o.dict=none) \/
   (T = "dict"/\((∃cE,H p=some (.dK cE))\/∃cE,H p=some (.dT cE)))\/(T = "set"/\∃S n,H p=some (.set S n))
 |_=>False
theorem Sg {ai:List (ah×dU)}{σ:St}{H:Hp}{s:am}{T:String}{x:V}{v:ae}(I:Inv X ai σ H s)(r:RelV x v)(ty:MG X.K T x H) :
  s.TypeIs v T/\∀a,v=.ref a->∃ob,s.heap.get? a=some ob/\ob.dict=none:=by
 cases x with
 |str z=>
  obtain⟨t,rfl⟩:=r
  cases(show T = "str" from ty)
  exact⟨typeIs_str s z t,λ_ e=>nomatch e⟩
 |int i=>
  obtain⟨t,rfl⟩:=r
  cases(show T = "int" from ty)
  exact⟨vQ s i t,λ_ e=>nomatch e⟩
 |ref p=>
  cases r
  rcases ty with⟨rfl,xs,hq⟩|⟨rfl,o,hk,hc,hd⟩|⟨rfl,hk⟩|⟨rfl,S,n,hk⟩
  ·obtain⟨bZ,_,pl,_⟩:=I.list hq
   refine⟨pl.isList.typeIs,λa e=>?_⟩
   cases e
   obtain⟨o,n,e,c,hd,_⟩:=pl
   exact⟨o,e,hd⟩
  ·refine⟨⟨o,I.kIn p o hk,hc⟩,λa e=>?_⟩
   cases e
   exact⟨o,I.kIn _ o hk,hd⟩
  ·have z:∃o,s.heap.get? p=some o/\o.ExactDict:=by
    rcases hk with⟨cE,hk⟩|⟨cE,hk⟩
    ·obtain⟨_,_,_,_,o,_,_,e,ex,_⟩:=I.hok p _ hk
     exact⟨o,e,ex⟩
    ·obtain⟨_,_,_,_,o,_,_,e,ex,_⟩:=I.hok p _ hk
     exact⟨o,e,ex⟩
   obtain⟨o,e,ex⟩:=z
   refine⟨⟨o,e,ex.1⟩,λa e2=>?_⟩
   cases e2
   exact⟨o,e,ex.2.1⟩
  ·obtain⟨o,_,_,_,e,ex,_⟩:=I.hok p _ hk
   refine⟨⟨o,e,ex.1⟩,λa e2=>?_⟩
   cases e2
   exact⟨o,e,ex.2.1⟩
 |_=>exact False.elim ty
def Mq (K:aa)(T:String)(r:V->List V->Hp->VK->Prop)(to:TE):TE:=λσ H Q=>to σ H λx H1=>MG K T x H1/\r x [] H1 Q
def Yg (K:aa)(T:String)(r:V->List V->Hp->VK->Prop)(to:TE)(t:TA):TE:=λσ H Q=>to σ H λx H1=>MG K T x H1/\t σ H1 λxs H2=>r x xs H2 Q
variable {o e:Expr}{es:List Expr}{to:TE}{t:TA}{name:aQ}{dD dO:cY}{T id:String}{r:V->List V->Hp->VK->Prop}
theorem zta (pa:PlainAttrs T)(slot:Slot T name id)(LK:typeOf (.builtin id)=pure (.type "method_descriptor"))(hm:JT X id r)(ho:PE X o to)
  (ig:dJ o name X.env (bJ o X.env)=bJ o X.env:=by rfl) (ij:(dD.endLine==dO.line)=true:=by rfl):PE X (.Call (.Attribute o name dD) [] [] dO) (Mq X.K T r to):=by
 intro ai s σ H Q I h
 refine wpAny_Call_method0_late ig ij (dz (ho ai s σ H _ I h) λv s1 ⟨x,H1,I1,r1,ty,q1⟩=>?_)
 obtain⟨h1,h2⟩:=Sg I1 r1 ty
 exact⟨T,id,pa,slot,LK,h1,h2,Calls.callWith_builtin rfl (PySem.evalArgs_none (hm ai s1 σ H1 x [] v [] Q I1 r1 .nil q1))⟩
theorem HI (pa:PlainAttrs T)(slot:Slot T name id)(LK:typeOf (.builtin id)=pure (.type "method_descriptor"))(hm:JT X id r)(ho:PE X o to)(ha:PA X (e::es) t)
  (ig:dJ o name X.env (bJ o X.env)=bJ o X.env:=by rfl)
  (n4:((cB dO (aq (e::es) X.env)).all (λx=>!x.1)&&(eL dO (dC [] X.env)).all (λx=>x.1.isSome)
   && decide ((e::es).length+([]:List fL).length+(if([]:List fL).isEmpty then 0 else 1)<30))=true:=by rfl)
  (ij:(dD.endLine==dO.line)=true:=by rfl) (hs:aq (e::es) X.env=(false,bJ e X.env)::aq es X.env:=by rfl) (iC:(cB dO (aq es X.env)).any (·.1)=false:=by rfl) :
  PE X (.Call (.Attribute o name dD) (e::es) [] dO) (Yg X.K T r to t):=by
 intro ai s σ H Q I h
 refine wpAny_Call_method_late ig n4 ij rfl (dz (ho ai s σ H _ I h) λv s1 ⟨x,H1,I1,r1,ty,q1⟩=>?_)
 obtain⟨h1,h2⟩:=Sg I1 r1 ty
 refine⟨T,id,pa,slot,LK,h1,h2,?_⟩
 have hA:=ha dO ai s1 σ H1 _ I1 q1
 rw[hs]at hA ⊢
 refine Calls.callWith_builtin (by show(false || (cB dO (aq es X.env)).any (·.1))=false;rw[iC]<;>rfl) (Calls.evalArgs_plain ?_)
 exact dz hA λus s2 ⟨vs,H2,I2,r2,q2⟩=>hm ai s2 σ H2 x vs v us Q I2 r1 r2 q2
end
end L2
namespace L2
open PySem PySem.Spec PyProof.Rows
def HN (X:Cx)(id:String)(r:V->List V->Hp->VK->Prop):Prop :=
 ∀(ai:List (ah×dU)) (s:am) (σ:St) (H:Hp) (x:V) (xs:List V) (v:ae) (us:List ae) (Q:VK),Inv X ai σ H s->RelV x v->bX xs us->r x xs H Q ->
  bi (ba X.prog X.w) X.A (call (.builtin id) (v::us)) (EP X ai σ Q) X.xe s
theorem bX.one:∀{x:V} {us:List ae},bX [x] us->∃u,us=[u]/\RelV x u
 |_,_,.cons r .nil=>⟨_,rfl,r⟩
theorem bX.zero:∀{us:List ae},bX [] us->us=[]
 |_,.nil=>rfl
theorem bX.dropLast {xs:List V}{us:List ae}(h:bX xs us):bX xs.dropLast us.dropLast:=by
 induction h with
 |nil=>exact .nil
 |cons r t ih=>
  cases t with
  |nil=>exact .nil
  |cons q t'=>exact .cons r ih
theorem bX.eraseIdx:∀{xs:List V} {us:List ae} (i:Nat),bX xs us->bX (xs.eraseIdx i) (us.eraseIdx i)
 |_,_,_,.nil=>.nil
 |_,_,0,.cons _ t=>t
 |_,_,i+1,.cons r t=>.cons r (bX.eraseIdx i t)
theorem bX.rep {xs:List V}{us:List ae}(h:bX xs us):∀k:Nat,bX (az k xs).flatten (az k us).flatten
 |0=>.nil
 |k+1=>by
  rw[cM,cM,d9,d9]
  exact bX.append h (bX.rep h k)
theorem ZM {α:Type}(l:List α):l.eraseIdx (l.length-1)=l.dropLast:=by
 induction l with
 |nil=>rfl
 |cons a r ih=>
  cases r with
  |nil=>rfl
  |cons b r=>
   have e:(a::b::r).length-1=((b::r).length-1)+1:=by
    have h1:(a::b::r).length=r.length+2:=rfl
    have h2:(b::r).length=r.length+1:=rfl
    omega
   rw[e,oC,ih]
   all_goals rfl
theorem QN {α:Type}:∀(l:List α) (i:Nat),(l.eraseIdx i).length<=l.length
 |[],_=>aM _
 |_::_,0=>ma _
 |_::r,i+1=>Nat.succ_le_succ (QN r i)
theorem QO (bZ:List ae):∀(k:Nat) (fE:List ae),
  qW (λx1 x2=>x1++x2) fE.toArray (az k bZ.toArray)=(fE++(az k bZ).flatten).toArray
 |0,fE=>by simp
 |k+1,fE=>by
  have e:fE.toArray++bZ.toArray=(fE++bZ).toArray:=by simp
  have e2:(fE++bZ)++(az k bZ).flatten=fE++(az (k+1) bZ).flatten:=by
   rw[cM,d9,d8]
  rw[←e2,←QO bZ k (fE++bZ),←e,cM,iQ]
section
variable {X:Cx}{ai:List (ah×dU)}{σ:St}{H:Hp}{s:am}{l b:ah}{xs ys zs:List V}
theorem Inv.lset {bZ its':List ae}{n:Nat}{f:Array ae->Array ae}{t':Nat}(I:Inv X ai σ H s)(hH:H l=some (.lst xs))
    (e:s.heap.get? l=some { cls:=.type "list",data:=.seq bZ.toArray n }) (hf:f bZ.toArray=its'.toArray) (hv:bX ys its') (hz:ys.length<=sizeLine) :
    Inv X ai σ (upd H l (.lst ys)) { s with heap:=s.heap.update l (dU.mapSeq f),toks:=t' }:=by
  have q:=PySem.IsL.update e f
  rw[hf]at q
  refine I.write (x:=l) (e:=l) (by rw[hH];exact trivial) (.inl rfl) (λb' u hb hu=>(iJ s.heap (dU.mapSeq f) (Ne.symm hb)).trans hu) ⟨_,q⟩ ?_
  exact⟨hz,its',_,hv,q⟩
theorem Inv.lnew {bZ:List ae}{t':Nat}(I:Inv X ai σ H s)(hv:bX ys bZ)(hz:ys.length<=sizeLine) :
    Inv X ai σ (upd H s.heap.objs.size (.lst ys)) { s with heap:=s.heap.push { cls:=.type "list",data:=.seq bZ.toArray },toks:=t' } :=
  I.laid (λ_ _ q=>aC _ q) (aM _) ⟨hz,bZ,0,hv,bQ _ rfl⟩
theorem Inv.fresh (I:Inv X ai σ H s):H s.heap.objs.size=none:=I.hok.fresh (aM _)
theorem Inv.lstM (I:Inv X ai σ H s)(hH:H l=some (.lst xs)):xs.length<=sizeLine/\∃(bZ:List ae) (n:Nat),bX xs bZ/\xs.length=bZ.length/\s.heap.get? l=some { cls:=.type "list",data:=.seq bZ.toArray n }:=by
  obtain⟨z,bZ,n,r,e⟩:=I.hok l _ hH
  exact⟨z,bZ,n,r,r.length,e⟩
theorem tu {n:Nat}(h:n<=sizeLine):e6.List.listTooLong n=false:=by
 unfold e6.List.listTooLong
 exact decide_eq_false (by omega)
end
section
variable {X:Cx}
def uZ:V->List V->Hp->VK->Prop:=λx vs H Q=>∃l xs y,x=.ref l/\vs=[y]/\H l=some (.lst xs)/\xs.length<sizeLine/\Q .non (upd H l (.lst (xs++[y])))
theorem Hq:HN X "list.append" uZ:=by
 intro ai s σ H x vs v us Q I rx rv h
 obtain⟨l,xs,y,rfl,rfl,hH,hz,q⟩:=h
 cases rx
 obtain⟨u,rfl,ru⟩:=rv.one
 obtain⟨z,bZ,n,r,hl,e⟩:=I.lstM hH
 refine iq F.slot_list_append ⟨_,e,rfl⟩ F.entry_list_append (F.args_list_append_2 _ _) (PySem.list_append l bZ.toArray n u (by rw[aE];omega)) ⟨e,?_⟩
 refine⟨.non,_,I.lset (its':=bZ++[u]) hH e (by simp) (r.append (.cons ru .nil)) ?_,rfl,q⟩
 rw[bg,cN]
 omega
def Mf:V->List V->Hp->VK->Prop:=λx vs H Q=>∃l xs y,x=.ref l/\vs=[]/\H l=some (.lst xs)/\xs[xs.length-1]?=some y/\Q y (upd H l (.lst xs.dropLast))
theorem zvm:HN X "list.pop" Mf:=by
 intro ai s σ H x vs v us Q I rx rv h
 obtain⟨l,xs,y,rfl,rfl,hH,hy,q⟩:=h
 cases rx
 have LL:=rv.zero
 subst LL
 obtain⟨z,bZ,n,r,hl,e⟩:=I.lstM hH
 obtain⟨u,hu,ru⟩:=r.get hy
 have Vz:bZ.toArray[bZ.toArray.size-1]?=some u:=by
  show bZ.toArray[bZ.length-1]?=some u
  rw[←oI,←hl]
  exact hu
 refine iq F.slot_list_pop ⟨_,e,rfl⟩ F.entry_list_pop (F.args_list_pop_1 _) (MeetsSeq.list_pop_last l bZ.toArray n u Vz (by rw[aE];omega)) ⟨e,?_⟩
 refine⟨y,_,I.lset (its':=bZ.dropLast) hH e ?_ r.dropLast ?_,ru,q⟩
 ·show bZ.toArray.eraseIdxIfInBounds (bZ.toArray.size-1)=bZ.dropLast.toArray
  rw[aE,kR,ZM]
 ·rw[List.length_dropLast]
  omega
def AE:V->List V->Hp->VK->Prop:=λx vs H Q=>∃l xs i k y,x=.ref l/\vs=[.int i]/\H l=some (.lst xs)/\-(2 ^ 63)<=i/\i<2 ^ 63/\seqIndex? i xs.length=some k/\xs[k]?=some y/\Q y (upd H l (.lst (xs.eraseIdx k)))
theorem znc:HN X "list.pop" AE:=by
 intro ai s σ H x vs v us Q I rx rv h
 obtain⟨l,xs,i,k,y,rfl,rfl,hH,h1,h2,hk,hy,q⟩:=h
 cases rx
 obtain⟨u,rfl,ru⟩:=rv.one
 obtain⟨t,rfl⟩:=ru
 obtain⟨z,bZ,n,r,hl,e⟩:=I.lstM hH
 obtain⟨w,hw,nq⟩:=r.get hy
 refine iq F.slot_list_pop ⟨_,e,rfl⟩ F.entry_list_pop (F.args_list_pop_2 _ _)
  (MeetsSeq.list_pop_at l bZ.toArray n i t k w (fitsIndex_both h1 h2) (by rw[aE,←hl];exact hk) (by rw[←oI];exact hw) (by rw[aE];omega)) ⟨e,?_⟩
 refine⟨y,_,I.lset (its':=bZ.eraseIdx k) hH e ?_ (r.eraseIdx k) ?_,nq,q⟩
 ·show bZ.toArray.eraseIdxIfInBounds k=(bZ.eraseIdx k).toArray
  rw[kR]
 ·have:=QN xs k
  omega
def AA:V->List V->Hp->VK->Prop:=λx vs H Q=>∃l xs,x=.ref l/\vs=[]/\H l=some (.lst xs)/\Q .non (upd H l (.lst []))
theorem znd:HN X "list.clear" AA:=by
 intro ai s σ H x vs v us Q I rx rv h
 obtain⟨l,xs,rfl,rfl,hH,q⟩:=h
 cases rx
 have LL:=rv.zero
 subst LL
 obtain⟨z,bZ,n,r,hl,e⟩:=I.lstM hH
 refine iq F.slot_list_clear ⟨_,e,rfl⟩ F.entry_list_clear (F.args_list_clear_1 _) (AutoSeq1.list_clear_list_0 l bZ.toArray n (by rw[aE];omega)) ⟨e,?_⟩
 exact⟨.non,_,I.lset (its':=[]) (ys:=[]) hH e rfl .nil (de _),rfl,q⟩
theorem zqg {α:Type}(xs:List α)(k:Nat):(az k xs).flatten.length=k*xs.length:=by
 induction k with
 |zero=>simp
 |succ k ih=>rw[cM,d9,bg,ih,Nat.succ_mul,Nat.add_comm]
end
section
variable {prog:bB}{w:cj}{A:bR}{E:ae->am->Prop}{s:am}
end
section
variable {X:Cx}
end
end L2
namespace Att
open PySem PySem.W PySem.Calls PyProof.Rows
theorem YM {P:Params}{h:aZ}:∀(ns:List Int) (vs:List ae),WellAll P h vs (ns.map WData.int)->IntsAre vs ns:=by
 intro ns
 induction ns with
 |nil=>
  intro vs w
  rw[kA]at w
  cases w
  exact .nil
 |cons n ns ih=>
  intro vs w
  rw[aO]at w
  cases w with
  |cons a b=>
   cases a
   exact .cons _ _ (ih _ b)
theorem Z6 {l:OpenLaw}{n:Nat}(hn:l.most=some n){P:Params}{h:aZ}{args:List WData}{vals:List ae}
    (uR:l.row.toRowW.claim.pre args=true) (EQ:WellAll P h vals args) :
    ∃a vs ns,vals=[ae.ref a]/\args=[WData.list (ns.map WData.int)]/\h.get? a=some { cls:=.type "list",data:=.seq vs.toArray }/\IntsAre vs ns/\ns.length<=n:=by
  have Vt:WShape.hasAll [] args [.list .int]=true:=(pre_splitW uR).1
  have hc:l.pre.holds [] { args:=args }=true:=(pre_splitW uR).2
  obtain⟨d,r,rfl,h1,h2⟩:=hasAllW_cons Vt
  obtain rfl:=hasAllW_nil h2
  obtain⟨xs,rfl,h3⟩:=hasW_list h1
  obtain⟨ns,rfl⟩:=items_int h3
  have eS:ns.length<=n:=by
    unfold OpenLaw.pre at hc
    have h4:(WTm.not (.lt (.lit (.int (n:Int))) (.len (.arg 0)))).holds [] { args:=[.list (ns.map .int)] }=true:=by
      have h4:=(holds_andW hc).1
      rw[hn]at h4
      exact h4
    have h5:=condW_of h4 (w_not (w_lt w_lit (w_len_list (w_arg rfl))))
    rw[ak]at h5
    refine Nat.le_of_not_lt λq=>?_
    have q':(n:Int)<((ns.length:Nat):Int):=by omega
    first
      |(rw[decide_eq_true q']at h5;exact absurd h5 (by decide))
      |(simp at h5;omega)
  cases EQ with
  |cons w1 w2=>
    cases w2
    cases w1 with
    |list ho Lo=>exact⟨_,_,ns,rfl,rfl,ho,YM ns _ Lo,eS⟩
theorem Z7 (l:OpenLaw)(args:List WData):l.row.toRowW.claim.post args (.bool true) args=true :=
  postW_of (r:=l.row.toRowW) (X:=(true==true))
    (show WShape.has [] (.bool true) .bool=true by first|rfl|decide|simp[WShape.has,WShape.arms,WShape.armsAll])
    (show(WTm.eq .res (.lit (.bool true))).value [] { args:=args,res:=some (.bool true),after:=args }=some (.bool (true==true))from w_eq_bool (w_res rfl) w_lit) rfl
theorem attach_call {l:OpenLaw}{n:Nat}{q:bB}{loose:List aQ}{XP:(aQ->Option ae)->aZ->Prop}{YP:cj->aZ->Prop}{d:DefRec}
    (hn:l.most=some n) (Ep:d.params.defaults=[])
    (call:∀(w:cj) (s₀ s₁:am) (mg mb:aQ->Option ae) (fa:ah) (o:dU) (pm cd doc:ae) (a:ah) (vs:List ae) (ns:List Int),
      Ground q loose [] XP w s₀ mg mb s₁.heap->YP w s₁.heap ->
      s₁.heap.get? fa=some o->o.data=.func (docDef d.name d.params d.body d.scope pm cd doc)->s₁.heap.CodeRec cd d.name->mg d.name=some (.ref fa) ->
      s₁.heap.get? a=some { cls:=.type "list",data:=.seq vs.toArray }->IntsAre vs ns->ns.length<=n->s₁.gens = #[] ->
      gc (ba l.prog w) mK (.call (.ref fa) ⟨[.ref a],[]⟩) (λr s'=>r=.ok (.ret (.bool true))/\OldK s₁.heap s'.heap/\s'.os=s₁.os/\AllBare s'.gens) s₁) :
    WalkO q loose XP YP l.row.toRowW d [] (λf vs=>PySem.call f vs):=by
  intro w s₀ s₁ mg mb G Y fa o pm cd doc dV kV ho hd gA hD hmg hg args vals as uR Vj hrd EQ hlo
  obtain rfl:dV=.none:=Dflts.none hD Ep
  obtain rfl:kV=.none:=Dflts.noKw hD
  obtain⟨a,vs,ns,rfl,rfl,Aa,sU,eS⟩:=Z6 hn uR EQ
  refine enter_call (mL (call w s₀ s₁ mg mb fa o pm cd doc a vs ns G Y ho (fd_plain hd) gA hmg Aa sU eS hg) λr s' hq=>?_)
  obtain⟨rfl,h2,h3,h4⟩:=hq
  exact⟨.inl ⟨.bool true,.bool true,[],rfl,λ_=>rfl,.bool true,Z7 l _,λ_=>⟨jQ.nil,λ_ hm=>(nomatch hm)⟩⟩,h2,h3,h4⟩
section
variable {prog:bB}{w:cj}{A:bR}{E:ae->am->Prop}{s:am}{K:Frag}
end
end Att
namespace L2
open PySem PySem.Spec PyProof.Rows
theorem QP:∀{vs:List ae} {ns:List Int},IntsAre vs ns->bX (ns.map V.int) vs
 |_,_,.nil=>.nil
 |_,_,.cons n t h=>.cons ⟨t,rfl⟩ (QP h)
def xE (H:Hp):Prop:=∀b,H b=none\/∃o xs,H b=some (.frz o (.lst xs))
theorem zne {P:bB}{w:cj}{K:aa}{mg mb:aQ->Option ae}{CX:sk}{k:Nat}{fa a:ah}{fd:aH}{x:aQ}{sp:Sp}{s₁:am}{vs:List ae}{ns:List Int}
    (KX:K.In s₁.heap) (gB:s₁.heap.Ns ap mg) (hb:s₁.heap.Ns vO mb) (U3:∀x:aQ,x≠"__name__"->mb x=bK x) (LC:s₁.heap.NoLimit) (hg:s₁.gens = #[])
    (ha:s₁.heap.get? a=some { cls:=.type "list",data:=.seq vs.toArray }) (hi:IntsAre vs ns) (hl:ns.length<=sizeLine) (hr:eo k mK)
    (F:∀base:aZ,K.In base->base.Ns ap mg->cx P w K mg base CX k fa fd [x] sp) (En:∀(s:am) (u:ae),oN s fd ⟨[u],[]⟩ [(x,u)])
    (wF:∀H:Hp,xE H->e5 K H a (ns.map V.int)->sp [.ref a] H (λv _=>v=.bl true) λ_ _ _=>False)
    (Li:∀H e s',CX [] H s₁ (λ_ _ _=>False) e s'->False) :
    gc (ba P w) mK (.call (.ref fa) ⟨[.ref a],[]⟩) (λr s'=>r=.ok (.ret (.bool true))/\OldK s₁.heap s'.heap/\s'.os=s₁.os/\AllBare s'.gens) s₁:=by
  have rv:=QP hi
  have L1:=hi.length
  have core:∀H:Hp,xE H->e5 K H a (ns.map V.int)->jU P w H s₁.heap->(∀b,H b≠none->b=a)->(H a≠none->K.lookup a=none) ->
      gc (ba P w) mK (.call (.ref fa) ⟨[.ref a],[]⟩) (λr s'=>r=.ok (.ret (.bool true))/\OldK s₁.heap s'.heap/\s'.os=s₁.os/\AllBare s'.gens) s₁:=by
    intro H hO hS hok hA hK
    have qI:∀{b:ah} {o:dU},s₁.heap.get? b=some o->H b=none->(n6 s₁.heap H).get? b=some o:=λe n=>zmz e n
    have FU:∀{b:ah} {o:dU} {es:Array DictEntry} {ep:Nat},s₁.heap.get? b=some o->o.data=.dict es ep->H b=none:=λ{b o es ep} e d=>by
      cases q:H b with
      |none=>rfl
      |some u=>
        have e':b=a:=hA b (by rw[q];simp)
        subst e'
        rw[ha]at e;cases e
        have d':jR.seq vs.toArray _=jR.dict es ep:=d
        cases d'
    have IE:∀{b:ah} {m:aQ->Option ae},s₁.heap.Ns b m->(n6 s₁.heap H).Ns b m:=λ{b m} ⟨o,es,ep,e,d,r⟩=>⟨o,es,ep,qI e (FU e d),d,r⟩
    have OR:K.In (n6 s₁.heap H):=λb o e=>qI (KX b o e) (by
      cases q:H b with
      |none=>rfl
      |some u=>
        have e':b=a:=hA b (by rw[q];simp)
        subst e'
        rw[hK (by rw[q];simp)]at e;cases e)
    have hM:Mod K mg (n6 s₁.heap H):=⟨OR,IE gB,⟨mb,IE hb,U3⟩,let⟨mc,h1,h2⟩:=LC;⟨mc,IE h1,h2⟩⟩
    have e0:pP P w K mg (n6 s₁.heap H) mK [] s₁ H:=⟨rfl,hM,λb o e=>zpu e,Nat.le_of_eq (ZZ _ _),trivial,λb hb=>absurd (show b∈([]:List ah)from hb) (by simp),hok,.of_eq hg⟩
    refine mL ((F _ OR (IE gB)).run mK [] s₁ H ⟨[.ref a],[]⟩ [.ref a] [.ref a] _ _ hr e0 (En s₁ (.ref a)) (.cons rfl .nil) (wF H hO hS)) λr s' h=>?_
    cases r with
    |error e=>exact(Li H e s' h).elim
    |ok fl=>
      cases fl with
      |next=>exact False.elim h
      |brk=>exact False.elim h
      |cont=>exact False.elim h
      |ret u=>
        obtain⟨v,H',os,bare,un,LH,r',q⟩:=h
        have q':v=.bl true:=q
        subst q'
        obtain rfl:u=ae.bool true:=r'
        refine⟨rfl,OldK.of_keep λb o e=>?_,os,bare⟩
        cases q:H b with
        |none=>exact un.keep b o e q (by intro z;exact absurd (show b∈([]:List ah)from z) (by simp)) (by simp)
        |some u=>
          rcases hO b with z|⟨ob,xs,z⟩
          · rw[q]at z;cases z
          · have z2:=un.frzs b ob _ z
            obtain⟨e1,_⟩:=hok b _ z
            obtain⟨e2,_⟩:=LH b _ z2
            rw[e]at e1;cases e1
            exact e2
  cases hk:K.lookup a with
  |some o=>
    have e:=KX a o hk
    rw[ha]at e
    cases e
    refine core (λ_=>none) (λ_=>.inl rfl) (.inr ⟨_,vs.toArray,_,hk,rfl,rfl,rfl,by rw[aE,L1];exact hl,by simpa using rv⟩) (λb u z=>by have z':(none:Option HO)=some u:=z;cases z') (λb z=>absurd rfl z) λz=>absurd rfl z
  |none=>
    refine core (λb=>if b=a then some (.frz { cls:=.type "list",data:=.seq vs.toArray } (.lst (ns.map V.int)))else none) (λb=>?_) (.inl (.inr ⟨{ cls:=.type "list",data:=.seq vs.toArray },if_pos rfl⟩)) (λb u z=>?_) (λb z=>?_) λ_=>hk
    · by_cases hb:b=a
      · exact .inr ⟨_,_,if_pos hb⟩
      · exact .inl (if_neg hb)
    · by_cases hb:b=a
      · have z':=(if_pos hb).symm.trans z
        cases z'
        subst hb
        exact⟨ha,by rw[ak];exact hl,vs,_,rv,ha⟩
      · have z':=(if_neg hb).symm.trans z
        cases z'
    · by_cases hb:b=a
      · exact hb
      · exact absurd (if_neg hb) z
end L2
namespace L2
open PySem PySem.Spec PyProof.Rows
theorem walk_of {l:kW}{n k:Nat}{q:bB}{loose:List aQ}{XP:(aQ->Option ae)->aZ->Prop}{YP:cj->aZ->Prop}{d:DefRec}{K:Params->aa}{CX:cj->sk}{sp:cj->Sp}{x:aQ}
  (hn:l.most=some n) (wC:n<=sizeLine) (Ep:d.params.defaults=[]) (hr:eo k mK)
  (hY:∀(w:cj) (h:aZ),YP w h->(K w.params).In h)
  (F:∀(w:cj) (mg:aQ->Option ae) (fa:ah) (h:aZ),(K w.params).In h->h.Ns ap mg->mg d.name=some (.ref fa) ->
   ∃fd:aH,(∀(s:am) (u:ae),oN s fd ⟨[u],[]⟩ [(x,u)]) /\
    ∀base:aZ,(K w.params).In base->base.Ns ap mg->cx l.prog w (K w.params) mg base (CX w) k fa fd [x] (sp w))
  (wF:∀(w:cj) (H:Hp) (a:ah) (ns:List Int),ns.length<=n->xE H->e5 (K w.params) H a (ns.map V.int)->sp w [.ref a] H (λv _=>v=.bl true) λ_ _ _=>False)
  (Li:∀(w:cj) (H:Hp) (s:am) (e:ae) (s':am),CX w [] H s (λ_ _ _=>False) e s'->False) :
  sD q loose XP YP l.row.toRowW d [] (λf vs=>PySem.call f vs):=by
 refine Att.attach_call hn Ep λw s₀ s₁ mg mb fa o pm cd doc a vs ns G Y ho hd gA hmg Aa sU eS hg=>?_
 have KX:=hY w _ Y
 obtain⟨fd,hb,hF⟩:=F w mg fa _ KX G.T.g hmg
 exact zne KX G.T.g G.T.b G.T.builtins G.T.nolimit hg Aa sU (cL eS wC) hr hF hb (λH hO hS=>wF w H a ns eS hO hS) λH e s'=>Li w H s₁ e s'
end L2
namespace L2
open PySem PySem.Spec PyProof.Rows
def inClass (s:bP)(j:Nat):bP:=match s with
 |.ClassDef _ _ _ body _ _ _ _ _ _ _=>body.getD j (.Pass ⟨0,0,0,0⟩)
 |_=>.Pass ⟨0,0,0,0⟩
def lR (s:bP):Arguments:=match s with
  |.FunctionDef _ a _ _ _ _ _ _ _ _=>a
  |_=>{ posonlyargs:=[],args:=[],vararg:=none,kwonlyargs:=[],kw_defaults:=[],kwarg:=none,defaults:=[] }
def gx (s:bP):List bP:=match s with
 |.FunctionDef _ _ b _ _ _ _ _ _ _=>b
 |_=>[]
def aL (s:bP):fQ:=match s with
  |.FunctionDef _ _ _ _ _ _ sc _ _ _=>sc
  |_=>{ kind:=.function,names:=[],isGenerator:=false,isCoroutine:=false }
abbrev ez:sk:=λ_ _ _ _ _ _=>False
abbrev E0:XK:=λ_ _ _=>False
theorem nK {X:Cx}:iU ez X E0:=λ_ _ _ _ _ _ _ h=>h.elim
section
variable {P:bB}{w:cj}{K:aa}{mg:aQ->Option ae}{base:aZ}
end
theorem wY {A:bR}{k:Nat}(hr:eo k A):A.units+1<gK:=kx (Nat.add_le_add_left (by decide:1<=64) _) hr.units
theorem rO {n:Nat}(h:n<=1000):n<sizeLine:=kx h (by decide)
section
variable {X:Cx}
end
def bT (H H':Hp):Prop:=∀b o,H b=some o->H' b=some o
theorem bT.refl (H:Hp):bT H H:=λ_ _ h=>h
theorem bT.trans {H H1 H2:Hp}(a:bT H H1)(b:bT H1 H2):bT H H2:=λc o h=>b c o (a c o h)
theorem bT.free {H H':Hp}(e:bT H H'){l:ah}(h:H' l=Option.none):H l=Option.none:=by
 cases q:H l with
 |none=>rfl
 |some o=>
  rw[e l o q]at h
  cases h
theorem bT.seq {K:aa}{H H':Hp}{a:ah}{xs:List V}(e:bT H H')(h:e5 K H a xs):e5 K H' a xs:=by
 rcases h with(h|⟨o,h⟩)|h
 ·exact .inl (.inl (e _ _ h))
 ·exact .inl (.inr ⟨o,e _ _ h⟩)
 ·exact .inr h
end L2
namespace L2
open PySem PySem.Spec PyProof.Rows
section
variable {κ:Type}[DecidableEq κ]
def ik (cE:List (κ×V))(k:κ):Option V:=(cE.find? λkv=>decide (kv.1=k)).map (·.2)
def putK (cE:List (κ×V))(k:κ)(v:V):List (κ×V) :=
 if(cE.any λkv=>decide (kv.1=k))=true then cE.map (λkv=>if kv.1=k then(kv.1,v)else kv)else cE++[(k,v)]
theorem M8 {p:κ×V}{r:List (κ×V)}{k:κ}(e:p.1=k):ik (p::r) k=some p.2:=by simp[ik,cZ,e]
theorem M9 {p:κ×V}{r:List (κ×V)}{k:κ}(e:¬p.1=k):ik (p::r) k=ik r k:=by simp[ik,cZ,e]
theorem Rm (k:κ):∀cE:List (κ×V),(cE.any λkv=>decide (kv.1=k))=(ik cE k).isSome
 |[]=>rfl
 |p::r=>by
  rw[eD]
  by_cases e:p.1=k
  ·simp only[M8 e,decide_eq_true e,Bool.true_or,Option.isSome_some]
  ·rw[M9 e,decide_eq_false e,Bool.false_or];exact Rm k r
theorem Qn (cE:List (κ×V))(k:κ)(v:V):(putK cE k v).length<=cE.length+1:=by
 unfold putK
 split
 ·rw[ak];omega
 ·rw[bg,aI,tT];omega
theorem jD.isSome_eq {o:Option V}{u:Option ae}(r:jD o u):o.isSome=u.isSome:=by
 cases o with
 |none=>cases u with
  |none=>rfl
  |some _=>exact(show False from r).elim
 |some _=>cases u with
  |none=>exact(show False from r).elim
  |some _=>rfl
theorem KV.val {cE:List (κ×V)}{vs:List (κ×ae)}(r:KV cE vs)(k:κ):jD (ik cE k) (mO vs k):=by
 unfold KV at r
 induction r with
 |nil=>exact True.intro
 |@cons p q ps qs h t ih=>
  obtain⟨h1,h2⟩:=h
  by_cases e:p.1=k
  ·have e':q.1=k:=h1.symm.trans e
   have b:mO (q::qs) k=some q.2:=by simp[mO,cZ,e']
   rw[M8 e,b];exact h2
  ·have e':¬q.1=k:=λz=>e (h1.trans z)
   have b:mO (q::qs) k=mO qs k:=by simp[mO,cZ,e']
   rw[M9 e,b];exact ih
theorem KV.any {cE:List (κ×V)}{vs:List (κ×ae)}(r:KV cE vs)(k:κ):(cE.any λkv=>decide (kv.1=k))=vs.any λkv=>decide (kv.1=k):=by
 unfold KV at r
 induction r with
 |nil=>rfl
 |cons h t ih=>rw[eD,eD,ih,h.1]
theorem KV.repl {cE:List (κ×V)}{vs:List (κ×ae)}(r:KV cE vs)(k:κ){y:V}{u:ae}(ry:RelV y u) :
  KV (cE.map λkv=>if kv.1=k then(kv.1,y)else kv) (vs.map λkv=>if kv.1=k then(kv.1,u)else kv):=by
 unfold KV at r ⊢
 induction r with
 |nil=>exact .nil
 |@cons p q ps qs h t ih=>
  rw[aO,aO]
  refine .cons ?_ ih
  obtain⟨h1,h2⟩:=h
  by_cases e:p.1=k
  ·rw[if_pos e,if_pos (h1.symm.trans e)];exact⟨h1,ry⟩
  ·rw[if_neg e,if_neg (λz=>e (h1.trans z))];exact⟨h1,h2⟩
theorem KV.put {cE:List (κ×V)}{vs:List (κ×ae)}(r:KV cE vs)(k:κ){y:V}{u:ae}(ry:RelV y u):KV (putK cE k y) (stored vs k u):=by
 unfold putK stored
 rw[r.any k]
 by_cases e:(vs.any λkv=>decide (kv.1=k))=true
 ·rw[if_pos e,if_pos e];exact r.repl k ry
 ·rw[if_neg e,if_neg e];exact Paired.snoc r ⟨rfl,ry⟩
theorem KV.length {cE:List (κ×V)}{vs:List (κ×ae)}(r:KV cE vs):cE.length=vs.length:=Paired.length r
end
theorem HJ {P:bB}{w:cj}{k:eR}{u:ae}(r:RelV (kV k) u):(eT P w).is k u=true:=by
 cases k with
 |inl i=>obtain⟨t,e⟩:=(show∃t,u=ae.int i t from r);subst e;exact Zn P w i t
 |inr x=>obtain⟨t,e⟩:=(show∃t,u=ae.str x t from r);subst e;exact Zo P w x t
theorem QQ {P:bB}{w:cj}:∀{ks:List eR} {us:List ae},bX (ks.map kV) us->ItemsAre (eT P w) ks us
 |[],_,r=>by rw[kA]at r;cases r;exact .nil
 |k::ks,_,r=>by
  rw[aO]at r
  cases r with
  |cons h t=>exact .cons (HJ h) (QQ t)
abbrev KT (H:Hp):List (List eR×V)->List (List eR×ah×ae)->Prop:=Paired λp q=>p.1=q.1/\H q.2.1=some (.tup (p.1.map kV))/\RelV p.2 q.2.2
theorem KT.val {H:Hp}{cE:List (List eR×V)}{xs:List (List eR×ah×ae)}(r:KT H cE xs)(k:List eR):jD (ik cE k) ((pA xs k).map (·.2)):=by
 induction r with
 |nil=>exact True.intro
 |@cons p q ps qs h t ih=>
  obtain⟨h1,_,h2⟩:=h
  by_cases e:p.1=k
  ·have e':q.1=k:=h1.symm.trans e
   have b:pA (q::qs) k=some q.2:=by simp[pA,cZ,e']
   rw[M8 e,b];exact h2
  ·have e':¬q.1=k:=λz=>e (h1.trans z)
   have b:pA (q::qs) k=pA qs k:=by simp[pA,cZ,e']
   rw[M9 e,b];exact ih
theorem KT.repl {H:Hp}{cE:List (List eR×V)}{xs:List (List eR×ah×ae)}(r:KT H cE xs)(k:List eR){y:V}{u:ae}(ry:RelV y u) :
  KT H (cE.map λkv=>if kv.1=k then(kv.1,y)else kv) (xs.map (putAt k u)):=by
 induction r with
 |nil=>exact .nil
 |@cons p q ps qs h t ih=>
  rw[aO,aO]
  refine .cons ?_ ih
  obtain⟨h1,h2,h3⟩:=h
  unfold putAt
  by_cases e:p.1=k
  ·rw[if_pos e,if_pos (h1.symm.trans e)];exact⟨h1,h2,ry⟩
  ·rw[if_neg e,if_neg (λz=>e (h1.trans z))];exact⟨h1,h2,h3⟩
theorem KT.put {H:Hp}{cE:List (List eR×V)}{xs:List (List eR×ah×ae)}(r:KT H cE xs)(k:List eR){b:ah}{y:V}{u:ae}(hb:H b=some (.tup (k.map kV)))(ry:RelV y u) :
  KT H (putK cE k y) (storedH xs k b u):=by
 have e:(cE.any λkv=>decide (kv.1=k))=(pA xs k).isSome:=by
  rw[Rm,(r.val k).isSome_eq,jY]
 unfold putK storedH
 rw[e]
 by_cases q:(pA xs k).isSome=true
 ·rw[if_pos q,if_pos q];exact r.repl k ry
 ·rw[if_neg q,if_neg q];exact Paired.snoc r ⟨rfl,hb,ry⟩
theorem KT.keeps {H H':Hp}{cE:List (List eR×V)}{xs:List (List eR×ah×ae)}(r:KT H cE xs)(ht:∀b ys,H b=some (.tup ys)->H' b=some (.tup ys)):KT H' cE xs :=
 Paired.mapP r λ_ _ z=>⟨z.1,ht _ _ z.2.1,z.2.2⟩
section
variable {P:bB}{w:cj}{H:Hp}{h:aZ}{a:ah}
theorem SE {u:HO}(ok:jU P w H h)(e:Rd H a u):d4 P w H h a u:=e.ok ok
theorem BR {cE:List (eR×V)}(ok:jU P w H h)(e:Rd H a (.dK cE)):cE.length<=sizeLine/\(a==fO)=false/\∃vs,KV cE vs/\h.DictOf (eT P w) a vs :=
 show d4 P w H h a (.dK cE)from SE ok e
theorem zuw {cE:List (eR×V)}(ok:jU P w H h)(e:H a=some (.dK cE)):cE.length<=sizeLine/\(a==fO)=false/\∃vs,KV cE vs/\h.DictOf (eT P w) a vs:=BR ok (.inl e)
theorem HC {ks:List eR}(ok:jU P w H h)(e:H a=some (.tup (ks.map kV))):(nz (eT P w)).is h ks a:=by
 obtain⟨_,bZ,r,o,h1,h2,n,h3⟩:=(show d4 P w H h a (.tup (ks.map kV))from ok a _ e)
 exact⟨o,bZ.toArray,n,h1,h2,h3,by simpa using QQ r⟩
theorem HK {cE:List (List eR×V)}(ok:jU P w H h)(e:Rd H a (.dT cE)):cE.length<=sizeLine/\(a==fO)=false /\
  ∃xs,KT H cE xs/\h.DictOfH (nz (eT P w)) a xs:=by
 obtain⟨z,y,xs,r,o,es,ep,h1,h2,h3,h4,h5⟩:=(show d4 P w H h a (.dT cE)from SE ok e)
 refine⟨z,y,xs,r,o,es,ep,h1,h2,h3,h4,λx hx=>?_,h5⟩
 have all:∀{l:List (List eR×V)} {m:List (List eR×ah×ae)},KT H l m->∀x∈m,(nz (eT P w)).is h x.1 x.2.1:=by
  intro l m q
  induction q with
  |nil=>intro x hx;exact nomatch hx
  |@cons p q ps qs hq t ih=>
   intro x hx
   rcases aF.mp hx with e|hx
   ·subst e
    exact HC ok (by rw[←hq.1];exact hq.2.1)
   ·exact ih x hx
 exact all r x hx
theorem zux {cE:List (List eR×V)}(ok:jU P w H h)(e:H a=some (.dT cE)):cE.length<=sizeLine/\(a==fO)=false /\
  ∃xs,KT H cE xs/\h.DictOfH (nz (eT P w)) a xs:=HK ok (.inl e)
end
def ka (H:Hp)(a:ah)(y:V)(r:Option V):Prop :=
 (∃cE k,Rd H a (.dK cE)/\y=kV k/\r=ik cE k)\/∃cE k b,Rd H a (.dT cE)/\y=.ref b/\H b=some (.tup (k.map kV))/\r=ik cE k
def mU (H:Hp)(a:ah)(y v:V)(H':Hp):Prop :=
 (∃cE k,H a=some (.dK cE)/\y=kV k/\cE.length<sizeLine/\H'=upd H a (.dK (putK cE k v))) \/
 ∃cE k b,H a=some (.dT cE)/\y=.ref b/\H b=some (.tup (k.map kV))/\cE.length<sizeLine/\H'=upd H a (.dT (putK cE k v))
theorem ka.k {H:Hp}{a:ah}{cE:List (eR×V)}{k:eR}(e:H a=some (.dK cE)):ka H a (kV k) (ik cE k):=.inl ⟨cE,k,.inl e,rfl,rfl⟩
theorem ka.t {H:Hp}{a b:ah}{cE:List (List eR×V)}{k:List eR}(e:H a=some (.dT cE))(eb:H b=some (.tup (k.map kV))):ka H a (.ref b) (ik cE k):=.inr ⟨cE,k,b,.inl e,rfl,eb,rfl⟩
theorem mU.k {H:Hp}{a:ah}{cE:List (eR×V)}{k:eR}{v:V}(e:H a=some (.dK cE))(hl:cE.length<sizeLine):mU H a (kV k) v (upd H a (.dK (putK cE k v))):=.inl ⟨cE,k,e,rfl,hl,rfl⟩
theorem mU.t {H:Hp}{a b:ah}{cE:List (List eR×V)}{k:List eR}{v:V}(e:H a=some (.dT cE))(eb:H b=some (.tup (k.map kV)))(hl:cE.length<sizeLine) :
  mU H a (.ref b) v (upd H a (.dT (putK cE k v))):=.inr ⟨cE,k,b,e,rfl,eb,hl,rfl⟩
section
variable {X:Cx}{ai:List (ah×dU)}{σ:St}{H:Hp}{s:am}{a:ah}{y v:V}{u r:ae}{o:Option V}{A:bR}{E:ae->am->Prop}
theorem Inv.big (I:Inv X ai σ H s):fO<s.heap.objs.size:=by
 have h:ap<s.heap.objs.size:=(I.mod.glob.keeps I.bk).lt
 exact Nat.lt_trans (by decide) h
theorem Z8 {Q:ae->am->Prop}(hu:A.units+1<gK)(I:Inv X ai σ H s)(g:ka H a y (some v))(ry:RelV y u)(h:∀w' s',Inv X ai σ H s'->RelV v w'->Q w' s') :
  bi (ba X.prog X.w) A (mM (.ref a) u) Q E s:=by
 rcases g with⟨cE,k,e,ey,l⟩|⟨cE,k,b,e,ey,eb,l⟩
 ·subst ey
  obtain⟨z,hd,vs,rel,dd⟩:=BR I.hok e
  obtain⟨w',hw,nq⟩:=jD.some_of (v:=v) (o:=mO vs k) (by rw[l];exact rel.val k)
  exact wpAny_getItem_of (HJ ry) dd.mapOf hw (h w' _ (I.tok _) nq)
 ·subst ey
  cases(show u=ae.ref b from ry)
  obtain⟨z,hd,xs,rel,dd⟩:=HK I.hok e
  obtain⟨w',hw,nq⟩:=jD.some_of (v:=v) (o:=(pA xs k).map (·.2)) (by rw[l];exact rel.val k)
  obtain⟨p,hp,Vp⟩:=dN.mp hw
  refine wpAny_getItem_heap (ir hu) (HC I.hok eb) dd hp ?_
  rw[Vp]
  exact h w' _ (I.tok _) nq
theorem Ke {Q:ae->am->Prop}(hu:A.units+1<gK)(I:Inv X ai σ H s)(g:ka H a y o)(ry:RelV y u)(h:∀s',Inv X ai σ H s'->Q (.bool o.isSome) s') :
  bi (ba X.prog X.w) A (ck .In u (.ref a)) Q E s:=by
 rcases g with⟨cE,k,e,ey,l⟩|⟨cE,k,b,e,ey,eb,l⟩
 ·subst ey
  obtain⟨z,hd,vs,rel,dd⟩:=BR I.hok e
  refine wpAny_in_of (HJ ry) hd dd.mapOf ?_
  rw[←(rel.val k).isSome_eq,←l]
  exact h _ (I.tok _)
 ·subst ey
  cases(show u=ae.ref b from ry)
  obtain⟨z,hd,xs,rel,dd⟩:=HK I.hok e
  refine wpAny_in_heap (ir hu) (HC I.hok eb) hd dd ?_
  have q:=(rel.val k).isSome_eq
  rw[jY]at q
  rw[←q,←l]
  exact h _ (I.tok _)
theorem zqh {Q:ae->am->Prop}(hu:A.units+1<gK)(I:Inv X ai σ H s)(g:ka H a y o)(ry:RelV y u)(h:∀s',Inv X ai σ H s'->Q (.bool (!o.isSome)) s') :
  bi (ba X.prog X.w) A (ck .NotIn u (.ref a)) Q E s:=by
 rcases g with⟨cE,k,e,ey,l⟩|⟨cE,k,b,e,ey,eb,l⟩
 ·subst ey
  obtain⟨z,hd,vs,rel,dd⟩:=BR I.hok e
  refine wpAny_notIn_of (HJ ry) hd dd.mapOf ?_
  rw[←(rel.val k).isSome_eq,←l]
  exact h _ (I.tok _)
 ·subst ey
  cases(show u=ae.ref b from ry)
  obtain⟨z,hd,xs,rel,dd⟩:=HK I.hok e
  refine wpAny_notIn_heap (ir hu) (HC I.hok eb) hd dd ?_
  have q:=(rel.val k).isSome_eq
  rw[jY]at q
  rw[←q,←l]
  exact h _ (I.tok _)
theorem RH {h':aZ}{t':Nat}{ob:HO}(I:Inv X ai σ H s)(mu:BZ (H a))(hs:gE a s.heap h')(he:∃q,h'.get? a=some q)(new:d4 X.prog X.w (upd H a ob) h' a ob) :
  Inv X ai σ (upd H a ob) { s with heap:=h',toks:=t' } :=
 I.write (x:=a) (e:=a) mu (.inl rfl) (λb q hb z=>(hs.2 b hb).trans z) he new
theorem ztc {P:bB}{w:cj}{H':Hp}{h':aZ}{cE:List (eR×V)}{vs:List (eR×ae)}(z:cE.length<=sizeLine)(hd:(a==fO)=false)(rel:KV cE vs)(dd:h'.DictOf (eT P w) a vs) :
  d4 P w H' h' a (.dK cE):=⟨z,hd,vs,rel,dd⟩
theorem Z9 {H':Hp}{Q:Unit->am->Prop}(hu:A.units+1<gK)(I:Inv X ai σ H s)(g:mU H a y v H')(ry:RelV y u)(rv:RelV v r)(h:∀s',Inv X ai σ H' s'->Q () s') :
  bi (ba X.prog X.w) A (oP (.ref a) u r) Q E s:=by
 rcases g with⟨cE,k,e,ey,l,eH⟩|⟨cE,k,b,e,ey,eb,l,eH⟩
 ·subst ey eH
  obtain⟨z,hd,vs,rel,dd⟩:=zuw I.hok e
  have hz:vs.length<=sizeLine:=by rw[←rel.length];exact z
  have hl:(putK cE k v).length<=sizeLine:=by have:=Qn cE k v;omega
  refine wpAny_setItem_pairs (hsz:=hz) (HJ ry) dd λh' HY hs=>h _ ?_
  have he:∃q,h'.get? a=some q:=let⟨q,_,_,hq,_⟩:=HY;⟨q,hq⟩
  exact RH I (by rw[e];exact True.intro) hs he (ztc hl hd (rel.put k rv) HY)
 ·subst ey eH
  cases(show u=ae.ref b from ry)
  obtain⟨z,hd,xs,rel,dd⟩:=zux I.hok e
  have hz:xs.length<=sizeLine:=by rw[←Paired.length rel];exact z
  have hl:(putK cE k v).length<=sizeLine:=by have:=Qn cE k v;omega
  refine wpAny_setItem_heap (hsz:=hz) (ir hu) (HC I.hok eb) dd λh' HY hs=>h _ ?_
  obtain⟨q,es,ep,hq,h2,h3,h4,_,h5⟩:=HY
  refine RH I (by rw[e];exact True.intro) hs ⟨q,hq⟩ ⟨hl,hd,_,(rel.put k eb rv).keeps λc ys ec=>?_,q,es,ep,hq,h2,h3,h4,h5⟩
  rw[ym (zuo ec e (λz=>nomatch z))]
  exact ec
end
section
variable {X:Cx}{ai:List (ah×dU)}{σ:St}{H:Hp}{s:am}{a:ah}{cE:List (eR×V)}{k:eR}{u:ae}{A:bR}{E:ae->am->Prop}
theorem zuy {Q:ae->am->Prop}(I:Inv X ai σ H s)(e:Rd H a (.dK cE))(h:∀t s',Inv X ai σ H s'->Q (.int cE.length t) s'):bi (ba X.prog X.w) A (call (.builtin "len") [.ref a]) Q E s:=by
 obtain⟨z,hd,vs,rel,dd⟩:=BR I.hok e
 refine call_len_dict hd dd (by rw[←rel.length];rw[cy]at z;omega) ?_
 rw[←rel.length]
 exact h _ _ (I.tok _)
end
def xD (i:Expr):Prop:=∀ov iv,nU i false ov iv=operate [ov,iv] (mM ov iv)
theorem zqi {prog:bB}{w:cj}{A:bR}{E:ae->am->Prop}{s:am}{env:Env}{value slice:Expr}{pos:cY}{T id:String}{Q:ae->am->Prop}
  (hl:pE (.type T) "__getitem__"=pure (some (.builtin id))) (hs:xD slice)
  (h:bi (ba prog w) A (bJ value env) (λo s₁=>bi (ba prog w) A (bJ slice env) (λi s₂=>s₂.TypeIs o T/\bi (ba prog w) A (mM o i) Q E s₂) E s₁) E s) :
  bi (ba prog w) A (bJ (.Subscript value slice pos) env) Q E s:=by
 refine Subscript_ (dQ h (λo s₁ h₁=>dQ h₁ (λi s₂ h₂=>?_) λ_ _ x=>x) λ_ _ x=>x)
 obtain⟨hT,h₂⟩:=h₂
 unfold subscriptTail
 refine aR ?_
 rw[getitemInPython_of_ne hT.not_modules]
 refine aR (oH hT hl ?_)
 have fin:bi (ba prog w) A (nU slice false o i) (λr s₃=>bi (ba prog w) A (letTemporaryGo value o r >>= λ_=>pure r) Q E s₃) E s₂:=by
  rw[hs o i]
  exact wpAny_operating (dQ h₂ (λr s₃ h₃=>aR (wpAny_letTemporaryGo (bS h₃))) λ_ _ x=>x)
 first
  |exact bS (aR fin)
  |exact aR (bS (aR fin))
  |exact aR fin
theorem Zq {X:Cx}{ai:List (ah×dU)}{σ:St}{H:Hp}{s:am}{a:ah}{y:V}{o:Option V}(I:Inv X ai σ H s)(g:ka H a y o):s.TypeIs (.ref a) "dict":=by
 rcases g with⟨cE,k,e,_,_⟩|⟨cE,k,b,e,_,_,_⟩
 ·obtain⟨_,_,vs,_,dd⟩:=BR I.hok e
  exact dd.typeIs
 ·obtain⟨_,_,xs,_,dd⟩:=HK I.hok e
  exact dd.typeIs
def G8 (td ty:TE):TE:=λσ H Q=>td σ H λx H1=>ty σ H1 λy H2=>∃a v,x=.ref a/\ka H2 a y (some v)/\Q v H2
def Ms (ty td:TE):TE:=λσ H Q=>ty σ H λy H1=>td σ H1 λx H2=>∃a o,x=.ref a/\ka H2 a y o/\Q (.bl o.isSome) H2
def vC (ty td:TE):TE:=λσ H Q=>ty σ H λy H1=>td σ H1 λx H2=>∃a o,x=.ref a/\ka H2 a y o/\Q (.bl (!o.isSome)) H2
def G3 (td ty tv:TE):TS:=λD σ H=>tv σ H λv H1=>td σ H1 λx H2=>ty σ H2 λy H3=>∃a H4,x=.ref a/\mU H3 a y v H4/\D.nx σ H4
section
variable {X:Cx}{o i e value:Expr}{pos pos' iF:cY}{td ty tv:TE}
theorem zqj (hu:X.A.units+1<gK)(ho:PE X o td)(hi:PE X i ty)(hs:xD i):PE X (.Subscript o i pos) (G8 td ty):=by
 intro ai s σ H Q I h
 refine zqi PySem.F.slot_dict_getitem.lookup hs (dz (ho ai s σ H _ I h) λu s1 ⟨x,H1,I1,rx,q1⟩=>dz (hi ai s1 σ H1 _ I1 q1) λiv s2 ⟨y,H2,I2,ry,a,v,ex,g,q2⟩=>?_)
 subst ex
 obtain rfl:u=ae.ref a:=rx
 exact⟨Zq I2 g,Z8 hu I2 g ry λw' s3 I3 nq=>⟨v,H2,I3,nq,q2⟩⟩
theorem ztd (hu:X.A.units+1<gK)(hi:PE X i ty)(ho:PE X o td):PC X .In i o (Ms ty td):=by
 intro ai s σ H Q I h
 refine dz (hi ai s σ H _ I h) λiv s1 ⟨y,H1,I1,ry,q1⟩=>dz (ho ai s1 σ H1 _ I1 q1) λu s2 ⟨x,H2,I2,rx,a,ov,ex,g,q2⟩=>?_
 subst ex
 obtain rfl:u=ae.ref a:=rx
 exact Ke hu I2 g ry λs3 I3=>⟨.bl ov.isSome,H2,I3,rfl,q2⟩
theorem ZQ (hu:X.A.units+1<gK)(hi:PE X i ty)(ho:PE X o td):PC X .NotIn i o (vC ty td):=by
 intro ai s σ H Q I h
 refine dz (hi ai s σ H _ I h) λiv s1 ⟨y,H1,I1,ry,q1⟩=>dz (ho ai s1 σ H1 _ I1 q1) λu s2 ⟨x,H2,I2,rx,a,ov,ex,g,q2⟩=>?_
 subst ex
 obtain rfl:u=ae.ref a:=rx
 exact zqh hu I2 g ry λs3 I3=>⟨.bl (!ov.isSome),H2,I3,rfl,q2⟩
theorem RA (hu:X.A.units+1<gK)(ho:PE X o td)(hi:PE X i ty)(hv:PE X value tv)(hs:dw value (some (.Subscript o i pos')) pos.line X.env=pure false) :
  PS X (.Assign [.Subscript o i pos'] value pos) (G3 td ty tv):=by
 intro ai s σ H D I h
 refine wpAny_Assign_Subscript (dz (hv ai s σ H _ I h) λr s1 ⟨v,H1,I1,rv,q1⟩=>dz (ho ai s1 σ H1 _ I1 q1) λu s2 ⟨x,H2,I2,rx,q2⟩=>dz (hi ai s2 σ H2 _ I2 q2) λiv s3 ⟨y,H3,I3,ry,a,H4,ex,g,q3⟩=>?_) hs
 subst ex
 obtain rfl:u=ae.ref a:=rx
 exact Z9 hu I3 g ry rv λs4 I4=>⟨σ,H4,I4,q3⟩
end
theorem znf {P:bB}{w:cj}{H:Hp}(h:aZ)(hb:fO<h.objs.size):d4 P w H (h.push { cls:=.type "dict",data:=.dict #[] }) h.objs.size (.dK []) :=
  ⟨de _,beq_eq_false_iff_ne.mpr (Ne.symm (bw hb)),[],.nil,aZ.DictOf.new h⟩
def AI:TE:=λ_ H Q=>∀p,H p=none->Q (.ref p) (upd H p (.dK []))
section
variable {X:Cx}{pos:cY}
theorem zng:PE X (.Dict [] [] pos) AI:=λai s σ H Q I h=>
 wpAny_Dict_empty ⟨.ref s.heap.objs.size,_,I.laid (a:=s.heap.objs.size) (o:=.dK []) (t':=s.toks) (λ_ _ q=>aC _ q) (aM _) (znf s.heap I.big),rfl,h _ (I.hok.fresh (aM _))⟩
end
def Tz (H:Hp)(a:ah):Prop:=(∃cE,Rd H a (.dK cE))\/∃cE,Rd H a (.dT cE)
section
variable {X:Cx}{ai:List (ah×dU)}{σ:St}{H:Hp}{s:am}{a:ah}{y d:V}{u r:ae}{o:Option V}{A:bR}{E:ae->am->Prop}
end
section
variable {X:Cx}{o e f:Expr}{dD dO:cY}{td ty tx:TE}
end
section
variable {X:Cx}{ai:List (ah×dU)}{σ:St}{H:Hp}{s:am}{a:ah}{cE:List (eR×V)}{A:bR}{E:ae->am->Prop}
end
section
variable {X:Cx}{ai:List (ah×dU)}{σ:St}{H:Hp}{s:am}{a:ah}{y:V}{u:ae}{A:bR}{E:ae->am->Prop}
end
end L2
namespace L2
open PySem PySem.Spec PyProof.Rows
section
variable {X:Cx}
theorem ZR:et X (.builtin "len") (λxs H Q=>∃a cE,xs=[V.ref a]/\H a=some (.dK cE)/\Q (.int cE.length) H):=by
 intro ai s σ H xs us Q I r h
 obtain⟨a,cE,rfl,ha,q⟩:=h
 obtain⟨u,rfl,ru⟩:=mG r
 cases ru
 exact zuy I (.inl ha) λt s' I'=>⟨.int cE.length,H,I',⟨t,rfl⟩,q⟩
end
end L2
namespace L2
open PySem
section
variable {κ:Type}[DecidableEq κ]
end
end L2
namespace L2
open PySem PySem.Spec PyProof.Rows
def Sz (n:Nat)(i:Int):Prop:=i.natAbs<2 ^ n
theorem Sz.bits {n:Nat}{i:Int}(h:Sz n i):e6.Int.intBits i<=n:=by
 unfold e6.Int.intBits
 by_cases h0:(i==0)=true
 ·rw[if_pos h0];exact de _
 ·rw[if_neg h0]
  have hi:i.natAbs≠0:=by
   have:i≠0:=by simpa using h0
   omega
  exact Nat.succ_le_of_lt ((mh hi).mpr h)
theorem Sz.log {n:Nat}{i:Int}(h:Sz n i)(hn:0<n):i.natAbs.log2<n:=by
 by_cases hi:i.natAbs=0
 ·rw[hi];exact hn
 ·exact(mh hi).mpr h
theorem Sz.mono {n m:Nat}{i:Int}(h:Sz n i)(hm:n<=m):Sz m i:=bj h (dG (by decide) hm)
theorem Sz.le {n:Nat}{i j:Int}(h:Sz n i)(hj:j.natAbs<=i.natAbs):Sz n j:=kx hj h
theorem Sz.mul {n m:Nat}{i j:Int}(h:Sz n i)(h':Sz m j):Sz (n+m) (i*j):=by
 unfold Sz at *
 rw[vL,Nat.pow_add]
 exact Nat.mul_lt_mul'' h h'
theorem Sz.add {n:Nat}{i j:Int}(h:Sz n i)(h':Sz n j):Sz (n+1) (i+j):=by
 unfold Sz at *
 rw[iR]
 omega
theorem Sz.sub {n:Nat}{i j:Int}(h:Sz n i)(h':Sz n j):Sz (n+1) (i-j):=by
 unfold Sz at *
 rw[iR]
 omega
def nB (i j:Int):Prop:=xB i j\/(Sz 100000 i/\Sz 100000 j)
theorem nB.ok {i j:Int}(h:nB i j):IntMulOk i j:=by
 rcases h with h|h
 ·exact h.ok
 ·exact IntMulOk.of_bits (cL h.1.bits (by decide)) (cL h.2.bits (by decide))
section
variable {X:Cx}
theorem xr:fP X (d7 .Mult) (rI nB λi j=>.int (i*j)):=Bs λ_ _ _ _ _ _ _ hc q=>mul_int q hc.ok
theorem wy:fP X (d7 .FloorDiv) (rI (λ_ j=>j≠0/\Sz 9000 j) λi j=>.int (i.fdiv j)) :=
 Bs λ_ _ _ _ _ _ _ hc q=>floordiv_int hc.1 q (.inl (PyProof.noPylong_of_log2 (hc.2.log (by decide))))
theorem RelV.bool_iff {x:V}{v:ae}{b:Bool}(r:RelV x v):(v==ae.bool b)=decide (x=.bl b):=by
 cases x with
 |bl c=>
  cases(show v=ae.bool c from r)
  by_cases h:c=b
  ·subst h;simp
  ·have h1:¬V.bl c=V.bl b:=λz=>h (V.bl.inj z)
   rw[decide_eq_false h1]
   exact beq_eq_false_iff_ne.mpr λz=>h (by injection z)
 |non=>cases(show v=ae.none from r);rw[decide_eq_false (λz=>nomatch z)];exact beq_eq_false_iff_ne.mpr λz=>nomatch z
 |int i=>obtain⟨t,rfl⟩:=(show∃t,v=ae.int i t from r);rw[decide_eq_false (λz=>nomatch z)];exact beq_eq_false_iff_ne.mpr λz=>nomatch z
 |str i=>obtain⟨t,rfl⟩:=(show∃t,v=ae.str i t from r);rw[decide_eq_false (λz=>nomatch z)];exact beq_eq_false_iff_ne.mpr λz=>nomatch z
 |byt i=>obtain⟨t,rfl⟩:=(show∃t,v=ae.bytes i t from r);rw[decide_eq_false (λz=>nomatch z)];exact beq_eq_false_iff_ne.mpr λz=>nomatch z
 |flt i=>obtain⟨t,rfl⟩:=(show∃t,v=ae.float i t from r);rw[decide_eq_false (λz=>nomatch z)];exact beq_eq_false_iff_ne.mpr λz=>nomatch z
 |ref i=>cases(show v=ae.ref i from r);rw[decide_eq_false (λz=>nomatch z)];exact beq_eq_false_iff_ne.mpr λz=>nomatch z
 |ty i=>cases(show v=ae.type i from r);rw[decide_eq_false (λz=>nomatch z)];exact beq_eq_false_iff_ne.mpr λz=>nomatch z
theorem Qe {x:V}{v:ae}{b:Bool}(r:RelV x v):plainIs v (.bool b)=true:=by
 cases x with
 |bl c=>cases(show v=ae.bool c from r);rfl
 |non=>cases(show v=ae.none from r);rfl
 |int i=>obtain⟨t,rfl⟩:=(show∃t,v=ae.int i t from r);rfl
 |str i=>obtain⟨t,rfl⟩:=(show∃t,v=ae.str i t from r);rfl
 |byt i=>obtain⟨t,rfl⟩:=(show∃t,v=ae.bytes i t from r);rfl
 |flt i=>obtain⟨t,rfl⟩:=(show∃t,v=ae.float i t from r);rfl
 |ref i=>cases(show v=ae.ref i from r);rfl
 |ty i=>cases(show v=ae.type i from r);rfl
theorem zte:fP X (ck .Is) (λx y H Q=>∃b,y=.bl b/\Q (.bl (decide (x=.bl b))) H):=by
 intro ai s σ H x y v u Q I rx ry h
 obtain⟨b,rfl,q⟩:=h
 cases ry
 exact wpAny_is_plain (Qe rx) (JB I q (RelV.bool_iff rx).symm)
theorem ZS:fP X (ck .IsNot) (λx y H Q=>∃b,y=.bl b/\Q (.bl (!decide (x=.bl b))) H):=by
 intro ai s σ H x y v u Q I rx ry h
 obtain⟨b,rfl,q⟩:=h
 cases ry
 exact wpAny_isNot_plain (Qe rx) (JB I q (by rw[RelV.bool_iff rx]))
theorem znh:et X (.builtin "isinstance") (λxs H Q=>∃x c t b,xs=[x,.ty c]/\jM X.K H x t/\bO X.K t (.type c)=some b/\Q (.bl b) H):=by
 intro ai s σ H xs us Q I r h
 obtain⟨x,c,t,b,rfl,ty,e,q⟩:=h
 obtain⟨u,w',rfl,ru,nq⟩:=vals2 r
 cases(show w'=ae.type c from nq)
 exact QF I ru ty e λtk=>⟨.bl b,H,I.tok tk,rfl,q⟩
theorem ZT:et X (.builtin "isinstance") (λxs H Q=>∃x C t b,xs=[x,.ref C]/\jM X.K H x t/\bO X.K t (.ref C)=some b/\Q (.bl b) H):=by
 intro ai s σ H xs us Q I r h
 obtain⟨x,c,t,b,rfl,ty,e,q⟩:=h
 obtain⟨u,w',rfl,ru,nq⟩:=vals2 r
 cases(show w'=ae.ref c from nq)
 exact QF I ru ty e λtk=>⟨.bl b,H,I.tok tk,rfl,q⟩
end
mutual
inductive Dt (K:aa)(H:Hp):V->cn->Prop
 |non:Dt K H .non .none
 |bl (b:Bool):Dt K H (.bl b) (.bool b)
 |int (i:Int):Dt K H (.int i) (.int i)
 |str (x:aQ):Dt K H (.str x) (.str x)
 |lst {a:ah} {xs:List V} {ds:List cn}:e5 K H a xs->Dts K H xs ds->Dt K H (.ref a) (.list ds)
 |tup {a:ah} {xs:List V} {ds:List cn}:kJ K H a xs->Dts K H xs ds->Dt K H (.ref a) (.tuple ds)
inductive Dts (K:aa)(H:Hp):List V->List cn->Prop
 |nil:Dts K H [] []
 |cons {v:V} {d:cn} {vs:List V} {ds:List cn}:Dt K H v d->Dts K H vs ds->Dts K H (v::vs) (d::ds)
end
section
variable {X:Cx}{ai:List (ah×dU)}{σ:St}{H:Hp}{s:am}
mutual
theorem Dt.reads (I:Inv X ai σ H s):∀{v:V} {d:cn} {u:ae},Dt X.K H v d->RelV v u->∃as,Reads s.heap u d as
 |_,_,_,.non,r=>by cases r;exact⟨_,.none⟩
 |_,_,_,.bl b,r=>by cases r;exact⟨_,.bool b⟩
 |_,_,_,.int i,r=>by obtain⟨t,rfl⟩:=r;exact⟨_,.int i t⟩
 |_,_,_,.str x,r=>by obtain⟨t,rfl⟩:=r;exact⟨_,.str x t⟩
 |_,_,_,.lst hq ds,r=>by
  obtain⟨bZ,rv,⟨o,n,e,c,_,dd⟩,_⟩:=I.list hq
  obtain⟨as,ra⟩:=Dts.reads I ds rv
  cases r
  exact⟨_,.list e c dd (by simpa using ra)⟩
 |_,_,_,.tup hq ds,r=>by
  obtain⟨bZ,rv,⟨o,e,c,n,dd⟩,_⟩:=I.tuple hq
  obtain⟨as,ra⟩:=Dts.reads I ds rv
  cases r
  exact⟨_,.tuple e c dd (by simpa using ra)⟩
theorem Dts.reads (I:Inv X ai σ H s):∀{vs:List V} {ds:List cn} {us:List ae},Dts X.K H vs ds->bX vs us->∃as,ReadsAll s.heap us ds as
 |_,_,_,.nil,r=>by cases r;exact⟨_,.nil⟩
 |_,_,_,.cons h t,r=>by
  cases r with
  |cons p q=>
   obtain⟨as,ra⟩:=Dt.reads I h p
   obtain⟨bs,rb⟩:=Dts.reads I t q
   exact⟨_,.cons ra rb⟩
end
end
section
variable {X:Cx}
def AB (K:aa)(neg:Bool):R2:=λx y H Q=>∃d e,Dt K H x d/\Dt K H y e/\d.canLay0=true/\e.canLay0=true/\min d.depth e.depth<=60/\Q (.bl (if neg then !cn.eqv d e else cn.eqv d e)) H
theorem vf (hu:X.A.units+64<gK):fP X (ck .Eq) (AB X.K false):=by
 intro ai s σ H x y v u Q I rx ry h
 obtain⟨d,e,hd,he,c1,c2,dp,q⟩:=h
 obtain⟨as,ra⟩:=hd.reads I rx
 obtain⟨bs,rb⟩:=he.reads I ry
 exact SeqAt.compareEq_reads ra rb c1 c2 (by omega) ⟨.bl _,H,I,rfl,q⟩
theorem vJ (hu:X.A.units+64<gK):fP X (ck .NotEq) (AB X.K true):=by
 intro ai s σ H x y v u Q I rx ry h
 obtain⟨d,e,hd,he,c1,c2,dp,q⟩:=h
 obtain⟨as,ra⟩:=hd.reads I rx
 obtain⟨bs,rb⟩:=he.reads I ry
 exact SeqAt.compareNe_reads ra rb c1 c2 (by omega) ⟨.bl _,H,I,rfl,q⟩
theorem Dts.ints (K:aa)(H:Hp):∀ns:List Int,Dts K H (ns.map V.int) (ns.map cn.int)
 |[]=>.nil
 |n::r=>.cons (.int n) (Dts.ints K H r)
end
theorem Ht {H:Hp}{p:ah}(h:H p=none)(o:HO):bT H (upd H p o):=λb u q=>by rw[ym (x8 q h)];exact q
theorem eo.u64 {k:Nat}{A:bR}(r:eo k A):A.units+64<gK:=r.units
theorem small {n:Nat}(h:n<=1000):n<=sizeLine:=kS (rO h)
end L2
namespace L2
open PySem PySem.Spec PyProof.Rows
end L2
namespace L2
open PySem PySem.Spec PyProof.Rows
end L2
namespace L2
open PySem
theorem Sh:bK "int"=some (.type "int"):=by decide +kernel
theorem Si:bK "str"=some (.type "str"):=by decide +kernel
theorem RB:bK "bool"=some (.type "bool"):=by decide +kernel
theorem AO:bK "list"=some (.type "list"):=by decide +kernel
theorem Rn:bK "tuple"=some (.type "tuple"):=by decide +kernel
theorem ztf:bK "set"=some (.type "set"):=by decide +kernel
theorem Sj:bK "len"=some (.builtin "len"):=by decide +kernel
theorem JD:bK "abs"=some (.builtin "abs"):=by decide +kernel
theorem Sk:bK "max"=some (.builtin "max"):=by decide +kernel
theorem ztg:bK "min"=some (.builtin "min"):=by decide +kernel
theorem HD:bK "sum"=some (.builtin "sum"):=by decide +kernel
theorem Qb:bK "isinstance"=some (.builtin "isinstance"):=by decide +kernel
theorem NO:bK "all"=some (.builtin "all"):=by decide +kernel
end L2
namespace L2
open PySem PySem.Spec PyProof.Rows
section
variable {prog:bB}{w:cj}{A:bR}{R:Result->am->Prop}{s:am}
theorem Qf {jB target iter:Expr}{ifs:List Expr}{scope:fQ}{pos:cY}{it fE:ae}{env:Env}(I:Nat->am->Prop)
  (bW:∀n s,I n s->bi (ba prog w) A (pyNext it) (λr s₁=>match r with
   |none=>R (.ok .next) s₁
   |some v=>bi (ba prog w) A (gR target it v) (λ_ PR=>bi (ba prog w) A (ip target env v) (λ_ s₂=>
     bi (ba prog w) A (forIn ifs true λc r=>if r=true then do let ok ← sg c env (bJ c env);pure (ForInStep.yield ok)else pure (ForInStep.yield r)) (λok s₃=>
      if ok=true then bi (ba prog w) A (bJ jB env) (λx s₄=>
       bi (ba prog w) A (call (.builtin "list.append") [fE,x]) (λ_ s₅=>∃m,m<n/\I m s₅) (λ_ _=>False) s₄) (λ_ _=>False) s₃
      else∃m,m<n/\I m s₃) (λ_ _=>False) s₂) (λ_ _=>False) PR) (λ_ _=>False) s₁) (λ_ _=>False) s)
  (n:Nat) (h:I n s) :
  gc (ba prog w) A (.compLoop (.ListComp jB [⟨target,iter,ifs,0⟩] scope pos) 0 it fE env) R s:=by
 have up:∀{α:Type} {m:oO α} {Q:α->am->Prop} {E:ae->am->Prop} {s:am},bi (ba prog w) A m Q (λ_ _=>False) s->bi (ba prog w) A m Q E s:=λh=>dQ h (λ_ _ q=>q) λ_ _ f=>f.elim
 refine codeAny_loop rfl I (λn s hI=>?_) n h
 show bi _ A ((compTurn (.ListComp jB [⟨target,iter,ifs,0⟩] scope pos) 0 it fE env).onRaise (λx=>do noteFrame x env;theTreesLotGoes x)) _ _ s
 refine wpAny_noted ?_
 rw[compTurn_list]
 refine aR (lG (aR (dQ (up (bW n s hI)) (λr s₁ h₁=>?_) λ_ _ h'=>h')))
 cases r with
 |none=>exact bS h₁
 |some v=>
  refine aR (dQ (up h₁) (λ_ PR VD=>?_) λ_ _ h'=>h')
  refine aR (dQ (up VD) (λ_ s₂ h₂=>aR (dQ (up h₂) (λok s₃ h₃=>?_) λ_ _ h'=>h')) λ_ _ h'=>h')
  cases ok with
  |false=>exact bS ⟨rfl,h₃⟩
  |true=>
   exact aR (aR (dQ (up h₃) (λx s₄ h₄=>aR (dQ (up h₄) (λ_ s₅ h₅=>bS (bS ⟨rfl,h₅⟩)) λ_ _ h'=>h')) λ_ _ h'=>h'))
end
theorem IS {env:Env}:∀(names:List (aQ×bq)) (fE:List (aQ×ah)),(∀x∈names,x.2=.free->∃c,env.cells.lookup x.1=some c)->(∀y c,fE.lookup y=some c->env.cells.lookup y=some c) ->
  ∃cl,(forIn names fE λ(x:aQ×bq) (cs:List (aQ×ah))=>if(x.2==bq.free)=true then do let a ← cellOf env x.1;pure (ForInStep.yield ((x.1,a)::cs))else pure (ForInStep.yield cs):oO (List (aQ×ah)))=pure cl /\
   (∀y c,cl.lookup y=some c->env.cells.lookup y=some c)/\(∀x∈names,x.2=.free->∃c,cl.lookup x.1=some c)/\∀y c,fE.lookup y=some c->∃c',cl.lookup y=some c'
 |[],fE,_,ha=>⟨fE,rfl,ha,λ_ h=>(nomatch h),λy c h=>⟨c,h⟩⟩
 |(n,k)::r,fE,hn,ha=>by
  by_cases hk:k=.free
  ·subst hk
   obtain⟨c,hc⟩:=hn (n,.free) af rfl
   have e1:cellOf env n=pure c:=by unfold cellOf;rw[hc]
   have zJ:∀y d,((n,c)::fE).lookup y=some d->env.cells.lookup y=some d:=λy d h=>by
    rw[bm]at h
    cases hy:y==n with
    |true=>
     rw[hy]at h
     have:y=n:=eq_of_beq hy
     subst this
     cases h
     exact hc
    |false=>rw[hy]at h;exact ha y d h
   obtain⟨cl,h1,h2,h3,h4⟩:=IS r ((n,c)::fE) (λx hx=>hn x (aj _ hx)) zJ
   refine⟨cl,?_,h2,?_,?_⟩
   ·rw[lZ]
    simp only[beq_self_eq_true,if_true,e1,pure_bind]
    exact h1
   ·intro x hx hf
    rcases aF.mp hx with rfl|hx
    ·exact h4 n c (by rw[bm,beq_self_eq_true])
    ·exact h3 x hx hf
   ·intro y d hy
    cases hb:y==n with
    |true=>exact h4 y c (by rw[bm,hb])
    |false=>exact h4 y d (by rw[bm,hb];exact hy)
  ·have hb:(k==bq.free)=false:=by simpa using hk
   obtain⟨cl,h1,h2,h3,h4⟩:=IS r fE (λx hx=>hn x (aj _ hx)) ha
   refine⟨cl,?_,h2,?_,h4⟩
   ·rw[lZ]
    simp only[hb,dA,if_false,pure_bind]
    exact h1
   ·intro x hx hf
    rcases aF.mp hx with rfl|hx
    ·exact absurd hf hk
    ·exact h3 x hx hf
theorem Jn (n:Nat)(a:aQ)(r:List (aQ×bq))(fE:List (aQ×ah)):cellsFrom n ((a,.cell)::r) fE=cellsFrom (n+1) r ((a,n)::fE):=rfl
theorem JE {k:bq}(hk:k≠.cell)(n:Nat)(a:aQ)(r:List (aQ×bq))(fE:List (aQ×ah)):cellsFrom n ((a,k)::r) fE=cellsFrom n r fE:=by
 cases k<;>first|rfl|exact absurd rfl hk
def i6 (names:List (aQ×bq)):Nat:=(names.filter λy=>y.2==bq.cell).length
theorem NC (a:aQ)(r:List (aQ×bq)):i6 ((a,.cell)::r)=i6 r+1:=by unfold i6;rw[oF (by rfl),aI]
theorem Sl {k:bq}(hk:k≠.cell)(a:aQ)(r:List (aQ×bq)):i6 ((a,k)::r)=i6 r:=by unfold i6;rw[oE (by simpa using hk)]
theorem BS:∀(names:List (aQ×bq)) (n:Nat) (fE:List (aQ×ah)) {x:aQ} {c:Nat},(cellsFrom n names fE).lookup x=some c->(n<=c/\c<n+i6 names/\(x,bq.cell)∈names)\/(fE.lookup x=some c/\(x,bq.cell)∉names)
 |[],_,_,_,_,h=>.inr ⟨h,by simp⟩
 |(a,k)::r,n,fE,x,c,h=>by
  by_cases hk:k=.cell
  ·subst hk
   rw[Jn]at h
   rcases BS r (n+1) _ h with⟨h1,h2,h3⟩|⟨h1,h2⟩
   ·refine .inl ⟨by omega,?_,aj _ h3⟩
    rw[NC];omega
   ·rw[bm]at h1
    cases hx:x==a with
    |true=>
     rw[hx]at h1
     cases h1
     refine .inl ⟨aM _,?_,by rw[eq_of_beq hx];exact af⟩
     rw[NC];omega
    |false=>
     rw[hx]at h1
     refine .inr ⟨h1,λz=>?_⟩
     rcases aF.mp z with z|z
     ·cases z;simp at hx
     ·exact h2 z
  ·rw[JE hk]at h
   have hf:=Sl hk a r
   rw[hf]
   rcases BS r n _ h with⟨h1,h2,h3⟩|⟨h1,h2⟩
   ·exact .inl ⟨h1,h2,aj _ h3⟩
   ·refine .inr ⟨h1,λz=>?_⟩
    rcases aF.mp z with z|z
    ·cases z;exact hk rfl
    ·exact h2 z
theorem NP:∀(names:List (aQ×bq)) (n:Nat) (fE:List (aQ×ah)) {x:aQ},(x,bq.cell)∉names->(cellsFrom n names fE).lookup x=fE.lookup x
 |[],_,_,_,_=>rfl
 |(a,k)::r,n,fE,x,h=>by
  have hr:(x,bq.cell)∉r:=λz=>h (aj _ z)
  by_cases hk:k=.cell
  ·subst hk
   rw[Jn,NP r _ _ hr,bm]
   cases hx:x==a with
   |true=>exact absurd (by rw[eq_of_beq hx];exact af) h
   |false=>rfl
  ·rw[JE hk,NP r _ _ hr]
theorem NQ:∀(names:List (aQ×bq)) (n:Nat) (fE:List (aQ×ah)),(∀x y c,fE.lookup x=some c->fE.lookup y=some c->x=y)->(∀x c,fE.lookup x=some c->c<n)->∀x y c,(cellsFrom n names fE).lookup x=some c->(cellsFrom n names fE).lookup y=some c->x=y
 |[],_,_,h,_=>h
 |(a,k)::r,n,fE,h,hb=>by
  by_cases hk:k=.cell
  ·subst hk
   rw[Jn]
   refine NQ r (n+1) _ (λx y c e e'=>?_) λx c e=>?_
   ·rw[bm]at e e'
    cases hx:x==a with
    |true=>
     rw[hx]at e
     cases e
     cases hy:y==a with
     |true=>rw[eq_of_beq hx,eq_of_beq hy]
     |false=>rw[hy]at e';exact absurd (hb _ _ e') (eh _)
    |false=>
     rw[hx]at e
     cases hy:y==a with
     |true=>rw[hy]at e';cases e';exact absurd (hb _ _ e) (eh _)
     |false=>rw[hy]at e';exact h x y c e e'
   ·rw[bm]at e
    cases hx:x==a with
    |true=>rw[hx]at e;cases e;exact iG _
    |false=>rw[hx]at e;exact eI (hb _ _ e)
  ·rw[JE hk]
   exact NQ r n fE h hb
theorem MZ {M:Model}{A:bR}{E:ae->am->Prop}:∀(names:List (aQ×bq)) (cells:List (aQ×ah)) (s:am) (Q:List (aQ×ah)->am->Prop),
    (∀h':aZ,(∀b o,s.heap.get? b=some o->h'.get? b=some o)->(∀c,s.heap.objs.size<=c->c<s.heap.objs.size+i6 names->h'.IsCell c none)->Q (cellsFrom s.heap.objs.size names cells) { s with heap:=h' }) ->
    bi M A (forIn names cells λ(x:aQ×bq) (cells:List (aQ×ah))=>if(x.2==bq.cell)=true then do let a ← alloc { cls:=ae.type "cell",data:=jR.cell none };pure (ForInStep.yield ((x.1,a)::cells))else pure (ForInStep.yield cells)) Q E s
  |[],cells,s,Q,h=>by
    have:=h s.heap (λ_ _ e=>e) (λc h1 h2=>by rw[show i6 []=0 from rfl]at h2;omega)
    rw[uG]
    exact bS this
  |(a,k)::r,cells,s,Q,h=>by
    rw[lZ]
    by_cases hk:k=.cell
    · subst hk
      simp only[beq_self_eq_true,if_true,bind_assoc,pure_bind]
      refine aR (wpAny_alloc ?_)
      have ih:=MZ (M:=M) (A:=A) (E:=E) r ((a,s.heap.objs.size)::cells) { s with heap:=s.heap.push { cls:=ae.type "cell",data:=jR.cell none } } Q (λh' k1 k2=>by
        have hz:(s.heap.push { cls:=ae.type "cell",data:=jR.cell none }).objs.size=s.heap.objs.size+1:=fI _ _
        have:=h h' (λb o e=>k1 b o (aC _ e)) (λc h1 h2=>by
          rw[NC]at h2
          by_cases hc:c=s.heap.objs.size
          · subst hc
            exact⟨_,k1 _ _ (bQ _ rfl),rfl⟩
          · exact k2 c (by show(s.heap.push _).objs.size<=c;rw[hz];omega) (by show c<(s.heap.push _).objs.size+_;rw[hz];omega))
        rw[Jn]at this
        have e:(({ s with heap:=s.heap.push { cls:=ae.type "cell",data:=jR.cell none } }:am)).heap.objs.size=s.heap.objs.size+1:=hz
        rw[e]
        exact this)
      exact ih
    · have hb:(k==bq.cell)=false:=by simpa using hk
      simp only[hb,dA,if_false,pure_bind]
      refine MZ r cells s Q λh' k1 k2=>?_
      have hf:=Sl hk a r
      have:=h h' k1 (by rw[hf];exact k2)
      rw[JE hk]at this
      exact this
theorem Qg {M:Model}{A:bR}{E:ae->am->Prop}{s:am}{scope:fQ}{globals:ah}{closure:List (aQ×ah)}{qual:aQ}{code:ae}{out:Env}{builtins:ah}{Q:Env->am->Prop}
    (h:∀h':aZ,(∀b o,s.heap.get? b=some o->h'.get? b=some o)->h'.Ns s.heap.objs.size (λ_=>none)->(∀c,s.heap.objs.size+1<=c->c<s.heap.objs.size+1+i6 scope.names->h'.IsCell c none) ->
      Q (newEnv scope s.heap.objs.size globals (cellsFrom (s.heap.objs.size+1) scope.names closure) qual none code (some out) builtins) { s with heap:=h' }) :
    bi M A (ky scope globals closure [] qual none code (some out) builtins) Q E s:=by
  unfold ky
  refine aR (wpAny_alloc ?_)
  have hz:(s.heap.push { cls:=ae.type "dict",data:=jR.dict #[] }).objs.size=s.heap.objs.size+1:=fI _ _
  refine aR (MZ scope.names closure { s with heap:=s.heap.push { cls:=ae.type "dict",data:=jR.dict #[] } } _ λh' k1 k2=>?_)
  have VA:(({ s with heap:=s.heap.push { cls:=ae.type "dict",data:=jR.dict #[] } }:am)).heap.objs.size=s.heap.objs.size+1:=hz
  rw[VA]at k2 ⊢
  dsimp only
  rw[uG]
  refine aR (bS (bS ?_))
  exact h h' (λb o e=>k1 b o (aC _ e)) ((aZ.Ns.new s.heap _).keeps k1) k2
def iw (X:Cx)(scope:fQ)(cl:List (aQ×ah))(N:List aQ)(C:ah)(fp:List ah)(s₀:am)(H₀:Hp):Cx :=
 { X with N:=N,s₀:=s₀,H₀:=H₀,env:=pC scope cl C X.env,outer:=X.stack,stack:=X.stack,ex:=fp,fn:=λx=>scope.names.lookup x==some .cell,pn:=[],xe:=λ_ _=>False }
structure jZ (X:Cx)(scope:fQ)(N:List aQ)(own:Nat)(cap:List Nat):Prop where
 kind:scope.kind=.function
 cells:∀x∈scope.names,x.2=.cell->scope.names.lookup x.1=some .cell
 locs:∀x∈scope.names,x.2=.local->scope.names.lookup x.1=some .local
 free:∀x∈scope.names,x.2=.free->X.env.kindOf x.1=some .cell\/X.env.kindOf x.1=some .free
 len:N.length=own+cap.length
 caps:∀(j:Nat) (x:aQ),N[own+j]?=some x->∃i,cap[j]?=some i/\X.N[i]?=some x/\(scope.names.lookup x=some .free)
theorem IZ {α β:Type}[BEq α][LawfulBEq α]{x:α}{y:β}:∀{l:List (α×β)},l.lookup x=some y->(x,y)∈l
 |[],h=>by simp at h
 |(a,b)::r,h=>by
  rw[bm]at h
  cases hb:x==a with
  |true=>rw[hb]at h;cases h;rw[eq_of_beq hb];exact af
  |false=>rw[hb]at h;exact aj _ (IZ h)
theorem Qh {env:Env}{x:aQ}:∀{names:List (aQ×bq)},names.lookup x=some .free ->
  (names.map λ(n,k)=>if(k==bq.free&&env.scope.kind==.function&&env.kindOf n==some .cell)then(n,bq.cell)else(n,k)).lookup x=some .cell \/
  (names.map λ(n,k)=>if(k==bq.free&&env.scope.kind==.function&&env.kindOf n==some .cell)then(n,bq.cell)else(n,k)).lookup x=some .free
 |[],h=>by simp at h
 |(n,k)::r,h=>by
  rw[bm]at h
  rw[aO]
  cases hx:x==n with
  |true=>
   rw[hx]at h
   cases h
   by_cases hc:(bq.free==bq.free&&env.scope.kind==.function&&env.kindOf n==some .cell)=true
   ·left
    simp only[hc,if_true,bm,hx]
   ·right
    simp only[hc,if_false,bm,hx,dA]
  |false=>
   rw[hx]at h
   rcases Qh (env:=env) h with q|q
   ·left
    by_cases hc:(k==bq.free&&env.scope.kind==.function&&env.kindOf n==some .cell)=true
    ·simp only[hc,if_true,bm,hx];exact q
    ·simp only[hc,if_false,bm,hx,dA];exact q
   ·right
    by_cases hc:(k==bq.free&&env.scope.kind==.function&&env.kindOf n==some .cell)=true
    ·simp only[hc,if_true,bm,hx];exact q
    ·simp only[hc,if_false,bm,hx,dA];exact q
theorem Qc {env:Env}{x:aQ}:∀{names:List (aQ×bq)},((names.map λ(n,k)=>if(k==bq.free&&env.scope.kind==.function&&env.kindOf n==some .cell)then(n,bq.cell)else(n,k)).lookup x=some .cell \/
  (names.map λ(n,k)=>if(k==bq.free&&env.scope.kind==.function&&env.kindOf n==some .cell)then(n,bq.cell)else(n,k)).lookup x=some .free)->(x,bq.free)∈names\/(x,bq.cell)∈names
 |[],h=>by simp at h
 |(n,k)::r,h=>by
  rw[aO]at h
  cases hx:x==n with
  |true=>
   have e:x=n:=eq_of_beq hx
   by_cases hc:(k==bq.free&&env.scope.kind==.function&&env.kindOf n==some .cell)=true
   ·have:k=.free:=by
     rw[bE,bE]at hc
     exact eq_of_beq hc.1.1
    left
    rw[e,this];exact af
   ·simp only[hc,if_false,bm,hx,dA]at h
    rcases h with h|h
    ·cases h;right;rw[e];exact af
    ·cases h;left;rw[e];exact af
  |false=>
   refine(Qc (env:=env) (names:=r) ?_).imp (aj _) (aj _)
   by_cases hc:(k==bq.free&&env.scope.kind==.function&&env.kindOf n==some .cell)=true
   ·simpa only[hc,if_true,bm,hx]using h
   ·simpa only[hc,if_false,bm,hx,dA]using h
def fS (σ:St)(cap:List Nat):St:=cap.map λi=>(σ[i]?).join
theorem ZN {σ:St}{cap:List Nat}{j i:Nat}{v:V}(hj:cap[j]?=some i)(h:(fS σ cap)[j]?=some (some v)):σ[i]?=some (some v):=by
 unfold fS at h
 rw[aX,hj]at h
 cases e:σ[i]? with
 |none=>rw[se,e]at h;cases h
 |some o=>
  rw[se,e]at h
  cases o with
  |none=>cases h
  |some u=>exact h
section
variable {X:Cx}{ai:List (ah×dU)}{σ:St}{H:Hp}{s:am}
theorem QR {scope:fQ}{cl:List (aQ×ah)}{N:List aQ}{own:Nat}{cap:List Nat}{fp:List ah}{h₁:aZ}{t':Nat}{m₀:aQ->Option ae}(B:jZ X scope N own cap)(I:Inv X ai σ H s)
    (c1:∀y c,cl.lookup y=some c->X.env.cells.lookup y=some c) (c2:∀x∈scope.names,x.2=.free->∃c,cl.lookup x.1=some c)
    (hf:∀b∈fp,kb X ai H b) (OY:∀b∈fp,b<s.heap.objs.size) (gB:h₁.Ns s.heap.objs.size m₀) (k:∀b o,s.heap.get? b=some o->h₁.get? b=some o)
    (zO:∀c,s.heap.objs.size+1<=c->c<s.heap.objs.size+1+i6 scope.names->h₁.IsCell c none) :
    Inv (iw X scope (cellsFrom (s.heap.objs.size+1) scope.names cl) N s.heap.objs.size fp s H) [] (az own none++fS σ cap) H { s with heap:=h₁,toks:=t' } :=
  have low:∀x c,cl.lookup x=some c->c<s.heap.objs.size:=λx c e=>by
    obtain⟨v,o,q,_⟩:=I.cell x c (c1 x c e)
    exact aP q
  { ok:={
      mod:=I.mod
      kind:=B.kind
      glob:=I.ok.glob
      blt:=I.ok.blt
      above:=aM _
      inj:=NQ _ _ _ (λx y c e e'=>I.ok.inj x y c (c1 x c e) (c1 y c e')) λx c e=>eI (low x c e)
      has:=λx hx=>by
        refine mT.mp (iu scope.names _ _ ?_)
        rcases Qc hx with q|q
        · right
          obtain⟨c,e⟩:=c2 _ q rfl
          rw[e];rfl
        · exact .inl (B.cells _ q rfl)
      cab:=λx c e e'=>by
        have hx:scope.names.lookup x=some .cell:=eq_of_beq e
        rcases BS _ _ _ e' with⟨h1,_⟩|⟨_,h2⟩
        · exact kT h1
        · exact absurd (IZ hx) h2
      hd:=I.ok.hd
      frames:=I.ok.frames
      stk:=.inl rfl
      exf:=λb hb=>⟨bw (OY b hb),λx c e=>by
        rcases BS _ _ _ e with⟨h1,_⟩|⟨h1,_⟩
        · exactλz=>absurd (OY b hb) (by rw[←z];exact Nat.not_lt.mpr (kT h1))
        · exact(hf b hb).2.2.2.2.1 x c (c1 x c h1)⟩
      bs:=I.bs
      bsz:=cL I.ok.bsz I.sz
      noex:=λb o e hb=>by
        rcases(hf b hb).2.2.2.1 with q|q
        · exact I.ok.noex b o e q
        · exact absurd (bj (aP e) I.ok.bsz) (Nat.not_lt.mpr q)
      exfs:=λb hb hz=>by
        rcases aF.mp (I.stkSub b hz)with q|q
        · exact(hf b hb).2.1 q
        · exact(hf b hb).2.2.1 q
      funs:=I.stack
      frf:=I.stkFree }
    os:=rfl
    bare:=I.bare
    base:=Un.kept k
    loc:=by
      refine⟨m₀,gB,λi x v hN hσ hv=>?_⟩
      by_cases hi:i<own
      · rw[dh (by rw[dq];exact hi),fu,if_pos hi]at hσ
        cases hσ
      · obtain⟨j,rfl⟩:∃j,i=own+j:=⟨i-own,by omega⟩
        obtain⟨i',e1,e2,e3⟩:=B.caps j x hN
        rw[eP (by rw[dq];omega),dq,Nat.add_sub_cancel_left]at hσ
        have Ag:=ZN e1 hσ
        have hk:=B.free (x,.free) (IZ e3) rfl
        obtain⟨m,hm,hl⟩:=I.loc
        obtain⟨u,ru,hu⟩:=hl i' x v e2 Ag (.inr hk)
        refine⟨u,ru,?_⟩
        rcases hu with⟨q,_⟩|⟨_,c,hc,ic⟩
        · rcases hk with hk|hk
          · rw[hk]at q;cases q
          · rw[hk]at q;cases q
        · obtain⟨c',vX⟩:=c2 (x,.free) (IZ e3) rfl
          have ec:=c1 x c' vX
          rw[hc]at ec
          cases ec
          have hn:(x,bq.cell)∉scope.names:=λz=>by
            have:=B.cells _ z rfl
            rw[e3]at this
            cases this
          exact .inr ⟨Qh e3,c,by show(cellsFrom _ _ _).lookup x=_;rw[NP _ _ _ hn];exact vX,ic.keeps k⟩
    cell:=λx c e=>by
      rcases BS _ _ _ e with⟨h1,h2,_⟩|⟨h1,_⟩
      · exact⟨none,zO c h1 h2⟩
      · obtain⟨v,q⟩:=I.cell x c (c1 x c h1)
        exact⟨v,q.keeps k⟩
    free:=I.hok.fresh (aM _)
    freeC:=λx c e=>by
      rcases BS _ _ _ e with⟨h1,_⟩|⟨h1,_⟩
      · exact I.hok.fresh (kT h1)
      · exact I.freeC x c (c1 x c h1)
    pin:=λp hp=>(nomatch hp)
    hok:=I.hok.kept k
    len:=by
      show(az own none++fS σ cap).length=N.length
      rw[bg,dq,B.len]
      unfold fS
      rw[ak] }
end
def vE:TT:=λ_ H Q=>Q true H
def vS (X:Cx)(ifs:List Expr)(t:TT):Prop :=
 ∀(ai:List (ah×dU)) (s:am) (σ:St) (H:Hp) (Q:Bool->Hp->Prop),Inv X ai σ H s->t σ H Q ->
  bi (ba X.prog X.w) X.A (forIn ifs true λc r=>if r=true then do let ok ← sg c X.env (bJ c X.env);pure (ForInStep.yield ok)else pure (ForInStep.yield r)) (TP X ai σ Q) X.xe s
theorem zqk {X:Cx}:vS X [] vE:=λ_ _ _ H _ I h=>wpAny_tests_nil ⟨H,I,h⟩
theorem zql {X:Cx}{c:Expr}{t:TT}(h:PT X c t):vS X [c] t:=λai s σ H Q I q=>wpAny_tests_one (h ai s σ H Q I q)
def qR (wi:TI)(own:Nat)(cap:List Nat)(g:TG)(tt:TT)(te:TE):TE:=λσ H Q=>wi σ H λJ H1=>∀D,H1 D=none->∃W:Nat->Nat->List V->Hp->Prop,(∃m,W 0 m [] (upd H1 D (.lst []))) /\
 ∀i m ys H2,W i m ys H2->H2 D=some (.lst ys)/\((J.stop i H2/\Q (.ref D) H2)\/(J.go i H2/\ys.length<sizeLine/\∀x H3,J.yld i H2 x H3->g x (az own none++fS σ cap) H3 λσ2 H4=>tt σ2 H4 λb H5=>
  if b=true then te σ2 H5 λy H6=>H6 D=some (.lst ys)/\∃m',m'<m/\W (i+1) m' (ys++[y]) (upd H6 D (.lst (ys++[y])))else∃m',m'<m/\W (i+1) m' ys H5))
def fU (own:Nat)(g:TG):Prop:=∀v σ H Q,g v σ H Q->g v σ H λσ' H'=>Q σ' H'/\σ'.length = σ.length/\∀i,own<=i->σ'[i]? = σ[i]?
theorem ZO (i own:Nat)(h:i<own):fU own (qL i):=λv σ H Q q=>⟨q,by rw[tU],λj hj=>by rw[cS (by omega)]⟩
theorem zqm {X:Cx}{jB iter tg:Expr}{ifs:List Expr}{scope:fQ}{pos:cY}{N:List aQ}{own:Nat}{cap:List Nat}{wi:TI}{g:TG}{tt:TT}{te:TE}(B:jZ X scope N own cap)(hc:X.calm=true)(hi:PI X tg iter wi)
    (kg:fU own g)
    (hg:∀cl C fp s₀ H₀,PG (iw X scope cl N C fp s₀ H₀) tg g) (ht:∀cl C fp s₀ H₀,vS (iw X scope cl N C fp s₀ H₀) ifs tt) (he:∀cl C fp s₀ H₀,PE (iw X scope cl N C fp s₀ H₀) jB te)
    (hs:∀x,dP iter X.env x=pure x:=by intro _;rfl):PE X (.ListComp jB [⟨tg,iter,ifs,0⟩] scope pos) (qR wi own cap g tt te):=by
  intro ai s σ H Q I h
  obtain⟨cl,zN,c1,c2,_⟩:=IS (env:=X.env) scope.names [] (λx hx hf=>I.ok.has x.1 (B.free x hx hf)) (λy c e=>by simp at e)
  have sS:pB scope X.env=pure cl:=by
    have e:pB scope X.env=(forIn scope.names ([]:List (aQ×ah)) (λ(x:aQ×bq) (cs:List (aQ×ah))=>if(x.2==bq.free)=true then do let a ← cellOf X.env x.1;pure (ForInStep.yield ((x.1,a)::cs))else pure (ForInStep.yield cs)) >>= pure:oO (List (aQ×ah))):=rfl
    rw[e,zN]
    rfl
  rw[eval_ListComp]
  refine wpAny_comprehension_free (use:=none) rfl hs sS B.kind B.locs (dz (hi ai s σ H _ I h) λv s1 h1=>dz h1 λIA s2 h2=>?_)
  obtain⟨it,fp,tn,J,H2,e,I2,T,t8,f2,W0⟩:=h2
  subst e
  obtain⟨W,⟨m0,w0⟩,bW⟩:=W0 s2.heap.objs.size (I2.hok.fresh (aM _))
  refine mP ?_
  have I3:Inv X ai σ (upd H2 s2.heap.objs.size (.lst [])) { s2 with heap:=s2.heap.push { cls:=.type "list",data:=.seq ([]:List ae).toArray } }:=I2.lnew .nil (de _)
  generalize EJ:({ s2 with heap:=s2.heap.push { cls:=.type "list",data:=.seq ([]:List ae).toArray } }:am)=s3 at I3
  have k3:∀b o,s2.heap.get? b=some o->s3.heap.get? b=some o:=λb o e=>by rw[←EJ];exact aC _ e
  have z3:s3.heap.objs.size=s2.heap.objs.size+1:=by rw[←EJ];exact fI _ _
  have pY:∀b∈fp,b<s2.heap.objs.size:=λb hb=>by
    obtain⟨o,e,_⟩:=T.obj _ _ t8 b hb
    exact aP e
  have iY:∀b∈fp,b≠s2.heap.objs.size:=λb hb=>bw (pY b hb)
  have f3:∀b∈fp,kb X ai (upd H2 s2.heap.objs.size (.lst [])) b:=λb hb=>⟨by rw[ym (iY b hb)];exact(f2 b hb).1,(f2 b hb).2⟩
  have IM:tn 0 s3.heap:=T.keep _ _ _ t8 λb _ o e=>k3 b o e
  show bi _ _ (ky scope X.env.globals cl [] X.env.qual none .none (some X.env)) _ _ _
  refine Qg λh₁ kk zZ zP=>?_
  have IB:=QR (t':=s3.toks) B I3 c1 c2 f3 (λb hb=>by rw[z3];exact eI (pY b hb)) zZ kk zP
  generalize cellsFrom (s3.heap.objs.size+1) scope.names cl=cl at IB ⊢
  generalize LJ:({ s3 with heap:=h₁,toks:=s3.toks }:am)=s4 at IB
  have Hj:tn 0 s4.heap:=T.keep _ _ _ IM λb _ o e=>by rw[←LJ];exact kk b o e
  show gc (ba X.prog X.w) X.A (.compStart (.ListComp jB [⟨tg,iter,ifs,0⟩] scope pos) 0 (.ref it) (.ref s2.heap.objs.size) (pC scope cl s3.heap.objs.size X.env))
      (pD (ba X.prog X.w) X.A X.xe none (EP X ai σ Q) (.ref s2.heap.objs.size) s3.heap.objs.size) s4
  have mF:∀{H':Hp},(∀b∈fp,H' b=none)->∀b∈fp,kb (iw X scope cl N s3.heap.objs.size fp s3 (upd H2 s2.heap.objs.size (.lst []))) [] H' b:=λhn b hb=>
    ⟨hn b hb,bw (by show b<s3.heap.objs.size;rw[z3];exact eI (pY b hb)),IB.ok.exfs b hb,.inl hb,λx c e=>(IB.ok.exf b hb).2 x c e,λp hp=>(nomatch hp)⟩
  have loop:gc (ba X.prog X.w) X.A (.compLoop (.ListComp jB [⟨tg,iter,ifs,0⟩] scope pos) 0 (.ref it) (.ref s2.heap.objs.size) (pC scope cl s3.heap.objs.size X.env))
      (pD (ba X.prog X.w) X.A X.xe none (EP X ai σ Q) (.ref s2.heap.objs.size) s3.heap.objs.size) s4:=by
    refine Qf (λn s'=>∃i ys H',Inv (iw X scope cl N s3.heap.objs.size fp s3 (upd H2 s2.heap.objs.size (.lst []))) [] (az own none++fS σ cap) H' s'/\tn i s'.heap/\(∀b∈fp,H' b=none)/\W i n ys H') ?_ m0
      ⟨0,[],_,IB,Hj,λb hb=>(f3 b hb).1,w0⟩
    rintro n s5 ⟨i,ys,H5,I5,vB,zE,w5⟩
    obtain⟨hD,Ly⟩:=bW i n ys H5 w5
    rcases Ly with⟨stop,qn⟩|⟨go,mQ,step⟩
    · refine dz (T.done (iw X scope cl N s3.heap.objs.size fp s3 (upd H2 s2.heap.objs.size (.lst []))) rfl rfl rfl hc i [] s5 _ H5 (λ_ _=>False) I5 (mF zE) vB stop) λr s6 ⟨hr,I6⟩=>?_
      subst hr
      obtain⟨m,hm,_⟩:=id I6.loc
      refine⟨m,hm,λh' sb=>⟨.ref s2.heap.objs.size,H5,?_,rfl,qn⟩⟩
      have U:=I6.base
      have nC:∀b o,s3.heap.get? b=some o->b≠s3.heap.objs.size:=λb o e=>bw (aP e)
      have nT:∀b o,H5 b=some o->b≠s3.heap.objs.size:=λb o e z=>by
        have q:H5 s3.heap.objs.size=none:=I6.free
        rw[z,q]at e
        cases e
      refine I3.call' (ch:=fp) I6.os ?_ (λa o e=>(I6.hok a o e).stay (λb u hb q=>sb.extBut b u ?_ q) (λ_ q=>q) λ_ _ q=>q) I6.bare (λb hb=>⟨(f3 b hb).2.2.2.1,(f3 b hb).2.1,(f3 b hb).2.2.2.2.1,(f3 b hb).2.2.2.2.2⟩)
      · exact{
          keep:=λb o e z hb he=>sb.extBut b o (nC b o e) (U.keep b o e z hb he)
          slot:=λb o e z hb he=>by
            obtain⟨sl,q⟩:=U.slot b o e z hb he
            exact⟨sl,sb.extBut b _ (nC b o e) q⟩
          free:=U.free
          there:=λb o e he=>by
            obtain⟨o',q⟩:=U.there b o e he
            exact⟨o',sb.extBut b o' (nC b o e) q⟩
          tups:=U.tups
          frzs:=U.frzs
          tbls:=U.tbls }
      · rcases hb with rfl|hb
        · exact nT _ _ e
        · exact nT _ _ hb
    · refine dz (T.item (iw X scope cl N s3.heap.objs.size fp s3 (upd H2 s2.heap.objs.size (.lst []))) rfl rfl rfl hc i [] s5 _ H5 (λ_ _=>False) I5 (mF zE) vB go) λr s6 ⟨u,hr,h6⟩=>?_
      subst hr
      refine dz h6 λ_ s7 ⟨x,H7,I7,r7,y7,AG,K8⟩=>?_
      have JP:=I7.pinned (mF K8) (T.obj _ _ AG)
      refine dz (hg cl s3.heap.objs.size fp s3 _ _ s7 _ H7 x u _ JP r7 (kg _ _ _ _ (step x H7 y7))) λ_ s8 ⟨σ8,H8,I8,q8,l8,p8⟩=>?_
      have back:∀{H9:Hp} {s9:am},Inv (iw X scope cl N s3.heap.objs.size fp s3 (upd H2 s2.heap.objs.size (.lst []))) ([]++kM fp s7.heap) σ8 H9 s9 ->
          Inv (iw X scope cl N s3.heap.objs.size fp s3 (upd H2 s2.heap.objs.size (.lst []))) [] (az own none++fS σ cap) H9 s9/\tn (i+1) s9.heap/\∀b∈fp,H9 b=none:=λ{H9 s9} I9=>by
        refine⟨(I9.unpinned).weak l8.symm (λj v e=>?_),T.keep _ _ _ AG λb hb o e=>(I9.pin (b,o) (av _ (av _ (j4 hb e)))).1,λb hb=>?_⟩
        · by_cases hj:j<own
          · rw[dh (by rw[dq];exact hj),fu,if_pos hj]at e
            cases e
          · rw[p8 j (by omega)];exact e
        · obtain⟨o,e,d⟩:=T.obj _ _ AG b hb
          exact(I9.pin (b,o) (av _ (av _ (j4 hb e)))).2.1
      refine dz (ht cl s3.heap.objs.size fp s3 _ _ s8 σ8 H8 _ I8 q8) λok s9 ⟨H9,I9,q9⟩=>?_
      cases ok with
      |false=>
        rw[if_neg aK]
        rw[if_neg aK]at q9
        obtain⟨m',zW,w'⟩:=q9
        obtain⟨b1,b2,b3⟩:=back I9
        exact⟨m',zW,i+1,ys,H9,b1,b2,b3,w'⟩
      |true=>
        rw[if_pos rfl]
        rw[if_pos rfl]at q9
        refine dz (he cl s3.heap.objs.size fp s3 _ _ s9 σ8 H9 _ I9 q9) λuy Mi ⟨y,BW,JN,r10,zF,m',zW,w'⟩=>?_
        refine dz (Hq _ Mi σ8 BW (.ref s2.heap.objs.size) [y] (.ref s2.heap.objs.size) [uy] (λ_ BX=>BX=upd BW s2.heap.objs.size (.lst (ys++[y]))) JN rfl (.cons r10 .nil) ⟨_,ys,y,rfl,rfl,zF,mQ,rfl⟩) λ_ Xh ⟨_,BX,JO,_,Ki⟩=>?_
        subst Ki
        obtain⟨b1,b2,b3⟩:=back JO
        exact⟨m',zW,i+1,ys++[y],_,b1,b2,b3,w'⟩
  exact codeAny_compStart_list loop (T.self X.A 0 s4 _ _ Hj loop)
end L2
namespace L2
open PySem PySem.Spec PyProof.Rows
section
variable {X:Cx}{ai:List (ah×dU)}{σ:St}{H:Hp}{s:am}{h':aZ}
theorem Inv.turnLay {ch:List ah}{a:ah}{o:HO}{t':Nat}(I:Inv X ai σ H s)(kl:∀b∈ch,kb X ai H b)(k:∀b o,b∉ch->s.heap.get? b=some o->h'.get? b=some o)(hp:s.heap.objs.size<=a)
  (new:d4 X.prog X.w (upd H a o) h' a o):Inv X ai σ (upd H a o) { s with heap:=h',toks:=t' }:=by
 have hn:H a=none:=I.hok.fresh hp
 have FT:∀b u,H b=some u->b∉ch:=λb u e z=>by rw[(kl b z).1]at e;cases e
 refine I.step (g':=s.gens) (d':=s.drawn) (ch:=ch) (λb hb=>⟨(kl b hb).2.2.2.1,(kl b hb).2.1,(kl b hb).2.2.2.2.1,(kl b hb).2.2.2.2.2⟩) (λb o _ _ hc e _=>k b o hc e) (λb o _ _ hc e _=>⟨o.slots,k b o hc e⟩)
  (λb o _ e n=>by rw[ym (bw (bj (aP e) hp))];exact n) (λb o hc e=>⟨o,k b o hc e⟩) (λb xs q=>by rw[ym (x8 q hn)];exact q) (λb u xs q=>by rw[ym (x8 q hn)];exact q)
  (λb ps q=>⟨#[],by rw[ym (x8 q hn),q];simp⟩) (λm hm=>?_) (λb u e=>?_) I.bare
 ·obtain⟨o',es,ep,ho,r⟩:=hm
  exact⟨o',es,ep,k _ o' (λz=>(kl _ z).2.1 rfl) ho,r⟩
 ·by_cases hb:b=a
  ·subst hb
   rw[yt]at e
   cases e
   exact new
  ·rw[ym hb]at e
   refine(I.hok b u e).stay (λc v hc q=>k c v ?_ q) (λc q=>by rw[ym (x8 q hn)];exact q) λc xs q=>by rw[ym (x8 q hn)];exact q
   rcases hc with z|z
   ·rw[z];exact FT b u e
   ·exact FT c _ z
theorem Inv.turnedL {ch:List ah}{t':Nat}(I:Inv X ai σ H s)(kl:∀b∈ch,kb X ai H b)(k:∀b o,b∉ch->s.heap.get? b=some o->h'.get? b=some o):Inv X ai σ H { s with heap:=h',toks:=t' }:=by
 have FT:∀b u,H b=some u->b∉ch:=λb u e z=>by rw[(kl b z).1]at e;cases e
 refine I.step (g':=s.gens) (d':=s.drawn) (ch:=ch) (λb hb=>⟨(kl b hb).2.2.2.1,(kl b hb).2.1,(kl b hb).2.2.2.2.1,(kl b hb).2.2.2.2.2⟩) (λb o _ _ hc e _=>k b o hc e) (λb o _ _ hc e _=>⟨o.slots,k b o hc e⟩)
  (λ_ _ _ _ n=>n) (λb o hc e=>⟨o,k b o hc e⟩) (λ_ _ e=>e) (λ_ _ _ e=>e) (λb ps e=>⟨#[],by rw[e];simp⟩) (λm hm=>?_) (λb u e=>?_) I.bare
 ·obtain⟨o',es,ep,ho,r⟩:=hm
  exact⟨o',es,ep,k _ o' (λz=>(kl _ z).2.1 rfl) ho,r⟩
 ·refine(I.hok b u e).stay (λc v hc q=>k c v ?_ q) (λ_ q=>q) λ_ _ q=>q
  rcases hc with z|z
  ·rw[z];exact FT b u e
  ·exact FT c _ z
end
def JQ (K:aa)(a:ah):It :=
 ⟨λi H=>∃xs x,e5 K H a xs/\xs[i]?=some x,λi H x H'=>∃p y,H p=none/\x=.ref p/\H'=upd H p (.tup [.int i,y])/\∀xs,e5 K H a xs->xs[i]?=some y,λi H=>∃xs,e5 K H a xs/\xs.length<=i⟩
theorem ZU {P:bB}{w:cj}{K:aa}{rE:List Expr}{kt:Nat}{pt:cY}(a e it:ah)(OW:e≠it) :
    Turn P w K (.Tuple rE kt pt) (JQ K a) [e,it] e (λi h=>(∃old,IsEnum h e it i old)/\h.IsListIter it a i) where
  mem:=by simp
  obj:=λi h st b hb=>by
    obtain⟨⟨old,he⟩,o,e1,c,d⟩:=st
    rcases aF.mp hb with rfl|hb
    · exact⟨_,he,λv z=>by cases z⟩
    · have e2:b=it:=by simpa using hb
      subst e2
      exact⟨o,e1,λv z=>by rw[d]at z;cases z⟩
  keep:=λi h h' st k=>by
    obtain⟨⟨old,he⟩,hit⟩:=st
    exact⟨⟨old,k e (by simp) _ he⟩,hit.at λo x=>k it (by simp) o x⟩
  item:=by
    intro X hP hw hK hc i ai s σ H E I hf st hg
    subst hP hw hK
    obtain⟨xs,x,hq,hx⟩:=hg
    obtain⟨bZ,rv,p,hz⟩:=I.list hq
    obtain⟨u,hu,ru⟩:=rv.get hx
    obtain⟨⟨old,he⟩,hit⟩:=st
    refine wpAny_pyNext_enum_item he hit p.isList (x:=u) (by simpa using hu) OW λh1 ho LA hT hsz hk=>?_
    refine⟨_,rfl,wpAny_letOwnedTupleGo_enum (s:={ s with heap:=h1,toks:=s.toks+1 }) ho λh2 Va Mm=>?_⟩
    have jB:e<s.heap.objs.size:=aP he
    have VF:it<s.heap.objs.size:=by obtain⟨_,q,_⟩:=hit;exact aP q
    have U0:h2.get? s.heap.objs.size=some { cls:=.type "tuple",data:=.seq #[.int i s.toks,u] }:=(Mm.2 _ (Nat.ne_of_gt jB)).trans hT
    have Vd:H s.heap.objs.size=none:=I.hok.fresh (aM _)
    have I1:Inv X ai σ (upd H s.heap.objs.size (.tup [.int i,x])) { s with heap:=h2,toks:=s.toks+1 }:=by
      refine I.turnLay (ch:=[e,it]) hf (λb o hb q=>?_) (aM _) ⟨by show 2<=sizeLine;decide,[.int i s.toks,u],.cons ⟨_,rfl⟩ (.cons ru .nil),_,U0,rfl,_,rfl⟩
      have Bf:b≠e:=λz=>hb (by simp[z])
      have UN:b≠it:=λz=>hb (by simp[z])
      exact(Mm.2 b Bf).trans (hk b o Bf UN q)
    refine⟨.ref s.heap.objs.size,_,I1,rfl,⟨_,x,Vd,rfl,rfl,λys hy=>by rw[I.list_inj hy hq];exact hx⟩,⟨⟨u,by simpa using Va⟩,LA.at λo q=>(Mm.2 it OW.symm).trans q⟩,λb hb=>?_⟩
    rw[ym ?_]
    · exact(hf b hb).1
    · rcases aF.mp hb with rfl|hb
      · exact bw jB
      · have e2:b=it:=by simpa using hb
        rw[e2];exact bw VF
  done:=by
    intro X hP hw hK hc i ai s σ H E I hf st hg
    subst hP hw hK
    obtain⟨xs,hq,hx⟩:=hg
    obtain⟨bZ,rv,p,hz⟩:=I.list hq
    obtain⟨⟨old,he⟩,hit⟩:=st
    have hl:=rv.length
    exact wpAny_pyNext_enum_end (I.ok.hd hc) he hit p.isList (by simp;omega) λh' eb=>⟨rfl,I.turnedL (ch:=[e,it]) (t':=s.toks) hf λb o hb q=>eb b o (λz=>hb (by simp[z])) q⟩
  self:=λ_ _ _ _ _ st h=>wpAny_pyIter_enum st.1.choose_spec h
section
variable {X:Cx}{rE:List Expr}{kt:Nat}{pt:cY}
def ET (K:aa)(ta:TA):TI:=λσ H R=>ta σ H λvs H1=>∃a,vs=[.ref a]/\(∃xs,e5 K H1 a xs)/\R (JQ K a) H1
theorem zqn {l:Expr}{ta:TA}{p pos:cY}(hg:Gl X "enumerate")(hm:X.mg "enumerate"=none)(ha:PA X [l] ta)(hs:aq [l] X.env=[(false,bJ l X.env)]:=by rfl) :
  PI X (.Tuple rE kt pt) (.Call (.Name "enumerate" p) [l] [] pos) (ET X.K ta):=by
 intro ai s σ H R I h
 refine Call_ (vI I hg hm PyProof.Rows.boot_enumerate (cw (dz (ha pos ai s σ H _ I h) λus s1 ⟨vs,H1,I1,r1,q1⟩=>?_) hs rfl))
 obtain⟨a,e,⟨xs,hq⟩,q⟩:=q1
 subst e
 cases r1 with
 |cons r rr=>
  cases rr
  cases r
  obtain⟨bZ,rv,pl,hz⟩:=I1.list hq
  refine call_enumerate_list pl.isList λh' he hit hsz hk=>?_
  refine wpAny_pyIter_enum (s:={ s1 with heap:=h' }) he ?_
  refine⟨s1.heap.objs.size+1,[s1.heap.objs.size+1,s1.heap.objs.size],_,_,H1,rfl,I1.kept (t':=s1.toks) hk,ZU a _ _ (Nat.succ_ne_self _),⟨⟨_,he⟩,hit⟩,λb hb=>?_,q⟩
  rcases aF.mp hb with rfl|hb
  ·exact I1.fpOk (ma _) (I1.hok.fresh (ma _))
  ·have e:b=s1.heap.objs.size:=by simpa using hb
   subst e
   exact I1.fpOk (aM _) (I1.hok.fresh (aM _))
end
end L2
namespace L3
open PySem PySem.Spec L2
open PyProof.Rows hiding St
inductive D where
 |non|bl (b:Bool)|int (i:Int)|str (x:aQ)
 |lst (xs:List D)|tup (xs:List D)|dK (ks:List eR) (ds:List D)|dT (ks:List (List eR)) (ds:List D)
 |obj (c:Nat) (ns:List aQ) (ds:List D)
 deriving Inhabited
inductive Pr (R:D->V->Prop):List D->List V->Prop
 |nil:Pr R [] []
 |cons {d:D} {v:V} {ds:List D} {vs:List V}:R d v->Pr R ds vs->Pr R (d::ds) (v::vs)
theorem Pr.mono {R R':D->V->Prop}(f:∀d v,R d v->R' d v):∀{ds:List D} {vs:List V},Pr R ds vs->Pr R' ds vs
 |_,_,.nil=>.nil
 |_,_,.cons h t=>.cons (f _ _ h) (Pr.mono f t)
theorem Pr.length {R:D->V->Prop}:∀{ds:List D} {vs:List V},Pr R ds vs->ds.length=vs.length
 |_,_,.nil=>rfl
 |_,_,.cons _ t=>by simp[Pr.length t]
theorem Pr.get' {R:D->V->Prop}:∀{ds:List D} {vs:List V} {i:Nat} {d:D},Pr R ds vs->ds[i]?=some d->∃v,vs[i]?=some v/\R d v
 |_,_,_,_,.nil,e=>by simp at e
 |_,_,0,_,.cons h _,e=>by simp at e;subst e;exact⟨_,rfl,h⟩
 |_,_,i+1,v,.cons _ t,e=>by
  obtain⟨d,h1,h2⟩:=Pr.get' (i:=i) (d:=v) t (by simpa using e)
  exact⟨d,by simpa using h1,h2⟩
theorem Pr.append {R:D->V->Prop}:∀{ds es:List D} {vs us:List V},Pr R ds vs->Pr R es us->Pr R (ds++es) (vs++us)
 |_,_,_,_,.nil,s=>s
 |_,_,_,_,.cons h t,s=>.cons h (Pr.append t s)
theorem Pr.take {R:D->V->Prop}:∀{ds:List D} {vs:List V} (n:Nat),Pr R ds vs->Pr R (ds.take n) (vs.take n)
 |_,_,0,_=>.nil
 |_,_,_+1,.nil=>.nil
 |_,_,n+1,.cons h t=>.cons h (Pr.take n t)
theorem Pr.drop {R:D->V->Prop}:∀{ds:List D} {vs:List V} (n:Nat),Pr R ds vs->Pr R (ds.drop n) (vs.drop n)
 |_,_,0,r=>r
 |_,_,_+1,.nil=>.nil
 |_,_,n+1,.cons _ t=>Pr.drop n t
theorem Pr.reverse {R:D->V->Prop}{ds:List D}{vs:List V}(h:Pr R ds vs):Pr R ds.reverse vs.reverse:=by
 induction h with
 |nil=>exact .nil
 |cons h t ih=>rw[kB,kB];exact ih.append (.cons h .nil)
theorem Pr.rep {R:D->V->Prop}{ds:List D}{vs:List V}(h:Pr R ds vs):∀k:Nat,Pr R (az k ds).flatten (az k vs).flatten
 |0=>.nil
 |k+1=>by rw[cM,d9,cM,d9];exact h.append (Pr.rep h k)
mutual
inductive Dt (K:aa)(ct:Nat->ah)(F:Hp):D->V->Prop
 |non:Dt K ct F .non .non
 |bl (b:Bool):Dt K ct F (.bl b) (.bl b)
 |int (i:Int):Dt K ct F (.int i) (.int i)
 |str (x:aQ):Dt K ct F (.str x) (.str x)
 |lst {a:ah} {vs:List V} {ds:List D}:e5 K F a vs->Dts K ct F ds vs->Dt K ct F (.lst ds) (.ref a)
 |tup {a:ah} {vs:List V} {ds:List D}:F a=some (.tup vs)->Dts K ct F ds vs->Dt K ct F (.tup ds) (.ref a)
 |dK {a:ah} {ks:List eR} {vs:List V} {ds:List D}:F a=some (.dK (ks.zip vs))->ks.length=vs.length->Dts K ct F ds vs->Dt K ct F (.dK ks ds) (.ref a)
 |dT {a:ah} {ks:List (List eR)} {vs:List V} {ds:List D}:F a=some (.dT (ks.zip vs))->ks.length=vs.length->Dts K ct F ds vs->Dt K ct F (.dT ks ds) (.ref a)
 |obj {a dx:ah} {c:Nat} {ns:List aQ} {vs:List V} {ds:List D}:F a=some (.ins (ct c) dx (ns.zip vs))->ns.length=vs.length->Dts K ct F ds vs->Dt K ct F (.obj c ns ds) (.ref a)
inductive Dts (K:aa)(ct:Nat->ah)(F:Hp):List D->List V->Prop
 |nil:Dts K ct F [] []
 |cons {d:D} {v:V} {ds:List D} {vs:List V}:Dt K ct F d v->Dts K ct F ds vs->Dts K ct F (d::ds) (v::vs)
end
section
variable {K:aa}{ct:Nat->ah}{F F' G G' H H' B B':Hp}
theorem Dts.pr:∀{ds:List D} {vs:List V},Dts K ct F ds vs->Pr (Dt K ct F) ds vs
 |_,_,.nil=>.nil
 |_,_,.cons h t=>.cons h (Dts.pr t)
theorem Dts.of:∀{ds:List D} {vs:List V},Pr (Dt K ct F) ds vs->Dts K ct F ds vs
 |_,_,.nil=>.nil
 |_,_,.cons h t=>.cons h (Dts.of t)
mutual
theorem Dt.mono (s:bT F F'):∀{d:D} {v:V},Dt K ct F d v->Dt K ct F' d v
 |_,_,.non=>.non
 |_,_,.bl b=>.bl b
 |_,_,.int i=>.int i
 |_,_,.str x=>.str x
 |_,_,.lst h t=>.lst (s.seq h) (Dts.mono s t)
 |_,_,.tup h t=>.tup (s _ _ h) (Dts.mono s t)
 |_,_,.dK h l t=>.dK (s _ _ h) l (Dts.mono s t)
 |_,_,.dT h l t=>.dT (s _ _ h) l (Dts.mono s t)
 |_,_,.obj h l t=>.obj (s _ _ h) l (Dts.mono s t)
theorem Dts.mono (s:bT F F'):∀{ds:List D} {vs:List V},Dts K ct F ds vs->Dts K ct F' ds vs
 |_,_,.nil=>.nil
 |_,_,.cons h t=>.cons (Dt.mono s h) (Dts.mono s t)
end
end
def D.sc:D->Bool
 |.non=>true|.bl _=>true|.int _=>true|.str _=>true|_=>false
inductive A6 (K:aa)(ct:Nat->ah)(F G:Hp)(R:D->V->Prop):D->V->Prop
 |lst {a:ah} {vs:List V} {ds:List D}:G a=some (.lst vs)->Pr R ds vs->A6 K ct F G R (.lst ds) (.ref a)
 |tup {a:ah} {vs:List V} {ds:List D}:F a=some (.tup vs)->Pr R ds vs->A6 K ct F G R (.tup ds) (.ref a)
 |dK {a:ah} {ks:List eR} {vs:List V} {ds:List D}:G a=some (.dK (ks.zip vs))->ks.length=vs.length->Pr R ds vs->A6 K ct F G R (.dK ks ds) (.ref a)
 |dT {a:ah} {ks:List (List eR)} {vs:List V} {ds:List D}:G a=some (.dT (ks.zip vs))->ks.length=vs.length->Pr R ds vs->A6 K ct F G R (.dT ks ds) (.ref a)
 |obj {a dx:ah} {c:Nat} {ns:List aQ} {vs:List V} {ds:List D}:G a=some (.ins (ct c) dx (ns.zip vs))->ns.length=vs.length->Pr R ds vs->A6 K ct F G R (.obj c ns ds) (.ref a)
def Al (K:aa)(ct:Nat->ah)(F G:Hp):Nat->D->V->Prop
 |0,d,v=>Dt K ct F d v
 |n+1,d,v=>Dt K ct F d v\/A6 K ct F G (Al K ct F G n) d v
inductive OwL (R:D->V->List ah->Prop):List D->List V->List ah->Prop
 |nil:OwL R [] [] []
 |cons {d:D} {v:V} {ds:List D} {vs:List V} {f g:List ah}:R d v f->OwL R ds vs g->OwL R (d::ds) (v::vs) (f++g)
inductive uJ (K:aa)(ct:Nat->ah)(F H:Hp)(R:D->V->List ah->Prop):D->V->List ah->Prop
 |lst {a:ah} {vs:List V} {ds:List D} {fp:List ah}:F a=none->H a=some (.lst vs)->OwL R ds vs fp->uJ K ct F H R (.lst ds) (.ref a) (a::fp)
 |tup {a:ah} {vs:List V} {ds:List D} {fp:List ah}:F a=some (.tup vs)->OwL R ds vs fp->uJ K ct F H R (.tup ds) (.ref a) fp
 |dK {a:ah} {ks:List eR} {vs:List V} {ds:List D} {fp:List ah}:F a=none->H a=some (.dK (ks.zip vs))->ks.length=vs.length->OwL R ds vs fp->uJ K ct F H R (.dK ks ds) (.ref a) (a::fp)
 |dT {a:ah} {ks:List (List eR)} {vs:List V} {ds:List D} {fp:List ah}:F a=none->H a=some (.dT (ks.zip vs))->ks.length=vs.length->OwL R ds vs fp->uJ K ct F H R (.dT ks ds) (.ref a) (a::fp)
 |obj {a dx:ah} {c:Nat} {ns:List aQ} {vs:List V} {ds:List D} {fp:List ah}:F a=none->H a=some (.ins (ct c) dx (ns.zip vs))->ns.length=vs.length->OwL R ds vs fp->uJ K ct F H R (.obj c ns ds) (.ref a) (a::fp)
def Ow (K:aa)(ct:Nat->ah)(F H:Hp):Nat->D->V->List ah->Prop
 |0,d,v,fp=>Dt K ct F d v/\fp=[]
 |n+1,d,v,fp=>(d.sc=true/\Dt K ct F d v/\fp=[])\/uJ K ct F H (Ow K ct F H n) d v fp
structure fq (F H F' H':Hp):Prop where
 ff:bT F F'
 hh:bT H H'
 fh:bT F' H'
 nf:∀a o,H a=some o->F a=none->F' a=none
theorem fq.refl {F H:Hp}(h:bT F H):fq F H F H:=⟨.refl _,.refl _,h,λ_ _ _ h=>h⟩
theorem fq.trans {F H F1 H1 F2 H2:Hp}(a:fq F H F1 H1)(b:fq F1 H1 F2 H2):fq F H F2 H2 :=
 ⟨a.ff.trans b.ff,a.hh.trans b.hh,b.fh,λc o h n=>b.nf c o (a.hh _ _ h) (a.nf c o h n)⟩
theorem fq.newO {F H:Hp}{p:ah}(s:bT F H)(h:H p=none)(o:HO):fq F H F (upd H p o) :=
 ⟨.refl _,Ht h o,s.trans (Ht h o),λ_ _ _ h=>h⟩
theorem fq.newS {F H:Hp}{p:ah}(s:bT F H)(h:H p=none)(o:HO):fq F H (upd F p o) (upd H p o) :=
  ⟨Ht (s.free h) o,Ht h o,λb u q=>by
    by_cases e:b=p
    · subst e;rw[yt]at q ⊢;exact q
    · rw[ym e]at q ⊢;exact s _ _ q,
   λb u q n=>by rw[ym (x8 q h)];exact n⟩
section
variable {K:aa}{ct:Nat->ah}{F F' G G' H H' B B':Hp}
theorem Al.mono (sF:bT F F')(sG:bT G G'):∀{n:Nat} {d:D} {v:V},Al K ct F G n d v->Al K ct F' G' n d v
 |0,_,_,h=>Dt.mono sF h
 |n+1,_,_,.inl h=>.inl (Dt.mono sF h)
 |n+1,_,_,.inr (.lst h p)=>.inr (.lst (sG _ _ h) (p.mono λ_ _ q=>Al.mono sF sG q))
 |n+1,_,_,.inr (.tup h p)=>.inr (.tup (sF _ _ h) (p.mono λ_ _ q=>Al.mono sF sG q))
 |n+1,_,_,.inr (.dK h l p)=>.inr (.dK (sG _ _ h) l (p.mono λ_ _ q=>Al.mono sF sG q))
 |n+1,_,_,.inr (.dT h l p)=>.inr (.dT (sG _ _ h) l (p.mono λ_ _ q=>Al.mono sF sG q))
 |n+1,_,_,.inr (.obj h l p)=>.inr (.obj (sG _ _ h) l (p.mono λ_ _ q=>Al.mono sF sG q))
theorem Al.of:∀{n:Nat} {d:D} {v:V},Dt K ct F d v->Al K ct F G n d v
 |0,_,_,h=>h
 |_+1,_,_,h=>.inl h
theorem Al.up:∀{n m:Nat} {d:D} {v:V},Al K ct F G n d v->n<=m->Al K ct F G m d v
 |0,_,_,_,h,_=>Al.of h
 |n+1,0,_,_,_,l=>absurd l (by omega)
 |n+1,m+1,_,_,.inl h,_=>.inl h
 |n+1,m+1,_,_,.inr (.lst h p),l=>.inr (.lst h (p.mono λ_ _ q=>Al.up q (by omega)))
 |n+1,m+1,_,_,.inr (.tup h p),l=>.inr (.tup h (p.mono λ_ _ q=>Al.up q (by omega)))
 |n+1,m+1,_,_,.inr (.dK h e p),l=>.inr (.dK h e (p.mono λ_ _ q=>Al.up q (by omega)))
 |n+1,m+1,_,_,.inr (.dT h e p),l=>.inr (.dT h e (p.mono λ_ _ q=>Al.up q (by omega)))
 |n+1,m+1,_,_,.inr (.obj h e p),l=>.inr (.obj h e (p.mono λ_ _ q=>Al.up q (by omega)))
theorem Dt.scal {d:D}{v:V}(h:Dt K ct F d v)(hs:d.sc=true):Dt K ct F' d v:=by
 cases h with
 |non=>exact .non
 |bl b=>exact .bl b
 |int i=>exact .int i
 |str x=>exact .str x
 |lst _ _=>cases hs
 |tup _ _=>cases hs
 |dK _ _ _=>cases hs
 |dT _ _ _=>cases hs
 |obj _ _ _=>cases hs
theorem Al.scal {n:Nat}{d:D}{v:V}(h:Al K ct F G n d v)(hs:d.sc=true):Dt K ct F' d v:=by
 cases n with
 |zero=>exact Dt.scal h hs
 |succ n=>
  rcases h with h|h
  ·exact h.scal hs
  ·cases h<;>cases hs
theorem Al.int {n:Nat}{i:Int}{v:V}(h:Al K ct F G n (.int i) v):v=.int i:=by
 have q:=Al.scal (F':=F) h rfl
 cases q;rfl
theorem Al.bl {n:Nat}{b:Bool}{v:V}(h:Al K ct F G n (.bl b) v):v=.bl b:=by
 have q:=Al.scal (F':=F) h rfl
 cases q;rfl
theorem Al.str {n:Nat}{x:aQ}{v:V}(h:Al K ct F G n (.str x) v):v=.str x:=by
 have q:=Al.scal (F':=F) h rfl
 cases q;rfl
theorem Al.non {n:Nat}{v:V}(h:Al K ct F G n .non v):v=.non:=by
 have q:=Al.scal (F':=F) h rfl
 cases q;rfl
theorem Al.lst {n:Nat}{ds:List D}{v:V}(h:Al K ct F G n (.lst ds) v)(s:bT F G):∃a vs,v=.ref a/\e5 K G a vs/\Pr (Al K ct F G (n-1)) ds vs:=by
 cases n with
 |zero=>
  have h:Dt K ct F (.lst ds) v:=h
  cases h with
  |lst q t=>exact⟨_,_,rfl,s.seq q,t.pr⟩
 |succ n=>
  rcases h with h|h
  ·cases h with
   |lst q t=>exact⟨_,_,rfl,s.seq q,t.pr.mono λ_ _=>Al.of⟩
  ·cases h with
   |lst q t=>exact⟨_,_,rfl,e5.of q,t⟩
theorem Al.tup {n:Nat}{ds:List D}{v:V}(h:Al K ct F G n (.tup ds) v)(s:bT F G):∃a vs,v=.ref a/\G a=some (.tup vs)/\Pr (Al K ct F G (n-1)) ds vs:=by
 cases n with
 |zero=>
  have h:Dt K ct F (.tup ds) v:=h
  cases h with
  |tup q t=>exact⟨_,_,rfl,s _ _ q,t.pr⟩
 |succ n=>
  rcases h with h|h
  ·cases h with
   |tup q t=>exact⟨_,_,rfl,s _ _ q,t.pr.mono λ_ _=>Al.of⟩
  ·cases h with
   |tup q t=>exact⟨_,_,rfl,s _ _ q,t⟩
theorem Al.dK {n:Nat}{ks:List eR}{ds:List D}{v:V}(h:Al K ct F G n (.dK ks ds) v)(s:bT F G):∃a vs,v=.ref a/\G a=some (.dK (ks.zip vs))/\ks.length=vs.length/\Pr (Al K ct F G (n-1)) ds vs:=by
 cases n with
 |zero=>
  have h:Dt K ct F (.dK ks ds) v:=h
  cases h with
  |dK q l t=>exact⟨_,_,rfl,s _ _ q,l,t.pr⟩
 |succ n=>
  rcases h with h|h
  ·cases h with
   |dK q l t=>exact⟨_,_,rfl,s _ _ q,l,t.pr.mono λ_ _=>Al.of⟩
  ·cases h with
   |dK q l t=>exact⟨_,_,rfl,q,l,t⟩
theorem Al.dT {n:Nat}{ks:List (List eR)}{ds:List D}{v:V}(h:Al K ct F G n (.dT ks ds) v)(s:bT F G):∃a vs,v=.ref a/\G a=some (.dT (ks.zip vs))/\ks.length=vs.length/\Pr (Al K ct F G (n-1)) ds vs:=by
 cases n with
 |zero=>
  have h:Dt K ct F (.dT ks ds) v:=h
  cases h with
  |dT q l t=>exact⟨_,_,rfl,s _ _ q,l,t.pr⟩
 |succ n=>
  rcases h with h|h
  ·cases h with
   |dT q l t=>exact⟨_,_,rfl,s _ _ q,l,t.pr.mono λ_ _=>Al.of⟩
  ·cases h with
   |dT q l t=>exact⟨_,_,rfl,q,l,t⟩
theorem Al.obj {n:Nat}{c:Nat}{ns:List aQ}{ds:List D}{v:V}(h:Al K ct F G n (.obj c ns ds) v)(s:bT F G):∃a dx vs,v=.ref a/\G a=some (.ins (ct c) dx (ns.zip vs))/\ns.length=vs.length/\Pr (Al K ct F G (n-1)) ds vs:=by
 cases n with
 |zero=>
  have h:Dt K ct F (.obj c ns ds) v:=h
  cases h with
  |obj q l t=>exact⟨_,_,_,rfl,s _ _ q,l,t.pr⟩
 |succ n=>
  rcases h with h|h
  ·cases h with
   |obj q l t=>exact⟨_,_,_,rfl,s _ _ q,l,t.pr.mono λ_ _=>Al.of⟩
  ·cases h with
   |obj q l t=>exact⟨_,_,_,rfl,q,l,t⟩
theorem OwL.mono {R R':D->V->List ah->Prop}:∀{ds:List D} {vs:List V} {fp:List ah},OwL R ds vs fp->(∀d v f,(∀a∈f,a∈fp)->R d v f->R' d v f)->OwL R' ds vs fp
 |_,_,_,.nil,_=>.nil
 |_,_,_,.cons h t,q=>.cons (q _ _ _ (λa z=>bc _ z) h) (OwL.mono t λd v f i r=>q d v f (λa z=>av _ (i a z)) r)
theorem OwL.pr {R:D->V->List ah->Prop}{R':D->V->Prop}:∀{ds:List D} {vs:List V} {fp:List ah},OwL R ds vs fp->(∀d v f,(∀a∈f,a∈fp)->R d v f->R' d v)->Pr R' ds vs
 |_,_,_,.nil,_=>.nil
 |_,_,_,.cons h t,q=>.cons (q _ _ _ (λa z=>bc _ z) h) (OwL.pr t λd v f i r=>q d v f (λa z=>av _ (i a z)) r)
theorem OwL.ofPr {R:D->V->List ah->Prop}:∀{ds:List D} {vs:List V},Pr (λd v=>R d v []) ds vs->OwL R ds vs []
 |_,_,.nil=>.nil
 |_,_,.cons h t=>OwL.cons (f:=[]) (g:=[]) h (OwL.ofPr t)
theorem OwL.append {R:D->V->List ah->Prop}:∀{ds es:List D} {vs us:List V} {f g:List ah},OwL R ds vs f->OwL R es us g->OwL R (ds++es) (vs++us) (f++g)
 |_,_,_,_,_,_,.nil,s=>s
 |_,_,_,_,_,_,.cons h t,s=>by rw[d8];exact .cons h (OwL.append t s)
theorem OwL.length {R:D->V->List ah->Prop}:∀{ds:List D} {vs:List V} {fp:List ah},OwL R ds vs fp->ds.length=vs.length
 |_,_,_,.nil=>rfl
 |_,_,_,.cons _ t=>by simp[OwL.length t]
theorem Ow.frame (sF:bT F F'):∀{n:Nat} {d:D} {v:V} {fp:List ah},Ow K ct F H n d v fp->(∀a∈fp,H' a=H a/\F' a=none)->Ow K ct F' H' n d v fp
 |0,_,_,_,⟨h,e⟩,_=>⟨h.mono sF,e⟩
 |n+1,_,_,_,.inl ⟨c,h,e⟩,_=>.inl ⟨c,h.mono sF,e⟩
 |n+1,_,_,_,.inr (.lst hn h p),k=>.inr (.lst (k _ af).2 ((k _ af).1.trans h) (p.mono λ_ _ _ i q=>Ow.frame sF q λa z=>k a (aj _ (i a z))))
 |n+1,_,_,_,.inr (.tup h p),k=>.inr (.tup (sF _ _ h) (p.mono λ_ _ _ i q=>Ow.frame sF q λa z=>k a (i a z)))
 |n+1,_,_,_,.inr (.dK hn h l p),k=>.inr (.dK (k _ af).2 ((k _ af).1.trans h) l (p.mono λ_ _ _ i q=>Ow.frame sF q λa z=>k a (aj _ (i a z))))
 |n+1,_,_,_,.inr (.obj hn h l p),k=>.inr (.obj (k _ af).2 ((k _ af).1.trans h) l (p.mono λ_ _ _ i q=>Ow.frame sF q λa z=>k a (aj _ (i a z))))
 |n+1,_,_,_,.inr (.dT hn h l p),k=>.inr (.dT (k _ af).2 ((k _ af).1.trans h) l (p.mono λ_ _ _ i q=>Ow.frame sF q λa z=>k a (aj _ (i a z))))
theorem Ow.cells:∀{n:Nat} {d:D} {v:V} {fp:List ah},Ow K ct F H n d v fp->∀a∈fp,F a=none/\∃o,H a=some o
 |0,_,_,_,⟨_,e⟩,a,z=>by subst e;cases z
 |n+1,_,_,_,.inl ⟨_,_,e⟩,a,z=>by subst e;cases z
 |n+1,_,_,_,.inr (.lst hn h p),a,z=>by
  rcases aF.mp z with rfl|z
  ·exact⟨hn,_,h⟩
  ·exact OwL.cells (λd v f q=>Ow.cells q) p a z
 |n+1,_,_,_,.inr (.tup h p),a,z=>OwL.cells (λd v f q=>Ow.cells q) p a z
 |n+1,_,_,_,.inr (.dK hn h l p),a,z=>by
  rcases aF.mp z with rfl|z
  ·exact⟨hn,_,h⟩
  ·exact OwL.cells (λd v f q=>Ow.cells q) p a z
 |n+1,_,_,_,.inr (.obj hn h l p),a,z=>by
  rcases aF.mp z with rfl|z
  ·exact⟨hn,_,h⟩
  ·exact OwL.cells (λd v f q=>Ow.cells q) p a z
 |n+1,_,_,_,.inr (.dT hn h l p),a,z=>by
  rcases aF.mp z with rfl|z
  ·exact⟨hn,_,h⟩
  ·exact OwL.cells (λd v f q=>Ow.cells q) p a z
where
 OwL.cells {R:D->V->List ah->Prop} (k:∀d v f,R d v f->∀a∈f,F a=none/\∃o,H a=some o):∀{ds:List D} {vs:List V} {fp:List ah},OwL R ds vs fp->∀a∈fp,F a=none/\∃o,H a=some o
 |_,_,_,.nil,a,z=>by cases z
 |_,_,_,.cons h t,a,z=>(aY.mp z).elim (λz=>k _ _ _ h a z) λz=>OwL.cells k t a z
theorem Ow.ext {n:Nat}{d:D}{v:V}{fp:List ah}(h:Ow K ct F H n d v fp)(e:fq F H F' H'):Ow K ct F' H' n d v fp :=
 h.frame e.ff λa z=>by
  obtain⟨hn,o,ho⟩:=h.cells a z
  exact⟨(e.hh _ _ ho).trans ho.symm,e.nf a o ho hn⟩
theorem Ow.al (s:bT F H):∀{n:Nat} {d:D} {v:V} {fp:List ah},Ow K ct F H n d v fp->Al K ct F H n d v
 |0,_,_,_,⟨h,_⟩=>h
 |n+1,_,_,_,.inl ⟨_,h,_⟩=>.inl h
 |n+1,_,_,_,.inr (.lst hn h p)=>.inr (.lst h (p.pr λ_ _ _ _ q=>Ow.al s q))
 |n+1,_,_,_,.inr (.tup h p)=>.inr (.tup h (p.pr λ_ _ _ _ q=>Ow.al s q))
 |n+1,_,_,_,.inr (.dK hn h l p)=>.inr (.dK h l (p.pr λ_ _ _ _ q=>Ow.al s q))
 |n+1,_,_,_,.inr (.obj hn h l p)=>.inr (.obj h l (p.pr λ_ _ _ _ q=>Ow.al s q))
 |n+1,_,_,_,.inr (.dT hn h l p)=>.inr (.dT h l (p.pr λ_ _ _ _ q=>Ow.al s q))
theorem Ow.dt (sF:bT F F'):∀{n:Nat} {d:D} {v:V} {fp:List ah},Ow K ct F H n d v fp->(∀a∈fp,F' a=H a)->Dt K ct F' d v
 |0,_,_,_,⟨h,_⟩,_=>h.mono sF
 |n+1,_,_,_,.inl ⟨_,h,_⟩,_=>h.mono sF
 |n+1,_,_,_,.inr (.lst hn h p),k=>.lst (e5.of ((k _ af).trans h)) (.of (p.pr λ_ _ _ i q=>Ow.dt sF q λa z=>k a (aj _ (i a z))))
 |n+1,_,_,_,.inr (.tup h p),k=>.tup (sF _ _ h) (.of (p.pr λ_ _ _ i q=>Ow.dt sF q λa z=>k a (i a z)))
 |n+1,_,_,_,.inr (.dK hn h l p),k=>.dK ((k _ af).trans h) l (.of (p.pr λ_ _ _ i q=>Ow.dt sF q λa z=>k a (aj _ (i a z))))
 |n+1,_,_,_,.inr (.obj hn h l p),k=>.obj ((k _ af).trans h) l (.of (p.pr λ_ _ _ i q=>Ow.dt sF q λa z=>k a (aj _ (i a z))))
 |n+1,_,_,_,.inr (.dT hn h l p),k=>.dT ((k _ af).trans h) l (.of (p.pr λ_ _ _ i q=>Ow.dt sF q λa z=>k a (aj _ (i a z))))
def gZ (F H:Hp)(fp:List ah):Hp:=λa=>if a∈fp then H a else F a
theorem jj {fp:List ah}(s:bT F H)(hf:∀a∈fp,F a=none):bT F (gZ F H fp)/\bT (gZ F H fp) H/\∀a∈fp,gZ F H fp a=H a:=by
 refine⟨λa o h=>?_,λa o h=>?_,λa z=>if_pos z⟩
 ·have:¬a∈fp:=λz=>by rw[hf a z]at h;cases h
  unfold gZ;rw[if_neg this];exact h
 ·unfold gZ at h
  by_cases z:a∈fp
  ·rw[if_pos z]at h;exact h
  ·rw[if_neg z]at h;exact s _ _ h
theorem Ow.freeze {n:Nat}{d:D}{v:V}{fp:List ah}{F0 H0:Hp}(h:Ow K ct F H n d v fp)(e:fq F0 H0 F H)(hf:∀a∈fp,H0 a=none):∃F',fq F0 H0 F' H/\Dt K ct F' d v:=by
 obtain⟨w1,w2,w3⟩:=jj (fp:=fp) e.fh (λa z=>(h.cells a z).1)
 refine⟨gZ F H fp,⟨e.ff.trans w1,e.hh,w2,λa o ho hn=>?_⟩,h.dt w1 w3⟩
 have:¬a∈fp:=λz=>by rw[hf a z]at ho;cases ho
 unfold gZ;rw[if_neg this];exact e.nf a o ho hn
theorem Ow.zero {d:D}{v:V}(h:Dt K ct F d v):Ow K ct F H 0 d v []:=⟨h,rfl⟩
theorem Ow.scal {n:Nat}{d:D}{v:V}(h:Dt K ct F d v)(hs:d.sc=true):Ow K ct F H n d v []:=by
 cases n with
 |zero=>exact⟨h,rfl⟩
 |succ n=>exact .inl ⟨hs,h,rfl⟩
end
end L3
namespace L3
open PySem PySem.Spec L2
open PyProof.Rows hiding St
abbrev Env:=List (Option D)
inductive Mo where
 |al (n:Nat)|ow (n:Nat)|px (v:V)|so (x:ah)
def Mo.lv:Mo->Nat
 |.al n=>n
 |.ow n=>n
 |.px _=>1
 |.so _=>1
section
variable (K:aa)(ct:Nat->ah)
inductive SL (F B H:Hp):List Mo->Env->St->List ah->Prop
 |nil:SL F B H [] [] [] []
 |no {m:Mo} {o:Option V} {ms:List Mo} {ρ:Env} {σ:St} {fp:List ah}:SL F B H ms ρ σ fp->SL F B H (m::ms) (none::ρ) (o::σ) fp
 |al {n:Nat} {d:D} {v:V} {ms:List Mo} {ρ:Env} {σ:St} {fp:List ah}:Al K ct F B n d v->SL F B H ms ρ σ fp->SL F B H (.al n::ms) (some d::ρ) (some v::σ) fp
 |px {d:D} {v:V} {ms:List Mo} {ρ:Env} {σ:St} {fp:List ah}:Al K ct F B 1 d v->SL F B H ms ρ σ fp->SL F B H (.px v::ms) (some d::ρ) (some v::σ) fp
 |so {d:D} {x:ah} {ms:List Mo} {ρ:Env} {σ:St} {fp:List ah}:Ow K ct F H 1 d (.ref x) [x]->SL F B H ms ρ σ fp->SL F B H (.so x::ms) (some d::ρ) (some (.ref x)::σ) (x::fp)
 |ow {n:Nat} {d:D} {v:V} {ms:List Mo} {ρ:Env} {σ:St} {f fp:List ah}:Ow K ct F H n d v f->SL F B H ms ρ σ fp->SL F B H (.ow n::ms) (some d::ρ) (some v::σ) (f++fp)
structure RS (F0 B:Hp)(ms:List Mo)(F H:Hp)(ρ:Env)(σ:St):Prop where
 f0:bT F0 F
 bh:bT B H
 fh:bT F H
 nf:∀a o,B a=some o->F0 a=none->F a=none
 sl:∃fp,SL K ct F B H ms ρ σ fp/\fp.Nodup/\∀a∈fp,B a=none
end
section
variable {K:aa}{ct:Nat->ah}{F F' G G' H H' B B' F0:Hp}{ms:List Mo}{ρ:Env}{σ:St}
theorem SL.cells {ms:List Mo}{ρ:Env}{σ:St}{fp:List ah}(h:SL K ct F B H ms ρ σ fp):∀a∈fp,F a=none/\∃o,H a=some o:=by
 induction h with
 |nil=>intro a z;cases z
 |no t ih=>exact ih
 |al _ t ih=>exact ih
 |px _ t ih=>exact ih
 |so h t ih=>exactλa z=>(aF.mp z).elim (λz=>h.cells a (by rw[z];exact af)) (ih a)
 |ow h t ih=>exactλa z=>(aY.mp z).elim (h.cells a) (ih a)
theorem SL.frame (sF:bT F F'){ms:List Mo}{ρ:Env}{σ:St}{fp:List ah}(h:SL K ct F B H ms ρ σ fp):(∀a∈fp,H' a=H a/\F' a=none)->SL K ct F' B H' ms ρ σ fp:=by
 induction h with
 |nil=>exactλ_=>.nil
 |no t ih=>exactλk=>.no (ih k)
 |al h t ih=>exactλk=>.al (h.mono sF (.refl _)) (ih k)
 |px h t ih=>exactλk=>.px (h.mono sF (.refl _)) (ih k)
 |so h t ih=>exactλk=>.so (h.frame sF λa z=>k a (by rw[aD]at z;rw[z];exact af)) (ih λa z=>k a (aj _ z))
 |ow h t ih=>exactλk=>.ow (h.frame sF λa z=>k a (bc _ z)) (ih λa z=>k a (av _ z))
theorem RS.ext (r:RS K ct F0 B ms F H ρ σ)(e:fq F H F' H'):RS K ct F0 B ms F' H' ρ σ:=by
 obtain⟨fp,s,nd,hb⟩:=r.sl
 refine⟨r.f0.trans e.ff,r.bh.trans e.hh,e.fh,λa o h n=>e.nf a o (r.bh _ _ h) (r.nf a o h n),fp,s.frame e.ff λa z=>?_,nd,hb⟩
 obtain⟨hn,o,ho⟩:=s.cells a z
 exact⟨(e.hh _ _ ho).trans ho.symm,e.nf a o ho hn⟩
theorem SL.get {ms:List Mo}{ρ:Env}{σ:St}{fp:List ah}{i:Nat}{m:Mo}{d:D}(h:SL K ct F B H ms ρ σ fp)(s:bT F H)(s':bT B H):ms[i]?=some m->ρ[i]?=some (some d)->∃v,σ[i]?=some (some v)/\Al K ct F H m.lv d v:=by
 induction h generalizing i with
 |nil=>intro e;simp at e
 |no t ih=>
  intro e e'
  cases i with
  |zero=>simp at e'
  |succ i=>simpa using ih (by simpa using e) (by simpa using e')
 |al h t ih=>
  intro e e'
  cases i with
  |zero=>
   simp at e e';subst e;subst e'
   exact⟨_,rfl,h.mono (.refl _) s'⟩
  |succ i=>simpa using ih (by simpa using e) (by simpa using e')
 |px h t ih=>
  intro e e'
  cases i with
  |zero=>
   simp at e e';subst e;subst e'
   exact⟨_,rfl,h.mono (.refl _) s'⟩
  |succ i=>simpa using ih (by simpa using e) (by simpa using e')
 |so h t ih=>
  intro e e'
  cases i with
  |zero=>
   simp at e e';subst e;subst e'
   exact⟨_,rfl,h.al s⟩
  |succ i=>simpa using ih (by simpa using e) (by simpa using e')
 |ow h t ih=>
  intro e e'
  cases i with
  |zero=>
   simp at e e';subst e;subst e'
   exact⟨_,rfl,h.al s⟩
  |succ i=>simpa using ih (by simpa using e) (by simpa using e')
theorem RS.get (r:RS K ct F0 B ms F H ρ σ){i:Nat}{m:Mo}{d:D}(hm:ms[i]?=some m)(e:ρ[i]?=some (some d)):∃v,σ[i]?=some (some v)/\Al K ct F H m.lv d v:=by
 obtain⟨fp,s,_,_⟩:=r.sl
 exact s.get r.fh r.bh hm e
theorem SL.put {ms:List Mo}{ρ:Env}{σ:St}{fp:List ah}{i k:Nat}(h0:SL K ct F B H ms ρ σ fp):ms[i]?=some (.ow k) ->
  ∃f1 fr:List ah,(∀a∈f1,a∈fp)/\(∀a∈fr,a∈fp)/\(fp.Nodup->f1.Nodup/\fr.Nodup/\∀a∈f1,a∉fr)/\(∀d,ρ[i]?=some (some d)->∃v,σ[i]?=some (some v)/\Ow K ct F H k d v f1) /\
   ∀(F' H':Hp) (d':D) (v':V) (f':List ah),bT F F'->(∀a∈fr,H' a=H a/\F' a=none)->Ow K ct F' H' k d' v' f' ->
    ∃gM,SL K ct F' B H' ms (ρ.set i (some d')) (σ.set i (some v')) gM/\(∀a∈gM,a∈f'\/a∈fr)/\(f'.Nodup->fr.Nodup->(∀a∈f',a∉fr)->gM.Nodup):=by
 induction h0 generalizing i with
 |nil=>
  intro e
  simp at e
 |@no m0 o0 ms ρ σ fp t ih=>
  intro e
  cases i with
  |zero=>
   simp at e;subst e
   refine⟨[],fp,λa z=>(by cases z),λa z=>z,λn=>⟨bA,n,λa z=>(by cases z)⟩,λd q=>(by simp at q),λF' H' d' v' f' s kf h=>⟨f'++fp,.ow h (t.frame s kf),λa z=>aY.mp z,λn1 n2 dj=>?_⟩⟩
   exact aW.mpr ⟨n1,n2,λa z b zb e=>dj a z (e▸zb)⟩
  |succ i=>
   obtain⟨f1,fr,h1,h2,h3,h4,h5⟩:=ih (i:=i) (by simpa using e)
   refine⟨f1,fr,h1,h2,h3,λd q=>by simpa using h4 d (by simpa using q),λF' H' d' v' f' s kf h=>?_⟩
   obtain⟨gM,q1,q2,q3⟩:=h5 F' H' d' v' f' s kf h
   exact⟨gM,.no q1,q2,q3⟩
 |@al n0 d0 v0 ms ρ σ fp h t ih=>
  intro e
  cases i with
  |zero=>
   simp at e
  |succ i=>
   obtain⟨f1,fr,h1,h2,h3,h4,h5⟩:=ih (i:=i) (by simpa using e)
   refine⟨f1,fr,h1,h2,h3,λd q=>by simpa using h4 d (by simpa using q),λF' H' d' v' f' s kf h'=>?_⟩
   obtain⟨gM,q1,q2,q3⟩:=h5 F' H' d' v' f' s kf h'
   exact⟨gM,.al (h.mono s (.refl _)) q1,q2,q3⟩
 |@px d0 v0 ms ρ σ fp h t ih=>
  intro e
  cases i with
  |zero=>
   simp at e
  |succ i=>
   obtain⟨f1,fr,h1,h2,h3,h4,h5⟩:=ih (i:=i) (by simpa using e)
   refine⟨f1,fr,h1,h2,h3,λd q=>by simpa using h4 d (by simpa using q),λF' H' d' v' f' s kf h'=>?_⟩
   obtain⟨gM,q1,q2,q3⟩:=h5 F' H' d' v' f' s kf h'
   exact⟨gM,.px (h.mono s (.refl _)) q1,q2,q3⟩
 |@so d0 x ms ρ σ fp h t ih=>
  intro e
  cases i with
  |zero=>
   simp at e
  |succ i=>
   obtain⟨f1,fr,h1,h2,h3,h4,h5⟩:=ih (i:=i) (by simpa using e)
   refine⟨f1,x::fr,λa z=>aj _ (h1 a z),λa z=>(aF.mp z).elim (λz=>by rw[z];exact af) λz=>aj _ (h2 a z),λn=>?_,λd q=>by simpa using h4 d (by simpa using q),λF' H' d' v' f' s kf h'=>?_⟩
   ·obtain⟨n1,n2⟩:=bv.mp n
    obtain⟨m1,m2,m3⟩:=h3 n2
    refine⟨m1,bv.mpr ⟨λz=>n1 (h2 x z),m2⟩,λa z zb=>?_⟩
    rcases aF.mp zb with zb|zb
    ·rw[zb]at z;exact n1 (h1 x z)
    ·exact m3 a z zb
   ·obtain⟨gM,q1,q2,q3⟩:=h5 F' H' d' v' f' s (λa z=>kf a (aj _ z)) h'
    refine⟨x::gM,.so (h.frame s λa z=>kf a (by rw[aD]at z;rw[z];exact af)) q1,λa z=>?_,λn1 n2 dj=>?_⟩
    ·rcases aF.mp z with z|z
     ·exact .inr (by rw[z];exact af)
     ·exact(q2 a z).imp id λz=>aj _ z
    ·obtain⟨m1,m2⟩:=bv.mp n2
     refine bv.mpr ⟨λz=>?_,q3 n1 m2 λa z zb=>dj a z (aj _ zb)⟩
     rcases q2 x z with z|z
     ·exact dj x z af
     ·exact m1 z
 |@ow n0 d0 v0 ms ρ σ f fp h t ih=>
  intro e
  cases i with
  |zero=>
   simp at e;subst e
   refine⟨f,fp,λa z=>bc _ z,λa z=>av _ z,λn=>?_,λd q=>?_,λF' H' d' v' f' s kf h=>⟨f'++fp,.ow h (t.frame s kf),λa z=>aY.mp z,λn1 n2 dj=>?_⟩⟩
   ·obtain⟨n1,n2,n3⟩:=aW.mp n
    exact⟨n1,n2,λa z zb=>n3 a z a zb rfl⟩
   ·simp at q;subst q;exact⟨_,rfl,h⟩
   ·exact aW.mpr ⟨n1,n2,λa z b zb e=>dj a z (e▸zb)⟩
  |succ i=>
   obtain⟨f1,fr,h1,h2,h3,h4,h5⟩:=ih (i:=i) (by simpa using e)
   refine⟨f1,f++fr,λa z=>av _ (h1 a z),λa z=>(aY.mp z).elim (λz=>bc _ z) λz=>av _ (h2 a z),λn=>?_,λd q=>by simpa using h4 d (by simpa using q),λF' H' d' v' f' s kf h'=>?_⟩
   ·obtain⟨n1,n2,n3⟩:=aW.mp n
    obtain⟨m1,m2,m3⟩:=h3 n2
    refine⟨m1,aW.mpr ⟨n1,m2,λa z b zb=>n3 a z b (h2 b zb)⟩,λa z zb=>?_⟩
    rcases aY.mp zb with zb|zb
    ·exact n3 a zb a (h1 a z) rfl
    ·exact m3 a z zb
   ·obtain⟨gM,q1,q2,q3⟩:=h5 F' H' d' v' f' s (λa z=>kf a (av _ z)) h'
    refine⟨f++gM,.ow (h.frame s λa z=>kf a (bc _ z)) q1,λa z=>?_,λn1 n2 dj=>?_⟩
    ·rcases aY.mp z with z|z
     ·exact .inr (bc _ z)
     ·exact(q2 a z).imp id λz=>av _ z
    ·obtain⟨m1,m2,m3⟩:=aW.mp n2
     refine aW.mpr ⟨m1,q3 n1 m2 λa z zb=>dj a z (av _ zb),λa z b zb e=>?_⟩
     subst e
     rcases q2 a zb with zb|zb
     ·exact dj a zb (bc _ z)
     ·exact m3 a z a zb rfl
end
abbrev EF:=Env->Option D
inductive iL (K:aa)(ct:Nat->ah)(F G:Hp):List Nat->List D->List V->Prop
 |nil:iL K ct F G [] [] []
 |cons {n:Nat} {d:D} {v:V} {ns:List Nat} {ds:List D} {vs:List V}:Al K ct F G n d v->iL K ct F G ns ds vs->iL K ct F G (n::ns) (d::ds) (v::vs)
theorem iL.mono {K:aa}{ct:Nat->ah}{F F' G G':Hp}(sF:bT F F')(sG:bT G G'):∀{ns:List Nat} {ds:List D} {vs:List V},iL K ct F G ns ds vs->iL K ct F' G' ns ds vs
 |_,_,_,.nil=>.nil
 |_,_,_,.cons h t=>.cons (h.mono sF sG) (iL.mono sF sG t)
theorem iL.length {K:aa}{ct:Nat->ah}{F G:Hp}:∀{ns:List Nat} {ds:List D} {vs:List V},iL K ct F G ns ds vs->vs.length=ns.length
 |_,_,_,.nil=>rfl
 |_,_,_,.cons _ t=>by simp[iL.length t]
theorem iL.length' {K:aa}{ct:Nat->ah}{F G:Hp}:∀{ns:List Nat} {ds:List D} {vs:List V},iL K ct F G ns ds vs->ds.length=vs.length
 |_,_,_,.nil=>rfl
 |_,_,_,.cons _ t=>by simp[iL.length' t]
theorem iL.append {K:aa}{ct:Nat->ah}{F G:Hp}{ID:List Nat}{kj:List D}{IQ:List V}(q:iL K ct F G ID kj IQ):∀{ns:List Nat} {ds:List D} {vs:List V},iL K ct F G ns ds vs->iL K ct F G (ns++ID) (ds++kj) (vs++IQ)
 |_,_,_,.nil=>q
 |_,_,_,.cons h t=>.cons h (iL.append q t)
section
variable (X:Cx)(ct:Nat->ah)(ms:List Mo)
def XE (n:Nat)(e:Expr)(f:EF):Prop:=∃t,PE X e t/\∀(F0 B F H:Hp) (ρ:Env) (σ:St) (d:D) (Q:VK),RS X.K ct F0 B ms F H ρ σ->f ρ=some d ->
 (∀v F' H',fq F H F' H'->Al X.K ct F' H' n d v->Q v H')->t σ H Q
def XO (k:Nat)(e:Expr)(f:EF):Prop:=∃t,PE X e t/\∀(F0 B F H:Hp) (ρ:Env) (σ:St) (d:D) (Q:VK),RS X.K ct F0 B ms F H ρ σ->f ρ=some d ->
 (∀v F' H' fp,fq F H F' H'->Ow X.K ct F' H' k d v fp->fp.Nodup->(∀a∈fp,H a=none)->Q v H')->t σ H Q
def XT (e:Expr)(f:Env->Option Bool):Prop:=∃t,PT X e t/\∀(F0 B F H:Hp) (ρ:Env) (σ:St) (b:Bool) (Q:Bool->Hp->Prop),RS X.K ct F0 B ms F H ρ σ->f ρ=some b ->
 (∀F' H',fq F H F' H'->Q b H')->t σ H Q
def XW (e:Expr)(f:Env->Option Bool):Prop:=∃t,PW X e t/\∀(F0 B F H:Hp) (ρ:Env) (σ:St) (b:Bool) (Q:Bool->Hp->Prop),RS X.K ct F0 B ms F H ρ σ->f ρ=some b ->
 (∀F' H',fq F H F' H'->Q b H')->t σ H Q
def XA (es:List Expr)(ns:List Nat)(f:Env->Option (List D)):Prop:=∃t,PA X es t/\(∀ρ ds,f ρ=some ds->ds.length=es.length)/\∀(F0 B F H:Hp) (ρ:Env) (σ:St) (ds:List D) (Q:List V->Hp->Prop),RS X.K ct F0 B ms F H ρ σ->f ρ=some ds ->
 (∀vs F' H',fq F H F' H'->iL X.K ct F' H' ns ds vs->Q vs H')->t σ H Q
end
def e2 (op:D->D->Option D)(f g:EF):EF:=λρ=>(f ρ).bind λx=>(g ρ).bind λy=>op x y
def e1 (op:D->Option D)(f:EF):EF:=λρ=>(f ρ).bind op
def eN (op:List D->Option D)(f:Env->Option (List D)):EF:=λρ=>(f ρ).bind op
def eC (d:D):EF:=λ_=>some d
def eV (i:Nat):EF:=λρ=>(ρ[i]?).join
def aNil:Env->Option (List D):=λ_=>some []
def aCons (f:EF)(g:Env->Option (List D)):Env->Option (List D):=λρ=>(f ρ).bind λx=>(g ρ).bind λxs=>some (x::xs)
theorem cQ {α β γ:Type}{o:Option α}{p:Option β}{op:α->β->Option γ}{r:γ}(h:(o.bind λx=>p.bind λy=>op x y)=some r):∃x y,o=some x/\p=some y/\op x y=some r:=by
 cases o with
 |none=>cases h
 |some x=>
  cases p with
  |none=>cases h
  |some y=>exact⟨x,y,rfl,rfl,h⟩
theorem aJ {α β:Type}{o:Option α}{op:α->Option β}{r:β}(h:o.bind op=some r):∃x,o=some x/\op x=some r:=by
 cases o with
 |none=>cases h
 |some x=>exact⟨x,rfl,h⟩
theorem zu {α:Type}{o:Option (Option α)}{x:α}(h:o.join=some x):o=some (some x):=by
 cases o with
 |none=>cases h
 |some y=>exact congrArg some h
def kI (K:aa)(ct:Nat->ah)(n m k:Nat)(r:R2)(op:D->D->Option D):Prop :=
 ∀(F H:Hp) (x y:V) (d1 d2 d:D) (Q:VK),bT F H->Al K ct F H n d1 x->Al K ct F H m d2 y->op d1 d2=some d->(∀v F' H',fq F H F' H'->Al K ct F' H' k d v->Q v H')->r x y H Q
def B0 (K:aa)(ct:Nat->ah)(n m k:Nat)(r:R2)(op:D->D->Option D):Prop :=
 ∀(F H:Hp) (x y:V) (d1 d2 d:D) (Q:VK),bT F H->Al K ct F H n d1 x->Al K ct F H m d2 y->op d1 d2=some d ->
  (∀v F' H' fp,fq F H F' H'->Ow K ct F' H' k d v fp->fp.Nodup->(∀a∈fp,H a=none)->Q v H')->r x y H Q
def uI (K:aa)(ct:Nat->ah)(ns:List Nat)(k:Nat)(r:List V->Hp->VK->Prop)(op:List D->Option D):Prop :=
 ∀(F H:Hp) (vs:List V) (ds:List D) (d:D) (Q:VK),bT F H->iL K ct F H ns ds vs->op ds=some d->(∀v F' H',fq F H F' H'->Al K ct F' H' k d v->Q v H')->r vs H Q
def xF (K:aa)(ct:Nat->ah)(ns:List Nat)(k:Nat)(r:List V->Hp->VK->Prop)(op:List D->Option D):Prop :=
 ∀(F H:Hp) (vs:List V) (ds:List D) (d:D) (Q:VK),bT F H->iL K ct F H ns ds vs->op ds=some d ->
  (∀v F' H' fp,fq F H F' H'->Ow K ct F' H' k d v fp->fp.Nodup->(∀a∈fp,H a=none)->Q v H')->r vs H Q
section
variable {X:Cx}{ct:Nat->ah}{ms:List Mo}{n m k:Nat}{a b c e:Expr}{f g h:EF}{pos:cY}
theorem XE.up (he:XE X ct ms n e f)(hk:n<=k):XE X ct ms k e f:=by
 obtain⟨t,p,q⟩:=he
 exact⟨t,p,λF0 B F H ρ σ d Q r e w=>q F0 B F H ρ σ d Q r e λv F' H' x l=>w v F' H' x (l.up hk)⟩
theorem XO.sh (he:XO X ct ms k e f):XE X ct ms n e f:=by
 obtain⟨t,p,q⟩:=he
 refine⟨t,p,λF0 B F H ρ σ d Q r e w=>q F0 B F H ρ σ d Q r e λv F' H' fp x o nd hf=>?_⟩
 obtain⟨F2,x2,h2⟩:=o.freeze x hf
 exact w v F2 H' x2 (Al.of h2)
theorem XE.ow (he:XE X ct ms 0 e f):XO X ct ms 0 e f:=by
 obtain⟨t,p,q⟩:=he
 exact⟨t,p,λF0 B F H ρ σ d Q r e w=>q F0 B F H ρ σ d Q r e λv F' H' x l=>w v F' H' [] x ⟨l,rfl⟩ bA λa z=>(by cases z)⟩
theorem za (i n:Nat){x:aQ}{m:Mo}(hm:ms[i]?=some m:=by rfl)(hl:m.lv=n:=by rfl)(hN:X.N[i]?=some x:=by rfl)(hv:lQ X.env.scope x:=by first|exact Or.inl rfl|exact Or.inr (Or.inl rfl)|exact Or.inr (Or.inr rfl))(hd:(x==("__debug__":aQ))=false:=by decide)
  (gA:(x==("__classdict__":aQ))=false:=by decide):XE X ct ms n (.Name x pos) (eV i):=by
 subst hl
 refine⟨_,um hN hv hd gA,λF0 B F H ρ σ d Q r e w=>?_⟩
 obtain⟨v,hv,l⟩:=r.get hm (zu e)
 exact⟨v,hv,w v F H (.refl r.fh) l⟩
theorem zth {i:Int}{j}:XE X ct ms n (.Constant (.int i) j pos) (eC (.int i)):=⟨_,zsk,λF0 B F H ρ σ d Q r e w=>by cases e;exact w _ F H (.refl r.fh) (Al.of (.int i))⟩
theorem nP {i:Bool}{j}:XE X ct ms n (.Constant (.bool i) j pos) (eC (.bl i)):=⟨_,zup,λF0 B F H ρ σ d Q r e w=>by cases e;exact w _ F H (.refl r.fh) (Al.of (.bl i))⟩
theorem uA {i:aQ}{j}:XE X ct ms n (.Constant (.str i) j pos) (eC (.str i)):=⟨_,zsm,λF0 B F H ρ σ d Q r e w=>by cases e;exact w _ F H (.refl r.fh) (Al.of (.str i))⟩
theorem zti {j}:XE X ct ms n (.Constant .none j pos) (eC .non):=⟨_,zsl,λF0 B F H ρ σ d Q r e w=>by cases e;exact w _ F H (.refl r.fh) (Al.of .non)⟩
theorem XE.bin (ha:XE X ct ms n a f)(hb:XE X ct ms m b g):∃ta tb,PE X a ta/\PE X b tb/\∀(F0 B F H:Hp) (ρ:Env) (σ:St) (d1 d2:D) (R:V->V->Hp->Prop),RS X.K ct F0 B ms F H ρ σ->f ρ=some d1->g ρ=some d2 ->
  (∀x y F' H',fq F H F' H'->Al X.K ct F' H' n d1 x->Al X.K ct F' H' m d2 y->R x y H')->ta σ H λx H1=>tb σ H1 λy H2=>R x y H2:=by
 obtain⟨ta,pa,qa⟩:=ha
 obtain⟨tb,pb,qb⟩:=hb
 refine⟨ta,tb,pa,pb,λF0 B F H ρ σ d1 d2 R r e1 e2 w=>qa F0 B F H ρ σ d1 _ r e1 λx F1 H1 x1 l1=>?_⟩
 exact qb F0 B F1 H1 ρ σ d2 _ (r.ext x1) e2 λy F2 H2 x2 l2=>w x y F2 H2 (x1.trans x2) (l1.mono x2.ff x2.hh) l2
theorem zy {op:i8}{r:R2}{o:D->D->Option D}(ho:fP X (d7 op) r)(hs:kI X.K ct n m k r o)(ha:XE X ct ms n a f)(hb:XE X ct ms m b g):XE X ct ms k (.BinOp a op b pos) (e2 o f g):=by
 obtain⟨ta,tb,pa,pb,q⟩:=ha.bin hb
 refine⟨_,N8 ho pa pb,λF0 B F H ρ σ d Q rs e w=>?_⟩
 obtain⟨d1,d2,h1,h2,h3⟩:=cQ e
 exact q F0 B F H ρ σ d1 d2 _ rs h1 h2 λx y F' H' x1 l1 l2=>hs F' H' x y d1 d2 d Q x1.fh l1 l2 h3 λv F2 H2 x2 l=>w v F2 H2 (x1.trans x2) l
theorem zuz {op:i8}{r:R2}{o:D->D->Option D}(ho:fP X (d7 op) r)(hs:B0 X.K ct n m k r o)(ha:XE X ct ms n a f)(hb:XE X ct ms m b g):XO X ct ms k (.BinOp a op b pos) (e2 o f g):=by
 obtain⟨ta,tb,pa,pb,q⟩:=ha.bin hb
 refine⟨_,N8 ho pa pb,λF0 B F H ρ σ d Q rs e w=>?_⟩
 obtain⟨d1,d2,h1,h2,h3⟩:=cQ e
 exact q F0 B F H ρ σ d1 d2 _ rs h1 h2 λx y F' H' x1 l1 l2=>hs F' H' x y d1 d2 d Q x1.fh l1 l2 h3 λv F2 H2 fp x2 l nd hf=>w v F2 H2 fp (x1.trans x2) l nd λz hz=>x1.hh.free (hf z hz)
theorem v6 {op:jK}{r:R2}{o:D->D->Option D}(ho:fP X (ck op) r)(hs:kI X.K ct n m k r o)(ha:XE X ct ms n a f)(hb:XE X ct ms m b g)(hm:dL op b=false):XE X ct ms k (.Compare a [op] [b] pos) (e2 o f g):=by
 obtain⟨ta,tb,pa,pb,q⟩:=ha.bin hb
 refine⟨_,zp3 ho pa pb hm,λF0 B F H ρ σ d Q rs e w=>?_⟩
 obtain⟨d1,d2,h1,h2,h3⟩:=cQ e
 exact q F0 B F H ρ σ d1 d2 _ rs h1 h2 λx y F' H' x1 l1 l2=>hs F' H' x y d1 d2 d Q x1.fh l1 l2 h3 λv F2 H2 x2 l=>w v F2 H2 (x1.trans x2) l
theorem uk {r:R2}{o:D->D->Option D}(hr:tX X r)(hs:kI X.K ct n m k r o)(ha:XE X ct ms n a f)(hb:XE X ct ms m b g)(hp:gU b):XE X ct ms k (.Subscript a b pos) (e2 o f g):=by
 obtain⟨ta,tb,pa,pb,q⟩:=ha.bin hb
 refine⟨_,BQ hr pa pb hp,λF0 B F H ρ σ d Q rs e w=>?_⟩
 obtain⟨d1,d2,h1,h2,h3⟩:=cQ e
 exact q F0 B F H ρ σ d1 d2 _ rs h1 h2 λx y F' H' x1 l1 l2=>hs F' H' x y d1 d2 d Q x1.fh l1 l2 h3 λv F2 H2 x2 l=>w v F2 H2 (x1.trans x2) l
theorem zu0 {op:UnaryOp}{r:V->Hp->VK->Prop}{o:D->Option D}(ho:HP X (unaryOp op) r)
  (hs:∀(F H:Hp) (x:V) (d1 d:D) (Q:VK),bT F H->Al X.K ct F H n d1 x->o d1=some d->(∀v F' H',fq F H F' H'->Al X.K ct F' H' k d v->Q v H')->r x H Q) (ha:XE X ct ms n a f):XE X ct ms k (.UnaryOp op a pos) (e1 o f):=by
 obtain⟨ta,pa,qa⟩:=ha
 refine⟨_,zut ho pa,λF0 B F H ρ σ d Q rs e w=>?_⟩
 obtain⟨d1,h1,h2⟩:=aJ e
 exact qa F0 B F H ρ σ d1 _ rs h1 λx F' H' x1 l1=>hs F' H' x d1 d Q x1.fh l1 h2 λv F2 H2 x2 l=>w v F2 H2 (x1.trans x2) l
theorem zh:XA X ct ms [] [] aNil:=⟨_,q0,λρ ds e=>(by cases e;rfl),λF0 B F H ρ σ ds Q r e w=>by cases e;exact w [] F H (.refl r.fh) .nil⟩
theorem ze {es:List Expr}{ns:List Nat}{fs:Env->Option (List D)}(ha:XE X ct ms n a f)(hr:XA X ct ms es ns fs)(hs:aq (a::es) X.env=(false,bJ a X.env)::aq es X.env:=by rfl):XA X ct ms (a::es) (n::ns) (aCons f fs):=by
 obtain⟨ta,pa,qa⟩:=ha
 obtain⟨tb,pb,lb,qb⟩:=hr
 refine⟨_,vi pa pb hs,λρ ds e=>(by obtain⟨x,xs,h1,h2,h3⟩:=cQ e;cases h3;rw[aI,aI,lb _ _ h2]),λF0 B F H ρ σ ds Q r e w=>?_⟩
 obtain⟨x,xs,h1,h2,h3⟩:=cQ e
 cases h3
 refine qa F0 B F H ρ σ x _ r h1 λv F1 H1 x1 l1=>?_
 exact qb F0 B F1 H1 ρ σ xs _ (r.ext x1) h2 λvs F2 H2 x2 l2=>w (v::vs) F2 H2 (x1.trans x2) (.cons (l1.mono x2.ff x2.hh) l2)
def Bd (X:Cx)(ct:Nat->ah)(ms:List Mo)(k:Nat)(es:List Expr)(f:Env->Option (List D)):Prop:=∃t,PA X es t/\(∀ρ ds,f ρ=some ds->ds.length=es.length)/\∀(F0 B F H:Hp) (ρ:Env) (σ:St) (ds:List D) (Q:List V->Hp->Prop),RS X.K ct F0 B ms F H ρ σ->f ρ=some ds ->
 (∀vs F' H' fp,fq F H F' H'->OwL (Ow X.K ct F' H' k) ds vs fp->fp.Nodup->(∀a∈fp,H a=none)->Q vs H')->t σ H Q
theorem wt:Bd X ct ms k [] aNil:=⟨_,q0,λρ ds e=>(by cases e;rfl),λF0 B F H ρ σ ds Q r e w=>by cases e;exact w [] F H [] (.refl r.fh) .nil bA λa z=>(by cases z)⟩
theorem yr {es:List Expr}{fs:Env->Option (List D)}(ha:XO X ct ms k a f)(hr:Bd X ct ms k es fs)(hs:aq (a::es) X.env=(false,bJ a X.env)::aq es X.env:=by rfl):Bd X ct ms k (a::es) (aCons f fs):=by
 obtain⟨ta,pa,qa⟩:=ha
 obtain⟨tb,pb,lb,qb⟩:=hr
 refine⟨_,vi pa pb hs,λρ ds e=>(by obtain⟨x,xs,h1,h2,h3⟩:=cQ e;cases h3;rw[aI,aI,lb _ _ h2]),λF0 B F H ρ σ ds Q r e w=>?_⟩
 obtain⟨x,xs,h1,h2,h3⟩:=cQ e
 cases h3
 refine qa F0 B F H ρ σ x _ r h1 λv F1 H1 f1 x1 l1 n1 a1=>?_
 refine qb F0 B F1 H1 ρ σ xs _ (r.ext x1) h2 λvs F2 H2 f2 x2 l2 n2 a2=>w (v::vs) F2 H2 (f1++f2) (x1.trans x2) (.cons (l1.ext x2) l2) (aW.mpr ⟨n1,n2,λz hz y hy e=>?_⟩) λz hz=>?_
 ·subst e
  obtain⟨_,o,ho⟩:=l1.cells z hz
  rw[a2 z hy]at ho
  cases ho
 ·rcases aY.mp hz with hz|hz
  ·exact a1 z hz
  ·exact x1.hh.free (a2 z hz)
end
end L3
namespace L3
open PySem PySem.Spec L2
open PyProof.Rows hiding St
def HU:D->Option Bool
 |.bl b=>some b
 |_=>none
theorem qp {d:D}{b:Bool}(h:HU d=some b):d=.bl b:=by cases d<;>simp[HU]at h;subst h;rfl
abbrev BF:=Env->Option Bool
def tb (f:EF):BF:=λρ=>(f ρ).bind HU
def bNot (f:BF):BF:=λρ=>(f ρ).bind λb=>some (!b)
def bAnd (f g:BF):BF:=λρ=>(f ρ).bind λb=>if b=true then g ρ else some false
def bOr (f g:BF):BF:=λρ=>(f ρ).bind λb=>if b=true then some true else g ρ
def eB (f:BF):EF:=λρ=>(f ρ).bind λb=>some (.bl b)
def eIf (c:BF)(f g:EF):EF:=λρ=>(c ρ).bind λb=>if b=true then f ρ else g ρ
section
variable {X:Cx}{ct:Nat->ah}{ms:List Mo}{n m k:Nat}{a b c e:Expr}{f g h:EF}{p q:BF}{pos:cY}
theorem wz (he:XE X ct ms n e f)(hi:∀whole,sg e X.env whole=(do let v ← whole;hU e.pos;eG [v] (truthy v)):=by intro _;rfl):XT X ct ms e (tb f):=by
 obtain⟨t,pt,qt⟩:=he
 refine⟨_,zsn pt hi,λF0 B F H ρ σ b Q r e w=>?_⟩
 obtain⟨d,h1,h2⟩:=aJ e
 rw[qp h2]at h1
 exact qt F0 B F H ρ σ _ _ r h1 λv F' H' x l=>⟨b,l.bl,w F' H' x⟩
theorem yn {op:jK}{r:R2}{o:D->D->Option D}(ho:fP X (ck op) r)(hs:kI X.K ct n m k r o)(ha:XE X ct ms n a f)(hb:XE X ct ms m b g)(hm:dL op b=false):XT X ct ms (.Compare a [op] [b] pos) (tb (e2 o f g)):=by
 obtain⟨ta,tb,pa,pb,q⟩:=ha.bin hb
 refine⟨_,zp4 ho pa pb hm,λF0 B F H ρ σ b Q rs e w=>?_⟩
 obtain⟨d,h0,h4⟩:=aJ e
 rw[qp h4]at h0
 obtain⟨d1,d2,h1,h2,h3⟩:=cQ h0
 exact q F0 B F H ρ σ d1 d2 _ rs h1 h2 λx y F' H' x1 l1 l2=>hs F' H' x y d1 d2 _ _ x1.fh l1 l2 h3 λv F2 H2 x2 l=>⟨b,l.bl,w F2 H2 (x1.trans x2)⟩
theorem XW.t (h:XW X ct ms e p):XT X ct ms e p:=by
 obtain⟨t,pt,qt⟩:=h
 exact⟨t,pt.pt,qt⟩
theorem BE (ha:XT X ct ms a p):XW X ct ms (.BoolOp .And [a] pos) p:=by
 obtain⟨t,pt,qt⟩:=ha
 exact⟨t,zpw pt,qt⟩
theorem qr (ha:XT X ct ms a p):XW X ct ms (.BoolOp .Or [a] pos) p:=by
 obtain⟨t,pt,qt⟩:=ha
 exact⟨t,zso pt,qt⟩
theorem BL {rest:List Expr}(ha:XT X ct ms a p)(hb:XW X ct ms (.BoolOp .And (b::rest) pos) q):XW X ct ms (.BoolOp .And (a::b::rest) pos) (bAnd p q):=by
 obtain⟨t,pt,qt⟩:=ha
 obtain⟨u,pu,qu⟩:=hb
 refine⟨_,zsp pt pu,λF0 B F H ρ σ r Q rs e w=>?_⟩
 obtain⟨x,h1,h2⟩:=aJ e
 refine qt F0 B F H ρ σ x _ rs h1 λF1 H1 x1=>?_
 cases x with
 |true=>rw[if_pos rfl];exact qu F0 B F1 H1 ρ σ r _ (rs.ext x1) h2 λF2 H2 x2=>w F2 H2 (x1.trans x2)
 |false=>cases h2;rw[if_neg aK];exact w F1 H1 x1
theorem qw {rest:List Expr}(ha:XT X ct ms a p)(hb:XW X ct ms (.BoolOp .Or (b::rest) pos) q):XW X ct ms (.BoolOp .Or (a::b::rest) pos) (bOr p q):=by
 obtain⟨t,pt,qt⟩:=ha
 obtain⟨u,pu,qu⟩:=hb
 refine⟨_,zuq pt pu,λF0 B F H ρ σ r Q rs e w=>?_⟩
 obtain⟨x,h1,h2⟩:=aJ e
 refine qt F0 B F H ρ σ x _ rs h1 λF1 H1 x1=>?_
 cases x with
 |true=>cases h2;rw[if_pos rfl];exact w F1 H1 x1
 |false=>rw[if_neg aK];exact qu F0 B F1 H1 ρ σ r _ (rs.ext x1) h2 λF2 H2 x2=>w F2 H2 (x1.trans x2)
theorem uj (ha:XT X ct ms a p):XT X ct ms (.UnaryOp .Not a pos) (bNot p):=by
 obtain⟨t,pt,qt⟩:=ha
 refine⟨_,zsq pt,λF0 B F H ρ σ r Q rs e w=>?_⟩
 obtain⟨x,h1,h2⟩:=aJ e
 cases h2
 exact qt F0 B F H ρ σ x _ rs h1 λF1 H1 x1=>w F1 H1 x1
theorem Sm (ha:XE X ct ms n a f):XE X ct ms k (.UnaryOp .Not a pos) (eB (bNot (tb f))):=by
 obtain⟨t,pt,qt⟩:=ha
 refine⟨_,zst pt,λF0 B F H ρ σ r Q rs e w=>?_⟩
 obtain⟨x,h1,h2⟩:=aJ e
 obtain⟨y,h3,h4⟩:=aJ h1
 obtain⟨z,h5,h6⟩:=aJ h3
 cases h2;cases h4
 rw[qp h6]at h5
 exact qt F0 B F H ρ σ _ _ rs h5 λv F1 H1 x1 l=>⟨y,l.bl,w _ F1 H1 x1 (Al.of (.bl _))⟩
theorem j6 {op}(ha:XE X ct ms n a f):XE X ct ms k (.BoolOp op [a] pos) (eB (tb f)):=by
 obtain⟨t,pt,qt⟩:=ha
 refine⟨_,zsr pt,λF0 B F H ρ σ r Q rs e w=>?_⟩
 obtain⟨y,h3,h4⟩:=aJ e
 obtain⟨z,h5,h6⟩:=aJ h3
 cases h4
 rw[qp h6]at h5
 exact qt F0 B F H ρ σ _ _ rs h5 λv F1 H1 x1 l=>w _ F1 H1 x1 (by rw[l.bl];exact Al.of (.bl _))
theorem j7 {rest:List Expr}(ha:XE X ct ms n a f)(hb:XE X ct ms k (.BoolOp .And (b::rest) pos) (eB q)):XE X ct ms k (.BoolOp .And (a::b::rest) pos) (eB (bAnd (tb f) q)):=by
 obtain⟨t,pt,qt⟩:=ha
 obtain⟨u,pu,qu⟩:=hb
 refine⟨_,zss pt pu,λF0 B F H ρ σ r Q rs e w=>?_⟩
 obtain⟨y,h3,h4⟩:=aJ e
 obtain⟨x,h1,h2⟩:=aJ h3
 obtain⟨z,h5,h6⟩:=aJ h1
 cases h4
 rw[qp h6]at h5
 refine qt F0 B F H ρ σ _ _ rs h5 λv F1 H1 x1 l=>⟨x,l.bl,?_⟩
 cases x with
 |true=>rw[if_pos rfl];exact qu F0 B F1 H1 ρ σ _ _ (rs.ext x1) (show(q ρ).bind _=_ by rw[if_pos rfl]at h2;rw[h2];rfl) λv F2 H2 x2 l=>w v F2 H2 (x1.trans x2) l
 |false=>rw[if_neg aK]at h2 ⊢;cases h2;exact w _ F1 H1 x1 (Al.of (.bl _))
theorem zu1 {rest:List Expr}(ha:XE X ct ms n a f)(hb:XE X ct ms k (.BoolOp .Or (b::rest) pos) (eB q)):XE X ct ms k (.BoolOp .Or (a::b::rest) pos) (eB (bOr (tb f) q)):=by
 obtain⟨t,pt,qt⟩:=ha
 obtain⟨u,pu,qu⟩:=hb
 refine⟨_,zur pt pu,λF0 B F H ρ σ r Q rs e w=>?_⟩
 obtain⟨y,h3,h4⟩:=aJ e
 obtain⟨x,h1,h2⟩:=aJ h3
 obtain⟨z,h5,h6⟩:=aJ h1
 cases h4
 rw[qp h6]at h5
 refine qt F0 B F H ρ σ _ _ rs h5 λv F1 H1 x1 l=>⟨x,l.bl,?_⟩
 cases x with
 |true=>rw[if_pos rfl]at h2 ⊢;cases h2;exact w _ F1 H1 x1 (Al.of (.bl _))
 |false=>rw[if_neg aK];exact qu F0 B F1 H1 ρ σ _ _ (rs.ext x1) (show(q ρ).bind _=_ by rw[if_neg aK]at h2;rw[h2];rfl) λv F2 H2 x2 l=>w v F2 H2 (x1.trans x2) l
theorem SG (hc:XT X ct ms c p)(ha:XE X ct ms k a f)(hb:XE X ct ms k b g):XE X ct ms k (.IfExp c a b pos) (eIf p f g):=by
 obtain⟨s,ps,qs⟩:=hc
 obtain⟨t,pt,qt⟩:=ha
 obtain⟨u,pu,qu⟩:=hb
 refine⟨_,Ri ps pt pu,λF0 B F H ρ σ r Q rs e w=>?_⟩
 obtain⟨x,h1,h2⟩:=aJ e
 refine qs F0 B F H ρ σ x _ rs h1 λF1 H1 x1=>?_
 cases x with
 |true=>rw[if_pos rfl]at h2 ⊢;exact qt F0 B F1 H1 ρ σ _ _ (rs.ext x1) h2 λv F2 H2 x2 l=>w v F2 H2 (x1.trans x2) l
 |false=>rw[if_neg aK]at h2 ⊢;exact qu F0 B F1 H1 ρ σ _ _ (rs.ext x1) h2 λv F2 H2 x2 l=>w v F2 H2 (x1.trans x2) l
theorem tP {es:List Expr}{fs:Env->Option (List D)}{x1}(h:Bd X ct ms k es fs)(hl:es.length<=1000:=by decide):XO X ct ms (k+1) (.Tuple es x1 pos) (λρ=>(fs ρ).bind λds=>some (.tup ds)):=by
 obtain⟨t,pt,lt,qt⟩:=h
 refine⟨_,Sf pt,λF0 B F H ρ σ r Q rs e w=>?_⟩
 obtain⟨ds,h1,h2⟩:=aJ e
 cases h2
 refine qt F0 B F H ρ σ ds _ rs h1 λvs F1 H1 fp x1 l nd hf=>⟨?_,λp hp=>?_⟩
 ·rw[←l.length,lt _ _ h1];exact small hl
 ·have x2:=fq.newS x1.fh hp (.tup vs)
  exact w _ _ _ fp (x1.trans x2) (.inr (.tup yt (l.mono λ_ _ _ _ o=>o.ext x2))) nd hf
theorem OwL.cellsOf {K:aa}{F H:Hp}{ds:List D}{vs:List V}{fp:List ah}(l:OwL (Ow K ct F H k) ds vs fp):∀a∈fp,F a=none/\∃o,H a=some o:=Ow.cells.OwL.cells (λd v f q=>Ow.cells q) l
theorem RK {K:aa}{F H:Hp}{ds:List D}{vs:List V}{fp:List ah}{p:ah}(s:bT F H)(l:OwL (Ow K ct F H k) ds vs fp)(hp:H p=none):Ow K ct F (upd H p (.lst vs)) (k+1) (.lst ds) (.ref p) (p::fp)/\(fp.Nodup->(p::fp).Nodup) :=
 ⟨.inr (.lst (s.free hp) yt (l.mono λ_ _ _ _ o=>o.ext (fq.newO s hp _))),λnd=>bv.mpr ⟨λz=>(by
  obtain⟨_,o,ho⟩:=OwL.cellsOf l p z
  rw[hp]at ho
  cases ho),nd⟩⟩
theorem uB {es:List Expr}{fs:Env->Option (List D)}(h:Bd X ct ms k es fs)(hl:es.length<=1000:=by decide):XO X ct ms (k+1) (.List es pos) (λρ=>(fs ρ).bind λds=>some (.lst ds)):=by
 obtain⟨t,pt,lt,qt⟩:=h
 refine⟨_,zs6 pt,λF0 B F H ρ σ r Q rs e w=>?_⟩
 obtain⟨ds,h1,h2⟩:=aJ e
 cases h2
 refine qt F0 B F H ρ σ ds _ rs h1 λvs F1 H1 fp x1 l nd hf=>⟨?_,λp hp=>?_⟩
 ·rw[←l.length,lt _ _ h1];exact small hl
 ·obtain⟨o,n2⟩:=RK x1.fh l hp
  refine w _ _ _ (p::fp) (x1.trans (fq.newO x1.fh hp _)) o (n2 nd) λz hz=>?_
  rcases aF.mp hz with rfl|hz
  ·exact x1.hh.free hp
  ·exact hf z hz
theorem Na:XO X ct ms (k+1) (.Dict [] [] pos) (eC (.dK [] [])):=by
 refine⟨_,zng,λF0 B F H ρ σ r Q rs e w p hp=>?_⟩
 cases e
 refine w _ F _ [p] (fq.newO rs.fh hp _) (.inr (uJ.dK (vs:=[]) (rs.fh.free hp) yt rfl .nil)) (by simp) λz hz=>?_
 rw[aD]at hz;subst hz;exact hp
def fR (K:aa)(ct:Nat->ah)(pm:List Nat)(rk:Nat)(m:List D->Option D):Sp:=λvs H Q _=>∃(F:Hp) (ds:List D) (d:D),bT F H/\iL K ct F H pm ds vs/\m ds=some d /\
 ∀v F' H' fp,fq F H F' H'->Ow K ct F' H' rk d v fp->fp.Nodup->(∀a∈fp,H a=none)->Q v H'
theorem fR.len {K:aa}{ct:Nat->ah}{pm:List Nat}{rk:Nat}{m:List D->Option D}{ps:List aQ}(h:pm.length=ps.length):∀vs H Q E,fR K ct pm rk m vs H Q E->vs.length=ps.length:=by
 rintro vs H Q E ⟨F,ds,d,_,l,_⟩
 rw[l.length,h]
variable {kk:Nat}{fa:ah}{fd:aH}{ps:List aQ}{pm:List Nat}{rk:Nat}{mf:List D->Option D}{x:aQ}{pp:cY}
theorem zqo {es:List Expr}{ns nd:List Nat}{fs:Env->Option (List D)}{iM:List V}{nY:List D}{nF:List ae}(Fn:cx X.prog X.w X.K X.mg X.base ez kk fa fd ps (fR X.K ct (ns++nd) rk mf))(hr:eo kk X.A)(hg:Gl X x)(hm:X.mg x=some (.ref fa))(hk:ao X.K (.ref fa)=true)
  (hb:bH X.K fd ps nF) (hd:bX iM nF) (zQ:∀F G,iL X.K ct F G nd nY iM) (ha:XA X ct ms (e::es) ns fs)
  (lM:(x==("__debug__":aQ))=false:=by decide) (he:aq (e::es) X.env=(false,bJ e X.env)::aq es X.env:=by rfl) (iT:(cB pos (aq es X.env)).any (·.1)=false:=by rfl) :
  XO X ct ms rk (.Call (.Name x pp) (e::es) [] pos) (λρ=>(fs ρ).bind λds=>mf (ds++nY)):=by
 obtain⟨t,pt,_,qt⟩:=ha
 refine⟨_,RF Fn hr hg hm hk hb hd nK pt lM he iT,λF0 B F H ρ σ r Q rs e w=>?_⟩
 obtain⟨ds,h1,h2⟩:=aJ e
 refine qt F0 B F H ρ σ ds _ rs h1 λvs F1 H1 x1 l=>⟨F1,ds++nY,r,x1.fh,iL.append (zQ F1 H1) l,h2,λv F2 H2 fp x2 o nd hf=>?_⟩
 exact w v F2 H2 fp (x1.trans x2) o nd λz hz=>x1.hh.free (hf z hz)
theorem vh {es:List Expr}{ns:List Nat}{fs:Env->Option (List D)}{id:String}{r:List V->Hp->VK->Prop}{op:List D->Option D}(hc:et X (.builtin id) r)(hs:uI X.K ct ns k r op)(hg:Gl X x)(hm:X.mg x=none)(hv:bK x=some (.builtin id))(ha:XA X ct ms (e::es) ns fs)
  (hn:x≠"__name__":=by decide) (lM:(x==("__debug__":aQ))=false:=by decide) (he:aq (e::es) X.env=(false,bJ e X.env)::aq es X.env:=by rfl) (iT:(cB pos (aq es X.env)).any (·.1)=false:=by rfl) :
  XE X ct ms k (.Call (.Name x pp) (e::es) [] pos) (eN op fs):=by
 obtain⟨t,pt,_,qt⟩:=ha
 refine⟨_,Jc hc hg hm hv pt hn lM he iT,λF0 B F H ρ σ r Q rs e w=>?_⟩
 obtain⟨ds,h1,h2⟩:=aJ e
 exact qt F0 B F H ρ σ ds _ rs h1 λvs F1 H1 x1 l=>hs F1 H1 vs ds r Q x1.fh l h2 λv F2 H2 x2 l2=>w v F2 H2 (x1.trans x2) l2
theorem zlb {es:List Expr}{ns:List Nat}{fs:Env->Option (List D)}{id:String}{r:List V->Hp->VK->Prop}{op:List D->Option D}(hc:et X (.type id) r)(hs:uI X.K ct ns k r op)(hg:Gl X x)(hm:X.mg x=none)(hv:bK x=some (.type id))(ha:XA X ct ms (e::es) ns fs)
  (hn:x≠"__name__":=by decide) (lM:(x==("__debug__":aQ))=false:=by decide) (he:aq (e::es) X.env=(false,bJ e X.env)::aq es X.env:=by rfl) (iT:(cB pos (aq es X.env)).any (·.1)=false:=by rfl) :
  XE X ct ms k (.Call (.Name x pp) (e::es) [] pos) (eN op fs):=by
 obtain⟨t,pt,_,qt⟩:=ha
 refine⟨_,M4 hc hg hm hv pt hn lM he iT,λF0 B F H ρ σ r Q rs e w=>?_⟩
 obtain⟨ds,h1,h2⟩:=aJ e
 exact qt F0 B F H ρ σ ds _ rs h1 λvs F1 H1 x1 l=>hs F1 H1 vs ds r Q x1.fh l h2 λv F2 H2 x2 l2=>w v F2 H2 (x1.trans x2) l2
theorem QS {es:List Expr}{ns:List Nat}{fs:Env->Option (List D)}{id:String}{r:List V->Hp->VK->Prop}{op:List D->Option D}(hc:et X (.type id) r)(hs:xF X.K ct ns k r op)(hg:Gl X x)(hm:X.mg x=none)(hv:bK x=some (.type id))(ha:XA X ct ms (e::es) ns fs)
  (hn:x≠"__name__":=by decide) (lM:(x==("__debug__":aQ))=false:=by decide) (he:aq (e::es) X.env=(false,bJ e X.env)::aq es X.env:=by rfl) (iT:(cB pos (aq es X.env)).any (·.1)=false:=by rfl) :
  XO X ct ms k (.Call (.Name x pp) (e::es) [] pos) (eN op fs):=by
 obtain⟨t,pt,_,qt⟩:=ha
 refine⟨_,M4 hc hg hm hv pt hn lM he iT,λF0 B F H ρ σ r Q rs e w=>?_⟩
 obtain⟨ds,h1,h2⟩:=aJ e
 exact qt F0 B F H ρ σ ds _ rs h1 λvs F1 H1 x1 l=>hs F1 H1 vs ds r Q x1.fh l h2 λv F2 H2 fp x2 l2 nd hf=>w v F2 H2 fp (x1.trans x2) l2 nd λz hz=>x1.hh.free (hf z hz)
def cV (cs:List Nat)(x:aQ):D->Option D
 |.obj c ns ds=>if cs.contains c=true then(ns.zip ds).lookup x else none
 |_=>none
theorem Qt {R:D->V->Prop}{x:aQ}{d:D}:∀{ns:List aQ} {ds:List D} {vs:List V},Pr R ds vs->(ns.zip ds).lookup x=some d->∃v,(ns.zip vs).lookup x=some v/\R d v
 |[],_,_,_,e=>by simp at e
 |_::_,_,_,.nil,e=>by simp at e
 |y::ns,_,_,.cons h t,e=>by
  rw[fk,bm]at e
  rw[fk,bm]
  cases q:x==y with
  |true=>rw[q]at e;cases e;exact⟨_,rfl,h⟩
  |false=>rw[q]at e;exact Qt t e
theorem Nb {vs:List V}{x:aQ}:∀{ns:List aQ} {vs:List V},ns.contains x=false->(ns.zip vs).lookup x=none
 |[],_,_=>by simp
 |_::_,[],_=>by simp
 |y::ns,_::vs,h=>by
  rw[qU,pK]at h
  rw[fk,bm,h.1]
  exact Nb (vs:=vs) h.2
theorem xg {x:aQ}{cs:List Nat}(he:XE X ct ms n e f)(hc:∀c∈cs,mj X.K (ct c)/\fD X.K (ct c) x)(hb:dJ e x X.env (bJ e X.env)=bJ e X.env):XE X ct ms (n-1) (.Attribute e x pos) (e1 (cV cs x) f):=by
 obtain⟨t,pt,qt⟩:=he
 refine⟨_,zs4 pt hb,λF0 B F H ρ σ r Q rs e w=>?_⟩
 obtain⟨o,h1,h2⟩:=aJ e
 refine qt F0 B F H ρ σ o _ rs h1 λv F1 H1 x1 l=>?_
 cases o with
 |obj c ns ds=>
  obtain⟨a,dx,vs,rfl,ha,hl,Es⟩:=l.obj x1.fh
  unfold cV at h2
  dsimp only at h2
  by_cases zO:cs.contains c=true
  ·rw[if_pos zO]at h2
   obtain⟨u,hu,du⟩:=Qt Es h2
   have hh:=hc c (by simpa using zO)
   exact⟨a,_,dx,_,u,rfl,ha,hh.1,hh.2,hu,w u F1 H1 x1 du⟩
  ·rw[if_neg zO]at h2;cases h2
 |_=>cases h2
def nn (c0:Nat)(m:aQ)(mf:List D->Option D)(o:D)(ds:List D):Option D:=match o with
 |.obj c ns _=>if c=c0/\ns.contains m=false then mf (o::ds)else none
 |_=>none
theorem zu2 {o:Expr}{x:aQ}{dD:cY}{pl:oO Bool}{es:List Expr}{ns nd:List Nat}{fs:Env->Option (List D)}{iM:List V}{nY:List D}{nF:List ae}{c0:Nat}(ho:XE X ct ms n o f)(c:mj X.K (ct c0))(hm:pT X.K (ct c0) x fa)(Fn:cx X.prog X.w X.K X.mg X.base ez kk fa fd ps (fR X.K ct (n::(ns++nd)) rk mf))(hr:eo kk X.A)
  (hb:bH X.K fd ps nF) (hd:bX iM nF) (zQ:∀F G,iL X.K ct F G nd nY iM) (ha:XA X ct ms (e::es) ns fs)
  (kK:aq (e::es) X.env=(false,bJ e X.env)::aq es X.env:=by rfl) (iT:(cB pos (aq es X.env)).any (·.1)=false:=by rfl)
  (ht:bJ (.Call (.Attribute o x dD) (e::es) [] pos) X.env=(do
   let ov ← bJ o X.env
   hU dD.atName
   let(f,first) ← eG [ov] (gC ov x pl)
   i9 pos f first (cB pos (aq (e::es) X.env)) (eL pos (dC [] X.env))):=by rfl) :
  XO X ct ms rk (.Call (.Attribute o x dD) (e::es) [] pos) (λρ=>(f ρ).bind λo=>(fs ρ).bind λds=>nn c0 x mf o (ds++nY)):=by
 obtain⟨u,pu,qu⟩:=ho
 obtain⟨t,pt,_,qt⟩:=ha
 refine⟨_,zp9 pu c hm Fn hr hb hd nK pt kK iT ht,λF0 B F H ρ σ r Q rs e w=>?_⟩
 obtain⟨o,ds,h1,h2,h3⟩:=cQ e
 refine qu F0 B F H ρ σ o _ rs h1 λv F1 H1 x1 l=>?_
 cases o with
 |obj c1 ID kj=>
  unfold nn at h3
  dsimp only at h3
  split at h3
  ·rename_i hc
   obtain⟨rfl,gB⟩:=hc
   obtain⟨a,dx,vs,rfl,ha,hl,Es⟩:=l.obj x1.fh
   refine⟨a,dx,_,rfl,ha,Nb (vs:=vs) gB,?_⟩
   refine qt F0 B F1 H1 ρ σ ds _ (rs.ext x1) h2 λus F2 H2 x2 l2=>⟨F2,_,r,x2.fh,.cons (l.mono x2.ff x2.hh) (iL.append (zQ F2 H2) l2),h3,λv F3 H3 fp x3 o nd hf=>?_⟩
   exact w v F3 H3 fp ((x1.trans x2).trans x3) o nd λz hz=>(x1.trans x2).hh.free (hf z hz)
  ·cases h3
 |_=>cases h3
theorem zni {o:Expr}{x:aQ}{dD:cY}{pl:oO Bool}{nd:List Nat}{iM:List V}{nY:List D}{nF:List ae}{c0:Nat}(ho:XE X ct ms n o f)(c:mj X.K (ct c0))(hm:pT X.K (ct c0) x fa)(Fn:cx X.prog X.w X.K X.mg X.base ez kk fa fd ps (fR X.K ct (n::nd) rk mf))(hr:eo kk X.A)
  (hb:bH X.K fd ps nF) (hd:bX iM nF) (zQ:∀F G,iL X.K ct F G nd nY iM)
  (ht:bJ (.Call (.Attribute o x dD) [] [] pos) X.env=(do
   let ov ← bJ o X.env
   hU dD.atName
   let(f,first) ← eG [ov] (gC ov x pl)
   i9 pos f first (cB pos (aq [] X.env)) (eL pos (dC [] X.env))):=by rfl) :
  XO X ct ms rk (.Call (.Attribute o x dD) [] [] pos) (λρ=>(f ρ).bind λo=>nn c0 x mf o nY):=by
 obtain⟨u,pu,qu⟩:=ho
 refine⟨_,zm9 pu c hm Fn hr hb hd nK ht,λF0 B F H ρ σ r Q rs e w=>?_⟩
 obtain⟨o,h1,h3⟩:=aJ e
 refine qu F0 B F H ρ σ o _ rs h1 λv F1 H1 x1 l=>?_
 cases o with
 |obj c1 ID kj=>
  unfold nn at h3
  dsimp only at h3
  split at h3
  ·rename_i hc
   obtain⟨rfl,gB⟩:=hc
   obtain⟨a,dx,vs,rfl,ha,hl,Es⟩:=l.obj x1.fh
   refine⟨a,dx,_,rfl,ha,Nb (vs:=vs) gB,F1,_,r,x1.fh,.cons l (zQ F1 H1),h3,λv F3 H3 fp x3 o nd hf=>?_⟩
   exact w v F3 H3 fp (x1.trans x3) o nd λz hz=>x1.hh.free (hf z hz)
  ·cases h3
 |_=>cases h3
end
end L3
namespace L3
open PySem PySem.Spec L2
open PyProof.Rows hiding St
inductive Out where
 |nx (ρ:Env)|rt (d:D)|bk (ρ:Env)|ct (ρ:Env)
abbrev SF:=Env->Option Out
def lA (K:aa)(cl:Nat->ah)(F0 B:Hp)(ms:List Mo)(rk:Nat)(E:kD):Out->Prop
 |.nx ρ=>∀σ F H,RS K cl F0 B ms F H ρ σ->E.nx σ H
 |.bk ρ=>∀σ F H,RS K cl F0 B ms F H ρ σ->E.bk σ H
 |.ct ρ=>∀σ F H,RS K cl F0 B ms F H ρ σ->E.ct σ H
 |.rt d=>∀v F H fp,bT F0 F->bT B H->bT F H->(∀a o,B a=some o->F0 a=none->F a=none)->Ow K cl F H rk d v fp->fp.Nodup->(∀a∈fp,B a=none)->E.rt v H
section
variable (X:Cx)(ct:Nat->ah)(ms:List Mo)(rk:Nat)
def XS (st:bP)(f:SF):Prop:=∃t,PS X st t/\∀(F0 B F H:Hp) (ρ:Env) (σ:St) (o:Out) (E:kD),RS X.K ct F0 B ms F H ρ σ->f ρ=some o->lA X.K ct F0 B ms rk E o->t E σ H
def rB (st:List bP)(f:SF):Prop:=∃t,pV X st t/\∀(F0 B F H:Hp) (ρ:Env) (σ:St) (o:Out) (E:kD),RS X.K ct F0 B ms F H ρ σ->f ρ=some o->lA X.K ct F0 B ms rk E o->t E σ H
end
def sSkip:SF:=λρ=>some (.nx ρ)
def sSeq (f g:SF):SF:=λρ=>(f ρ).bind λo=>match o with
 |.nx ρ'=>g ρ'
 |o=>some o
def sIf (c:BF)(f g:SF):SF:=λρ=>(c ρ).bind λb=>if b=true then f ρ else g ρ
def sSet (i:Nat)(f:EF):SF:=λρ=>(f ρ).bind λd=>some (.nx (ρ.set i (some d)))
def sRet (f:EF):SF:=λρ=>(f ρ).bind λd=>some (.rt d)
def sRetN:SF:=λ_=>some (.rt .non)
def sDrop (f:EF):SF:=λρ=>(f ρ).bind λ_=>some (.nx ρ)
def oy:SF:=λ_=>none
def lH:Nat:=2 ^ 9000
def hE (c:BF)(b:SF):Nat->SF
 |0,_=>none
 |n+1,ρ=>(c ρ).bind λt=>if t=true then(b ρ).bind λo=>match o with
   |.nx ρ'=>hE c b n ρ'
   |.ct ρ'=>hE c b n ρ'
   |.bk ρ'=>some (.nx ρ')
   |.rt d=>some (.rt d)
  else some (.nx ρ)
def fV (c:BF)(b:SF):SF:=hE c b lH
def fT (g:D->Env->Option Env)(b:SF):List D->SF
 |[],ρ=>some (.nx ρ)
 |d::ds,ρ=>(g d ρ).bind λρ1=>(b ρ1).bind λo=>match o with
   |.nx ρ'=>fT g b ds ρ'
   |.ct ρ'=>fT g b ds ρ'
   |.bk ρ'=>some (.nx ρ')
   |.rt d=>some (.rt d)
def sFor (f:Env->Option (List D))(g:D->Env->Option Env)(b:SF):SF:=λρ=>(f ρ).bind λds=>fT g b ds ρ
section
variable {X:Cx}{ct:Nat->ah}{ms:List Mo}{rk n m k:Nat}{st:bP}{rest:List bP}{a b c e:Expr}{f g h:EF}{p q:BF}{u w:SF}{pos:cY}
theorem yg:rB X ct ms rk [] sSkip:=⟨_,zpx,λF0 B F H ρ σ o E rs e w=>by cases e;exact w σ F H rs⟩
theorem zf (h1:XS X ct ms rk st u)(h2:rB X ct ms rk rest w):rB X ct ms rk (st::rest) (sSeq u w):=by
 obtain⟨t,pt,qt⟩:=h1
 obtain⟨t2,mC,p7⟩:=h2
 refine⟨_,Rj pt mC,λF0 B F H ρ σ o E rs e z=>?_⟩
 obtain⟨o1,e1,e2⟩:=aJ e
 refine qt F0 B F H ρ σ o1 _ rs e1 ?_
 cases o1 with
 |nx ρ'=>exactλσ' F' H' Mh=>p7 F0 B F' H' ρ' σ' o E Mh e2 z
 |rt d=>cases e2;exact z
 |bk ρ'=>cases e2;exact z
 |ct ρ'=>cases e2;exact z
theorem zj (h1:XS X ct ms rk st u):rB X ct ms rk [st] u:=by
 obtain⟨t,pt,qt⟩:=h1
 exact⟨_,RD pt,qt⟩
theorem Nc:XS X ct ms rk st oy:=⟨_,zm0,λF0 B F H ρ σ o E rs e w=>by cases e⟩
theorem zx (he:XO X ct ms rk e f):XS X ct ms rk (.Return (some e) pos) (sRet f):=by
 obtain⟨t,pt,qt⟩:=he
 refine⟨_,BK pt,λF0 B F H ρ σ o E rs e w=>?_⟩
 obtain⟨d,h1,h2⟩:=aJ e
 cases h2
 refine qt F0 B F H ρ σ d _ rs h1 λv F' H' fp x l nd hf=>?_
 have r:=rs.ext x
 exact w v F' H' fp r.f0 r.bh r.fh r.nf l nd λz hz=>rs.bh.free (hf z hz)
theorem zqp {i:Nat}{x:aQ}{pos':cY}(hm:ms[i]?=some (.ow rk))(hN:X.N[i]?=some x:=by rfl)(hv:lQ X.env.scope x:=by first|exact Or.inl rfl|exact Or.inr (Or.inl rfl)|exact Or.inr (Or.inr rfl))(hd:(x==("__debug__":aQ))=false:=by decide)
  (gA:(x==("__classdict__":aQ))=false:=by decide):XS X ct ms rk (.Return (some (.Name x pos')) pos) (sRet (eV i)):=by
 refine⟨_,BK (um hN hv hd gA),λF0 B F H ρ σ o E rs e w=>?_⟩
 obtain⟨d,h1,h2⟩:=aJ e
 cases h2
 obtain⟨fp,sl,nd,hb⟩:=rs.sl
 obtain⟨f1,fr,i1,i2,i3,i4,i5⟩:=sl.put hm
 obtain⟨v,Af,l⟩:=i4 d (zu h1)
 exact⟨v,Af,w v F H f1 rs.f0 rs.bh rs.fh rs.nf l (i3 nd).1 λz hz=>hb z (i1 z hz)⟩
theorem vg {PM t8:List bP}(hc:XT X ct ms c p)(h1:rB X ct ms rk PM u)(h2:rB X ct ms rk t8 w):XS X ct ms rk (.If c PM t8 pos) (sIf p u w):=by
 obtain⟨t,pt,qt⟩:=hc
 obtain⟨t1,Ax,Ay⟩:=h1
 obtain⟨t2,mC,p7⟩:=h2
 refine⟨_,zus pt Ax mC,λF0 B F H ρ σ o E rs e z=>?_⟩
 obtain⟨x,h1,h2⟩:=aJ e
 refine qt F0 B F H ρ σ x _ rs h1 λF1 H1 x1=>?_
 cases x with
 |true=>rw[if_pos rfl]at h2 ⊢;exact Ay F0 B F1 H1 ρ σ o E (rs.ext x1) h2 z
 |false=>rw[if_neg aK]at h2 ⊢;exact p7 F0 B F1 H1 ρ σ o E (rs.ext x1) h2 z
theorem RS.put {K:aa}{F0 B F H F' H':Hp}{ρ:Env}{σ:St}{i:Nat}(rs:RS K ct F0 B ms F H ρ σ)(hm:ms[i]?=some (.ow k)) :
  ∃f1 fr:List ah,f1.Nodup/\(∀a∈f1,B a=none)/\(∀a∈f1,a∉fr)/\(∀d,ρ[i]?=some (some d)->∃v,σ[i]?=some (some v)/\Ow K ct F H k d v f1)/\(∀a∈fr,F a=none/\∃o,H a=some o) /\
   ∀(F' H':Hp) (d':D) (v':V) (f':List ah),bT F F'->bT B H'->bT F' H'->(∀a o,B a=some o->F0 a=none->F' a=none)->(∀a∈fr,H' a=H a/\F' a=none)->Ow K ct F' H' k d' v' f'->f'.Nodup->(∀a∈f',a∉fr)->(∀a∈f',B a=none) ->
    RS K ct F0 B ms F' H' (ρ.set i (some d')) (σ.set i (some v')):=by
 obtain⟨fp,sl,nd,hb⟩:=rs.sl
 obtain⟨f1,fr,i1,i2,i3,i4,i5⟩:=sl.put hm
 obtain⟨n1,n2,n3⟩:=i3 nd
 refine⟨f1,fr,n1,λa z=>hb a (i1 a z),n3,i4,λa z=>sl.cells a (i2 a z),λF' H' d' v' f' s1 s2 s3 s4 kf o VP dj U4=>?_⟩
 obtain⟨gM,q1,q2,q3⟩:=i5 F' H' d' v' f' s1 kf o
 exact⟨rs.f0.trans s1,s2,s3,s4,gM,q1,q3 VP n2 dj,λa z=>(q2 a z).elim (U4 a) λz=>hb a (i2 a z)⟩
theorem RS.set {K:aa}{F0 B F H F' H':Hp}{ρ:Env}{σ:St}{i:Nat}{d:D}{v:V}{fp:List ah}(rs:RS K ct F0 B ms F H ρ σ)(hm:ms[i]?=some (.ow k))(x:fq F H F' H')(o:Ow K ct F' H' k d v fp)(nd:fp.Nodup)(hf:∀a∈fp,H a=none) :
  RS K ct F0 B ms F' H' (ρ.set i (some d)) (σ.set i (some v)):=by
 have r:=rs.ext x
 obtain⟨f1,fr,n1,b1,n3,i4,cf,put⟩:=rs.put (F':=F') (H':=H') hm
 refine put F' H' d v fp x.ff r.bh x.fh r.nf (λa z=>?_) o nd (λa z zb=>?_) λa z=>rs.bh.free (hf a z)
 ·obtain⟨hn,o,ho⟩:=cf a z
  exact⟨(x.hh _ _ ho).trans ho.symm,x.nf a o ho hn⟩
 ·obtain⟨hn,o,ho⟩:=cf a zb
  rw[hf a z]at ho
  cases ho
theorem ztk {i:Nat}{x:aQ}{pos':cY}(hm:ms[i]?=some (.ow k))(hN:X.N.Nodup)(hi:X.N[i]?=some x)(hx:Loc X.env.scope x)(he:XO X ct ms k e f)(hs:dw e (some (.Name x pos')) pos.line X.env=pure false:=by rfl)
  (hf:X.fn x=true\/X.env.scope.names.lookup x=some .local:=by first|exact .inl rfl|exact .inr rfl|assumption):XS X ct ms rk (.Assign [.Name x pos'] e pos) (sSet i f):=by
 obtain⟨t,pt,qt⟩:=he
 refine⟨_,NS hN hi hx pt hs hf,λF0 B F H ρ σ o E rs e w=>?_⟩
 obtain⟨d,h1,h2⟩:=aJ e
 cases h2
 exact qt F0 B F H ρ σ d _ rs h1 λv F' H' fp x l nd hf=>w _ F' H' (rs.set hm x l nd hf)
theorem BB (hc:XT X ct ms c p)(hb:rB X ct ms rk rest u)(hp:cI (ba X.prog X.w) X.A X.env X.xe):XS X ct ms rk (.While c rest [] pos) (fV p u):=by
 obtain⟨t,pt,qt⟩:=hc
 obtain⟨t1,Ax,Ay⟩:=hb
 refine⟨_,zm3 hp pt Ax,λF0 B F H ρ σ o E rs e z=>?_⟩
 refine⟨λm σ H=>∃F ρ,RS X.K ct F0 B ms F H ρ σ/\hE p u m ρ=some o,⟨lH,F,ρ,rs,e⟩,?_⟩
 rintro m σ H ⟨F,ρ,rs,e⟩
 cases m with
 |zero=>cases e
 |succ m=>
  obtain⟨x,h1,h2⟩:=aJ e
  refine qt F0 B F H ρ σ x _ rs h1 λF1 H1 x1=>?_
  cases x with
  |true=>
   rw[if_pos rfl]at h2 ⊢
   obtain⟨o1,h3,h4⟩:=aJ h2
   refine⟨λσ H=>∃F ρ,RS X.K ct F0 B ms F H ρ σ/\hE p u m ρ=some o,λσ' H' h=>⟨m,iG m,h⟩,?_⟩
   refine Ay F0 B F1 H1 ρ σ o1 _ (rs.ext x1) h3 ?_
   cases o1 with
   |nx ρ'=>exactλσ' F' H' r=>⟨F',ρ',r,h4⟩
   |ct ρ'=>exactλσ' F' H' r=>⟨F',ρ',r,h4⟩
   |bk ρ'=>cases h4;exact z
   |rt d=>cases h4;exact z
  |false=>
   rw[if_neg aK]at h2 ⊢
   cases h2
   exact z σ F1 H1 (rs.ext x1)
theorem RS.re {K:aa}{F0 B F H:Hp}{ρ:Env}{σ:St}(r:RS K ct F0 B ms F H ρ σ):RS K ct F B ms F H ρ σ:=⟨.refl _,r.bh,r.fh,λ_ _ _ h=>h,r.sl⟩
theorem RS.back {K:aa}{F0 B F H F' H':Hp}{ρ ρ':Env}{σ σ':St}(r:RS K ct F0 B ms F H ρ σ)(q:RS K ct F B ms F' H' ρ' σ'):RS K ct F0 B ms F' H' ρ' σ' :=
 ⟨r.f0.trans q.f0,q.bh,q.fh,λa o h n=>q.nf a o h (r.nf a o h n),q.sl⟩
theorem lA.re {K:aa}{F0 B F H:Hp}{ρ:Env}{σ:St}{E:kD}{o:Out}(r:RS K ct F0 B ms F H ρ σ)(z:lA K ct F0 B ms rk E o):lA K ct F B ms rk E o:=by
 cases o with
 |nx ρ=>exactλσ' F' H' q=>z σ' F' H' (r.back q)
 |bk ρ=>exactλσ' F' H' q=>z σ' F' H' (r.back q)
 |ct ρ=>exactλσ' F' H' q=>z σ' F' H' (r.back q)
 |rt d=>exactλv F' H' fp s1 s2 s3 s4=>z v F' H' fp (r.f0.trans s1) s2 s3 λa o h n=>s4 a o h (r.nf a o h n)
def sK (K:aa)(ct:Nat->ah)(F B:Hp)(n:Nat)(J:It)(ds:List D):Prop :=
 ∀(i:Nat) (F' H':Hp),bT F F'->bT B H'->bT F' H'->(∀d,ds[i]?=some d->J.go i H'/\∀x H2,J.yld i H' x H2->∃F2,fq F' H' F2 H2/\Al K ct F2 B n d x)/\(ds.length<=i->J.stop i H')
def XI (X:Cx)(ct:Nat->ah)(ms:List Mo)(n:Nat)(tg iter:Expr)(f:Env->Option (List D)):Prop:=∃wi,PI X tg iter wi/\∀(F0 B F H:Hp) (ρ:Env) (σ:St) (ds:List D) (R:It->Hp->Prop),RS X.K ct F0 B ms F H ρ σ->f ρ=some ds ->
 (∀J F' H',fq F H F' H'->sK X.K ct F' B n J ds->R J H')->wi σ H R
def Be (X:Cx)(ct:Nat->ah)(ms:List Mo)(n:Nat)(tg iter:Expr)(f:Env->Option (List D)):Prop:=∃wi,PI X tg iter wi/\∀(F0 B F H:Hp) (ρ:Env) (σ:St) (ds:List D) (R:It->Hp->Prop),RS X.K ct F0 B ms F H ρ σ->f ρ=some ds ->
 (∀J F' H',fq F H F' H'->sK X.K ct F' H' n J ds->R J H')->wi σ H R
def XG (X:Cx)(ct:Nat->ah)(ms:List Mo)(n:Nat)(tg:Expr)(g:D->Env->Option Env):Prop:=∃t,PG X tg t/\∀(F0 B F H:Hp) (ρ ρ':Env) (σ:St) (d:D) (v:V) (Q:St->Hp->Prop),RS X.K ct F0 B ms F H ρ σ->Al X.K ct F B n d v->g d ρ=some ρ' ->
 (∀σ',RS X.K ct F0 B ms F H ρ' σ'->Q σ' H)->t v σ H Q
theorem sv {tg iter:Expr}{fi:Env->Option (List D)}{gg:D->Env->Option Env}(hi:XI X ct ms n tg iter fi)(hg:XG X ct ms n tg gg)(hb:rB X ct ms rk rest u)(hp:cI (ba X.prog X.w) X.A X.env X.xe)(hc:X.calm=true)
  (hs:∀x,dP iter X.env x=pure x:=by intro _;rfl):XS X ct ms rk (.For tg iter rest [] pos) (sFor fi gg u):=by
 obtain⟨wi,pi,qi⟩:=hi
 obtain⟨PU,pg,qg⟩:=hg
 obtain⟨t1,Ax,Ay⟩:=hb
 refine⟨_,zsz hp hc pi pg Ax hs,λF0 B F H ρ σ o E rs e z=>?_⟩
 obtain⟨ds,h1,h2⟩:=aJ e
 refine qi F0 B F H ρ σ ds _ rs h1 λJ F1 H1 x1 ok=>?_
 refine⟨λi m σ H=>m=ds.length-i/\i<=ds.length/\∃F ρ,bT F1 F/\RS X.K ct F0 B ms F H ρ σ/\fT gg u (ds.drop i) ρ=some o,⟨ds.length,rfl,de _,F1,ρ,.refl _,rs.ext x1,h2⟩,?_⟩
 rintro i m σ H ⟨rfl,Bn,F,ρ,s1,rs,e⟩
 obtain⟨k1,k2⟩:=ok i F H s1 rs.bh rs.fh
 by_cases mQ:i<ds.length
 ·right
  have hd:ds[i]?=some ds[i]:=by simp[mQ]
  obtain⟨go,yl⟩:=k1 _ hd
  rw[nu mQ]at e
  obtain⟨ρ1,h3,h4⟩:=aJ e
  obtain⟨o1,h5,h6⟩:=aJ h4
  refine⟨go,λσ H=>i+1<=ds.length/\∃F ρ,bT F1 F/\RS X.K ct F0 B ms F H ρ σ/\fT gg u (ds.drop (i+1)) ρ=some o,λσ' H' h=>⟨ds.length-(i+1),by omega,rfl,h⟩,λx H2 y=>?_⟩
  obtain⟨F2,x2,l⟩:=yl x H2 y
  refine qg F0 B F2 H2 ρ ρ1 σ _ x _ (rs.ext x2) l h3 λσ' r=>?_
  have s2:=s1.trans x2.ff
  refine Ay F2 B F2 H2 ρ1 σ' o1 _ r.re h5 ?_
  cases o1 with
  |nx ρ'=>exactλσ' F' H' q=>⟨mQ,F',ρ',s2.trans q.f0,r.back q,h6⟩
  |ct ρ'=>exactλσ' F' H' q=>⟨mQ,F',ρ',s2.trans q.f0,r.back q,h6⟩
  |bk ρ'=>cases h6;exactλσ' F' H' q=>z σ' F' H' (r.back q)
  |rt d=>cases h6;exact lA.re (o:=.rt d) r z
 ·left
  refine⟨k2 (by omega),?_⟩
  have:ds.drop i=[]:=oK (by omega)
  rw[this]at e
  cases e
  exact z σ F H rs
def gV (i:Nat):D->Env->Option Env:=λd ρ=>some (ρ.set i (some d))
theorem zqq {i:Nat}{x:aQ}(hm:ms[i]?=some (.ow 0))(hN:X.N.Nodup)(hi:X.N[i]?=some x)(hx:Loc X.env.scope x)
  (hf:X.fn x=true\/X.env.scope.names.lookup x=some .local:=by first|exact .inl rfl|exact .inr rfl|assumption):XG X ct ms 0 (.Name x pos) (gV i):=by
 refine⟨_,Nz hN hi hx hf,λF0 B F H ρ ρ' σ d v Q rs l e w=>?_⟩
 cases e
 exact w _ (rs.set hm (.refl rs.fh) (Ow.zero l) bA λa z=>(by cases z))
theorem SL.setA {K:aa}{F B H:Hp}{d:D}{v:V}(l:Al K ct F B n d v){ms:List Mo}{ρ:Env}{σ:St}{fp:List ah}{i:Nat}(h0:SL K ct F B H ms ρ σ fp):ms[i]?=some (.al n)->SL K ct F B H ms (ρ.set i (some d)) (σ.set i (some v)) fp:=by
 induction h0 generalizing i with
 |nil=>
  intro e
  simp at e
 |@no m0 o0 ms ρ σ fp t ih=>
  intro e
  cases i with
  |zero=>
   simp at e;subst e;exact .al l t
  |succ i=>
   exact .no (ih (by simpa using e))
 |@al n0 d0 v0 ms ρ σ fp h t ih=>
  intro e
  cases i with
  |zero=>
   simp at e;subst e;exact .al l t
  |succ i=>
   exact .al h (ih (by simpa using e))
 |@px d0 v0 ms ρ σ fp h t ih=>
  intro e
  cases i with
  |zero=>
   simp at e
  |succ i=>
   exact .px h (ih (by simpa using e))
 |@so d0 x0 ms ρ σ zD h t ih=>
  intro e
  cases i with
  |zero=>
   simp at e
  |succ i=>
   exact .so h (ih (by simpa using e))
 |@ow n0 d0 v0 ms ρ σ f0 zD h t ih=>
  intro e
  cases i with
  |zero=>
   simp at e
  |succ i=>
   exact .ow h (ih (by simpa using e))
theorem Nd {i:Nat}{x:aQ}(hm:ms[i]?=some (.al n))(hN:X.N.Nodup)(hi:X.N[i]?=some x)(hx:Loc X.env.scope x)
  (hf:X.fn x=true\/X.env.scope.names.lookup x=some .local:=by first|exact .inl rfl|exact .inr rfl|assumption):XG X ct ms n (.Name x pos) (gV i):=by
 refine⟨_,Nz hN hi hx hf,λF0 B F H ρ ρ' σ d v Q rs l e w=>?_⟩
 cases e
 obtain⟨fp,sl,nd,hb⟩:=rs.sl
 exact w _ ⟨rs.f0,rs.bh,rs.fh,rs.nf,fp,sl.setA l hm,nd,hb⟩
def HS (X:Cx)(ct:Nat->ah)(ms:List Mo)(n:Nat)(qS:List Expr)(g:List D->Env->Option Env):Prop:=∃t,B4 X qS t/\(∀ds ρ ρ',g ds ρ=some ρ'->ds.length=qS.length)/\∀(F0 B F H:Hp) (ρ ρ':Env) (σ:St) (ds:List D) (vs:List V) (Q:St->Hp->Prop),RS X.K ct F0 B ms F H ρ σ->Pr (Al X.K ct F B n) ds vs->g ds ρ=some ρ' ->
 (∀σ',RS X.K ct F0 B ms F H ρ' σ'->Q σ' H)->t vs σ H Q
def gsNil:List D->Env->Option Env:=λds ρ=>match ds with
 |[]=>some ρ
 |_=>none
def gsCons (g:D->Env->Option Env)(gs:List D->Env->Option Env):List D->Env->Option Env:=λds ρ=>match ds with
 |d::ds=>(g d ρ).bind λρ'=>gs ds ρ'
 |[]=>none
theorem BG:HS X ct ms n [] gsNil:=by
 refine⟨_,zpy,λds ρ ρ' e=>?_,λF0 B F H ρ ρ' σ ds vs Q rs l e w=>?_⟩
 ·cases ds with
  |nil=>rfl
  |cons d ds=>cases e
 ·cases l with
  |nil=>cases e;exact⟨rfl,w σ rs⟩
  |cons _ _=>cases e
theorem w9 {tg:Expr}{qS:List Expr}{gg:D->Env->Option Env}{gs:List D->Env->Option Env}(h1:XG X ct ms n tg gg)(h2:HS X ct ms n qS gs)
  (hs:(d6 (tg::qS) X.env).map (·.2)=ip tg X.env::(d6 qS X.env).map (·.2):=by rfl):HS X ct ms n (tg::qS) (gsCons gg gs):=by
 obtain⟨t,pt,qt⟩:=h1
 obtain⟨t2,mC,VM,p7⟩:=h2
 refine⟨_,zm1 pt mC hs,λds ρ ρ' e=>?_,λF0 B F H ρ ρ' σ ds vs Q rs l e w=>?_⟩
 ·cases ds with
  |nil=>cases e
  |cons d ds=>
   obtain⟨ρ1,h3,h4⟩:=aJ e
   rw[aI,aI,VM _ _ _ h4]
 ·cases l with
  |nil=>cases e
  |cons h t=>
   obtain⟨ρ1,h3,h4⟩:=aJ e
   exact⟨_,_,rfl,qt F0 B F H ρ ρ1 σ _ _ _ rs h h3 λσ1 r1=>p7 F0 B F H ρ1 ρ' σ1 _ _ _ r1 t h4 w⟩
def gT (gs:List D->Env->Option Env):D->Env->Option Env:=λd ρ=>match d with
 |.tup ds=>gs ds ρ
 |_=>none
theorem BM {qS:List Expr}{j:Nat}{gs:List D->Env->Option Env}(hc:X.calm=true)(h:HS X ct ms (n-1) qS gs)(hl:(d6 qS X.env).length=qS.length:=by rfl)(kK:(d6 qS X.env).findIdx? (·.1)=none:=by rfl):XG X ct ms n (.Tuple qS j pos) (gT gs):=by
 obtain⟨t,pt,lt,qt⟩:=h
 refine⟨_,zsu (n:=qS.length) hc pt hl kK,λF0 B F H ρ ρ' σ d v Q rs l e w=>?_⟩
 cases d with
 |tup ds=>
  have l':Al X.K ct F H n (.tup ds) v:=l.mono (.refl _) rs.bh
  have:∃a vs,v=.ref a/\kJ X.K H a vs/\Pr (Al X.K ct F B (n-1)) ds vs:=by
   cases n with
   |zero=>
    have l:Dt X.K ct F (.tup ds) v:=l
    cases l with
    |tup q t=>exact⟨_,_,rfl,kJ.of (rs.fh _ _ q),t.pr⟩
   |succ n=>
    rcases l with l|l
    ·cases l with
     |tup q t=>exact⟨_,_,rfl,kJ.of (rs.fh _ _ q),t.pr.mono λ_ _=>Al.of⟩
    ·cases l with
     |tup q t=>exact⟨_,_,rfl,kJ.of (rs.fh _ _ q),t⟩
  obtain⟨a,vs,rfl,ha,hp⟩:=this
  exact⟨a,vs,rfl,ha,hp.length.symm.trans (lt _ _ _ e),qt F0 B F H ρ ρ' σ ds vs Q rs hp e w⟩
 |_=>cases e
def startD (N:List aQ)(ds:List D):Env:=ds.map some++az (N.length-ds.length) none
def mOf (N:List aQ)(b:SF)(ds:List D):Option D:=(b (startD N ds)).bind λo=>match o with
 |.rt d=>some d
 |.nx _=>some .non
 |_=>none
theorem SL.start {K:aa}{F B H:Hp}:∀{pm:List Nat} {ds:List D} {vs:List V} {ms:List Mo} (j:Nat),iL K ct F B pm ds vs->(∀(i n:Nat),pm[i]?=some n->ms[i]?=some (Mo.al n)\/(n=0/\ms[i]?=some (Mo.ow 0)))->ms.length=pm.length+j ->
  SL K ct F B H ms (ds.map some++az j none) (vs.map some++az j none) []
 |_,_,_,ms,j,.nil,_,hl=>by
  have:∀(j:Nat) (ms:List Mo),ms.length=j->SL K ct F B H ms (az j none) (az j none) []:=by
   intro j
   induction j with
   |zero=>intro ms h;cases ms with
    |nil=>exact .nil
    |cons _ _=>simp at h
   |succ j ih=>intro ms h;cases ms with
    |nil=>simp at h
    |cons m ms=>exact .no (ih ms (by simpa using h))
  simpa using this j ms (by simpa using hl)
 |_,_,_,[],j,.cons h t,_,hl=>by simp at hl;omega
 |_,_,_,m::ms,j,.cons (n:=n) h t,hm,hl=>by
  have ih:=SL.start (ms:=ms) (H:=H) j t (λi n e=>by simpa using hm (i+1) n (by simpa using e)) (by simp at hl;omega)
  rcases hm 0 n rfl with e|⟨rfl,e⟩
  ·simp at e;subst e;exact .al h ih
  ·simp at e;subst e;exact SL.ow (f:=[]) (Ow.zero h) ih
structure Fun2 (K:aa)(x qual:aQ)(st:bP)(f:ah)(fd:aH):Prop where
 ex:∃(oc:ae) (od:Option ah) (dV kV doc pm:ae) (an:Option ah) (gW ct:ae) (Av:Array (Option ae)),
  fd=gq x qual (lR st) (gx st) (aL st) dV kV doc pm an gW ct/\K.lookup f=some ⟨oc,od,.func fd,Av⟩/\aw K gW qual=true
 kp:ao K (.ref f)=true
theorem Fun2.ok {P:bB}{w:cj}{K:aa}{mg:aQ->Option ae}{base:aZ}{x qual:aQ}{st:bP}{f:ah}{fd:aH}{N ps:List aQ}{k:Nat}{sp:Sp}(F:Fun2 K x qual st f fd)(S:bp N ps (aL st))(len:∀vs H Q E,sp vs H Q E->vs.length=ps.length)
    (sQ:∀(gW:ae) (A:bR) (outer:List PySem.Env) (s:am) (H:Hp) (vs:List V) (Q:VK) (E:XK),eo k (A.deeper (envOfC qual (aL st) s.heap.objs.size f gW))->sp vs H Q E ->
      ∃t,pV (ni ez P w K mg base N qual (aL st) f gW A outer s H E).nox (gx st) t/\t { nx:=λ_ H'=>Q .non H',rt:=Q } (L2.start N vs) H):cx P w K mg base ez (k+1) f fd ps sp:=by
  obtain⟨oc,od,dV,kV,doc,pm,an,gW,ct,Av,rfl,lk,gA⟩:=F.ex
  refine zuv lk gA S len λA outer s H vs Q E hr wF=>?_
  obtain⟨t,h,q⟩:=sQ gW A outer s H vs Q E hr wF
  exact⟨t,h.nox,q⟩
theorem lift {P:bB}{w:cj}{K:aa}{mg:aQ->Option ae}{base:aZ}{x qual:aQ}{st:bP}{fa:ah}{fd:aH}{N ps:List aQ}{kk:Nat}{pm:List Nat}{bf:SF}(Fn:Fun2 K x qual st fa fd)(S:bp N ps (aL st))(Ab:pm.length=ps.length)(Iq:ms.length=N.length)(rJ:ps.length<=N.length)
  (Ez:∀(i n:Nat),pm[i]?=some n->ms[i]?=some (Mo.al n)\/(n=0/\ms[i]?=some (Mo.ow 0)))
  (body:∀(gW:ae) (A:bR) (outer:List PySem.Env) (s:am) (H:Hp) (E:XK),eo kk (A.deeper (envOfC qual (aL st) s.heap.objs.size fa gW))->rB (ni ez P w K mg base N qual (aL st) fa gW A outer s H E).nox ct ms rk (gx st) bf) :
  cx P w K mg base ez (kk+1) fa fd ps (fR K ct pm rk (mOf N bf)):=by
 refine Fn.ok S (fR.len Ab) λgW A outer s H vs Q E hr h=>?_
 obtain⟨F,ds,d,sF,l,hm,q⟩:=h
 obtain⟨t,pt,qt⟩:=body gW A outer s H E hr
 refine⟨t,pt,?_⟩
 obtain⟨o,h1,h2⟩:=aJ hm
 have hvl:vs.length=pm.length:=l.length
 have Er:ds.length=vs.length:=l.length'
 refine qt F H F H (startD N ds) (L2.start N vs) o _ ⟨.refl _,.refl _,sF,λ_ _ _ h=>h,[],?_,bA,λa z=>(by cases z)⟩ h1 ?_
 ·unfold startD L2.start
  rw[Er]
  exact SL.start _ l Ez (by omega)
 ·cases o with
  |nx ρ=>
   cases h2
   exactλσ F' H' r=>q .non F' H' [] ⟨r.f0,r.bh,r.fh,r.nf⟩ (Ow.scal .non rfl) bA λa z=>(by cases z)
  |rt d'=>
   cases h2
   exactλv F' H' fp s1 s2 s3 s4 o nd hf=>q v F' H' fp ⟨s1,s2,s3,s4⟩ o nd hf
  |bk ρ=>cases h2
  |ct ρ=>cases h2
end
end L3
namespace L3
open PySem PySem.Spec L2
open PyProof.Rows hiding St
theorem fP.or {X:Cx}{f:ae->ae->oO ae}{r r':R2}(h:fP X f r)(h':fP X f r'):fP X f (λx y H Q=>r x y H Q\/r' x y H Q) :=
 λai s σ H x y v u Q I rx ry q=>q.elim (h ai s σ H x y v u Q I rx ry) (h' ai s σ H x y v u Q I rx ry)
section
variable {K:aa}{ct:Nat->ah}{n m k:Nat}
def i2 (g:Int->Int->D):D->D->Option D
 |.int i,.int j=>some (g i j)
 |_,_=>none
def sr (C:Int->Int->Prop)[∀i j,Decidable (C i j)](g:Int->Int->D):D->D->Option D
 |.int i,.int j=>if C i j then some (g i j)else none
 |_,_=>none
theorem JJ {g:Int->Int->D}{gv:Int->Int->V}(hg:∀i j F,Dt K ct F (g i j) (gv i j)):kI K ct n m k (pJ gv) (i2 g):=by
 intro F H x y d1 d2 d Q s l1 l2 e w
 cases d1 with
 |int i=>
  cases d2 with
  |int j=>cases e;exact⟨i,j,l1.int,l2.int,w _ F H (.refl s) (Al.of (hg i j F))⟩
  |_=>cases e
 |_=>cases e
theorem JF {C C':Int->Int->Prop}[∀i j,Decidable (C i j)]{g:Int->Int->D}{gv:Int->Int->V}(hC:∀i j,C i j->C' i j)(hg:∀i j F,Dt K ct F (g i j) (gv i j)):kI K ct n m k (rI C' gv) (sr C g):=by
 intro F H x y d1 d2 d Q s l1 l2 e w
 cases d1 with
 |int i=>
  cases d2 with
  |int j=>
   unfold sr at e
   dsimp only at e
   by_cases h:C i j
   ·rw[if_pos h]at e;cases e;exact⟨i,j,l1.int,l2.int,hC i j h,w _ F H (.refl s) (Al.of (hg i j F))⟩
   ·rw[if_neg h]at e;cases e
  |_=>cases e
 |_=>cases e
def JL:Nat:=2 ^ 9000
def BY:Nat:=2 ^ 100000
def oz:D->D->Option D:=i2 λi j=>.int (i-j)
theorem AQ:kI K ct n m k (pJ λi j=>.int (i-j)) oz:=JJ λ_ _ _=>.int _
def km (i j:Int):Prop:=(-18446744073709551616<i/\i<18446744073709551616)\/(-18446744073709551616<j/\j<18446744073709551616)\/(i.natAbs<BY/\j.natAbs<BY)
instance (i j:Int):Decidable (km i j):=by unfold km;infer_instance
def cT:D->D->Option D:=sr km λi j=>.int (i*j)
theorem km.ok {i j:Int}(h:km i j):nB i j:=by
 rcases h with h|h|h
 ·exact .inl (.inl ⟨by have:=h.1;omega,by have:=h.2;omega⟩)
 ·exact .inl (.inr ⟨by have:=h.1;omega,by have:=h.2;omega⟩)
 ·exact .inr h
theorem zqr:kI K ct n m k (rI nB λi j=>.int (i*j)) cT:=JF (λ_ _=>km.ok) λ_ _ _=>.int _
def D.v:D->V
 |.bl b=>.bl b
 |.int i=>.int i
 |.str x=>.str x
 |_=>.non
theorem Dt.v {F:Hp}{d:D}{v:V}(h:Dt K ct F d v)(hs:d.sc=true):v=d.v:=by
 cases h<;>first|rfl|cases hs
theorem Al.v {F G:Hp}{d:D}{v:V}(h:Al K ct F G n d v)(hs:d.sc=true):v=d.v:=Dt.v (Al.scal (F':=F) h hs) hs
theorem D.flat {d:D}(hs:d.sc=true):ie d.v=true:=by cases d<;>first|rfl|cases hs
theorem Pr.vs {F G:Hp}:∀{ds:List D} {vs:List V},Pr (Al K ct F G n) ds vs->ds.all D.sc=true->vs=ds.map D.v
 |_,_,.nil,_=>rfl
 |d::ds,v::vs,.cons h t,e=>by
  rw[dE,bE]at e
  rw[aO,Al.v h e.1,Pr.vs t e.2]
def ed:D->D->Option D
 |.int i,.int j=>if 0<j/\j<4611686018427387904 then some (.int (i/j))else if j≠0/\j.natAbs<JL then some (.int (i.fdiv j))else none
 |_,_=>none
theorem vb:kI K ct n m k (rI (λ_ j=>j≠0/\Sz 9000 j) λi j=>.int (i.fdiv j)) ed:=by
 intro F H x y d1 d2 d Q s l1 l2 e w
 cases d1 with
 |int i=>
  cases d2 with
  |int j=>
   unfold ed at e
   dsimp only at e
   by_cases h:0<j/\j<4611686018427387904
   ·rw[if_pos h]at e
    cases e
    refine⟨i,j,l1.int,l2.int,⟨by omega,?_⟩,?_⟩
    ·have:Sz 62 j:=by unfold Sz;omega
     exact this.mono (by decide)
    ·show Q (.int (i.fdiv j)) H
     rw[gP i (by omega)]
     exact w _ F H (.refl s) (Al.of (.int _))
   ·rw[if_neg h]at e
    by_cases h:j≠0/\j.natAbs<JL
    ·rw[if_pos h]at e
     cases e
     exact⟨i,j,l1.int,l2.int,h,w _ F H (.refl s) (Al.of (.int _))⟩
    ·rw[if_neg h]at e;cases e
  |_=>cases e
 |_=>cases e
def cX:D->D->Option D
 |.int i,.int j=>if 0<j then some (.int (i%j))else if j≠0 then some (.int (i.fmod j))else none
 |_,_=>none
theorem xf:kI K ct n m k (rI (λ_ j=>j≠0) λi j=>.int (i.fmod j)) cX:=by
 intro F H x y d1 d2 d Q s l1 l2 e w
 cases d1 with
 |int i=>
  cases d2 with
  |int j=>
   unfold cX at e
   dsimp only at e
   by_cases h:0<j
   ·rw[if_pos h]at e
    cases e
    refine⟨i,j,l1.int,l2.int,by omega,?_⟩
    show Q (.int (i.fmod j)) H
    rw[nt i (by omega)]
    exact w _ F H (.refl s) (Al.of (.int _))
   ·rw[if_neg h]at e
    by_cases h:j≠0
    ·rw[if_pos h]at e
     cases e
     exact⟨i,j,l1.int,l2.int,h,w _ F H (.refl s) (Al.of (.int _))⟩
    ·rw[if_neg h]at e;cases e
  |_=>cases e
 |_=>cases e
def nL (i j:Int):Prop:=0<=j/\j<=1000000/\i.natAbs<18446744073709551616
instance (i j:Int):Decidable (nL i j):=by unfold nL;infer_instance
def tF:D->D->Option D:=sr nL λi j=>.int (i ^ j.toNat)
theorem RL:kI K ct n m k (rI uH λi j=>.int (i ^ j.toNat)) tF:=JF (λ_ _ h=>⟨h.1,h.2.1,by have:=h.2.2;omega⟩) λ_ _ _=>.int _
def vA:D->D->Option D:=sr nL λi j=>.int (i*2 ^ j.toNat)
theorem zqs:kI K ct n m k (rI uH λi j=>.int (i*2 ^ j.toNat)) vA:=JF (λ_ _ h=>⟨h.1,h.2.1,by have:=h.2.2;omega⟩) λ_ _ _=>.int _
def rN:D->D->Option D:=sr (λ_ j=>0<=j) λi j=>.int (i/2 ^ j.toNat)
theorem RM:kI K ct n m k (rI (λ_ j=>0<=j) λi j=>.int (i/2 ^ j.toNat)) rN:=JF (λ_ _ h=>h) λ_ _ _=>.int _
def og:D->D->Option D:=i2 λi j=>.bl (decide (i<j))
def sO:D->D->Option D:=i2 λi j=>.bl (decide (j<i))
def vU:D->D->Option D:=i2 λi j=>.bl (decide (j<=i))
theorem sx:kI K ct n m k (pJ λi j=>.bl (decide (i<j))) og:=JJ λ_ _ _=>.bl _
theorem AY:kI K ct n m k (pJ λi j=>.bl (decide (j<i))) sO:=JJ λ_ _ _=>.bl _
theorem JG:kI K ct n m k (pJ λi j=>.bl (decide (j<=i))) vU:=JJ λ_ _ _=>.bl _
def AD:R2:=λx y H Q=>∃i j,x=.str i/\y=.str j/\Q (.bl (!(decide (j.cps.toList<i.cps.toList)))) H
theorem ztl {X:Cx}:fP X (ck .LtE) AD:=by
 intro ai s σ H x y v u Q I rx ry h
 obtain⟨i,j,rfl,rfl,q⟩:=h
 obtain⟨t,rfl⟩:=rx
 obtain⟨t',rfl⟩:=ry
 exact PySem.P.le_str ⟨.bl _,H,I,rfl,q⟩
def uU:D->D->Option D
 |.int i,.int j=>some (.bl (decide (i<=j)))
 |.str i,.str j=>some (.bl (!(decide (j.cps.toList<i.cps.toList))))
 |_,_=>none
theorem AR:kI K ct n m k (λx y H Q=>pJ (λi j=>.bl (decide (i<=j))) x y H Q\/AD x y H Q) uU:=by
 intro F H x y d1 d2 d Q s l1 l2 e w
 cases d1 with
 |int i=>
  cases d2 with
  |int j=>cases e;exact .inl ⟨i,j,l1.int,l2.int,w _ F H (.refl s) (Al.of (.bl _))⟩
  |_=>cases e
 |str i=>
  cases d2 with
  |str j=>cases e;exact .inr ⟨i,j,l1.str,l2.str,w _ F H (.refl s) (Al.of (.bl _))⟩
  |_=>cases e
 |_=>cases e
theorem AZ {X:Cx}:fP X (ck .LtE) (λx y H Q=>pJ (λi j=>.bl (decide (i<=j))) x y H Q\/AD x y H Q):=fP.or zuu ztl
def D.isN:D->Bool
 |.non=>true
 |_=>false
def D.isB (b:Bool):D->Bool
 |.bl c=>c==b
 |_=>false
def oX (neg:Bool):D->D->Option D
 |d,.non=>some (.bl (if neg then !d.isN else d.isN))
 |d,.bl b=>some (.bl (if neg then !d.isB b else d.isB b))
 |_,_=>none
theorem Al.ref {F G:Hp}{d:D}{v:V}(h:Al K ct F G n d v)(hs:d.sc=false):∃a,v=.ref a:=by
 cases n with
 |zero=>cases(show Dt K ct F d v from h)<;>first|cases hs;done|exact⟨_,rfl⟩
 |succ n=>rcases h with h|h<;>cases h<;>first|cases hs;done|exact⟨_,rfl⟩
theorem Al.isn {F G:Hp}{d:D}{v:V}(h:Al K ct F G n d v):decide (v=.non)=d.isN:=by
 cases hs:d.sc with
 |true=>
  have:=Al.v h hs
  subst this
  cases d<;>first|rfl|cases hs
 |false=>
  obtain⟨a,rfl⟩:=h.ref hs
  cases d<;>first|rfl|cases hs
theorem Al.isb {F G:Hp}{d:D}{v:V}{b:Bool}(h:Al K ct F G n d v):decide (v=.bl b)=d.isB b:=by
 cases hs:d.sc with
 |true=>
  have:=Al.v h hs
  subst this
  cases d<;>first|rfl|(cases hs;done)|(rename_i c;cases b<;>cases c<;>rfl)
 |false=>
  obtain⟨a,rfl⟩:=h.ref hs
  cases d<;>first|rfl|cases hs
def PJ:R2:=λx y H Q=>(y=.non/\Q (.bl (decide (x=.non))) H)\/∃b,y=.bl b/\Q (.bl (decide (x=.bl b))) H
def tJ:R2:=λx y H Q=>(y=.non/\Q (.bl (!decide (x=.non))) H)\/∃b,y=.bl b/\Q (.bl (!decide (x=.bl b))) H
theorem BU {X:Cx}:fP X (ck .Is) PJ:=fP.or zs3 zte
theorem znk {X:Cx}:fP X (ck .IsNot) tJ:=fP.or zp2 ZS
theorem BN:kI K ct n m k PJ (oX false):=by
 intro F H x y d1 d2 d Q s l1 l2 e w
 cases d2 with
 |non=>
  cases e
  refine .inl ⟨l2.non,?_⟩
  rw[l1.isn]
  exact w _ F H (.refl s) (Al.of (.bl _))
 |bl b=>
  cases e
  refine .inr ⟨b,l2.bl,?_⟩
  rw[l1.isb]
  exact w _ F H (.refl s) (Al.of (.bl _))
 |_=>cases e
theorem zle:kI K ct n m k tJ (oX true):=by
 intro F H x y d1 d2 d Q s l1 l2 e w
 cases d2 with
 |non=>
  cases e
  refine .inl ⟨l2.non,?_⟩
  rw[l1.isn]
  exact w _ F H (.refl s) (Al.of (.bl _))
 |bl b=>
  cases e
  refine .inr ⟨b,l2.bl,?_⟩
  rw[l1.isb]
  exact w _ F H (.refl s) (Al.of (.bl _))
 |_=>cases e
mutual
def D.py:D->Option cn
 |.non=>some .none
 |.bl b=>some (.bool b)
 |.int i=>some (.int i)
 |.str x=>some (.str x)
 |.lst xs=>(D.pys xs).bind λys=>some (.list ys)
 |.tup xs=>(D.pys xs).bind λys=>some (.tuple ys)
 |_=>none
def D.pys:List D->Option (List cn)
 |[]=>some []
 |d::ds=>(D.py d).bind λx=>(D.pys ds).bind λxs=>some (x::xs)
end
mutual
theorem Dt.toPy {F H:Hp}(s:bT F H):∀{d:D} {v:V} {e:cn},Dt K ct F d v->d.py=some e->L2.Dt K H v e
 |_,_,_,.non,h=>by simp only[D.py]at h;cases h;exact .non
 |_,_,_,.bl b,h=>by simp only[D.py]at h;cases h;exact .bl b
 |_,_,_,.int b,h=>by simp only[D.py]at h;cases h;exact .int b
 |_,_,_,.str b,h=>by simp only[D.py]at h;cases h;exact .str b
 |_,_,_,.lst q t,h=>by
  simp only[D.py]at h
  obtain⟨ys,h1,h2⟩:=aJ h
  cases h2
  exact .lst (s.seq q) (Dts.toPy s t h1)
 |_,_,_,.tup q t,h=>by
  simp only[D.py]at h
  obtain⟨ys,h1,h2⟩:=aJ h
  cases h2
  exact .tup (kJ.of (s _ _ q)) (Dts.toPy s t h1)
 |_,_,_,.dK _ _ _,h=>by simp only[D.py]at h;cases h
 |_,_,_,.dT _ _ _,h=>by simp only[D.py]at h;cases h
 |_,_,_,.obj _ _ _,h=>by simp only[D.py]at h;cases h
theorem Dts.toPy {F H:Hp}(s:bT F H):∀{ds:List D} {vs:List V} {es:List cn},Dts K ct F ds vs->D.pys ds=some es->L2.Dts K H vs es
 |_,_,_,.nil,h=>by simp only[D.pys]at h;cases h;exact .nil
 |_,_,_,.cons h t,e=>by
  simp only[D.pys]at e
  obtain⟨y,ys,h1,h2,h3⟩:=cQ e
  cases h3
  exact .cons (Dt.toPy s h h1) (Dts.toPy s t h2)
end
theorem Pr.toPy {H:Hp}{R:D->V->Prop}(f:∀d v e,R d v->d.py=some e->L2.Dt K H v e):∀{ds:List D} {vs:List V} {es:List cn},Pr R ds vs->D.pys ds=some es->L2.Dts K H vs es
 |_,_,_,.nil,h=>by simp only[D.pys]at h;cases h;exact .nil
 |_,_,_,.cons h t,e=>by
  simp only[D.pys]at e
  obtain⟨y,ys,h1,h2,h3⟩:=cQ e
  cases h3
  exact .cons (f _ _ _ h h1) (Pr.toPy f t h2)
theorem Al.toPy {F H:Hp}(s:bT F H):∀{n:Nat} {d:D} {v:V} {e:cn},Al K ct F H n d v->d.py=some e->L2.Dt K H v e
 |0,_,_,_,h,q=>Dt.toPy s h q
 |n+1,_,_,_,.inl h,q=>Dt.toPy s h q
 |n+1,_,_,_,.inr (.lst h t),q=>by
  simp only[D.py]at q
  obtain⟨ys,h1,h2⟩:=aJ q
  cases h2
  exact .lst (e5.of h) (Pr.toPy (λ_ _ _=>Al.toPy s) t h1)
 |n+1,_,_,_,.inr (.tup h t),q=>by
  simp only[D.py]at q
  obtain⟨ys,h1,h2⟩:=aJ q
  cases h2
  exact .tup (kJ.of (s _ _ h)) (Pr.toPy (λ_ _ _=>Al.toPy s) t h1)
 |n+1,_,_,_,.inr (.dK _ _ _),q=>by simp only[D.py]at q;cases q
 |n+1,_,_,_,.inr (.dT _ _ _),q=>by simp only[D.py]at q;cases q
 |n+1,_,_,_,.inr (.obj _ _ _),q=>by simp only[D.py]at q;cases q
def oj (a:cn):Bool:=a.canLay0&&decide (a.depth<=60)
def eK (neg:Bool)(x y:D):Option D:=x.py.bind λa=>y.py.bind λb=>if oj a=true/\oj b=true then some (.bl (if neg then !cn.eqv a b else cn.eqv a b))else none
theorem x6 {neg:Bool}:kI K ct n m k (AB K neg) (eK neg):=by
 intro F H x y d1 d2 d Q s l1 l2 e w
 obtain⟨a,b,h1,h2,h3⟩:=cQ e
 by_cases h:oj a=true/\oj b=true
 ·rw[if_pos h]at h3
  cases h3
  have o1:=h.1
  have o2:=h.2
  unfold oj at o1 o2
  rw[bE,decide_eq_true_iff]at o1 o2
  exact⟨a,b,Al.toPy s l1 h1,Al.toPy s l2 h2,o1.1,o2.1,cL (Nat.min_le_left _ _) o1.2,w _ F H (.refl s) (Al.of (.bl _))⟩
 ·rw[if_neg h]at h3;cases h3
end
end L3
namespace L3
open PySem PySem.Spec L2
open PyProof.Rows hiding St
section
variable {K:aa}{ct:Nat->ah}{n m k:Nat}{X:Cx}
theorem Pr.atI {R:D->V->Prop}{ds:List D}{vs:List V}{i:Int}{d:D}(h:Pr R ds vs)(e:atI ds i=some d):∃v,atI vs i=some v/\R d v:=by
 unfold L2.atI at e ⊢
 rw[←h.length]
 obtain⟨j,h1,h2⟩:=aJ e
 obtain⟨v,h3,h4⟩:=h.get' h2
 exact⟨v,by rw[h1];exact h3,h4⟩
def uT:D->Option eR
 |.int i=>some (.inl i)
 |.str x=>some (.inr x)
 |_=>none
def oZ:List D->Option (List eR)
 |[]=>some []
 |d::ds=>(uT d).bind λk=>(oZ ds).bind λks=>some (k::ks)
def iX {κ:Type}[DecidableEq κ](ks:List κ)(ds:List D)(k:κ):Option D:=((ks.zip ds).find? λp=>decide (p.1=k)).map (·.2)
def RO (R:D->V->Prop):Option D->Option V->Prop
 |some d,some u=>R d u
 |none,none=>True
 |_,_=>False
theorem RO.some_of {R:D->V->Prop}{d:D}{q:Option V}(h:RO R (some d) q):∃u,q=some u/\R d u:=by
 cases q with
 |none=>exact h.elim
 |some u=>exact⟨u,rfl,h⟩
theorem RO.none_of {R:D->V->Prop}{q:Option V}(h:RO R none q):q=none:=by
 cases q with
 |none=>rfl
 |some u=>exact h.elim
theorem Nh {κ:Type}[DecidableEq κ]{R:D->V->Prop}{k:κ}:∀{ks:List κ} {ds:List D} {vs:List V},Pr R ds vs->RO R (iX ks ds k) (ik (ks.zip vs) k)
 |[],_,_,_=>by simp[iX,ik,RO]
 |_::_,_,_,.nil=>by simp[iX,ik,RO]
 |y::ks,d::ds,v::vs,.cons h t=>by
  by_cases e:y=k
  ·have h1:iX (y::ks) (d::ds) k=some d:=by simp[iX,cZ,e]
   have h2:ik ((y::ks).zip (v::vs)) k=some v:=by simp[ik,cZ,e]
   rw[h1,h2]
   exact h
  ·have h1:iX (y::ks) (d::ds) k=iX ks ds k:=by simp[iX,cZ,e]
   have h2:ik ((y::ks).zip (v::vs)) k=ik (ks.zip vs) k:=by simp[ik,cZ,e]
   rw[h1,h2]
   exact Nh t
theorem JH {F G:Hp}{d:D}{v:V}{k:eR}(e:uT d=some k)(h:Al K ct F G n d v):v=kV k:=by
 cases d with
 |int i=>cases e;exact h.int
 |str i=>cases e;exact h.str
 |_=>cases e
theorem Js {F G:Hp}:∀{ds:List D} {vs:List V} {ks:List eR},oZ ds=some ks->Pr (Al K ct F G n) ds vs->vs=ks.map kV
 |[],_,_,e,.nil=>by cases e;rfl
 |d::ds,_,_,e,.cons h t=>by
  unfold oZ at e
  obtain⟨k,ks,h1,h2,h3⟩:=cQ e
  cases h3
  rw[JH h1 h,Js h2 t];rfl
def hZ (o y:D):Option (Option D):=match o with
 |.dK ks ds=>(uT y).bind λk=>some (iX ks ds k)
 |.dT ks ds=>(match y with|.tup ys=>(oZ ys).bind λk=>some (iX ks ds k)|_=>none)
 |_=>none
theorem ND {F G:Hp}{o y:D}{x v:V}(s:bT F G)(l1:Al K ct F G n o x)(l2:Al K ct F G m y v){r:Option D}(e:hZ o y=some r) :
  ∃a q,x=.ref a/\ka G a v q/\Tz G a/\RO (Al K ct F G (n-1)) r q:=by
 cases o with
 |dK ks ds=>
  obtain⟨a,vs,rfl,ha,hl,hp⟩:=l1.dK s
  obtain⟨k,h1,h2⟩:=aJ e
  cases h2
  have hv:=JH h1 l2
  subst hv
  exact⟨a,_,rfl,ka.k ha,.inl ⟨_,.inl ha⟩,Nh hp⟩
 |dT ks ds=>
  obtain⟨a,vs,rfl,ha,hl,hp⟩:=l1.dT s
  cases y with
  |tup ys=>
   obtain⟨k,h1,h2⟩:=aJ e
   cases h2
   obtain⟨b,us,rfl,hb,ED⟩:=l2.tup s
   have hv:=Js h1 ED
   subst hv
   exact⟨a,_,rfl,ka.t ha hb,.inr ⟨_,.inl ha⟩,Nh hp⟩
  |_=>cases e
 |_=>cases e
def cH:D->D->Option D
 |.lst ds,.int i=>atI ds i
 |.tup ds,.int i=>atI ds i
 |.str x,.int i=>if x.length<=16777216 then(atI x.cps.toList i).bind λc=>some (.str ⟨#[c]⟩)else none
 |_,_=>none
theorem wo:kI K ct n m (n-1) (IH K) cH:=by
 intro F H x y d1 d2 d Q s l1 l2 e w
 cases d1 with
 |lst ds=>
  cases d2 with
  |int i=>
   obtain⟨a,vs,rfl,ha,hp⟩:=l1.lst s
   obtain⟨v,h1,h2⟩:=hp.atI e
   exact .inl ⟨a,vs,i,v,rfl,l2.int,ha,h1,w v F H (.refl s) h2⟩
  |_=>cases e
 |tup ds=>
  cases d2 with
  |int i=>
   obtain⟨a,vs,rfl,ha,hp⟩:=l1.tup s
   obtain⟨v,h1,h2⟩:=hp.atI e
   exact .inr (.inl ⟨a,vs,i,v,rfl,l2.int,kJ.of ha,h1,w v F H (.refl s) h2⟩)
  |_=>cases e
 |str z=>
  cases d2 with
  |int i=>
   unfold cH at e
   dsimp only at e
   by_cases h:z.length<=16777216
   ·rw[if_pos h]at e
    obtain⟨c,h1,h2⟩:=aJ e
    cases h2
    exact .inr (.inr ⟨z,i,c,l1.str,l2.int,by rw[cy];exact h,h1,w _ F H (.refl s) (Al.of (.str _))⟩)
   ·rw[if_neg h]at e;cases e
  |_=>cases e
 |_=>cases e
theorem NX {ms:List Mo}{a b:Expr}{f g:EF}{pos:cY}(hu:X.A.units+1<gK)(ha:XE X ct ms n a f)(hb:XE X ct ms m b g)(hs:xD b):XE X ct ms (n-1) (.Subscript a b pos) (λρ=>(f ρ).bind λx=>(g ρ).bind λy=>(hZ x y).join):=by
 obtain⟨ta,tb,pa,pb,q⟩:=ha.bin hb
 refine⟨_,zqj hu pa pb hs,λF0 B F H ρ σ d Q rs e w=>?_⟩
 obtain⟨d1,d2,h1,h2,h3⟩:=cQ e
 refine q F0 B F H ρ σ d1 d2 _ rs h1 h2 λx y F' H' x1 l1 l2=>?_
 obtain⟨a,o,rfl,g,_,h⟩:=ND (r:=some d) x1.fh l1 l2 (zu h3)
 obtain⟨u,rfl,EN⟩:=h.some_of
 exact⟨a,u,rfl,g,w u F' H' x1 EN⟩
def rF:D->D->Bool
 |.non,.non=>true
 |.bl a,.bl b=>a==b
 |.bl a,.int b=>(if a then 1 else 0)==b
 |.int a,.bl b=>a==(if b then 1 else 0)
 |.int a,.int b=>a==b
 |.str a,.str b=>a==b
 |_,_=>false
theorem SH {x y:D}(hx:x.sc=true)(hy:y.sc=true):rG x.v y.v=rF x y:=by
 cases x<;>first|cases hx;done|(cases y<;>first|cases hy;done|rfl)
def wH (x:D)(ds:List D):Bool:=ds.any λy=>rF y x
theorem Oa {x:D}(hx:x.sc=true):∀{ds:List D},ds.all D.sc=true->Iy x.v (ds.map D.v)=wH x ds
 |[],_=>rfl
 |d::ds,h=>by
  rw[dE,bE]at h
  have ih:=Oa hx h.2
  unfold Iy wH at ih ⊢
  rw[aO,eD,eD,ih,SH h.1 hx]
theorem Je:∀{ds:List D},ds.all D.sc=true->(ds.map D.v).all ie=true
 |[],_=>rfl
 |d::ds,h=>by
  rw[dE,bE]at h
  rw[aO,dE,D.flat h.1,Je h.2];rfl
def inD (neg:Bool)(x y:D):Option D:=match y with
 |.lst ds=>if x.sc=true/\ds.all D.sc=true then some (.bl (if neg then !wH x ds else wH x ds))else none
 |.tup ds=>if x.sc=true/\ds.all D.sc=true then some (.bl (if neg then !wH x ds else wH x ds))else none
 |_=>none
theorem NY {neg:Bool}:kI K ct n m k (PH K neg) (inD neg):=by
 intro F H x y d1 d2 d Q s l1 l2 e w
 cases d2 with
 |lst ds=>
  unfold inD at e
  dsimp only at e
  by_cases h:d1.sc=true/\ds.all D.sc=true
  ·rw[if_pos h]at e
   cases e
   obtain⟨a,vs,rfl,ha,hp⟩:=l2.lst s
   have hv:=hp.vs h.2
   subst hv
   have hx:=Al.v l1 h.1
   subst hx
   refine⟨a,_,rfl,.inl ha,D.flat h.1,Je h.2,?_⟩
   rw[Oa h.1 h.2]
   exact w _ F H (.refl s) (Al.of (.bl _))
  ·rw[if_neg h]at e;cases e
 |tup ds=>
  unfold inD at e
  dsimp only at e
  by_cases h:d1.sc=true/\ds.all D.sc=true
  ·rw[if_pos h]at e
   cases e
   obtain⟨a,vs,rfl,ha,hp⟩:=l2.tup s
   have hv:=hp.vs h.2
   subst hv
   have hx:=Al.v l1 h.1
   subst hx
   refine⟨a,_,rfl,.inr (kJ.of ha),D.flat h.1,Je h.2,?_⟩
   rw[Oa h.1 h.2]
   exact w _ F H (.refl s) (Al.of (.bl _))
  ·rw[if_neg h]at e;cases e
 |_=>cases e
def dg:List D->Option D
 |[.lst ds]=>some (.int ds.length)
 |[.tup ds]=>some (.int ds.length)
 |[.dK ks _]=>some (.int ks.length)
 |[.str x]=>if x.length<=16777216 then some (.int x.length)else none
 |_=>none
def G0 (K:aa):List V->Hp->VK->Prop:=λxs H Q=>(∃p ys,xs=[.ref p]/\(e5 K H p ys\/kJ K H p ys)/\Q (.int ys.length) H)\/(∃z,xs=[.str z]/\z.length<=sizeLine/\Q (.int z.length) H)\/∃a cE,xs=[V.ref a]/\H a=some (.dK cE)/\Q (.int cE.length) H
theorem zlh:et X (.builtin "len") (G0 X.K):=Zc.or (Zd.or ZR)
theorem zqu:uI K ct [n] k (G0 K) dg:=by
 intro F H vs ds d Q s l e w
 cases l with
 |cons h t=>
  cases t
  rename_i d1 v
  cases d1 with
  |lst xs=>
   cases e
   obtain⟨a,us,rfl,ha,hp⟩:=h.lst s
   refine .inl ⟨a,us,rfl,.inl ha,?_⟩
   rw[←hp.length]
   exact w _ F H (.refl s) (Al.of (.int _))
  |tup xs=>
   cases e
   obtain⟨a,us,rfl,ha,hp⟩:=h.tup s
   refine .inl ⟨a,us,rfl,.inr (kJ.of ha),?_⟩
   rw[←hp.length]
   exact w _ F H (.refl s) (Al.of (.int _))
  |str x=>
   unfold dg at e
   dsimp only at e
   by_cases hz:x.length<=16777216
   ·rw[if_pos hz]at e
    cases e
    exact .inr (.inl ⟨x,by rw[h.str],by rw[cy];exact hz,w _ F H (.refl s) (Al.of (.int _))⟩)
   ·rw[if_neg hz]at e;cases e
  |dK ks xs=>
   cases e
   obtain⟨a,us,rfl,ha,hl,hp⟩:=h.dK s
   refine .inr (.inr ⟨a,_,rfl,ha,?_⟩)
   rw[eA,←hl,gJ]
   exact w _ F H (.refl s) (Al.of (.int _))
  |_=>cases e
end
end L3
namespace L3
open PySem PySem.Spec L2
open PyProof.Rows hiding St
section
variable {ct:Nat->ah}{K:aa}
theorem zu3 {ι:Type}{Xs:ι->Cx}{ms:List Mo}{n:Nat}{e:Expr}{f:EF}(hK:∀i,(Xs i).K=K)(h:∀i,XO (Xs i) ct ms n e f):∃t,(∀i,PE (Xs i) e t)/\∀(F0 B F H:Hp) (ρ:Env) (σ:St) (d:D) (Q:VK),RS K ct F0 B ms F H ρ σ->f ρ=some d ->
  (∀v F' H' fp,fq F H F' H'->Ow K ct F' H' n d v fp->fp.Nodup->(∀a∈fp,H a=none)->Q v H')->t σ H Q:=by
 refine⟨λσ H Q=>∀i,(h i).choose σ H Q,λi ai s σ H Q I q=>(h i).choose_spec.1 ai s σ H Q I (q i),λF0 B F H ρ σ d Q rs e w i=>?_⟩
 exact(h i).choose_spec.2 F0 B F H ρ σ d Q (by rw[hK i];exact rs) e λv F' H' fp x l=>w v F' H' fp x (by rw[←hK i];exact l)
def xJ (X:Cx)(ct:Nat->ah)(ms:List Mo)(ifs:List Expr)(f:BF):Prop:=∃t,vS X ifs t/\∀(F0 B F H:Hp) (ρ:Env) (σ:St) (b:Bool) (Q:Bool->Hp->Prop),RS X.K ct F0 B ms F H ρ σ->f ρ=some b->(∀F' H',fq F H F' H'->Q b H')->t σ H Q
def e9:BF:=λ_=>some true
theorem uu {X:Cx}{ms:List Mo}:xJ X ct ms [] e9:=⟨_,zqk,λF0 B F H ρ σ b Q rs e w=>by cases e;exact w F H (.refl rs.fh)⟩
theorem Hw {X:Cx}{ms:List Mo}{c:Expr}{p:BF}(h:XT X ct ms c p):xJ X ct ms [c] p:=by
 obtain⟨t,pt,qt⟩:=h
 exact⟨t,zql pt,qt⟩
theorem zu4 {ι:Type}{Xs:ι->Cx}{ms:List Mo}{ifs:List Expr}{f:BF}(hK:∀i,(Xs i).K=K)(h:∀i,xJ (Xs i) ct ms ifs f):∃t,(∀i,vS (Xs i) ifs t)/\∀(F0 B F H:Hp) (ρ:Env) (σ:St) (b:Bool) (Q:Bool->Hp->Prop),RS K ct F0 B ms F H ρ σ->f ρ=some b ->
  (∀F' H',fq F H F' H'->Q b H')->t σ H Q:=by
 refine⟨λσ H Q=>∀i,(h i).choose σ H Q,λi ai s σ H Q I q=>(h i).choose_spec.1 ai s σ H Q I (q i),λF0 B F H ρ σ d Q rs e w i=>?_⟩
 exact(h i).choose_spec.2 F0 B F H ρ σ d Q (by rw[hK i];exact rs) e w
def FQ {α:Type}(g:α->St->Hp->(St->Hp->Prop)->Prop):Prop:=∀v σ H Q Q',(∀σ' H',Q σ' H'->Q' σ' H')->g v σ H Q->g v σ H Q'
def xI (X:Cx)(ct:Nat->ah)(ms:List Mo)(own n:Nat)(tg:Expr)(g:D->Env->Option Env):Prop:=∃t,PG X tg t/\fU own t/\FQ t/\∀(F0 B F H:Hp) (ρ ρ':Env) (σ:St) (d:D) (v:V) (Q:St->Hp->Prop),RS X.K ct F0 B ms F H ρ σ->Al X.K ct F B n d v->g d ρ=some ρ' ->
 (∀σ',RS X.K ct F0 B ms F H ρ' σ'->Q σ' H)->t v σ H Q
theorem zu5 {ι:Type}{Xs:ι->Cx}{ms:List Mo}{own n:Nat}{tg:Expr}{g:D->Env->Option Env}(hK:∀i,(Xs i).K=K)(h:∀i,xI (Xs i) ct ms own n tg g):∃t,(∀i,PG (Xs i) tg t)/\fU own t/\∀(F0 B F H:Hp) (ρ ρ':Env) (σ:St) (d:D) (v:V) (Q:St->Hp->Prop),RS K ct F0 B ms F H ρ σ->Al K ct F B n d v->g d ρ=some ρ' ->
  (∀σ',RS K ct F0 B ms F H ρ' σ'->Q σ' H)->t v σ H Q:=by
 refine⟨λv σ H Q=>∀i,(h i).choose v σ H Q,λi ai s σ H v u Q I r q=>(h i).choose_spec.1 ai s σ H v u Q I r (q i),λv σ H Q q i=>(h i).choose_spec.2.1 v σ H Q (q i),λF0 B F H ρ ρ' σ d v Q rs l e w i=>?_⟩
 exact(h i).choose_spec.2.2.2 F0 B F H ρ ρ' σ d v Q (by rw[hK i];exact rs) (by rw[hK i];exact l) e λσ' r=>w σ' (by rw[←hK i];exact r)
theorem znl {X:Cx}{ms:List Mo}{own i:Nat}{x:aQ}{pos:cY}(ho:i<own)(hm:ms[i]?=some (.ow 0))(hN:X.N.Nodup)(hi:X.N[i]?=some x)(hx:Loc X.env.scope x)
  (hf:X.fn x=true\/X.env.scope.names.lookup x=some .local:=by first|exact .inl rfl|exact .inr rfl|assumption):xI X ct ms own 0 (.Name x pos) (gV i):=by
 refine⟨_,Nz hN hi hx hf,ZO i own ho,λv σ H Q Q' m q=>m _ _ q,λF0 B F H ρ ρ' σ d v Q rs l e w=>?_⟩
 cases e
 exact w _ (rs.set hm (.refl rs.fh) (Ow.zero l) bA λa z=>(by cases z))
def fF (ρ:Env)(cap:List Nat):Env:=cap.map λi=>(ρ[i]?).join
def gH (ms:List Mo)(cap:List Nat):List Mo:=cap.map λi=>.al (((ms[i]?).map Mo.lv).getD 0)
def nE (g:D->Env->Option Env)(p:BF)(f:EF)(ρ0:Env):List D->Option (List D)
 |[]=>some []
 |d::ds=>(g d ρ0).bind λρ1=>(p ρ1).bind λb=>if b=true then(f ρ1).bind λy=>(nE g p f ρ0 ds).bind λys=>some (y::ys)else nE g p f ρ0 ds
def d5 (fi:Env->Option (List D))(own:Nat)(cap:List Nat)(g:D->Env->Option Env)(p:BF)(f:EF):EF:=λρ=>(fi ρ).bind λds=>if ds.length<=16777216 then(nE g p f (az own none++fF ρ cap) ds).bind λys=>some (.lst ys)else none
theorem SL.caps {F B H:Hp}{ms:List Mo}{ρ:Env}{σ:St}(rs:RS K ct F0 B ms F H ρ σ):∀{cap:List Nat},(∀i∈cap,i<ms.length)->SL K ct F H H (gH ms cap) (fF ρ cap) (fS σ cap) []
 |[],_=>.nil
 |i::cap,h=>by
  have ih:=SL.caps rs (cap:=cap) λj hj=>h j (aj _ hj)
  have hi:i<ms.length:=h i af
  have hm:ms[i]?=some ms[i]:=by simp[hi]
  show SL K ct F H H (.al (((ms[i]?).map Mo.lv).getD 0)::gH ms cap) ((ρ[i]?).join::fF ρ cap) ((σ[i]?).join::fS σ cap) []
  cases e:(ρ[i]?).join with
  |none=>exact .no ih
  |some d=>
   obtain⟨v,hv,l⟩:=rs.get hm (zu e)
   rw[hv,hm]
   exact .al l ih
theorem SL.nones {F B H:Hp}{ms L7:List Mo}{ρ:Env}{σ:St}{fp:List ah}(t:SL K ct F B H ms ρ σ fp):∀{om:List Mo},SL K ct F B H (om++ms) (az om.length none ++ ρ) (az om.length none ++ σ) fp
 |[]=>t
 |m::om=>.no (SL.nones (L7:=L7) t)
theorem Ro {X:Cx}{ms om:List Mo}{n k:Nat}{jB iter tg:Expr}{ifs:List Expr}{scope:fQ}{pos:cY}{N:List aQ}{own:Nat}{cap:List Nat}{fi:Env->Option (List D)}{gg:D->Env->Option Env}{p:BF}{f:EF}
  (B:jZ X scope N own cap) (hc:X.calm=true) (ho:om.length=own) (gz:∀i∈cap,i<ms.length) (hi:Be X ct ms n tg iter fi)
  (hg:∀cl C fp s₀ H₀,xI (iw X scope cl N C fp s₀ H₀) ct (om++gH ms cap) own n tg gg) (ht:∀cl C fp s₀ H₀,xJ (iw X scope cl N C fp s₀ H₀) ct (om++gH ms cap) ifs p) (he:∀cl C fp s₀ H₀,XO (iw X scope cl N C fp s₀ H₀) ct (om++gH ms cap) k jB f)
  :
  ∃wi g tt te,PI X tg iter wi/\fU own g/\(∀cl C fp s₀ H₀,PG (iw X scope cl N C fp s₀ H₀) tg g)/\(∀cl C fp s₀ H₀,vS (iw X scope cl N C fp s₀ H₀) ifs tt)/\(∀cl C fp s₀ H₀,PE (iw X scope cl N C fp s₀ H₀) jB te) /\
   ∀(F0 B F H:Hp) (ρ:Env) (σ:St) (d:D) (Q:VK),RS X.K ct F0 B ms F H ρ σ->d5 fi own cap gg p f ρ=some d->(∀v F' H' fp,fq F H F' H'->Ow X.K ct F' H' (k+1) d v fp->fp.Nodup->(∀a∈fp,H a=none)->Q v H')->qR wi own cap g tt te σ H Q:=by
 obtain⟨wi,pi,qi⟩:=hi
 obtain⟨PU,pg,kg,qg⟩:=zu5 (K:=X.K) (Xs:=λz:List (aQ×ah)×ah×List ah×am×Hp=>iw X scope z.1 N z.2.1 z.2.2.1 z.2.2.2.1 z.2.2.2.2) (λ_=>rfl) (λz=>hg z.1 z.2.1 z.2.2.1 z.2.2.2.1 z.2.2.2.2)
 obtain⟨tt,pt,qt⟩:=zu4 (K:=X.K) (Xs:=λz:List (aQ×ah)×ah×List ah×am×Hp=>iw X scope z.1 N z.2.1 z.2.2.1 z.2.2.2.1 z.2.2.2.2) (λ_=>rfl) (λz=>ht z.1 z.2.1 z.2.2.1 z.2.2.2.1 z.2.2.2.2)
 obtain⟨te,pe,qe⟩:=zu3 (K:=X.K) (Xs:=λz:List (aQ×ah)×ah×List ah×am×Hp=>iw X scope z.1 N z.2.1 z.2.2.1 z.2.2.2.1 z.2.2.2.2) (λ_=>rfl) (λz=>he z.1 z.2.1 z.2.2.1 z.2.2.2.1 z.2.2.2.2)
 refine⟨wi,PU,tt,te,pi,kg,(λcl C fp s₀ H₀=>pg (cl,C,fp,s₀,H₀)),(λcl C fp s₀ H₀=>pt (cl,C,fp,s₀,H₀)),(λcl C fp s₀ H₀=>pe (cl,C,fp,s₀,H₀)),λF0 B F H ρ σ r Q rs e w=>?_⟩
 obtain⟨ds,h1,h2⟩:=aJ e
 by_cases hz:ds.length<=16777216
 case neg=>rw[if_neg hz]at h2;cases h2
 rw[if_pos hz]at h2
 obtain⟨ys,h3,h4⟩:=aJ h2
 cases h4
 refine qi F0 B F H ρ σ ds _ rs h1 λJ F1 H1 x1 ok A hA=>?_
 have iO:=rs.ext x1
 refine⟨λi m us H2=>m=ds.length-i/\i<=ds.length/\us.length<=i/\H2 A=some (.lst us)/\∃F2 yd zd fp,fq F1 H1 F2 H2/\F2 A=none/\OwL (Ow X.K ct F2 H2 k) yd us fp/\fp.Nodup/\(∀a∈fp,H1 a=none/\a≠A)/\nE gg p f (az own none++fF ρ cap) (ds.drop i)=some zd/\yd++zd=ys,
  ⟨ds.length,rfl,de _,aM _,yt,F1,[],ys,[],fq.newO x1.fh hA _,x1.fh.free hA,.nil,bA,λa z=>(by cases z),h3,rfl⟩,?_⟩
 rintro i m us H2 ⟨rfl,Bn,O8,Ii,F2,yd,zd,fp,x2,fA,ol,nd,hf,gA,Iw⟩
 refine⟨Ii,?_⟩
 have tK:=iO.ext x2
 obtain⟨k1,k2⟩:=ok i F2 H2 x2.ff x2.hh x2.fh
 by_cases mQ:i<ds.length
 ·right
  have hd:ds[i]?=some ds[i]:=by simp[mQ]
  obtain⟨go,yl⟩:=k1 _ hd
  rw[nu mQ]at gA
  obtain⟨ρ1,h5,h6⟩:=aJ gA
  obtain⟨b,h7,h8⟩:=aJ h6
  refine⟨go,by rw[cy];omega,λx H3 y=>?_⟩
  obtain⟨F3,x3,l⟩:=yl x H3 y
  have Xe:=tK.ext x3
  have sl:=SL.nones (L7:=[]) (SL.caps Xe gz) (om:=om)
  rw[ho]at sl
  have Xf:RS X.K ct F3 H3 (om++gH ms cap) F3 H3 (az own none++fF ρ cap) (az own none++fS σ cap):=⟨.refl _,.refl _,x3.fh,λ_ _ _ h=>h,[],sl,bA,λa z=>(by cases z)⟩
  have A3:H3 A=some (.lst us):=x3.hh _ _ Ii
  have ON:F3 A=none:=x3.nf A _ Ii fA
  refine qg F3 H3 F3 H3 _ ρ1 _ _ x _ Xf (l.mono (.refl _) (x2.trans x3).hh) h5 λσ1 r1=>?_
  refine qt F3 H3 F3 H3 ρ1 σ1 b _ r1 h7 λF4 H4 x4=>?_
  cases b with
  |false=>
   rw[if_neg aK]at h8 ⊢
   have PY:=x3.trans x4
   refine⟨ds.length-(i+1),by omega,rfl,mQ,by omega,x4.hh _ _ A3,F4,yd,zd,fp,x2.trans PY,x4.nf A _ A3 ON,ol.mono λ_ _ _ _ o=>o.ext PY,nd,hf,h8,Iw⟩
  |true=>
   rw[if_pos rfl]at h8 ⊢
   obtain⟨yv,h9,UK⟩:=aJ h8
   obtain⟨zs,UL,UM⟩:=aJ UK
   cases UM
   refine qe F3 H3 F4 H4 ρ1 σ1 yv _ (r1.ext x4) h9 λv F5 H5 f5 x5 o5 n5 Lw=>?_
   have MK:=(x3.trans x4).trans x5
   have PZ:=x4.trans x5
   have A5:H5 A=some (.lst us):=PZ.hh _ _ A3
   have OO:F5 A=none:=PZ.nf A _ A3 ON
   have A4:H4 A=some (.lst us):=x4.hh _ _ A3
   have OP:∀a∈f5,a≠A:=λa z e=>by rw[e]at z;rw[Lw A z]at A4;cases A4
   refine⟨A5,ds.length-(i+1),by omega,rfl,mQ,by rw[bg,cN];omega,yt,F5,yd++[yv],zs,fp++(f5++[]),?_,OO,?_,?_,?_,UL,by rw[d8];exact Iw⟩
   ·have IR:=x2.trans MK
    refine⟨IR.ff,λa o h=>?_,λa o h=>?_,IR.nf⟩
    ·rw[ym (x8 h hA)];exact IR.hh _ _ h
    ·rw[ym (λz=>by rw[z]at h;rw[OO]at h;cases h)];exact IR.fh _ _ h
   ·refine(ol.mono λ_ _ f Vc o=>?_).append (.cons ?_ .nil)
    ·refine(o.ext MK).frame (.refl _) λa z=>⟨ym (hf a (Vc a z)).2,((o.ext MK).cells a z).1⟩
    ·exact o5.frame (.refl _) λa z=>⟨ym (OP a z),(o5.cells a z).1⟩
   ·rw[cz]
    refine aW.mpr ⟨nd,n5,λa z c hc e=>?_⟩
    subst e
    have:∃o,H2 a=some o:=(OwL.cellsOf ol a z).2
    obtain⟨o,ho⟩:=this
    have:=x4.hh _ _ (x3.hh _ _ ho)
    rw[Lw a hc]at this
    cases this
   ·intro a z
    rw[cz]at z
    rcases aY.mp z with z|z
    ·exact hf a z
    ·refine⟨?_,OP a z⟩
     have Yt:=x2.trans (x3.trans x4)
     exact Yt.hh.free (Lw a z)
 ·left
  refine⟨k2 (by omega),?_⟩
  have:ds.drop i=[]:=oK (by omega)
  rw[this]at gA
  cases gA
  rw[cz]at Iw
  subst Iw
  refine w _ F2 H2 (A::fp) (x1.trans x2) (.inr (.lst fA Ii ol)) (bv.mpr ⟨λz=>(hf A z).2 rfl,nd⟩) λa z=>?_
  rcases aF.mp z with rfl|z
  ·exact x1.hh.free hA
  ·exact x1.hh.free (hf a z).1
theorem zqv {X:Cx}{ms om:List Mo}{n k:Nat}{jB iter tg:Expr}{ifs:List Expr}{scope:fQ}{pos:cY}{N:List aQ}{own:Nat}{cap:List Nat}{fi:Env->Option (List D)}{gg:D->Env->Option Env}{p:BF}{f:EF}
  (B:jZ X scope N own cap) (hc:X.calm=true) (ho:om.length=own) (gz:∀i∈cap,i<ms.length) (hi:Be X ct ms n tg iter fi)
  (hg:∀cl C fp s₀ H₀,xI (iw X scope cl N C fp s₀ H₀) ct (om++gH ms cap) own n tg gg) (ht:∀cl C fp s₀ H₀,xJ (iw X scope cl N C fp s₀ H₀) ct (om++gH ms cap) ifs p) (he:∀cl C fp s₀ H₀,XO (iw X scope cl N C fp s₀ H₀) ct (om++gH ms cap) k jB f)
  (hs:∀x,dP iter X.env x=pure x:=by intro _;rfl):XO X ct ms (k+1) (.ListComp jB [⟨tg,iter,ifs,0⟩] scope pos) (d5 fi own cap gg p f):=by
 obtain⟨wi,g,tt,te,pi,kg,pg,pt,pe,q⟩:=Ro (k:=k) (pos:=pos) B hc ho gz hi hg ht he
 exact⟨_,zqm B hc pi kg pg pt pe hs,q⟩
end
end L3
namespace L3
open PySem PySem.Spec L2
open PyProof.Rows hiding St
section
variable {X:Cx}{ct:Nat->ah}{ms:List Mo}{rk n m k:Nat}{st:bP}{rest:List bP}{a b c e tg:Expr}{f g h:EF}{p q:BF}{u w:SF}{pos:cY}
def HV:D->Option (List D)
 |.lst ds=>some ds
 |_=>none
theorem Rp {d:D}{ds:List D}(h:HV d=some ds):d=.lst ds:=by cases d<;>simp[HV]at h;subst h;rfl
def lsD (f:EF):Env->Option (List D):=λρ=>(f ρ).bind HV
theorem Sn {K:aa}{F B G:Hp}{a:ah}{vs:List V}{ds:List D}(hp:Pr (Al K ct F B n) ds vs)(keep:∀F' H',bT F F'->bT B H'->bT F' H'->e5 K H' a vs):sK K ct F B n (JR K a) ds:=by
 intro i F' H' s1 s2 s3
 have hs:e5 K H' a vs:=keep F' H' s1 s2 s3
 refine⟨λd hd=>?_,λhl=>⟨vs,hs,by rw[←hp.length];exact hl⟩⟩
 obtain⟨v,hv,l⟩:=hp.get' hd
 refine⟨⟨vs,v,hs,hv⟩,λx H2 y=>?_⟩
 obtain⟨e,y⟩:=y
 subst e
 have:=y vs hs
 rw[hv]at this
 cases this
 exact⟨F',.refl s3,l.mono s1 (.refl _)⟩
theorem Dt.lst_inv {K:aa}{F:Hp}{ds:List D}{v:V}(h:Dt K ct F (.lst ds) v):∃a vs,v=.ref a/\e5 K F a vs/\Dts K ct F ds vs:=by
 cases h with
 |lst q t=>exact⟨_,_,rfl,q,t⟩
theorem Hx (he:XE X ct ms 0 e f):XI X ct ms 0 tg e (lsD f):=by
 obtain⟨t,pt,qt⟩:=he
 refine⟨_,RE pt,λF0 B F H ρ σ ds R rs e w=>?_⟩
 obtain⟨d,h1,h2⟩:=aJ e
 rw[Rp h2]at h1
 refine qt F0 B F H ρ σ _ _ rs h1 λv F' H' x l=>?_
 obtain⟨a,vs,rfl,ha,hp⟩:=Dt.lst_inv l
 exact⟨a,rfl,⟨vs,x.fh.seq ha⟩,w _ F' H' x (Sn (G:=H') (n:=0) (hp.pr) λF2 H2 s1 s2 s3=>s3.seq (s1.seq ha))⟩
theorem vc (he:XE X ct ms n e f):Be X ct ms (n-1) tg e (lsD f):=by
 obtain⟨t,pt,qt⟩:=he
 refine⟨_,RE pt,λF0 B F H ρ σ ds R rs e w=>?_⟩
 obtain⟨d,h1,h2⟩:=aJ e
 rw[Rp h2]at h1
 refine qt F0 B F H ρ σ _ _ rs h1 λv F' H' x l=>?_
 obtain⟨a,vs,rfl,ha,hp⟩:=l.lst x.fh
 exact⟨a,rfl,⟨vs,ha⟩,w _ F' H' x (Sn (G:=H') hp λF2 H2 s1 s2 s3=>s2.seq ha)⟩
theorem XI.cc {fi:Env->Option (List D)}(h:XI X ct ms n tg e fi):Be X ct ms n tg e fi:=by
 obtain⟨t,pt,qt⟩:=h
 refine⟨t,pt,λF0 B F H ρ σ ds R rs e w=>qt F0 B F H ρ σ ds R rs e λJ F' H' x ok=>w J F' H' x λi F2 H2 s1 s2 s3=>?_⟩
 obtain⟨k1,k2⟩:=ok i F2 H2 s1 ((rs.ext x).bh.trans s2) s3
 refine⟨λd hd=>?_,k2⟩
 obtain⟨go,yl⟩:=k1 d hd
 refine⟨go,λv H3 y=>?_⟩
 obtain⟨F3,x3,l⟩:=yl v H3 y
 exact⟨F3,x3,l.mono (.refl _) (rs.ext x).bh⟩
theorem SL.getA {K:aa}{F B H:Hp}{ms:List Mo}{ρ:Env}{σ:St}{fp:List ah}{i:Nat}{d:D}(h0:SL K ct F B H ms ρ σ fp):ms[i]?=some (.al n)->ρ[i]?=some (some d)->∃v,σ[i]?=some (some v)/\Al K ct F B n d v:=by
 induction h0 generalizing i with
 |nil=>
  intro e _
  simp at e
 |@no m0 o0 ms ρ σ fp t ih=>
  intro e e'
  cases i with
  |zero=>
   have e:=e'
   simp at e
  |succ i=>
   simpa using ih (i:=i) (by simpa using e) (by simpa using e')
 |@al n0 d0 v0 ms ρ σ fp h t ih=>
  intro e e'
  cases i with
  |zero=>
   simp at e e';subst e;subst e';exact⟨_,rfl,h⟩
  |succ i=>
   simpa using ih (i:=i) (by simpa using e) (by simpa using e')
 |@px d0 v0 ms ρ σ fp h t ih=>
  intro e e'
  cases i with
  |zero=>
   simp at e
  |succ i=>
   simpa using ih (i:=i) (by simpa using e) (by simpa using e')
 |@so d0 x0 ms ρ σ zD h t ih=>
  intro e e'
  cases i with
  |zero=>
   simp at e
  |succ i=>
   simpa using ih (i:=i) (by simpa using e) (by simpa using e')
 |@ow n0 d0 v0 ms ρ σ f0 zD h t ih=>
  intro e e'
  cases i with
  |zero=>
   simp at e
  |succ i=>
   simpa using ih (i:=i) (by simpa using e) (by simpa using e')
def eE (lo:Int)(j:Nat):List D:=(ax j).map λ(t:Nat)=>.int (lo+(t:Int))
def iE:List D->Option (List D)
 |[.int j]=>if -4611686018427387904<=j/\j<4611686018427387904 then some (eE 0 j.toNat)else none
 |_=>none
theorem ztn {K:aa}{F B:Hp}{lo:Int}{j:Nat}:sK K ct F B n (HM lo j) (eE lo j):=by
 intro i F' H' s1 s2 s3
 unfold eE
 refine⟨λd hd=>?_,λhl=>(show j<=i by simpa using hl)⟩
 rw[aX]at hd
 by_cases h:i<j
 ·rw[jJ h]at hd
  cases hd
  refine⟨h,λx H2 y=>?_⟩
  obtain⟨e,y⟩:=y
  subst e
  subst y
  exact⟨F',.refl s3,Al.of (.int _)⟩
 ·rw[dS (by simpa using h)]at hd
  cases hd
theorem jk {fs:Env->Option (List D)}{pp:cY}(hm:X.mg "range"=none)(ha:XA X ct ms [a] [m] fs)(hg:Gl X "range":=by rfl)(hs:aq [a] X.env=[(false,bJ a X.env)]:=by rfl):XI X ct ms n tg (.Call (.Name "range" pp) [a] [] pos) (λρ=>(fs ρ).bind iE):=by
 obtain⟨t,pt,_,qt⟩:=ha
 refine⟨_,Z1 hg hm pt hs,λF0 B F H ρ σ ds R rs e w=>?_⟩
 obtain⟨kj,h1,h2⟩:=aJ e
 refine qt F0 B F H ρ σ _ _ rs h1 λvs F' H' x l=>?_
 cases l with
 |cons h t=>
  cases t
  rename_i d v
  cases d with
  |int j=>
   unfold iE at h2
   dsimp only at h2
   by_cases hj:-4611686018427387904<=j/\j<4611686018427387904
   ·rw[if_pos hj]at h2
    cases h2
    exact⟨j,by rw[h.int],by omega,by omega,w _ F' H' x ztn⟩
   ·rw[if_neg hj]at h2;cases h2
  |_=>cases h2
def iW (i:Nat):List D->List D
 |[]=>[]
 |d::ds=>.tup [.int i,d]::iW (i+1) ds
theorem M6:∀{ds:List D} {j i:Nat} {d:D},(iW j ds)[i]?=some d->∃x,ds[i]?=some x/\d=.tup [.int (j+i:Nat),x]
 |[],_,_,_,h=>by simp[iW]at h
 |x::ds,j,0,d,h=>by simp[iW]at h;subst h;exact⟨x,rfl,rfl⟩
 |x::ds,j,i+1,d,h=>by
  obtain⟨y,h1,h2⟩:=M6 (ds:=ds) (j:=j+1) (i:=i) (d:=d) (by simpa[iW]using h)
  exact⟨y,by simpa using h1,by rw[h2,Nat.add_assoc,Nat.add_comm 1 i]⟩
theorem QT:∀{ds:List D} {j:Nat},(iW j ds).length=ds.length
 |[],_=>rfl
 |_::ds,j=>by simp[iW,QT (ds:=ds)]
theorem zto {K:aa}{F B:Hp}{a:ah}{vs:List V}{ds:List D}(hp:Pr (Al K ct F B n) ds vs)(keep:∀F' H',bT F F'->bT B H'->bT F' H'->e5 K H' a vs):sK K ct F B (n+1) (JQ K a) (iW 0 ds):=by
 intro i F' H' s1 s2 s3
 have hs:e5 K H' a vs:=keep F' H' s1 s2 s3
 refine⟨λd hd=>?_,λhl=>⟨vs,hs,by rw[←hp.length];rw[QT]at hl;exact hl⟩⟩
 obtain⟨x,hx,rfl⟩:=M6 hd
 obtain⟨v,hv,l⟩:=hp.get' hx
 refine⟨⟨vs,v,hs,hv⟩,λz H2 y=>?_⟩
 obtain⟨r,y',hr,rfl,rfl,y⟩:=y
 have:=y vs hs
 rw[hv]at this
 cases this
 refine⟨_,fq.newS s3 hr _,.inr (.tup yt (.cons (Al.of ?_) (.cons (l.mono (s1.trans (Ht (s3.free hr) _)) (.refl _)) .nil)))⟩
 rw[pz]
 exact .int _
theorem zqw {fs:Env->Option (List D)}{rE:List Expr}{kt:Nat}{pt pp:cY}(hm:X.mg "enumerate"=none)(ha:XA X ct ms [a] [0] fs)(hg:Gl X "enumerate":=by rfl)(hs:aq [a] X.env=[(false,bJ a X.env)]:=by rfl) :
  XI X ct ms 1 (.Tuple rE kt pt) (.Call (.Name "enumerate" pp) [a] [] pos) (λρ=>(fs ρ).bind λds=>match ds with|[.lst xs]=>some (iW 0 xs)|_=>none):=by
 obtain⟨t,pt,_,qt⟩:=ha
 refine⟨_,zqn hg hm pt hs,λF0 B F H ρ σ ds R rs e w=>?_⟩
 obtain⟨kj,h1,h2⟩:=aJ e
 refine qt F0 B F H ρ σ _ _ rs h1 λvs F' H' x l=>?_
 cases l with
 |cons h t=>
  cases t
  rename_i d v
  cases d with
  |lst xs=>
   cases h2
   obtain⟨a,vs,rfl,ha,hp⟩:=Dt.lst_inv h
   exact⟨a,rfl,⟨vs,x.fh.seq ha⟩,w _ F' H' x (zto (n:=0) hp.pr λF2 H2 s1 s2 s3=>s3.seq (s1.seq ha))⟩
  |_=>cases h2
end
end L3
namespace L3
open PySem PySem.Spec L2
open PyProof.Rows hiding St
section
variable {X:Cx}{ct:Nat->ah}{ms:List Mo}{rk n m k:Nat}{st:bP}{rest:List bP}{a b c e tg:Expr}{f g h:EF}{p q:BF}{u w:SF}{pos:cY}
theorem Ow.lst_inv {K:aa}{F H:Hp}{ds:List D}{v:V}{fp:List ah}(h:Ow K ct F H (k+1) (.lst ds) v fp):∃a vs fr,v=.ref a/\fp=a::fr/\F a=none/\H a=some (.lst vs)/\OwL (Ow K ct F H k) ds vs fr:=by
 rcases h with⟨h,_⟩|h
 ·cases h
 ·cases h with
  |lst h1 h2 h3=>exact⟨_,_,_,rfl,rfl,h1,h2,h3⟩
theorem Ow.dK_inv {K:aa}{F H:Hp}{ks:List eR}{ds:List D}{v:V}{fp:List ah}(h:Ow K ct F H (k+1) (.dK ks ds) v fp):∃a vs fr,v=.ref a/\fp=a::fr/\F a=none/\H a=some (.dK (ks.zip vs))/\ks.length=vs.length/\OwL (Ow K ct F H k) ds vs fr:=by
 rcases h with⟨h,_⟩|h
 ·cases h
 ·cases h with
  |dK h1 h2 h3 h4=>exact⟨_,_,_,rfl,rfl,h1,h2,h3,h4⟩
theorem Ow.dT_inv {K:aa}{F H:Hp}{ks:List (List eR)}{ds:List D}{v:V}{fp:List ah}(h:Ow K ct F H (k+1) (.dT ks ds) v fp):∃a vs fr,v=.ref a/\fp=a::fr/\F a=none/\H a=some (.dT (ks.zip vs))/\ks.length=vs.length/\OwL (Ow K ct F H k) ds vs fr:=by
 rcases h with⟨h,_⟩|h
 ·cases h
 ·cases h with
  |dT h1 h2 h3 h4=>exact⟨_,_,_,rfl,rfl,h1,h2,h3,h4⟩
theorem RS.change {K:aa}{F0 B F H F' H':Hp}{ρ:Env}{σ:St}{i:Nat}{d':D}{v:V}{f1 fr fn:List ah}{ad:ah}{o:HO}(rs:RS K ct F0 B ms F H ρ σ)(hm:ms[i]?=some (.ow k))(x:fq F H F' H')
  (hσ:σ[i]?=some (some v)) (b1:∀a∈f1,B a=none) (dj:∀a∈f1,a∉fr) (cf:∀a∈fr,F a=none/\∃o,H a=some o)
  (put:∀(F' H':Hp) (d':D) (v':V) (f':List ah),bT F F'->bT B H'->bT F' H'->(∀a o,B a=some o->F0 a=none->F' a=none)->(∀a∈fr,H' a=H a/\F' a=none)->Ow K ct F' H' k d' v' f'->f'.Nodup->(∀a∈f',a∉fr)->(∀a∈f',B a=none) ->
    RS K ct F0 B ms F' H' (ρ.set i (some d')) (σ.set i (some v')))
  (lL:ad∈f1) (K3:F' ad=none) (o':Ow K ct F' (upd H' ad o) k d' v fn) (nd:fn.Nodup) (Bm:∀a∈fn,a∈f1\/H a=none):RS K ct F0 B ms F' (upd H' ad o) (ρ.set i (some d')) σ:=by
 have r:=rs.ext x
 have hB:B ad=none:=b1 ad lL
 have res:=put F' (upd H' ad o) d' v fn x.ff (λz u h=>by rw[ym (λe=>by rw[e,hB]at h;cases h)];exact r.bh _ _ h) (λz u h=>by rw[ym (λe=>by rw[e,K3]at h;cases h)];exact x.fh _ _ h) r.nf
  (λz hz=>by
   obtain⟨hn,o,ho⟩:=cf z hz
   refine⟨?_,x.nf z o ho hn⟩
   have ne:z≠ad:=λe=>dj ad lL (by rw[←e];exact hz)
   rw[ym ne]
   exact(x.hh _ _ ho).trans ho.symm) o' nd
  (λz hz zr=>by
   rcases Bm z hz with h|h
   ·exact dj z h zr
   ·obtain⟨_,o,ho⟩:=cf z zr
    rw[h]at ho
    cases ho)
  (λz hz=>(Bm z hz).elim (b1 z) λh=>rs.bh.free h)
 have e:σ.set i (some v) = σ:=by
  apply fK
  intro j
  by_cases hj:i=j
  ·subst hj
   rw[iK (by
    have:=aV.mp hσ
    exact this.1),hσ]
  ·rw[cS hj]
 rw[e]at res
 exact res
def sApp (i:Nat)(f:EF):SF:=λρ=>(eV i ρ).bind λo=>(f ρ).bind λd=>match o with
 |.lst ds=>if ds.length<16777216 then some (.nx (ρ.set i (some (.lst (ds++[d])))))else none
 |_=>none
theorem IW (i:Nat){x:aQ}{p1 dD dO:cY}(hm:ms[i]?=some (.ow (k+1)))(he:XO X ct ms k e f)(hN:X.N[i]?=some x:=by rfl)(hv:lQ X.env.scope x:=by first|exact Or.inl rfl|exact Or.inr (Or.inl rfl)|exact Or.inr (Or.inr rfl))(hd:(x==("__debug__":aQ))=false:=by decide)
  (gA:(x==("__classdict__":aQ))=false:=by decide) (kK:aq [e] X.env=(false,bJ e X.env)::aq [] X.env:=by rfl)
  (ig:dJ (.Name x p1) "append" X.env (bJ (.Name x p1) X.env)=bJ (.Name x p1) X.env:=by rfl)
  (n4:((cB dO (aq [e] X.env)).all (λx=>!x.1)&&(eL dO (dC [] X.env)).all (λx=>x.1.isSome)
   && decide ([e].length+([]:List fL).length+(if([]:List fL).isEmpty then 0 else 1)<30))=true:=by rfl)
  (ij:(dD.endLine==dO.line)=true:=by rfl) (iC:(cB dO (aq [] X.env)).any (·.1)=false:=by rfl)
  (rK:dw (.Call (.Attribute (.Name x p1) "append" dD) [e] [] dO) none pos.line X.env=pure false:=by rfl) :
  XS X ct ms rk (.Expr (.Call (.Attribute (.Name x p1) "append" dD) [e] [] dO) pos) (sApp i f):=by
 obtain⟨t,pt,qt⟩:=he
 refine⟨_,Hv (HI PySem.F.plainAttrs_list PySem.F.slot_list_append PySem.F.type_list_append Hq (um hN hv hd gA) (vi pt q0 kK) ig n4 ij kK iC) rK,λF0 B F H ρ σ o E rs e z=>?_⟩
 obtain⟨d1,d2,h1,h2,h3⟩:=cQ e
 obtain⟨f1,fr,n1,b1,dj,i4,cf,put⟩:=rs.put (F':=F) (H':=H) hm
 obtain⟨v,hσ,ow⟩:=i4 d1 (zu h1)
 refine⟨v,hσ,?_⟩
 cases d1 with
 |lst ds=>
  dsimp only at h3
  by_cases hz:ds.length<16777216
  ·rw[if_pos hz]at h3
   cases h3
   obtain⟨ad,vs,mz,rfl,rfl,hF,hH,ol⟩:=ow.lst_inv
   refine⟨.inl ⟨rfl,_,e5.of hH⟩,qt F0 B F H ρ σ d2 _ rs h2 λv2 F' H' fp x1 o2 uW Bl=>?_⟩
   have hA:H' ad=some (.lst vs):=x1.hh _ _ hH
   have fA:F' ad=none:=x1.nf ad _ hH hF
   have nA:∀a∈fp,a≠ad:=λa hz e=>by rw[e]at hz;rw[Bl ad hz]at hH;cases hH
   have Br:=bv.mp n1
   refine⟨ad,vs,v2,rfl,rfl,hA,by rw[←ol.length,cy];exact hz,?_⟩
   refine z σ F' _ (rs.change hm x1 hσ b1 dj cf put af fA (.inr (.lst fA yt ((ol.mono λ_ _ f' hi o'=>?_).append (.cons (f:=fp) ?_ .nil)))) (fn:=ad::(mz++(fp++[]))) ?_ ?_)
   ·refine(o'.ext x1).frame (.refl _) λa ha=>⟨ym λe=>Br.1 (e▸hi a ha),((o'.ext x1).cells a ha).1⟩
   ·exact o2.frame (.refl _) λa ha=>⟨ym (nA a ha),(o2.cells a ha).1⟩
   ·rw[cz]
    refine bv.mpr ⟨λhz=>?_,aW.mpr ⟨Br.2,uW,λa ha b hb e=>?_⟩⟩
    ·rcases aY.mp hz with hz|hz
     ·exact Br.1 hz
     ·exact nA ad hz rfl
    ·subst e
     obtain⟨_,o,ho⟩:=OwL.cellsOf ol a ha
     rw[Bl a hb]at ho
     cases ho
   ·intro a ha
    rw[cz]at ha
    rcases aF.mp ha with rfl|ha
    ·exact .inl af
    ·rcases aY.mp ha with ha|ha
     ·exact .inl (aj _ ha)
     ·exact .inr (Bl a ha)
  ·rw[if_neg hz]at h3;cases h3
 |_=>cases h3
def o8 (ds:List D)(i:Int)(d:D):Option (List D):=(ixN ds.length i).bind λj=>some (ds.set j d)
def fH {κ:Type}[DecidableEq κ](ks:List κ)(ds:List D)(k:κ)(d:D):List κ×List D:=if ks.contains k=true then(ks,(ks.zip ds).map λp=>if p.1=k then d else p.2)else(ks++[k],ds++[d])
def o7 (i:Nat)(fj f:EF):SF:=λρ=>(f ρ).bind λd=>(eV i ρ).bind λo=>(fj ρ).bind λj=>match o,j with
 |.lst ds,.int z=>(o8 ds z d).bind λkj=>some (.nx (ρ.set i (some (.lst kj))))
 |_,_=>none
theorem OwL.set0 {R:D->V->List ah->Prop}{d:D}{v:V}(r:R d v [])(z:∀d v f,R d v f->f=[]):∀{ds:List D} {vs:List V} {fp:List ah} (i:Nat),OwL R ds vs fp->OwL R (ds.set i d) (vs.set i v) []
 |_,_,_,_,.nil=>.nil
 |_,_,_,0,.cons h t=>by
  have:=OwL.cons (f:=[]) (g:=[]) r (OwL.ofPr (t.pr λd v f _ q=>by have:=z _ _ _ q;subst this;exact q))
  exact this
 |_,_,_,i+1,.cons h t=>by
  have e:=z _ _ _ h
  subst e
  exact OwL.cons (f:=[]) (g:=[]) h (OwL.set0 r z i t)
theorem Ow.nil0 {K:aa}{F H:Hp}{d:D}{v:V}{fp:List ah}(h:Ow K ct F H 0 d v fp):fp=[]:=h.2
theorem OwL.nil0 {K:aa}{F H:Hp}:∀{ds:List D} {vs:List V} {fp:List ah},OwL (Ow K ct F H 0) ds vs fp->fp=[]
 |_,_,_,.nil=>rfl
 |_,_,_,.cons h t=>by rw[h.nil0,OwL.nil0 t];rfl
end
end L3
namespace L3
open PySem PySem.Spec L2
open PyProof.Rows hiding St
section
variable {X:Cx}{ct:Nat->ah}{ms:List Mo}{rk n m k:Nat}{st:bP}{rest:List bP}{a b c e tg:Expr}{f g h:EF}{p q:BF}{u w:SF}{pos:cY}{K:aa}
theorem L6 {ai:List (ah×dU)}{σ:St}{H:Hp}{s:am}{l:ah}{xs:List V}(I:Inv X ai σ H s)(hH:Rd H l (.lst xs)):xs.length<=sizeLine/\∃(bZ:List ae) (n:Nat),bX xs bZ/\xs.length=bZ.length/\s.heap.get? l=some { cls:=.type "list",data:=.seq bZ.toArray n }:=by
  obtain⟨z,bZ,n,r,e⟩:=hH.ok I.hok
  exact⟨z,bZ,n,r,r.length,e⟩
def wK (K:aa):R2:=λx y H Q=>∃l b xs zs,x=.ref l/\y=.ref b/\e5 K H l xs/\e5 K H b zs/\xs.length+zs.length<=sizeLine/\∀p,H p=none->Q (.ref p) (upd H p (.lst (xs++zs)))
theorem zqx:fP X (d7 .Add) (wK X.K):=by
 intro ai s σ H x y v u Q I rx ry h
 obtain⟨l,b,xs,zs,rfl,rfl,hH,hB,hz,q⟩:=h
 cases rx
 cases ry
 obtain⟨bZ,r,⟨⟨cls,dd,data,sl⟩,n,e,c1,c2,c3⟩,z⟩:=I.list hH
 obtain⟨uS,r2,⟨⟨Ka,HZ,data2,G4⟩,n2,e2,c4,c5,c6⟩,z2⟩:=I.list hB
 simp only at c1 c3 c4 c6
 subst c1 c3 c4 c6
 have hl:=r.length
 have zU:=r2.length
 refine sf ⟨_,e,rfl⟩ ⟨_,e2,rfl⟩ noFill_list_add seq_list_add PySem.F.slot_list_add PySem.F.entry_list_add (PySem.F.args_list_add_2 _ _) (list_addW l b bZ.toArray uS.toArray n n2 dd HZ sl G4 (by rw[aE,aE];omega)) ⟨e,e2,?_⟩
 have ea:bZ.toArray++uS.toArray=(bZ++uS).toArray:=by simp
 rw[ea]
 exact⟨.ref _,_,I.lnew (t':=s.toks) (r.append r2) (by rw[bg];omega),rfl,q _ I.fresh⟩
def GV:R2:=λx y H Q=>∃i j,x=.str i/\y=.str j/\i.length+j.length<=sizeLine/\Q (.str (i++j)) H
def Az (K:aa):R2:=λx y H Q=>pJ (λi j=>.int (i+j)) x y H Q\/GV x y H Q\/wK K x y H Q\/wL K x y H Q
theorem zqy:fP X (d7 .Add) (Az X.K):=fP.or zs0 (fP.or ZF (fP.or zqx zqd))
def ej:D->D->Option D
 |.int i,.int j=>some (.int (i+j))
 |.str x,.str y=>if x.length+y.length<=16777216 then some (.str (x++y))else none
 |.lst xs,.lst ys=>if xs.length+ys.length<=16777216 then some (.lst (xs++ys))else none
 |.tup xs,.tup ys=>if xs.isEmpty=false/\ys.isEmpty=false/\xs.length+ys.length<=1000000 then some (.tup (xs++ys))else none
 |_,_=>none
theorem Pr.ow0 {F G H:Hp}{ds:List D}{vs:List V}(h:Pr (Al K ct F G 0) ds vs):OwL (Ow K ct F H 0) ds vs []:=OwL.ofPr (h.mono λ_ _ q=>⟨q,rfl⟩)
theorem Al.lst1 {F G:Hp}{ds:List D}{v:V}(hn:n<=1)(h:Al K ct F G n (.lst ds) v)(s:bT F G):∃a vs,v=.ref a/\e5 K G a vs/\Pr (Al K ct F G 0) ds vs:=by
 obtain⟨a,vs,e,h1,h2⟩:=h.lst s
 have:n-1=0:=by omega
 rw[this]at h2
 exact⟨a,vs,e,h1,h2⟩
theorem Al.tup1 {F G:Hp}{ds:List D}{v:V}(hn:n<=1)(h:Al K ct F G n (.tup ds) v)(s:bT F G):∃a vs,v=.ref a/\G a=some (.tup vs)/\Pr (Al K ct F G 0) ds vs:=by
 obtain⟨a,vs,e,h1,h2⟩:=h.tup s
 have:n-1=0:=by omega
 rw[this]at h2
 exact⟨a,vs,e,h1,h2⟩
theorem AT {F H:Hp}{ds:List D}{vs:List V}{Q:VK}(s:bT F H)(hp:Pr (Al K ct F H 0) ds vs)(w:∀v F' H' fp,fq F H F' H'->Ow K ct F' H' 1 (.lst ds) v fp->fp.Nodup->(∀a∈fp,H a=none)->Q v H'):∀p,H p=none->Q (.ref p) (upd H p (.lst vs)):=λp h0=>by
 obtain⟨o,nd⟩:=RK s (hp.ow0 (H:=H)) h0
 exact w _ F _ [p] (fq.newO s h0 _) o (nd bA) λa z=>by rw[aD]at z;subst z;exact h0
theorem zqz (hn:n<=1)(hm:m<=1):B0 K ct n m 1 (Az K) ej:=by
 intro F H x y d1 d2 d Q s l1 l2 e w
 have ws:∀d v,d.sc=true->Dt K ct F d v->(∀v F' H' fp,fq F H F' H'->Ow K ct F' H' 1 d v fp->fp.Nodup->(∀a∈fp,H a=none)->Q v H')->Q v H:=λd v hs hd w=>w v F H [] (.refl s) (Ow.scal hd hs) bA λa z=>(by cases z)
 cases d1 with
 |int i=>
  cases d2 with
  |int j=>cases e;exact .inl ⟨i,j,l1.int,l2.int,ws _ _ rfl (.int _) w⟩
  |_=>cases e
 |str i=>
  cases d2 with
  |str j=>
   unfold ej at e
   dsimp only at e
   by_cases hz:i.length+j.length<=16777216
   ·rw[if_pos hz]at e
    cases e
    exact .inr (.inl ⟨i,j,l1.str,l2.str,by rw[cy];exact hz,ws _ _ rfl (.str _) w⟩)
   ·rw[if_neg hz]at e;cases e
  |_=>cases e
 |lst xs=>
  cases d2 with
  |lst ys=>
   unfold ej at e
   dsimp only at e
   by_cases hz:xs.length+ys.length<=16777216
   ·rw[if_pos hz]at e
    cases e
    obtain⟨a,vs,rfl,ha,hp⟩:=Al.lst1 hn l1 s
    obtain⟨b,us,rfl,hb,hq⟩:=Al.lst1 hm l2 s
    exact .inr (.inr (.inl ⟨a,b,vs,us,rfl,rfl,ha,hb,by rw[←hp.length,←hq.length,cy];exact hz,AT s (hp.append hq) w⟩))
   ·rw[if_neg hz]at e;cases e
  |_=>cases e
 |tup xs=>
  cases d2 with
  |tup ys=>
   unfold ej at e
   dsimp only at e
   by_cases hz:xs.isEmpty=false/\ys.isEmpty=false/\xs.length+ys.length<=1000000
   ·rw[if_pos hz]at e
    cases e
    obtain⟨a,vs,rfl,ha,hp⟩:=Al.tup1 hn l1 s
    obtain⟨b,us,rfl,hb,hq⟩:=Al.tup1 hm l2 s
    have hl:=hp.length
    have zU:=hq.length
    have e1:vs≠[]:=λz=>by
     rw[z]at hl
     have:=oG.mp hl
     rw[this]at hz
     exact absurd hz.1 (by decide)
    have e2:us≠[]:=λz=>by
     rw[z]at zU
     have:=oG.mp zU
     rw[this]at hz
     exact absurd hz.2.1 (by decide)
    refine .inr (.inr (.inr ⟨a,b,vs,us,rfl,rfl,kJ.of ha,kJ.of hb,e1,by rw[←hl,←zU,cy];omega,λz=>absurd z e2,λ_ p h0=>?_⟩))
    have x2:=fq.newS s h0 (.tup (vs++us))
    exact w _ _ _ [] x2 (.inr (.tup yt (OwL.ofPr ((hp.append hq).mono λ_ _ q=>⟨Dt.mono x2.ff q,rfl⟩)))) bA λa z=>(by cases z)
   ·rw[if_neg hz]at e;cases e
  |_=>cases e
 |_=>cases e
def G1:R2:=λx y H Q=>∃l k xs,x=.ref l/\y=.int k/\Rd H l (.lst xs)/\-(2 ^ 63)<=k/\k<2 ^ 63/\xs.length*k.toNat<=sizeLine /\
 ∀p,H p=none->Q (.ref p) (upd H p (.lst (az k.toNat xs).flatten))
theorem zq0:fP X (d7 .Mult) G1:=by
 intro ai s σ H x y v u Q I rx ry h
 obtain⟨l,k,xs,rfl,rfl,hH,h1,h2,hz,q⟩:=h
 cases rx
 obtain⟨t,rfl⟩:=ry
 obtain⟨z,bZ,n,r,hl,e⟩:=L6 I hH
 have eS:bZ.toArray.size*k.toNat<=sizeLine:=by rw[aE,←hl];exact hz
 have gz:¬bZ.toArray.size*k.toNat > (2 ^ 63-1)/8:=by
  have:(sizeLine:Nat)<=(2 ^ 63-1)/8:=by decide
  omega
 have Lx:¬(!e6.List.listFitsIndex k)=true:=by
  rw[fitsIndex_both h1 h2]
  exact aK
 have Ew:¬e6.List.listTooLong (bZ.toArray.size*k.toNat)=true:=by
  rw[tu eS]
  exact aK
 have LF:qW (λx1 x2=>x1++x2) #[] (az (if bZ.toArray.isEmpty=true then 0 else k.toNat) bZ.toArray)=(az k.toNat bZ).flatten.toArray:=by
  have f0:∀m:Nat,qW (λx1 x2=>x1++x2) #[] (az m bZ.toArray)=(az m bZ).flatten.toArray:=λm=>by
   have:=QO bZ m []
   rw[tV]at this
   exact this
  rw[f0]
  cases bZ with
  |nil=>simp
  |cons a r'=>rw[if_neg (by simp)]
 refine wpAny_binaryOp_repeat_ref (T:="list") (U:="int") (by decide) ⟨_,e,rfl⟩ (λs'=>vQ s' k t) noFill_list_mul F.fills_int_mul F.slot_int_rmul repeat_list F.slot_int_index.lookup
  (iq F.slot_int_rmul (vQ s k t) F.entry_int_rmul (F.args_int_rmul_2 _ _) (int___rmul___int_list k t l bZ.toArray n)
   ⟨e,rfl,⟨_,e,rfl⟩,iq F.slot_list_mul ⟨_,e,rfl⟩ F.entry_list_mul (F.args_list_mul_2 _ _) (AutoListH.list___mul___list_int_3 l bZ.toArray n k t Lx gz Ew) ⟨e,?_⟩⟩)
 rw[LF]
 exact⟨.ref _,_,I.lnew (t':=s.toks) (r.rep k.toNat) (by rw[zqg,Nat.mul_comm];exact hz),rfl,q _ I.fresh⟩
theorem yh:kI K ct n m k (rI nB λi j=>.int (i*j)) cT:=zqr
def p9:D->D->Option D
 |.lst xs,.int j=>if -1000000<j/\j<1000000/\xs.length<=16 then some (.lst (az j.toNat xs).flatten)else none
 |_,_=>none
theorem So (ha:XO X ct ms 1 a f)(hb:XE X ct ms m b g):XO X ct ms 1 (.BinOp a .Mult b pos) (e2 p9 f g):=by
 obtain⟨ta,pa,qa⟩:=ha
 obtain⟨tb,pb,qb⟩:=hb
 refine⟨_,N8 zq0 pa pb,λF0 B F H ρ σ d Q rs e w=>?_⟩
 obtain⟨d1,d2,h1,h2,h3⟩:=cQ e
 refine qa F0 B F H ρ σ d1 _ rs h1 λv F1 H1 fp x1 o nd hf=>?_
 refine qb F0 B F1 H1 ρ σ d2 _ (rs.ext x1) h2 λv2 F2 H2 x2 l2=>?_
 cases d1 with
 |lst xs=>
  cases d2 with
  |int j=>
   unfold p9 at h3
   dsimp only at h3
   by_cases hz:-1000000<j/\j<1000000/\xs.length<=16
   ·rw[if_pos hz]at h3
    cases h3
    obtain⟨ad,vs,fr,rfl,rfl,hF,hH,ol⟩:=(o.ext x2).lst_inv
    have hp:Pr (Al X.K ct F2 H2 0) xs vs:=ol.pr λ_ _ _ _ q=>q.1
    have Bv:=x1.trans x2
    refine⟨ad,j,vs,rfl,l2.int,.inl hH,by omega,by omega,?_,AT x2.fh (hp.rep _) λv F' H' fp x o nd hf=>w v F' H' fp (Bv.trans x) o nd λz hz=>Bv.hh.free (hf z hz)⟩
    rw[←hp.length,cy]
    have h1:j.toNat<=1000000:=by omega
    have h2:xs.length*j.toNat<=16*1000000:=vN hz.2.2 h1
    omega
   ·rw[if_neg hz]at h3;cases h3
  |_=>cases h3
 |_=>cases h3
def p6:D->Option D
 |.int i=>some (.int (-i))
 |_=>none
theorem HE (ha:XE X ct ms n a f):XE X ct ms k (.UnaryOp .USub a pos) (e1 p6 f):=by
 refine zu0 zs2 (λF H x d1 d Q s l e w=>?_) ha
 cases d1 with
 |int i=>cases e;exact⟨i,l.int,w _ F H (.refl s) (Al.of (.int _))⟩
 |_=>cases e
theorem Hy {x:aQ}{d:D}{u:ae}(hg:Gl X x)(hm:X.mg x=some u)(hs:d.sc=true)(r:RelV d.v u)(hd:(x==("__debug__":aQ))=false:=by decide):XE X ct ms n (.Name x pos) (eC d):=by
 refine⟨_,RC hg hm r hd,λF0 B F H ρ σ d' Q rs e w=>?_⟩
 cases e
 refine w _ F H (.refl rs.fh) (Al.of ?_)
 cases d with
 |non=>exact .non
 |bl b=>exact .bl b
 |int b=>exact .int b
 |str b=>exact .str b
 |_=>cases hs
def nI:List D->Option D
 |[.lst ds]=>some (.lst ds)
 |[.tup ds]=>some (.lst ds)
 |_=>none
theorem Q8 (hn:n<=1):xF K ct [n] 1 (λxs H Q=>∃p ys,xs=[.ref p]/\(e5 K H p ys\/kJ K H p ys)/\∀l,H l=none->Q (.ref l) (upd H l (.lst ys))) nI:=by
 intro F H vs ds d Q s l e w
 cases l with
 |cons h t=>
  cases t
  rename_i d1 v
  cases d1 with
  |lst xs=>
   cases e
   obtain⟨a,us,rfl,ha,hp⟩:=Al.lst1 hn h s
   exact⟨a,us,rfl,.inl ha,AT s hp w⟩
  |tup xs=>
   cases e
   obtain⟨a,us,rfl,ha,hp⟩:=Al.tup1 hn h s
   exact⟨a,us,rfl,.inr (kJ.of ha),AT s hp w⟩
  |_=>cases e
abbrev PF:=Env->Option (Option Int)
def pNo:PF:=λ_=>some none
def pInt (f:EF):PF:=λρ=>(f ρ).bind λd=>match d with
 |.int i=>some (some i)
 |_=>none
def XP (X:Cx)(ct:Nat->ah)(ms:List Mo)(e:Option Expr)(f:PF):Prop:=∃t,PO X e t/\∀(F0 B F H:Hp) (ρ:Env) (σ:St) (o:Option Int) (Q:Option Int->Hp->Prop),RS X.K ct F0 B ms F H ρ σ->f ρ=some o->(∀F' H',fq F H F' H'->Q o H')->t σ H Q
theorem N9:XP X ct ms none pNo:=⟨_,zqb,λF0 B F H ρ σ o Q rs e w=>by cases e;exact w F H (.refl rs.fh)⟩
theorem Hz (h:XE X ct ms n e f):XP X ct ms (some e) (pInt f):=by
 obtain⟨t,pt,qt⟩:=h
 refine⟨_,zqc pt,λF0 B F H ρ σ o Q rs e w=>?_⟩
 obtain⟨d,h1,h2⟩:=aJ e
 refine qt F0 B F H ρ σ d _ rs h1 λv F' H' x l=>?_
 cases d with
 |int i=>cases h2;exact⟨i,l.int,w F' H' x⟩
 |_=>cases h2
def cutD (xs:List D)(lo hi:Option Int):List D:=(xs.drop (HT.sIx xs.length 0 lo)).take (HT.sIx xs.length xs.length hi-HT.sIx xs.length 0 lo)
theorem zq2 {R:D->V->Prop}{ds:List D}{vs:List V}{lo hi:Option Int}(h:Pr R ds vs):Pr R (cutD ds lo hi) (rD vs lo hi):=by
 unfold cutD rD
 rw[h.length]
 exact(h.drop _).take _
def jP (d:D)(lo hi:Option Int):Option D:=match d with
 |.lst xs=>some (.lst (cutD xs lo hi))
 |_=>none
theorem Jf {lo hi:Option Expr}{pl ph:PF}{p1}(hn:n<=1)(he:XE X ct ms n e f)(hl:XP X ct ms lo pl)(hh:XP X ct ms hi ph):XO X ct ms 1 (.Subscript e (.Slice lo hi none p1) pos) (λρ=>(f ρ).bind λd=>(pl ρ).bind λl=>(ph ρ).bind λh=>jP d l h):=by
 obtain⟨t,pt,qt⟩:=he
 obtain⟨t1,Ax,Ay⟩:=hl
 obtain⟨t2,mC,p7⟩:=hh
 refine⟨_,znb zqf pt Ax mC,λF0 B F H ρ σ r Q rs e w=>?_⟩
 obtain⟨d,l,h1,h2,h3⟩:=cQ e
 obtain⟨hh,h4,h5⟩:=aJ h3
 refine qt F0 B F H ρ σ d _ rs h1 λv F1 H1 x1 l1=>?_
 refine Ay F0 B F1 H1 ρ σ l _ (rs.ext x1) h2 λF2 H2 x2=>?_
 refine p7 F0 B F2 H2 ρ σ hh _ ((rs.ext x1).ext x2) h4 λF3 H3 x3=>?_
 cases d with
 |lst xs=>
  cases h5
  have kP:=x2.trans x3
  obtain⟨a,vs,rfl,ha,hp⟩:=Al.lst1 hn (l1.mono kP.ff kP.hh) kP.fh
  exact⟨a,vs,rfl,ha,AT kP.fh (zq2 hp) λv F' H' fp x o nd hf=>w v F' H' fp ((x1.trans kP).trans x) o nd λz hz=>(x1.trans kP).hh.free (hf z hz)⟩
 |_=>cases h5
def oV:List D->Option D
 |[.int i]=>some (.int (if i<0 then -i else i))
 |_=>none
theorem Jt:uI K ct [n] k (λxs H Q=>∃i,xs=[.int i]/\Q (.int (if i<0 then -i else i)) H) oV:=by
 intro F H vs ds d Q s l e w
 cases l with
 |cons h t=>
  cases t
  rename_i d1 v
  cases d1 with
  |int i=>cases e;exact⟨i,by rw[h.int],w _ F H (.refl s) (Al.of (.int _))⟩
  |_=>cases e
def ii (g:Int->Int->D):List D->Option D
 |[.int i,.int j]=>some (g i j)
 |_=>none
def FM:List D->Option D:=ii λi j=>.int (if j > i then j else i)
def FO:List D->Option D:=ii λi j=>.int (if j<i then j else i)
def AF (i:Nat)(o:D->D->Option D)(f:EF):SF:=λρ=>(eV i ρ).bind λx=>(f ρ).bind λy=>(o x y).bind λd=>some (.nx (ρ.set i (some d)))
theorem ztp {op:i8}{i:Nat}{x:aQ}{pos':cY}{gi:Int->Int->Int}(ho:A9 X op (Iz gi))(hm:ms[i]?=some (.ow k))(hN:X.N.Nodup)(hi:X.N[i]?=some x)(hx:Loc X.env.scope x)(he:XE X ct ms n e f)(hf:X.fn x=true\/X.env.scope.names.lookup x=some .local:=by first|exact .inl rfl|exact .inr rfl|assumption) :
  XS X ct ms rk (.AugAssign (.Name x pos') op e pos) (AF i (i2 λi j=>.int (gi i j)) f):=by
 obtain⟨t,pt,qt⟩:=he
 refine⟨_,zsx hN hi hx pt ho hf,λF0 B F H ρ σ o E rs e z=>?_⟩
 obtain⟨d1,d2,h1,h2,h3⟩:=cQ e
 obtain⟨d,h4,h5⟩:=aJ h3
 cases h5
 obtain⟨v,hv,l⟩:=rs.get hm (zu h1)
 refine⟨v,hv,qt F0 B F H ρ σ d2 _ rs h2 λy F' H' x1 l2=>?_⟩
 cases d1 with
 |int i'=>
  cases d2 with
  |int j'=>
   cases h4
   exact⟨i',j',l.int,l2.int,z _ F' H' (rs.set hm x1 (Ow.scal (.int _) rfl) bA λa z=>(by cases z))⟩
  |_=>cases h4
 |_=>cases h4
def sPar (i j:Nat)(fs:Env->Option (List D)):SF:=λρ=>(fs ρ).bind λds=>match ds with
 |[x,y]=>some (.nx ((ρ.set i (some x)).set j (some y)))
 |_=>none
theorem Sq {i j:Nat}{x y:aQ}{fs:Env->Option (List D)}{px py pt:cY}{kt k2 mC}(Bo:ms[i]?=some (.ow 0))(wB:ms[j]?=some (.ow 0))(hc:X.calm=true)(hN:X.N.Nodup)(hi:X.N[i]?=some x)(hj:X.N[j]?=some y)(pZ:i≠j)
  (hx:X.env.scope.names.lookup x=some .local) (hy:X.env.scope.names.lookup y=some .local) (ha:XA X ct ms [a,b] [0,0] fs)
  (hw:gF [.Tuple [.Name x px,.Name y py] kt pt] (.Tuple [a,b] k2 mC) X.env=pure (some [x,y]))
  (hs:gG [.Tuple [.Name x px,.Name y py] kt pt] (.Tuple [a,b] k2 mC) pos.line X.env=pure false:=by rfl) :
  XS X ct ms rk (.Assign [.Tuple [.Name x px,.Name y py] kt pt] (.Tuple [a,b] k2 mC) pos) (sPar i j fs):=by
 obtain⟨t,pt,_,qt⟩:=ha
 refine⟨_,zsw hc hN hi hj pZ hx hy pt hw hs,λF0 B F H ρ σ o E rs e z=>?_⟩
 obtain⟨ds,h1,h2⟩:=aJ e
 refine qt F0 B F H ρ σ ds _ rs h1 λvs F' H' x1 l=>?_
 cases l with
 |cons l1 l=>
  cases l with
  |cons l2 l=>
   cases l
   cases h2
   have r1:=rs.set Bo x1 (Ow.zero l1) bA λa z=>(by cases z)
   exact⟨_,_,rfl,z _ F' H' (r1.set wB (.refl x1.fh) (Ow.zero l2) bA λa z=>(by cases z))⟩
def sAsg (g:D->Env->Option Env)(f:EF):SF:=λρ=>(f ρ).bind λd=>(g d ρ).bind λρ'=>some (.nx ρ')
theorem Sr {gg:D->Env->Option Env}(he:XE X ct ms 0 e f)(hg:XG X ct ms 0 tg gg)(hs:gG [tg] e pos.line X.env=pure false:=by rfl)(hw:gF [tg] e X.env=pure none:=by rfl)
  (h1:(d6 [tg] X.env).map (·.2)=[ip tg X.env]:=by rfl):XS X ct ms rk (.Assign [tg] e pos) (sAsg gg f):=by
 obtain⟨t,pt,qt⟩:=he
 obtain⟨t2,mC,p7⟩:=hg
 refine⟨_,NR pt mC hs hw h1,λF0 B F H ρ σ o E rs e z=>?_⟩
 obtain⟨d,h1,h2⟩:=aJ e
 obtain⟨ρ',h3,h4⟩:=aJ h2
 cases h4
 exact qt F0 B F H ρ σ d _ rs h1 λv F' H' x l=>p7 F0 B F' H' ρ ρ' σ d v _ (rs.ext x) l h3 λσ' r=>z σ' F' H' r
end
end L3
namespace L3
open PySem PySem.Spec L2
open PyProof.Rows hiding St
def gY:List Nat->List Mo->Bool
 |[],_=>true
 |n::ns,.al m::ms=>decide (n=m)&&gY ns ms
 |n::ns,.ow m::ms=>decide (n=0)&&decide (m=0)&&gY ns ms
 |_,_=>false
theorem qv:∀{pm:List Nat} {ms:List Mo},gY pm ms=true->∀(i n:Nat),pm[i]?=some n->ms[i]?=some (Mo.al n)\/(n=0/\ms[i]?=some (Mo.ow 0))
 |[],_,_,i,n,e=>by simp at e
 |x::ns,.al m::ms,h,i,n,e=>by
  simp only[gY,bE,decide_eq_true_eq]at h
  cases i with
  |zero=>simp at e;subst e;rw[h.1];exact .inl rfl
  |succ i=>simpa using qv h.2 i n (by simpa using e)
 |x::ns,.ow m::ms,h,i,n,e=>by
  simp only[gY,bE,decide_eq_true_eq]at h
  cases i with
  |zero=>simp at e;subst e;rw[h.1.1,h.1.2];exact .inr ⟨rfl,rfl⟩
  |succ i=>simpa using qv h.2 i n (by simpa using e)
 |_::_,[],h,_,_,_=>by simp[gY]at h
 |_::_,.px _::_,h,_,_,_=>by simp[gY]at h
 |_::_,.so _::_,h,_,_,_=>by simp[gY]at h
def vT (X:Cx)(scope:fQ)(N:List aQ)(own:Nat)(cap:List Nat):Bool :=
 decide (scope.kind=.function)&&scope.names.all (λx=>(decide (x.2≠.cell) || decide (scope.names.lookup x.1=some .cell))&&(decide (x.2≠.local) || decide (scope.names.lookup x.1=some .local))&&(decide (x.2≠.free) || (decide (X.env.kindOf x.1=some .cell) || decide (X.env.kindOf x.1=some .free)))) &&
 decide (N.length=own+cap.length)&&(ax cap.length).all λj=>match N[own+j]?,cap[j]? with
  |some x,some i=>decide (X.N[i]?=some x)&&decide (scope.names.lookup x=some .free)
  |_,_=>false
theorem wX {X:Cx}{scope:fQ}{N:List aQ}{own:Nat}{cap:List Nat}(h:vT X scope N own cap=true):jZ X scope N own cap:=by
 unfold vT at h
 simp only[bE,decide_eq_true_eq,fY,Bool.or_eq_true]at h
 obtain⟨⟨⟨h1,h2⟩,h3⟩,h4⟩:=h
 refine⟨h1,λx hx hl=>((h2 x hx).1.1).elim (λz=>absurd hl z) id,λx hx hl=>((h2 x hx).1.2).elim (λz=>absurd hl z) id,λx hx hf=>((h2 x hx).2).elim (λz=>absurd hf z) id,h3,λj x hj=>?_⟩
 have rH:j<cap.length:=by
  have:=(aV.mp hj).1
  omega
 have q:=h4 j (bx.mpr rH)
 rw[hj]at q
 have hc:cap[j]?=some cap[j]:=by simp[rH]
 rw[hc]at q
 simp only[bE,decide_eq_true_eq]at q
 exact⟨_,hc,q.1,q.2⟩
def IP:D->Option String
 |.non=>some "NoneType"
 |.bl _=>some "bool"
 |.int _=>some "int"
 |.str _=>some "str"
 |.lst _=>some "list"
 |.tup _=>some "tuple"
 |.dK _ _=>some "dict"
 |_=>none
def PV (K:aa)(H:Hp)(v:V)(t:String):Prop:=jM K H v (.type t)\/(t = "list"/\∃a xs,v=.ref a/\e5 K H a xs)
theorem Al.ty {K:aa}{ct:Nat->ah}{F H:Hp}{n:Nat}{d:D}{v:V}{t:String}(s:bT F H)(h:Al K ct F H n d v)(e:IP d=some t):PV K H v t:=by
 cases d with
 |non=>cases e;rw[h.non];exact .inl .non
 |bl b=>cases e;rw[h.bl];exact .inl (.bl b)
 |int b=>cases e;rw[h.int];exact .inl (.int b)
 |str b=>cases e;rw[h.str];exact .inl (.str b)
 |lst xs=>
  cases e
  obtain⟨a,vs,rfl,ha,_⟩:=h.lst s
  exact .inr ⟨rfl,a,vs,rfl,ha⟩
 |tup xs=>
  cases e
  obtain⟨a,vs,rfl,ha,_⟩:=h.tup s
  exact .inl (.tup ha)
 |dK ks xs=>
  cases e
  obtain⟨a,vs,rfl,ha,_⟩:=h.dK s
  exact .inl (.dK ha)
 |_=>cases e
theorem zli {X:Cx}:et X (.builtin "isinstance") (λxs H Q=>∃x c t b,xs=[x,.ty c]/\PV X.K H x t/\bO X.K (.type t) (.type c)=some b/\Q (.bl b) H):=by
 intro ai s σ H xs us Q I r h
 obtain⟨x,c,t,b,rfl,ty,e,q⟩:=h
 rcases ty with ty|⟨rfl,a,ys,rfl,hq⟩
 ·exact znh ai s σ H _ us Q I r ⟨x,c,_,b,rfl,ty,e,q⟩
 ·obtain⟨u,w',rfl,ru,nq⟩:=vals2 r
  cases(show w'=ae.type c from nq)
  cases(show u=ae.ref a from ru)
  obtain⟨bZ,rv,⟨o,n,h1,h2,_⟩,_⟩:=I.list hq
  exact cF jS I.kIn ⟨o,h1,h2⟩ e (λz=>nomatch z) λtk=>⟨.bl b,H,I.tok tk,rfl,q⟩
def EW (t c:String):Bool:=t==c || (t == "bool" && c == "int")
theorem zq3 {K:aa}:∀t∈(["NoneType","bool","int","str","list","tuple","dict"]:List String),∀c∈(["bool","int","str","list","tuple","dict"]:List String),bO K (.type t) (.type c)=some (EW t c):=by
 intro t ht c hc
 simp only[aF,dB,or_false]at ht hc
 rcases ht with rfl|rfl|rfl|rfl|rfl|rfl|rfl<;>rcases hc with rfl|rfl|rfl|rfl|rfl|rfl<;>rfl
theorem zq4 {d:D}{t:String}(e:IP d=some t):t∈(["NoneType","bool","int","str","list","tuple","dict"]:List String):=by
 cases d<;>simp[IP]at e<;>subst e<;>decide
section
variable {X:Cx}{ct:Nat->ah}{ms:List Mo}{rk n m k:Nat}{a b c e tg:Expr}{f g h:EF}{pos:cY}
def iZ (c:String)(d:D):Option D:=(IP d).bind λt=>some (.bl (EW t c))
theorem uC {c:String}{pp p2:cY}(hc:c∈(["bool","int","str","list","tuple","dict"]:List String))(hm:X.mg "isinstance"=none)(mB:X.mg c=none)(hb:bK c=some (.type c))(he:XE X ct ms n e f)(hg:Gl X "isinstance":=by rfl)(nG:Gl X c:=by rfl)(wC:aQ.ofString c≠"__name__":=by decide)(hd2:(aQ.ofString c==("__debug__":aQ))=false:=by decide)
  (EI:aq [e,.Name c p2] X.env=(false,bJ e X.env)::aq [.Name c p2] X.env:=by rfl) (mR:aq [.Name c p2] X.env=(false,bJ (.Name c p2) X.env)::aq [] X.env:=by rfl) (iT:(cB pos (aq [.Name c p2] X.env)).any (·.1)=false:=by rfl) :
  XE X ct ms k (.Call (.Name "isinstance" pp) [e,.Name c p2] [] pos) (e1 (iZ c) f):=by
 obtain⟨t,pt,qt⟩:=he
 refine⟨_,Jc zli hg hm Qb (vi pt (vi (zpv (v:=.ty c) nG mB hb rfl wC hd2) q0 mR) EI) (by decide) (by decide) EI iT,λF0 B F H ρ σ d Q rs e w=>?_⟩
 obtain⟨d1,h1,h2⟩:=aJ e
 obtain⟨ty,h3,h4⟩:=aJ h2
 cases h4
 exact qt F0 B F H ρ σ d1 _ rs h1 λv F' H' x l=>⟨v,c,ty,_,rfl,l.ty x.fh h3,zq3 _ (zq4 h3) _ hc,w _ F' H' x (Al.of (.bl _))⟩
end
end L3
namespace L3
open PySem PySem.Spec L2
open PyProof.Rows hiding St
def nN (K:aa):Sp:=λvs H Q _=>∃(a:ah) (ns:List Int),vs=[.ref a]/\e5 K H a (ns.map V.int)/\ns.length<=63/\∀H',Q (.bl true) H'
theorem Dts.ints {K:aa}{ct:Nat->ah}{F:Hp}:∀ns:List Int,Dts K ct F (ns.map D.int) (ns.map V.int)
 |[]=>.nil
 |n::ns=>.cons (.int n) (Dts.ints ns)
theorem ztq {P:bB}{w:cj}{K:aa}{mg:aQ->Option ae}{base:aZ}{k:Nat}{f:ah}{fd:aH}{ps:List aQ}{ct:Nat->ah}{m:List D->Option D}(Fn:cx P w K mg base ez k f fd ps (fR K ct [0] 0 m))
  (h:∀ns:List Int,ns.length<=63->m [.lst (ns.map .int)]=some (.bl true)):cx P w K mg base ez k f fd ps (nN K):=by
 have to:∀vs H Q E,nN K vs H Q E->fR K ct [0] 0 m vs H Q E:=by
  rintro vs H Q E ⟨a,ns,rfl,hS,hl,q⟩
  refine⟨H,[.lst (ns.map .int)],.bl true,.refl _,.cons (Dt.lst hS (Dts.ints ns)) .nil,h ns hl,λv F' H' fp x o nd hf=>?_⟩
  have hv:v=.bl true:=by
   have o:Dt K ct F' (.bl true) v/\fp=[]:=o
   cases o.1
   rfl
  subst hv
  exact q H'
 exact⟨λvs H Q E z=>Fn.len vs H Q E (to vs H Q E z),λA outer s H args us vs Q E hr e0 hb hv z=>Fn.run A outer s H args us vs Q E hr e0 hb hv (to vs H Q E z)⟩
theorem QU {g:D->Env->Option Env}{b:SF}(I:List D->Env->Prop)(all:List D)(st:∀pre d post ρ,all=pre++d::post->I pre ρ->∃ρ1 ρ2,g d ρ=some ρ1/\(b ρ1=some (.nx ρ2)\/b ρ1=some (.ct ρ2))/\I (pre++[d]) ρ2):∀(ds pre:List D) (ρ:Env),all=pre++ds->I pre ρ ->
  ∃ρ',fT g b ds ρ=some (.nx ρ')/\I all ρ'
 |[],pre,ρ,e,h=>⟨ρ,rfl,by rw[e,cz];exact h⟩
 |d::ds,pre,ρ,e,h=>by
  obtain⟨ρ1,ρ2,h1,h2,h3⟩:=st pre d ds ρ e h
  obtain⟨ρ',h4,h5⟩:=QU I all st ds (pre++[d]) ρ2 (by rw[e];simp) h3
  refine⟨ρ',?_,h5⟩
  show(g d ρ).bind _=_
  rw[h1]
  show(b ρ1).bind _=_
  rcases h2 with h2|h2<;>(rw[h2];exact h4)
theorem Q9 {g:D->Env->Option Env}{b:SF}(I:List D->Env->Prop){ds:List D}{ρ:Env}(h:I [] ρ)(st:∀pre d post ρ,ds=pre++d::post->I pre ρ->∃ρ1 ρ2,g d ρ=some ρ1/\(b ρ1=some (.nx ρ2)\/b ρ1=some (.ct ρ2))/\I (pre++[d]) ρ2) :
  ∃ρ',fT g b ds ρ=some (.nx ρ')/\I ds ρ':=QU I ds st ds [] ρ rfl h
theorem ztr {α:Type}{all pre post:List α}{d:α}(h:all=pre++d::post):all[pre.length]?=some d:=by subst h;simp
theorem QW {α S:Type}{g:D->Env->Option Env}{b:SF}(enc:α->D)(st:S->Env)(f:S->α->S)(P:S->Prop):∀(xs:List α) (s:S),P s ->
  (∀s x,x∈xs->P s->∃ρ1,g (enc x) (st s)=some ρ1/\(b ρ1=some (.nx (st (f s x)))\/b ρ1=some (.ct (st (f s x))))/\P (f s x))->fT g b (xs.map enc) (st s)=some (.nx (st (xs.foldl f s)))/\P (xs.foldl f s)
 |[],s,hp,_=>⟨rfl,hp⟩
 |x::xs,s,hp,h=>by
  obtain⟨ρ1,h1,h2,h3⟩:=h s x af hp
  have ih:=QW enc st f P xs (f s x) h3 λs y hy=>h s y (aj _ hy)
  refine⟨?_,ih.2⟩
  show(g (enc x) (st s)).bind _=_
  rw[h1]
  show(b ρ1).bind _=_
  rcases h2 with h2|h2<;>(rw[h2];exact ih.1)
theorem QX {g:D->Env->Option Env}{b:SF}(I:Nat->Env->Prop)(lo:Int):∀(n k:Nat) (ρ:Env),I k ρ ->
  (∀j ρ,k<=j->j<k+n->I j ρ->∃ρ1 ρ2,g (.int (lo+(j:Int))) ρ=some ρ1/\(b ρ1=some (.nx ρ2)\/b ρ1=some (.ct ρ2))/\I (j+1) ρ2) ->
  ∃ρ',fT g b ((hJ k n).map λ(t:Nat)=>D.int (lo+(t:Int))) ρ=some (.nx ρ')/\I (k+n) ρ'
 |0,k,ρ,h,_=>⟨ρ,rfl,h⟩
 |n+1,k,ρ,h,st=>by
  obtain⟨ρ1,ρ2,h1,h2,h3⟩:=st k ρ (aM _) (by omega) h
  obtain⟨ρ',h4,h5⟩:=QX I lo n (k+1) ρ2 h3 λj ρ hj hl hI=>st j ρ (by omega) (by omega) hI
  refine⟨ρ',?_,by rw[show k+(n+1)=k+1+n by omega];exact h5⟩
  rw[List.range'_succ,aO]
  show(g _ ρ).bind _=_
  rw[h1]
  show(b ρ1).bind _=_
  rcases h2 with h2|h2<;>(rw[h2];exact h4)
theorem Qu {g:D->Env->Option Env}{b:SF}(I:Nat->Env->Prop){lo:Int}{n:Nat}{ρ:Env}(h:I 0 ρ)
  (st:∀j ρ,j<n->I j ρ->∃ρ1 ρ2,g (.int (lo+(j:Int))) ρ=some ρ1/\(b ρ1=some (.nx ρ2)\/b ρ1=some (.ct ρ2))/\I (j+1) ρ2):∃ρ',fT g b (eE lo n) ρ=some (.nx ρ')/\I n ρ':=by
 obtain⟨ρ',h1,h2⟩:=QX (g:=g) (b:=b) I lo n 0 ρ h λj ρ _ hj hI=>st j ρ (by omega) hI
 rw[pz]at h2
 exact⟨ρ',by unfold eE;rw[eO];exact h1,h2⟩
theorem IT {S:Type}{c:BF}{b:SF}(st:S->Env)(t:S->Bool)(f:S->S)(μ:S->Nat)(P:S->Prop)(hc:∀s,P s->c (st s)=some (t s))(hb:∀s,P s->t s=true->(b (st s)=some (.nx (st (f s)))\/b (st s)=some (.ct (st (f s))))/\P (f s)/\μ (f s) < μ s) :
  ∀(n:Nat) (s:S),P s->μ s<n->∃s',hE c b n (st s)=some (.nx (st s'))/\P s'/\t s'=false/\∃j,s'=Nat.repeat f j s
 |0,s,_,h=>absurd h (by omega)
 |n+1,s,hp,h=>by
  cases ht:t s with
  |false=>
   refine⟨s,?_,hp,ht,0,rfl⟩
   show(c (st s)).bind _=_
   rw[hc s hp,ht]
   rfl
  |true=>
   obtain⟨h1,h2,h3⟩:=hb s hp ht
   obtain⟨s',h4,h5,h6,j,h7⟩:=IT st t f μ P hc hb n (f s) h2 (by omega)
   refine⟨s',?_,h5,h6,j+1,?_⟩
   ·show(c (st s)).bind _=_
    rw[hc s hp,ht]
    show(b (st s)).bind _=_
    rcases h1 with h1|h1<;>(rw[h1];exact h4)
   ·rw[h7]
    clear h4 h5 h6 h7
    induction j with
    |zero=>rfl
    |succ j ih=>show f (Nat.repeat f j (f s))=f (Nat.repeat f (j+1) s);rw[ih]
theorem Qv {c:BF}{b:SF}(I:Env->Prop)(μ:Env->Nat)(st:∀ρ,I ρ->∃t,c ρ=some t/\(t=true->∃ρ',(b ρ=some (.nx ρ')\/b ρ=some (.ct ρ'))/\I ρ'/\μ ρ' < μ ρ)) :
  ∀(n:Nat) (ρ:Env),I ρ->μ ρ<n->∃ρ',hE c b n ρ=some (.nx ρ')/\I ρ'/\c ρ'=some false
 |0,_,_,h=>absurd h (by omega)
 |n+1,ρ,hI,h=>by
  obtain⟨t,h1,h2⟩:=st ρ hI
  cases t with
  |false=>exact⟨ρ,by show(c ρ).bind _=_;rw[h1];rfl,hI,h1⟩
  |true=>
   obtain⟨ρ',h3,h4,h5⟩:=h2 rfl
   obtain⟨ρ2,h6,h7,h8⟩:=Qv I μ st n ρ' h4 (by omega)
   refine⟨ρ2,?_,h7,h8⟩
   show(c ρ).bind _=_
   rw[h1]
   show(b ρ).bind _=_
   rcases h3 with h3|h3<;>(rw[h3];exact h6)
theorem Ju {n k:Nat}(h:n<2 ^ k)(hk:k<=9000):n<lH:=bj h (dG (by decide) hk)
theorem NE {n:Nat}(h:n<1048576):n<lH:=Ju (k:=20) h (by decide)
theorem NF {i j:Int}(h:j≠0):cX (.int i) (.int j)=some (.int (i.fmod j)):=by
 unfold cX
 by_cases h0:0<j
 ·simp[h0,nt i (by omega:0<=j)]
 ·simp[h0,h]
theorem Jg {i j:Int}(h:j≠0)(hz:Sz 9000 j):ed (.int i) (.int j)=some (.int (i.fdiv j)):=by
 unfold ed
 by_cases h0:0<j/\j<4611686018427387904
 ·simp[h0,gP i (by omega:0<=j)]
 ·have hz:j.natAbs<JL:=hz
  simp[h0,h,hz]
theorem zgt {i j:Int}(h1:0<j)(h2:j<4611686018427387904):ed (.int i) (.int j)=some (.int (i/j)):=by unfold ed;simp[h1,h2]
theorem jg {i j:Int}(h:0<j):cX (.int i) (.int j)=some (.int (i%j)):=by unfold cX;simp[h]
theorem zb1 {i j:Int}(h1:-18446744073709551616<j)(h2:j<18446744073709551616):cT (.int i) (.int j)=some (.int (i*j)):=by simp[cT,sr,km,h1,h2]
theorem zdq {i j:Int}(h1:-18446744073709551616<i)(h2:i<18446744073709551616):cT (.int i) (.int j)=some (.int (i*j)):=by simp[cT,sr,km,h1,h2]
theorem znm {i j:Int}(h1:0<=j)(h2:j<=1000000)(h3:i.natAbs<18446744073709551616):tF (.int i) (.int j)=some (.int (i ^ j.toNat)):=by simp[tF,sr,nL,h1,h2,h3]
theorem znn {i j:Int}(h1:0<=j)(h2:j<=1000000)(h3:i.natAbs<18446744073709551616):vA (.int i) (.int j)=some (.int (i*2 ^ j.toNat)):=by simp[vA,sr,nL,h1,h2,h3]
theorem zi2 {i j:Int}(h1:0<=j):rN (.int i) (.int j)=some (.int (i/2 ^ j.toNat)):=by simp[rN,sr,h1]
theorem zno (i j:Int):ej (.int i) (.int j)=some (.int (i+j)):=rfl
theorem Ra {xs ys:List D}(h:xs.length+ys.length<=16777216):ej (.lst xs) (.lst ys)=some (.lst (xs++ys)):=by simp[ej,h]
theorem znp {x y:aQ}(h:x.length+y.length<=16777216):ej (.str x) (.str y)=some (.str (x++y)):=by simp[ej,h]
theorem znq (i j:Int):oz (.int i) (.int j)=some (.int (i-j)):=rfl
theorem zlj (i j:Int):og (.int i) (.int j)=some (.bl (decide (i<j))):=rfl
theorem zq5 (i j:Int):uU (.int i) (.int j)=some (.bl (decide (i<=j))):=rfl
theorem zhy (i j:Int):sO (.int i) (.int j)=some (.bl (decide (j<i))):=rfl
theorem zq6 (i j:Int):vU (.int i) (.int j)=some (.bl (decide (j<=i))):=rfl
theorem znr (i:Int):p6 (.int i)=some (.int (-i)):=rfl
theorem v7 (ds:List D):dg [.lst ds]=some (.int ds.length):=rfl
theorem zns (ds:List D):dg [.tup ds]=some (.int ds.length):=rfl
theorem zfe (i:Int):oV [.int i]=some (.int (if i<0 then -i else i)):=rfl
theorem zlk (i j:Int):FM [.int i,.int j]=some (.int (if j > i then j else i)):=rfl
theorem zll (i j:Int):FO [.int i,.int j]=some (.int (if j<i then j else i)):=rfl
theorem zq7 (neg:Bool)(d:D):oX neg d .non=some (.bl (if neg then !d.isN else d.isN)):=by cases d<;>rfl
theorem zts (neg b:Bool)(d:D):oX neg d (.bl b)=some (.bl (if neg then !d.isB b else d.isB b)):=by cases d<;>rfl
theorem ztt (b:Bool):HU (.bl b)=some b:=rfl
theorem zq8 (ds:List D):HV (.lst ds)=some ds:=rfl
theorem zeo (ds:List D)(l h:Option Int):jP (.lst ds) l h=some (.lst (cutD ds l h)):=rfl
theorem AN {j:Int}(h1:-4611686018427387904<=j)(h2:j<4611686018427387904):iE [.int j]=some (eE 0 j.toNat):=by simp[iE,h1,h2]
theorem zq9 {α:Type}(enc:α->D){xs:List α}{i:Int}{j:Nat}{x:α}(hi:i=(j:Int)\/i=(j:Int)-xs.length)(h:xs[j]?=some x):atI (xs.map enc) i=some (enc x):=by
 have hj:=(aV.mp h).1
 unfold L2.atI L2.ixN
 rw[ak]
 rcases hi with rfl|rfl
 ·rw[if_pos (by omega),if_pos (by omega)]
  simp[h]
 ·rw[if_neg (by omega),if_pos (by omega)]
  have:((j:Int)-(xs.length:Int)+(xs.length:Int)).toNat=j:=by omega
  simp[this,h]
theorem zlm (xs:List D)(k:Nat):cutD xs (some (k:Int)) none=xs.drop k:=by
 unfold cutD
 rw[HT.sIx_none,HT.sIx_nat]
 rcases pw k xs.length with h|h
 ·rw[mJ h,er (by rw[cJ];omega)]
 ·rw[lP h,fJ (aM _),fJ h]
  simp
theorem znt (xs:List D)(k l:Nat):cutD xs (some (k:Int)) (some (l:Int))=(xs.drop k).take (l-k):=by
 unfold cutD
 rw[HT.sIx_nat,HT.sIx_nat]
 rcases pw k xs.length with h|h
 ·rw[mJ h]
  rcases pw l xs.length with g|g
  ·rw[mJ g]
  ·rw[lP g,er (by rw[cJ];omega),er (by rw[cJ];omega)]
 ·rw[lP h,fJ (aM _),fJ h]
  simp
theorem znu {i j:Int}{n m:Nat}(h:Sz n i)(h':Sz m j)(hn:n<=100000)(hm:m<=100000):km i j:=.inr (.inr ⟨h.mono hn,h'.mono hm⟩)
theorem u6 {i j:Int}{n m:Nat}(h:Sz n i)(h':Sz m j)(hn:n<=100000)(hm:m<=100000):cT (.int i) (.int j)=some (.int (i*j)):=by
 have:=znu h h' hn hm
 simp[cT,sr,this]
theorem QY {α:Type}{g:D->Env->Option Env}{p:BF}{f:EF}{ρ0:Env}(enc:α->D)(q:α->Bool)(h:α->D):∀(xs:List α),(∀x∈xs,∃ρ1,g (enc x) ρ0=some ρ1/\p ρ1=some (q x)/\(q x=true->f ρ1=some (h x)))->nE g p f ρ0 (xs.map enc)=some ((xs.filter q).map h)
 |[],_=>rfl
 |x::xs,H=>by
  obtain⟨ρ1,h1,h2,h3⟩:=H x af
  have ih:=QY enc q h xs λy hy=>H y (aj _ hy)
  show(g (enc x) ρ0).bind _=_
  rw[h1]
  show(p ρ1).bind _=_
  rw[h2]
  cases hq:q x with
  |false=>
   rw[dr,if_neg aK,oE (by rw[hq];exact aK)]
   exact ih
  |true=>
   rw[dr,if_pos rfl,h3 hq,oF hq]
   show(nE g p f ρ0 (xs.map enc)).bind _=_
   rw[ih]
   rfl
end L3
namespace L3
open PySem PySem.Spec L2
structure kC (α:Type)[DecidableEq α] where
 enc:α->D
 py:α->cn
 dep:Nat
 is:∀x,(enc x).py=some (py x)
 lay:∀x,(py x).canLay0=true
 dp:∀x,(py x).depth<=dep
 eqv:∀x y,cn.eqv (py x) (py y)=decide (x=y)
section
variable {α β γ δ ε:Type}[DecidableEq α][DecidableEq β][DecidableEq γ][DecidableEq δ][DecidableEq ε]
theorem kC.eq (E:kC α)(h:E.dep<=60){neg:Bool}(x y:α):eK neg (E.enc x) (E.enc y)=some (.bl (if neg then !decide (x=y)else decide (x=y))):=by
 have h1:oj (E.py x)=true:=by unfold oj;rw[E.lay x,decide_eq_true (cL (E.dp x) h)];rfl
 have h2:oj (E.py y)=true:=by unfold oj;rw[E.lay y,decide_eq_true (cL (E.dp y) h)];rfl
 unfold eK
 rw[E.is x,E.is y]
 simp only[dr]
 rw[if_pos ⟨h1,h2⟩,E.eqv]
def Ei:kC Int:=⟨.int,.int,0,λ_=>by simp[D.py],λ_=>rfl,λ_=>by simp[cn.depth],λx y=>by show(x==y)=_;by_cases h:x=y<;>simp[h]⟩
def Eb:kC Bool:=⟨.bl,.bool,0,λ_=>by simp[D.py],λ_=>rfl,λ_=>by simp[cn.depth],λx y=>by cases x<;>cases y<;>rfl⟩
theorem RN (E:kC α):∀xs:List α,D.pys (xs.map E.enc)=some (xs.map E.py)
 |[]=>by simp[D.pys]
 |x::xs=>by simp[D.pys,E.is x,RN E xs]
theorem Qw (E:kC α):∀xs:List α,cn.canLayAll0 (xs.map E.py)=true
 |[]=>by simp[cn.canLayAll0]
 |x::xs=>by simp[cn.canLayAll0,E.lay x,Qw E xs]
theorem Qx (E:kC α):∀xs:List α,cn.depthAll (xs.map E.py)<=E.dep
 |[]=>by simp[cn.depthAll]
 |x::xs=>by
  have:=Qx E xs
  have:=E.dp x
  simp only[aO,cn.depthAll]
  omega
theorem Qy (E:kC α):∀xs ys:List α,cn.eqvAll (xs.map E.py) (ys.map E.py)=decide (xs=ys)
 |[],[]=>by simp[cn.eqvAll]
 |[],_::_=>by simp[cn.eqvAll]
 |_::_,[]=>by simp[cn.eqvAll]
 |x::xs,y::ys=>by
  simp only[aO,cn.eqvAll,E.eqv,Qy E xs ys]
  by_cases h:x=y<;>by_cases g:xs=ys<;>simp[h,g]
def El (E:kC α):kC (List α):=⟨λxs=>.lst (xs.map E.enc),λxs=>.list (xs.map E.py),E.dep+1,λxs=>by simp[D.py,RN],λxs=>by simp[cn.canLay0,Qw],λxs=>by have:=Qx E xs;simp only[cn.depth];omega,λxs ys=>by simp only[cn.eqv,Qy]⟩
def E2 (A:kC α)(B:kC β):kC (α×β):=⟨λp=>.tup [A.enc p.1,B.enc p.2],λp=>.tuple [A.py p.1,B.py p.2],max A.dep B.dep+1,λp=>by simp[D.py,D.pys,A.is,B.is],λp=>by simp[cn.canLay0,cn.canLayAll0,A.lay,B.lay],
 λp=>by have:=A.dp p.1;have:=B.dp p.2;simp only[cn.depth,cn.depthAll];omega,λp q=>by
  simp only[cn.eqv,cn.eqvAll,A.eqv,B.eqv]
  obtain⟨a,b⟩:=p
  obtain⟨c,d⟩:=q
  by_cases h:a=c<;>by_cases g:b=d<;>simp[h,g]⟩
end
theorem zdr {neg:Bool}(a b:Int):eK neg (.int a) (.int b)=some (.bl (if neg then !decide (a=b)else decide (a=b))):=Ei.eq (by decide) a b
theorem ztu {neg:Bool}(a b:Bool):eK neg (.bl a) (.bl b)=some (.bl (if neg then !decide (a=b)else decide (a=b))):=Eb.eq (by decide) a b
end L3
namespace L3
open PySem PySem.Spec L2
open PyProof.Rows hiding St
section
variable {X:Cx}{ct:Nat->ah}{K:aa}{n m k:Nat}
theorem IntsAre.of {ns:List Int}{us:List ae}(h:bX (ns.map V.int) us):IntsAre us ns:=ZK h
theorem Hl (hc:X.calm=true):et X (.builtin "sum") (λxs H Q=>∃(a:ah) (ns:List Int),xs=[.ref a]/\e5 X.K H a (ns.map V.int)/\Q (.int ns.sum) H):=by
 intro ai s σ H xs us Q I r h
 obtain⟨a,ns,rfl,hq,q⟩:=h
 obtain⟨u,rfl,ru⟩:=r.one
 cases(show u=ae.ref a from ru)
 obtain⟨bZ,rv,pl,hz⟩:=I.list hq
 have hi:=IntsAre.of rv
 obtain⟨ys,hx⟩:=hi.allInts.items
 have zT:s.heap.IsList a (intItems ys):=hx▸pl.isList
 refine sum_intListG (I.ok.hd hc) zT λh' tk t' hk=>?_
 have e1:ns=ys.toList.map (·.1):=by
  rw[←qF,←hx]
  exact(show numsOf bZ.toArray.toList=ns from hi.numsOf).symm
 have e2:preSum (numAt ys) ys.size=ns.sum:=by
  rw[preSum_eq,er (by simp),e1]
 rw[e2]
 exact⟨.int ns.sum,H,I.kept (t':=tk) hk,⟨_,rfl⟩,q⟩
theorem QZ (hc:X.calm=true):et X (.builtin "max") (λxs H Q=>∃(a:ah) (ns:List Int),xs=[.ref a]/\e5 X.K H a (ns.map V.int)/\ns≠[]/\∀M,M∈ns->(∀z∈ns,z<=M)->Q (.int M) H):=by
 intro ai s σ H xs us Q I r h
 obtain⟨a,ns,rfl,hq,iY,q⟩:=h
 obtain⟨u,rfl,ru⟩:=r.one
 cases(show u=ae.ref a from ru)
 obtain⟨bZ,rv,pl,hz⟩:=I.list hq
 have hi:=IntsAre.of rv
 obtain⟨ys,e⟩:=hi.allInts.items
 have gB:ns=ys.toList.map (·.1):=by rw[←hi.numsOf,←qF,←e]
 have hsz:0<ys.size:=by
  have h3:0<ns.length:=eY.mpr iY
  rw[gB,ak,cC]at h3;exact h3
 have zT:s.heap.IsList a (intItems ys):=e▸pl.isList
 refine max_intList (I.ok.hd hc) zT hsz λv h' tk hv hk=>?_
 obtain⟨t,rfl⟩:=intItems_at hv
 obtain⟨h1,h2⟩:=argBest_gt (numAt ys) (ys.size-1)
 refine⟨.int (numAt ys (argBest (λi j=>decide (numAt ys i > numAt ys j)) (ys.size-1))),H,I.kept (t':=tk) hk,⟨_,rfl⟩,q _ ?_ λz hz=>?_⟩
 ·rw[gB,numAt_eq];exact getD_mem (by rw[ak,cC];omega)
 ·rw[gB]at hz
  obtain⟨j,hj,rfl⟩:=mem_getD hz
  rw[ak,cC]at hj
  rw[←numAt_eq];exact h2 j (by omega)
theorem zlo (hc:X.calm=true):et X (.builtin "min") (λxs H Q=>∃(a:ah) (ns:List Int),xs=[.ref a]/\e5 X.K H a (ns.map V.int)/\ns≠[]/\∀M,M∈ns->(∀z∈ns,M<=z)->Q (.int M) H):=by
 intro ai s σ H xs us Q I r h
 obtain⟨a,ns,rfl,hq,iY,q⟩:=h
 obtain⟨u,rfl,ru⟩:=r.one
 cases(show u=ae.ref a from ru)
 obtain⟨bZ,rv,pl,hz⟩:=I.list hq
 have hi:=IntsAre.of rv
 obtain⟨ys,e⟩:=hi.allInts.items
 have gB:ns=ys.toList.map (·.1):=by rw[←hi.numsOf,←qF,←e]
 have hsz:0<ys.size:=by
  have h3:0<ns.length:=eY.mpr iY
  rw[gB,ak,cC]at h3;exact h3
 have zT:s.heap.IsList a (intItems ys):=e▸pl.isList
 refine min_intList (I.ok.hd hc) zT hsz λv h' tk hv hk=>?_
 obtain⟨t,rfl⟩:=intItems_at hv
 obtain⟨h1,h2⟩:=argBest_lt (numAt ys) (ys.size-1)
 refine⟨.int (numAt ys (argBest (λi j=>decide (numAt ys i<numAt ys j)) (ys.size-1))),H,I.kept (t':=tk) hk,⟨_,rfl⟩,q _ ?_ λz hz=>?_⟩
 ·rw[gB,numAt_eq];exact getD_mem (by rw[ak,cC];omega)
 ·rw[gB]at hz
  obtain⟨j,hj,rfl⟩:=mem_getD hz
  rw[ak,cC]at hj
  rw[←numAt_eq];exact h2 j (by omega)
theorem Q1:∀{bs:List Bool} {us:List ae},bX (bs.map V.bl) us->us=bs.map ae.bool
 |[],_,.nil=>rfl
 |b::bs,_,.cons r t=>by rw[Q1 t];cases(show _=ae.bool b from r);rfl
theorem M7 (hc:X.calm=true):et X (.builtin "all") (λxs H Q=>∃(a:ah) (bs:List Bool),xs=[.ref a]/\e5 X.K H a (bs.map V.bl)/\Q (.bl (bs.all id)) H):=by
 intro ai s σ H xs us Q I r h
 obtain⟨a,bs,rfl,hq,q⟩:=h
 obtain⟨u,rfl,ru⟩:=r.one
 cases(show u=ae.ref a from ru)
 obtain⟨bZ,rv,pl,hz⟩:=I.list hq
 have hb:=Q1 rv
 subst hb
 have hl:=pl.isList
 have mQ:a<s.heap.objs.size:=by obtain⟨_,e,_⟩:=hl;exact aP e
 refine PySem.call_all_walk (wpAny_pyIter_list hl ?_)
 refine⟨s.heap.objs.size,[s.heap.objs.size,a],[s.heap.objs.size],(bs.map ae.bool).toArray.size,_,_,λi=>(bs[i]?).getD true,rfl,Walks.list (A:=X.A.in1) (I.ok.hd hc) _ a (bw mQ) (bs.map ae.bool).toArray,
  ⟨⟨_,bQ _ rfl,rfl,rfl⟩,hl.push _⟩,λi v s' Q' E' hP hQ=>?_,λh' tk hk=>?_⟩
 ·have hP:(bs.map ae.bool)[i]?=some v:=by simpa using hP
  rw[aX]at hP
  obtain⟨b,hb,rfl⟩:=dN.mp hP
  simp only[hb,Option.getD_some]at hQ
  exact di hQ
 ·have e:((ax (bs.map ae.bool).toArray.size).all λi=>(bs[i]?).getD true)=bs.all id:=by
   rw[aE,ak];exact PyProof.Rows.LSm.range_all bs
  rw[e]
  refine⟨.bl (bs.all id),H,I.kept (t':=tk) λb o Lq=>hk b o (λhm=>?_) (aC _ Lq),rfl,q⟩
  rw[aD.mp hm]at Lq
  exact eh _ (aP Lq)
def fG:List D->Option (List Int)
 |[]=>some []
 |.int i::ds=>(fG ds).bind λns=>some (i::ns)
 |_=>none
theorem M0:∀{ds:List D} {ns:List Int},fG ds=some ns->ds=ns.map .int
 |[],_,e=>by cases e;rfl
 |d::ds,ns,e=>by
  cases d with
  |int i=>
   obtain⟨ms,h1,h2⟩:=aJ (show(fG ds).bind _=_ from e)
   cases h2
   rw[M0 h1];rfl
  |_=>cases e
theorem Bw:∀ns:List Int,fG (ns.map .int)=some ns
 |[]=>rfl
 |n::ns=>by show(fG (ns.map .int)).bind _=_;rw[Bw ns];rfl
theorem Pr.intV {F G:Hp}:∀{ns:List Int} {vs:List V},Pr (Al K ct F G n) (ns.map .int) vs->vs=ns.map V.int
 |[],_,.nil=>rfl
 |i::ns,_,.cons h t=>by rw[Pr.intV t,h.int];rfl
def iV:List D->Option (List Bool)
 |[]=>some []
 |.bl i::ds=>(iV ds).bind λns=>some (i::ns)
 |_=>none
theorem Qo:∀{ds:List D} {ns:List Bool},iV ds=some ns->ds=ns.map .bl
 |[],_,e=>by cases e;rfl
 |d::ds,ns,e=>by
  cases d with
  |bl i=>
   obtain⟨ms,h1,h2⟩:=aJ (show(iV ds).bind _=_ from e)
   cases h2
   rw[Qo h1];rfl
  |_=>cases e
theorem Pr.blV {F G:Hp}:∀{ns:List Bool} {vs:List V},Pr (Al K ct F G n) (ns.map .bl) vs->vs=ns.map V.bl
 |[],_,.nil=>rfl
 |i::ns,_,.cons h t=>by rw[Pr.blV t,h.bl];rfl
def FN:List Int->Option Int
 |[]=>none
 |x::xs=>some (xs.foldl max x)
def FP:List Int->Option Int
 |[]=>none
 |x::xs=>some (xs.foldl min x)
theorem Q2:∀(xs:List Int) (x:Int),(xs.foldl max x=x\/xs.foldl max x∈xs)/\x<=xs.foldl max x/\∀z∈xs,z<=xs.foldl max x
 |[],x=>⟨.inl rfl,fv _,λz h=>by cases h⟩
 |y::xs,x=>by
  obtain⟨h1,h2,h3⟩:=Q2 xs (max x y)
  refine⟨?_,by show x<=xs.foldl max (max x y);omega,λz hz=>?_⟩
  ·rcases h1 with h1|h1
   ·show xs.foldl max (max x y)=x\/xs.foldl max (max x y)∈y::xs
    rw[h1]
    rcases pf x y with h|h
    ·rw[Int.max_eq_right h];exact .inr af
    ·rw[Int.max_eq_left h];exact .inl rfl
   ·exact .inr (aj _ h1)
  ·rcases aF.mp hz with rfl|hz
   ·show z<=xs.foldl max (max x z);omega
   ·exact h3 z hz
theorem Q3:∀(xs:List Int) (x:Int),(xs.foldl min x=x\/xs.foldl min x∈xs)/\xs.foldl min x<=x/\∀z∈xs,xs.foldl min x<=z
 |[],x=>⟨.inl rfl,fv _,λz h=>by cases h⟩
 |y::xs,x=>by
  obtain⟨h1,h2,h3⟩:=Q3 xs (min x y)
  refine⟨?_,by show xs.foldl min (min x y)<=x;omega,λz hz=>?_⟩
  ·rcases h1 with h1|h1
   ·show xs.foldl min (min x y)=x\/xs.foldl min (min x y)∈y::xs
    rw[h1]
    rcases pf x y with h|h
    ·rw[Int.min_eq_left h];exact .inl rfl
    ·rw[Int.min_eq_right h];exact .inr af
   ·exact .inr (aj _ h1)
  ·rcases aF.mp hz with rfl|hz
   ·show xs.foldl min (min x z)<=z;omega
   ·exact h3 z hz
theorem Ni {ns:List Int}{M:Int}(h:FN ns=some M):M∈ns/\∀z∈ns,z<=M:=by
 cases ns with
 |nil=>cases h
 |cons x xs=>
  cases h
  obtain⟨h1,h2,h3⟩:=Q2 xs x
  refine⟨?_,λz hz=>?_⟩
  ·rcases h1 with h1|h1
   ·rw[h1];exact af
   ·exact aj _ h1
  ·rcases aF.mp hz with rfl|hz
   ·exact h2
   ·exact h3 z hz
theorem Rb {ns:List Int}{M:Int}(h:FP ns=some M):M∈ns/\∀z∈ns,M<=z:=by
 cases ns with
 |nil=>cases h
 |cons x xs=>
  cases h
  obtain⟨h1,h2,h3⟩:=Q3 xs x
  refine⟨?_,λz hz=>?_⟩
  ·rcases h1 with h1|h1
   ·rw[h1];exact af
   ·exact aj _ h1
  ·rcases aF.mp hz with rfl|hz
   ·exact h2
   ·exact h3 z hz
def oA:List D->Option D
 |[.lst ds]=>(fG ds).bind λns=>some (.int ns.sum)
 |_=>none
def tf:List D->Option D
 |[.lst ds]=>(fG ds).bind λns=>(FN ns).bind λM=>some (.int M)
 |_=>none
def Aq:List D->Option D
 |[.lst ds]=>(fG ds).bind λns=>(FP ns).bind λM=>some (.int M)
 |_=>none
def rC:List D->Option D
 |[.lst ds]=>(iV ds).bind λbs=>some (.bl (bs.all id))
 |_=>none
theorem Nj {F H:Hp}{vs:List V}{ds:List D}{ns:List Int}(s:bT F H)(l:iL K ct F H [n] [.lst ds] vs)(e:fG ds=some ns):∃a,vs=[.ref a]/\e5 K H a (ns.map V.int):=by
 cases l with
 |cons h t=>
  cases t
  obtain⟨a,us,rfl,ha,hp⟩:=h.lst s
  have:=M0 e
  subst this
  have:=hp.intV
  subst this
  exact⟨a,rfl,ha⟩
theorem HA:uI K ct [n] k (λxs H Q=>∃(a:ah) (ns:List Int),xs=[.ref a]/\e5 K H a (ns.map V.int)/\Q (.int ns.sum) H) oA:=by
 intro F H vs ds d Q s l e w
 match ds,l,e with
 |[.lst xs],l,e=>
  obtain⟨ns,h1,h2⟩:=aJ (show(fG xs).bind _=_ from e)
  cases h2
  obtain⟨a,rfl,ha⟩:=Nj s l h1
  exact⟨a,ns,rfl,ha,w _ F H (.refl s) (Al.of (.int _))⟩
theorem RP:uI K ct [n] k (λxs H Q=>∃(a:ah) (ns:List Int),xs=[.ref a]/\e5 K H a (ns.map V.int)/\ns≠[]/\∀M,M∈ns->(∀z∈ns,z<=M)->Q (.int M) H) tf:=by
 intro F H vs ds d Q s l e w
 match ds,l,e with
 |[.lst xs],l,e=>
  obtain⟨ns,h1,h2⟩:=aJ (show(fG xs).bind _=_ from e)
  obtain⟨M,h3,h4⟩:=aJ h2
  cases h4
  obtain⟨a,rfl,ha⟩:=Nj s l h1
  obtain⟨m1,m2⟩:=Ni h3
  refine⟨a,ns,rfl,ha,(λz=>by rw[z]at m1;cases m1),λM' h5 h6=>?_⟩
  have:M'=M:=uF (m2 M' h5) (h6 M m1)
  subst this
  exact w _ F H (.refl s) (Al.of (.int _))
theorem zra:uI K ct [n] k (λxs H Q=>∃(a:ah) (ns:List Int),xs=[.ref a]/\e5 K H a (ns.map V.int)/\ns≠[]/\∀M,M∈ns->(∀z∈ns,M<=z)->Q (.int M) H) Aq:=by
 intro F H vs ds d Q s l e w
 match ds,l,e with
 |[.lst xs],l,e=>
  obtain⟨ns,h1,h2⟩:=aJ (show(fG xs).bind _=_ from e)
  obtain⟨M,h3,h4⟩:=aJ h2
  cases h4
  obtain⟨a,rfl,ha⟩:=Nj s l h1
  obtain⟨m1,m2⟩:=Rb h3
  refine⟨a,ns,rfl,ha,(λz=>by rw[z]at m1;cases m1),λM' h5 h6=>?_⟩
  have:M'=M:=uF (h6 M m1) (m2 M' h5)
  subst this
  exact w _ F H (.refl s) (Al.of (.int _))
theorem NG:uI K ct [n] k (λxs H Q=>∃(a:ah) (bs:List Bool),xs=[.ref a]/\e5 K H a (bs.map V.bl)/\Q (.bl (bs.all id)) H) rC:=by
 intro F H vs ds d Q s l e w
 match ds,l,e with
 |[.lst xs],l,e=>
  obtain⟨bs,h1,h2⟩:=aJ (show(iV xs).bind _=_ from e)
  cases h2
  cases l with
  |cons h t=>
   cases t
   obtain⟨a,us,rfl,ha,hp⟩:=h.lst s
   have:=Qo h1
   subst this
   have:=hp.blV
   subst this
   exact⟨a,bs,rfl,ha,w _ F H (.refl s) (Al.of (.bl _))⟩
end
end L3
namespace L3
open PySem PySem.Spec L2
open PyProof.Rows hiding St
def lT (H:Hp)(x:ah):Hp:=λb=>if b=x then none else H b
theorem Jh (H:Hp)(x:ah):bT (lT H x) H:=λb o h=>by
 unfold lT at h
 by_cases e:b=x
 ·rw[if_pos e]at h;cases h
 ·rw[if_neg e]at h;exact h
theorem JA (H:Hp)(x:ah):lT H x x=none:=if_pos rfl
theorem j8 {H:Hp}{x b:ah}(h:b≠x):lT H x b=H b:=if_neg h
def sJ (K:aa)(ct:Nat->ah)(cs:List Nat)(pm:List Nat)(mi:Nat->List D->Option D):Sp:=λvs H Q _=>∃(F:Hp) (c:Nat) (ds:List D) (d:D) (x dx:ah) (us:List V),c∈cs/\vs=.ref x::us/\H x=some (.ins (ct c) dx [])/\F x=none/\bT F H/\iL K ct F (lT H x) pm ds us/\mi c ds=some d /\
 ∀F' H',bT F F'->bT (lT H x) H'->bT F' H'->(∀a o,lT H x a=some o->F a=none->F' a=none)->F' x=none->Ow K ct F' H' 1 d (.ref x) [x]->Q .non H'
theorem sJ.len {K:aa}{ct:Nat->ah}{cs pm:List Nat}{mi:Nat->List D->Option D}{ps:List aQ}(h:pm.length+1=ps.length):∀vs H Q E,sJ K ct cs pm mi vs H Q E->vs.length=ps.length:=by
 rintro vs H Q E ⟨F,c,ds,d,x,dx,us,_,rfl,_,_,_,l,_⟩
 rw[aI,l.length,h]
def Ah (N:List aQ)(b:SF)(c:Nat)(ds:List D):Option D:=(b (some (.obj c [] [])::startD N.tail ds)).bind λo=>match o with
 |.nx ρ=>(ρ[0]?).join
 |_=>none
section
variable {X:Cx}{ct:Nat->ah}{ms:List Mo}{rk n m k:Nat}{a b c e tg:Expr}{f g h:EF}{u w:SF}{pos:cY}
theorem Hm {P:bB}{w:cj}{K:aa}{mg:aQ->Option ae}{base:aZ}{x qual:aQ}{st:bP}{fa:ah}{fd:aH}{N0:aQ}{N ps:List aQ}{kk:Nat}{cs pm:List Nat}{bf:SF}(Fn:Fun2 K x qual st fa fd)(S:bp (N0::N) ps (aL st))(Ab:pm.length+1=ps.length)(Iq:ms.length=N.length)(rJ:pm.length<=N.length)
  (Ez:∀(i n:Nat),pm[i]?=some n->ms[i]?=some (Mo.al n)\/(n=0/\ms[i]?=some (Mo.ow 0)))
  (body:∀(x:ah) (gW:ae) (A:bR) (outer:List PySem.Env) (s:am) (H:Hp) (E:XK),eo kk (A.deeper (envOfC qual (aL st) s.heap.objs.size fa gW))->rB (ni ez P w K mg base (N0::N) qual (aL st) fa gW A outer s H E).nox ct (.so x::ms) rk (gx st) bf) :
  cx P w K mg base ez (kk+1) fa fd ps (sJ K ct cs pm (Ah (N0::N) bf)):=by
 refine Fn.ok S (sJ.len Ab) λgW A outer s H vs Q E hr h=>?_
 obtain⟨F,c,ds,d,x,dx,us,hc,rfl,hx,hF,sF,l,hm,q⟩:=h
 obtain⟨t,pt,qt⟩:=body x gW A outer s H E hr
 refine⟨t,pt,?_⟩
 obtain⟨o,h1,h2⟩:=aJ hm
 have Er:ds.length=us.length:=l.length'
 have O8:us.length=pm.length:=l.length
 have ow:Ow K ct F H 1 (.obj c [] []) (.ref x) [x]:=.inr (uJ.obj (vs:=[]) hF hx rfl .nil)
 have Xi:bT F (lT H x):=λb o hb=>by
  rw[j8 (λe=>by rw[e,hF]at hb;cases hb)]
  exact sF _ _ hb
 refine qt F (lT H x) F H (some (.obj c [] [])::startD N ds) (L2.start (N0::N) (.ref x::us)) o _ ⟨.refl _,Jh H x,sF,λ_ _ _ h=>h,[x],?_,by simp,λa z=>by rw[aD]at z;subst z;exact JA H _⟩ h1 ?_
 ·have e:L2.start (N0::N) (.ref x::us)=some (.ref x)::(us.map some++az (N.length-us.length) none):=by
   unfold L2.start
   simp
  rw[e]
  unfold startD
  rw[Er]
  exact SL.so (fp:=[]) ow (SL.start _ l Ez (by omega))
 ·cases o with
  |nx ρ=>
   intro σ F' H' r
   obtain⟨fp,sl,nd,hb⟩:=r.sl
   cases sl with
   |no _=>cases h2
   |so IF _=>
    cases h2
    exact q F' H' r.f0 r.bh r.fh r.nf (IF.cells x af).1 IF
  |rt d'=>cases h2
  |bk ρ=>cases h2
  |ct ρ=>cases h2
end
end L3
namespace L3
open PySem PySem.Spec L2
open PyProof.Rows hiding St
theorem Rc {f:aQ}{y:V}:∀{ns:List aQ} {vs:List V},ns.length=vs.length->ns.contains f=false->iN f y (ns.zip vs)=(ns++[f]).zip (vs++[y])
 |[],[],_,_=>rfl
 |[],_::_,h,_=>by simp at h
 |_::_,[],h,_=>by simp at h
 |n::ns,v::vs,h,hc=>by
  rw[qU,pK]at hc
  have hn:¬n=f:=λe=>by rw[e]at hc;simp at hc
  have ih:=Rc (f:=f) (y:=y) (ns:=ns) (vs:=vs) (by simpa using h) hc.2
  show iN f y ((n,v)::ns.zip vs)=(n,v)::(ns++[f]).zip (vs++[y])
  rw[←ih]
  show(if n=f then _ else _)=_
  rw[if_neg hn]
theorem Ow.obj_inv {ct:Nat->ah}{K:aa}{F H:Hp}{c k:Nat}{ns:List aQ}{ds:List D}{v:V}{fp:List ah}(h:Ow K ct F H (k+1) (.obj c ns ds) v fp):∃a dx vs fr,v=.ref a/\fp=a::fr/\F a=none/\H a=some (.ins (ct c) dx (ns.zip vs))/\ns.length=vs.length/\OwL (Ow K ct F H k) ds vs fr:=by
 rcases h with⟨h,_⟩|h
 ·cases h
 ·cases h with
  |obj h1 h2 h3 h4=>exact⟨_,_,_,_,rfl,rfl,h1,h2,h3,h4⟩
section
variable {X:Cx}{ct:Nat->ah}{ms:List Mo}{rk n m k:Nat}{a b c e tg:Expr}{f g h:EF}{u w:SF}{pos:cY}{x0:ah}
def kn (cs:List Nat)(x:aQ)(f:EF):SF:=λρ=>(f ρ).bind λd=>(eV 0 ρ).bind λo=>match o with
 |.obj c ns ds=>if cs.contains c=true/\ns.contains x=false/\ns.length<900 then some (.nx (ρ.set 0 (some (.obj c (ns++[x]) (ds++[d])))))else none
 |_=>none
theorem RS.self {K:aa}{F0 B F H F' H':Hp}{ρ:Env}{σ:St}{d:D}(rs:RS K ct F0 B (.so x0::ms) F H ρ σ)(hd:ρ[0]?=some (some d)):σ[0]?=some (some (.ref x0))/\Ow K ct F H 1 d (.ref x0) [x0]/\B x0=none /\
  ∀(F' H':Hp) (d':D),bT F F'->bT B H'->bT F' H'->(∀a o,B a=some o->F0 a=none->F' a=none)->(∀a o,H a=some o->a≠x0->H' a=some o)->(∀a o,H a=some o->a≠x0->F a=none->F' a=none)->Ow K ct F' H' 1 d' (.ref x0) [x0]->RS K ct F0 B (.so x0::ms) F' H' (ρ.set 0 (some d')) σ:=by
 obtain⟨fp,sl,nd,hb⟩:=rs.sl
 cases sl with
 |no _=>simp at hd
 |so ow t=>
  simp at hd
  subst hd
  refine⟨rfl,ow,hb _ af,λF' H' d' s1 s2 s3 s4 k1 k2 o'=>⟨rs.f0.trans s1,s2,s3,s4,_,.so o' (t.frame s1 λa z=>?_),nd,hb⟩⟩
  obtain⟨hn,o,ho⟩:=t.cells a z
  have ne:a≠x0:=λe=>(bv.mp nd).1 (by rw[←e];exact z)
  exact⟨(k1 a o ho ne).trans ho.symm,k2 a o ho ne hn⟩
theorem BO {x s:aQ}{cs:List Nat}{p1 pos':cY}(hc:∀c∈cs,mj X.K (ct c)/\fD X.K (ct c) x)(he:XE X ct (.so x0::ms) 0 e f)(hN:X.N[0]?=some s:=by rfl)(hv:lQ X.env.scope s:=by first|exact Or.inl rfl|exact Or.inr (Or.inl rfl)|exact Or.inr (Or.inr rfl))(hd:(s==("__debug__":aQ))=false:=by decide)
  (gA:(s==("__classdict__":aQ))=false:=by decide) (hs:dw e (some (.Attribute (.Name s p1) x pos')) pos.line X.env=pure false:=by rfl):XS X ct (.so x0::ms) rk (.Assign [.Attribute (.Name s p1) x pos'] e pos) (kn cs x f):=by
 obtain⟨t,pt,qt⟩:=he
 refine⟨_,zs5 (um hN hv hd gA) pt hs,λF0 B F H ρ σ o E rs e z=>?_⟩
 obtain⟨d,h1,h2⟩:=aJ e
 obtain⟨ob,h3,h4⟩:=aJ h2
 refine qt F0 B F H ρ σ d _ rs h1 λy F1 H1 x1 l=>?_
 have iO:=rs.ext x1
 obtain⟨hσ,ow,hB,put⟩:=iO.self (F':=F) (H':=H) (zu h3)
 refine⟨_,hσ,?_⟩
 cases ob with
 |obj c ns ds=>
  dsimp only at h4
  by_cases hz:cs.contains c=true/\ns.contains x=false/\ns.length<900
  ·rw[if_pos hz]at h4
   cases h4
   obtain⟨a,dx,vs,fr,e1,e2,hF,hH,hl,ol⟩:=ow.obj_inv
   cases e1
   cases e2
   have hh:=hc c (by simpa using hz.1)
   refine⟨x0,_,dx,_,rfl,hH,hh.1,hh.2,by rw[eA,←hl,gJ];omega,?_⟩
   rw[Rc hl hz.2.1]
   refine z σ F1 _ (put F1 _ _ (.refl _) (λb o h=>?_) (λb o h=>?_) iO.nf (λb o h ne=>by rw[ym ne];exact h) (λb o h ne hn=>hn) (.inr (uJ.obj (vs:=vs++[y]) hF yt (by simp[hl]) ?_)))
   ·rw[ym (λe=>by rw[e,hB]at h;cases h)];exact iO.bh _ _ h
   ·rw[ym (λe=>by rw[e,hF]at h;cases h)];exact iO.fh _ _ h
   ·have o1:OwL (Ow X.K ct F1 (upd H1 x0 (.ins (ct c) dx ((ns++[x]).zip (vs++[y])))) 0) ds vs []:=ol.mono λ_ _ _ _ q=>⟨q.1,q.2⟩
    have:=o1.append (OwL.cons (f:=[]) (g:=[]) (R:=Ow X.K ct F1 (upd H1 x0 (.ins (ct c) dx ((ns++[x]).zip (vs++[y])))) 0) ⟨l,rfl⟩ .nil)
    exact this
  ·rw[if_neg hz]at h4;cases h4
 |_=>cases h4
variable {kk:Nat}{fa:ah}{fd:aH}{ps:List aQ}{pm cs:List Nat}{mi:Nat->List D->Option D}{x:aQ}{pp:cY}
theorem Jv {c0:Nat}{es:List Expr}{ns nd:List Nat}{fs:Env->Option (List D)}{iM:List V}{nY:List D}{nF:List ae}(M:Mk X.K (ct c0) fa)(zO:c0∈cs)(Fn:cx X.prog X.w X.K X.mg X.base ez kk fa fd ps (sJ X.K ct cs (ns++nd) mi))(hr:eo (kk+1) X.A)(hg:Gl X x)(hm:X.mg x=some (.ref (ct c0)))
  (hb:bH X.K fd ps nF) (hd:bX iM nF) (zQ:∀F G,iL X.K ct F G nd nY iM) (ha:XA X ct ms (e::es) ns fs)
  (lM:(x==("__debug__":aQ))=false:=by decide) (he:aq (e::es) X.env=(false,bJ e X.env)::aq es X.env:=by rfl) (iT:(cB pos (aq es X.env)).any (·.1)=false:=by rfl) :
  XO X ct ms 1 (.Call (.Name x pp) (e::es) [] pos) (λρ=>(fs ρ).bind λds=>mi c0 (ds++nY)):=by
 obtain⟨t,pt,_,qt⟩:=ha
 refine⟨_,zqa M Fn hr hg hm hb hd nK pt lM he iT,λF0 B F H ρ σ r Q rs e w=>?_⟩
 obtain⟨ds,h1,h2⟩:=aJ e
 refine qt F0 B F H ρ σ ds _ rs h1 λvs F1 H1 x1 l y dy hy U8 iY=>?_
 have sH:bT H1 (lT (upd (upd H1 dy (.own y)) y (.ins (ct c0) dy [])) y):=λb o h=>by
  have n1:b≠y:=x8 h hy
  rw[j8 n1,ym n1,ym (x8 h U8)]
  exact h
 have Xj:bT H1 (upd (upd H1 dy (.own y)) y (.ins (ct c0) dy [])):=sH.trans (Jh _ _)
 refine⟨F1,c0,ds++nY,r,y,dy,vs++iM,zO,rfl,yt,x1.fh.free hy,x1.fh.trans Xj,iL.mono (.refl _) sH (iL.append (zQ F1 H1) l),h2,λF' H' s1 s2 s3 s4 hn ow=>⟨rfl,?_⟩⟩
 refine w _ F' H' [y] ⟨x1.ff.trans s1,(x1.hh.trans sH).trans s2,s3,λb o h n=>s4 b o (sH _ _ (x1.hh _ _ h)) (x1.nf b o h n)⟩ ow (by simp) λb z=>?_
 rw[aD]at z
 subst z
 exact x1.hh.free hy
theorem znv {C:ah}{sp:Sp}{iM:List V}{ds:List ae}{E:XK}{m:aQ}{p dD:cY}{es:List Expr}{t:TA}{pl:oO Bool}{mc:ae}(Fn:cx X.prog X.w X.K X.mg X.base ez kk fa fd ps sp)(hr:eo kk X.A)(hg:Gl X x)(hm:X.mg x=some (.ref C))
  (h1:dZ X.K (.ref C) "__getattribute__"=some (some (.builtin "type.__getattribute__"))) (h2:iB X.K C mc=true) (h3:iA X.K (.ref C) mc m=some (.val (.ref fa))) (hk:ao X.K (.ref fa)=true) (hb:bH X.K fd ps ds) (hd:bX iM ds) (hx:iU ez X E) (ha:PA X (e::es) t)
  (lM:(x==("__debug__":aQ))=false:=by decide) (kK:aq (e::es) X.env=(false,bJ e X.env)::aq es X.env:=by rfl) (iT:(cB pos (aq es X.env)).any (·.1)=false:=by rfl)
  (ht:bJ (.Call (.Attribute (.Name x p) m dD) (e::es) [] pos) X.env=(do
   let ov ← bJ (.Name x p) X.env
   hU dD.atName
   let(f,first) ← eG [ov] (gC ov m pl)
   i9 pos f first (cB pos (aq (e::es) X.env)) (eL pos (dC [] X.env))):=by rfl) :
  PE X (.Call (.Attribute (.Name x p) m dD) (e::es) [] pos) (wO sp iM E t):=by
 intro ai s σ H Q I h
 refine fM (pl:=pl) (Jo I hg hm ?_ lM) ht
 refine PySem.W.method_cls I.kIn h1 (PySem.W.cls_value I.kIn h2 h3 rfl ?_)
 have I1:Inv X ai σ H { s with toks:=s.toks+1 }:=I.tok _
 refine gD (first:=[]) (h₀:=X.base) I.ok.mod.kin hk (dz (ha pos ai _ σ H _ I1 h) λus s2 ⟨vs,H2,I2,r,q2⟩=>⟨I2.kIn,?_⟩) kK iT
 exact JC (us:=us) (vs:=vs) Fn hr hb hd hx I2 r q2
theorem iL.flat {K:aa}{F G G':Hp}:∀{ns:List Nat} {ds:List D} {vs:List V},iL K ct F G ns ds vs->ns.all (· == 0)=true->iL K ct F G' ns ds vs
 |_,_,_,.nil,_=>.nil
 |n::_,_,_,.cons h t,e=>by
  rw[dE,bE]at e
  have:n=0:=by simpa using e.1
  subst this
  exact .cons h (iL.flat t e.2)
def ox (cs:List Nat)(fs:Env->Option (List D))(mi:Nat->List D->Option D):SF:=λρ=>(eV 0 ρ).bind λo=>(fs ρ).bind λds=>match o with
 |.obj c [] []=>if cs.contains c=true then(mi c ds).bind λd=>some (.nx (ρ.set 0 (some d)))else none
 |_=>none
theorem Nt {C:ah}{s m:aQ}{p p1 dO dD:cY}{es:List Expr}{ns:List Nat}{fs:Env->Option (List D)}{pl:oO Bool}{mc:ae}(Fn:cx X.prog X.w X.K X.mg X.base ez kk fa fd ps (sJ X.K ct cs ns mi))(hr:eo kk X.A)(hm:X.mg x=some (.ref C))
  (h1:dZ X.K (.ref C) "__getattribute__"=some (some (.builtin "type.__getattribute__"))) (h2:iB X.K C mc=true) (h3:iA X.K (.ref C) mc m=some (.val (.ref fa))) (hk:ao X.K (.ref fa)=true) (hb:bH X.K fd ps []) (hz:ns.all (· == 0)=true) (ha:XA X ct (.so x0::ms) es ns fs)
  (hg:Gl X x:=by rfl) (hN:X.N[0]?=some s:=by rfl) (hv:lQ X.env.scope s:=by first|exact Or.inl rfl|exact Or.inr (Or.inl rfl)|exact Or.inr (Or.inr rfl)) (hd:(s==("__debug__":aQ))=false:=by decide)
  (gA:(s==("__classdict__":aQ))=false:=by decide) (lM:(x==("__debug__":aQ))=false:=by decide) (kK:aq (.Name s p1::es) X.env=(false,bJ (.Name s p1) X.env)::aq es X.env:=by rfl) (iT:(cB dO (aq es X.env)).any (·.1)=false:=by rfl)
  (ht:bJ (.Call (.Attribute (.Name x p) m dD) (.Name s p1::es) [] dO) X.env=(do
   let ov ← bJ (.Name x p) X.env
   hU dD.atName
   let(f,first) ← eG [ov] (gC ov m pl)
   i9 dO f first (cB dO (aq (.Name s p1::es) X.env)) (eL dO (dC [] X.env))):=by rfl)
  (rK:dw (.Call (.Attribute (.Name x p) m dD) (.Name s p1::es) [] dO) none pos.line X.env=pure false:=by rfl) :
  XS X ct (.so x0::ms) rk (.Expr (.Call (.Attribute (.Name x p) m dD) (.Name s p1::es) [] dO) pos) (ox cs fs mi):=by
 obtain⟨t,pt,_,qt⟩:=ha
 refine⟨_,Hv (znv (E:=E0) Fn hr hg hm h1 h2 h3 hk hb .nil nK (vi (um hN hv hd gA) pt kK) lM kK iT ht) rK,λF0 B F H ρ σ o E rs e z=>?_⟩
 obtain⟨ob,ds,g1,g2,g3⟩:=cQ e
 obtain⟨hσ,ow,hB,put⟩:=rs.self (F':=F) (H':=H) (zu g1)
 refine⟨_,hσ,qt F0 B F H ρ σ ds _ rs g2 λvs F1 H1 x1 l=>?_⟩
 have iO:=rs.ext x1
 obtain⟨hσ,ow,hB,put⟩:=iO.self (F':=F) (H':=H) (zu g1)
 match ob,g3,ow with
 |.obj c [] [],g3,ow=>
  dsimp only at g3
  by_cases hc:cs.contains c=true
  ·rw[if_pos hc]at g3
   obtain⟨d,g4,g5⟩:=aJ g3
   cases g5
   obtain⟨a,dx,us,fr,e1,e2,hF,hH,hl,ol⟩:=ow.obj_inv
   cases e1
   cases e2
   refine⟨F1,c,ds,d,x0,dx,vs++[],by simpa using hc,rfl,hH,hF,x1.fh,?_,g4,λF' H' s1 s2 s3 s4 hn o'=>?_⟩
   ·rw[cz];exact l.flat hz
   ·have sB:bT B (lT H1 x0):=λb o h=>by
     rw[j8 (λe=>by rw[e,hB]at h;cases h)]
     exact iO.bh _ _ h
    exact z σ F' H' (put F' H' d s1 (sB.trans s2) s3 (λb o h n=>s4 b o (sB _ _ h) (iO.nf b o h n)) (λb o h ne=>s2 _ _ (by rw[j8 ne];exact h)) (λb o h ne EB=>s4 b o (by rw[j8 ne];exact h) EB) o')
  ·rw[if_neg hc]at g3;cases g3
end
end L3
namespace L3
open PySem PySem.Spec L2
open PyProof.Rows hiding St
structure gO (K:aa)(mg:aQ->Option ae)(x:aQ)(st:bP)(ps:List aQ)(f:ah)(fd:aH):Prop where
 fn:Fun2 K x x st f fd
 mgx:mg x=some (.ref f)
 bd:bH K fd ps []
structure Dm (K:aa)(C:ah)(m qual:aQ)(st:bP)(ps:List aQ)(f:ah)(fd:aH):Prop where
 fn:Fun2 K m qual st f fd
 me:pT K C m f
 bd:bH K fd ps []
structure Dc (K:aa)(mg:aQ->Option ae)(x:aQ)(C:ah):Prop where
 cl:mj K C
 mgx:mg x=some (.ref C)
 mks:dX K C=true
 kp:ao K (.ref C)=true
structure Dq (K:aa)(C:ah)(m:aQ)(f:ah):Prop where
 sp:dZ K (.ref C) "__getattribute__"=some (some (.builtin "type.__getattribute__"))
 rd:iB K C (.type "type")=true
 fc:iA K (.ref C) (.type "type") m=some (.val (.ref f))
theorem zw {K:aa}{x qual:aQ}{st:bP}{f:ah}{oc:ae}{od an:Option ah}{Av:Array (Option ae)}{dV kV doc pm gW ct:ae}(l:K.lookup f=some ⟨oc,od,.func (gq x qual (lR st) (gx st) (aL st) dV kV doc pm an gW ct),Av⟩)
  (c:aw K gW qual=true) (k:ao K (.ref f)=true):Fun2 K x qual st f (gq x qual (lR st) (gx st) (aL st) dV kV doc pm an gW ct):=⟨⟨oc,od,dV,kV,doc,pm,an,gW,ct,Av,rfl,l,c⟩,k⟩
theorem Jw {K:aa}{fd:aH}{ps:List aQ}{ds:List ae}{T:ah}{o:dU}{items:Array ae}{n:Nat}(hd:fd.defaults=.ref T)(ho:K.lookup T=some o)(hs:o.data=.seq items n)
  (h:∀us:List ae,(us++ds).length=ps.length->∃k,bindArgs fd ⟨us,[]⟩=seqItems? fd.defaults >>= k/\k (some items)=pure (ps.zip (us++ds))):bH K fd ps ds:=λs us X hl=>by
 obtain⟨k,h1,h2⟩:=h us hl
 exact PySem.W.binds_K X hd ho hs h1 h2
end L3
namespace L3
open PySem PySem.Spec L2
open PyProof.Rows hiding St
def JS (x:aQ):It:=⟨λi _=>∃c,x.cps[i]?=some c,λi H v H'=>H'=H/\∃c,x.cps[i]?=some c/\v=.str ⟨#[c]⟩,λi _=>x.cps[i]?=none⟩
theorem znw {P:bB}{w:cj}{K:aa}{tg:Expr}(x:aQ)(t:Tok)(it:ah):Turn P w K tg (JS x) [it] it (λi h=>h.IsStrIter it (cP x) x t i) where
 mem:=by simp
 obj:=λi h st b hb=>by
  have e:b=it:=by simpa using hb
  subst e
  obtain⟨o,e,c,d⟩:=st
  exact⟨o,e,λv z=>by rw[d]at z;cases z⟩
 keep:=λi h h' st k=>by
  obtain⟨o,e,c,d⟩:=st
  exact⟨o,k it (by simp) o e,c,d⟩
 item:=by
  intro X hP hw hK hc i ai s σ H E I hf st hg
  subst hP hw hK
  obtain⟨c,hx⟩:=hg
  obtain⟨f0,f1,f2,f3,f4,f5⟩:=hf it (by simp)
  have fin:∀h':aZ,h'.IsStrIter it (cP x) x t (i+1)->gE it s.heap h'->bi (ba X.prog X.w) X.A (gR tg (.ref it) (.str ⟨#[c]⟩ s.toks)) (λ_ s2=>∃v H',Inv X ai σ H' s2/\RelV v (.str ⟨#[c]⟩ s.toks)/\(JS x).yld i H v H'/\s2.heap.IsStrIter it (cP x) x t (i+1)/\∀b∈[it],H' b=none) E { s with heap:=h',toks:=s.toks+1 }:=λh' su sb=>by
   have I1:Inv X ai σ H { s with heap:=h',toks:=s.toks+1 }:=I.turned (t':=s.toks+1) (λb o hb e=>(sb.2 b hb).trans e) f0 f1 f3 f4 f5
   obtain⟨o,e,cc,d⟩:=id su
   refine N7 (s:={ s with heap:=h',toks:=s.toks+1 }) e cc d ?_ ⟨.str ⟨#[c]⟩,H,I1,⟨_,rfl⟩,⟨rfl,c,hx,rfl⟩,su,λb hb=>(hf b hb).1⟩
   unfold cP
   split<;>decide
  cases ha:x.cps.all (·<128)with
  |true=>
   have e:cP x = "str_ascii_iterator":=by unfold cP;rw[ha];rfl
   rw[e]at st fin
   exact wpAny_pyNext_ascii_item st hx λh' su sb=>⟨_,rfl,by rw[e];exact fin h' su sb⟩
  |false=>
   have e:cP x = "str_iterator":=by unfold cP;rw[ha];rfl
   rw[e]at st fin
   exact wpAny_pyNext_wide_item st hx λh' su sb=>⟨_,rfl,by rw[e];exact fin h' su sb⟩
 done:=by
  intro X hP hw hK hc i ai s σ H E I hf st hg
  subst hP hw hK
  obtain⟨f0,f1,f2,f3,f4,f5⟩:=hf it (by simp)
  cases ha:x.cps.all (·<128)with
  |true=>
   have e:cP x = "str_ascii_iterator":=by unfold cP;rw[ha];rfl
   rw[e]at st
   exact wpAny_pyNext_ascii_end (I.ok.hd hc) st hg λh' eb=>⟨rfl,I.turned (t':=s.toks) (λb o hb e=>eb b o hb e) f0 f1 f3 f4 f5⟩
  |false=>
   have e:cP x = "str_iterator":=by unfold cP;rw[ha];rfl
   rw[e]at st
   exact wpAny_pyNext_wide_end (I.ok.hd hc) st hg λh' eb=>⟨rfl,I.turned (t':=s.toks) (λb o hb e=>eb b o hb e) f0 f1 f3 f4 f5⟩
 self:=λA i s Q E st h=>by
  cases ha:x.cps.all (·<128)with
  |true=>
   have e:cP x = "str_ascii_iterator":=by unfold cP;rw[ha];rfl
   rw[e]at st
   exact wpAny_pyIter_striter_ascii st h
  |false=>
   have e:cP x = "str_iterator":=by unfold cP;rw[ha];rfl
   rw[e]at st
   exact wpAny_pyIter_striter_wide st h
def LP (tl:TE):TI:=λσ H R=>tl σ H λx H1=>∃z,x=.str z/\R (JS z) H1
section
variable {X:Cx}{ct:Nat->ah}{ms:List Mo}{rk n m k:Nat}{st:bP}{rest:List bP}{a b c e tg:Expr}{f g h:EF}{p q:BF}{u w:SF}{pos:cY}
theorem ztv {l:Expr}{tl:TE}(hl:PE X l tl):PI X tg l (LP tl):=by
 intro ai s σ H R I h
 refine dz (hl ai s σ H _ I h) λv s1 ⟨x,H1,I1,r,z,e,q⟩=>?_
 subst e
 obtain⟨t,rfl⟩:=r
 refine wpAny_pyIter_strU ?_
 refine⟨s1.heap.objs.size,[s1.heap.objs.size],_,_,H1,rfl,I1.kept (t':=s1.toks) λb o e=>aC _ e,znw z t _,⟨_,bQ _ rfl,rfl,rfl⟩,λb hb=>?_,q⟩
 have e:b=s1.heap.objs.size:=by simpa using hb
 subst e
 exact I1.fpOk (aM _) (I1.hok.fresh (aM _))
def qA (x:aQ):List D:=x.cps.toList.map λc=>.str ⟨#[c]⟩
def Oo:D->Option (List D)
 |.str x=>some (qA x)
 |_=>none
theorem ztw (he:XE X ct ms m e f):XI X ct ms n tg e (λρ=>(f ρ).bind Oo):=by
 obtain⟨t,pt,qt⟩:=he
 refine⟨_,ztv pt,λF0 B F H ρ σ ds R rs e w=>?_⟩
 obtain⟨d,h1,h2⟩:=aJ e
 refine qt F0 B F H ρ σ _ _ rs h1 λv F' H' x l=>?_
 cases d with
 |str z=>
  cases h2
  refine⟨z,l.str,w _ F' H' x λi F2 H2 s1 s2 s3=>⟨λd hd=>?_,λhl=>?_⟩⟩
  ·unfold qA at hd
   rw[aX]at hd
   obtain⟨c,hc,rfl⟩:=dN.mp hd
   have vX:z.cps[i]?=some c:=by simpa using hc
   refine⟨⟨c,vX⟩,λy H3 hy=>?_⟩
   obtain⟨rfl,c2,h3,rfl⟩:=hy
   rw[vX]at h3
   cases h3
   exact⟨F2,.refl s3,Al.of (.str _)⟩
  ·unfold qA at hl
   rw[ak,cC]at hl
   exact Array.getElem?_eq_none hl
 |_=>cases h2
theorem znx {κ:Type}[DecidableEq κ](k:κ)(v:V):∀{ks:List κ} {vs:List V},ks.length=vs.length->putK (ks.zip vs) k v=(if ks.contains k=true then ks.zip ((ks.zip vs).map λp=>if p.1=k then v else p.2)else(ks++[k]).zip (vs++[v])):=by
 intro ks vs hl
 unfold putK
 have e:((ks.zip vs).any λkv=>decide (kv.1=k))=ks.contains k:=by
  rw[Bool.eq_iff_iff,lB,List.contains_iff_mem]
  constructor
  ·rintro⟨p,hp,he⟩
   have:=decide_eq_true_iff.mp he
   rw[←this]
   exact(gw hp).1
  ·intro hk
   obtain⟨i,hi,rfl⟩:=List.getElem_of_mem hk
   exact⟨(ks[i],vs[i]'(by omega)),eQ.mpr ⟨i,by simp;omega,by simp⟩,by simp⟩
 rw[e]
 by_cases h:ks.contains k=true
 ·rw[if_pos h,if_pos h]
  clear e h
  induction ks generalizing vs with
  |nil=>simp
  |cons y ks ih=>
   cases vs with
   |nil=>simp at hl
   |cons u vs=>
    simp only[fk,aO,ih (by simpa using hl)]
    by_cases hy:y=k<;>simp[hy]
 ·rw[if_neg h,if_neg h,tW hl]
  rfl
end
end L3
namespace L3
open PySem PySem.Spec L2
open PyProof.Rows hiding St
section
variable {X:Cx}{ct:Nat->ah}{ms:List Mo}{rk n m k:Nat}{st:bP}{rest:List bP}{a b c e tg:Expr}{f g h:EF}{p q:BF}{u w:SF}{pos:cY}
def ko (i:Nat)(fj f:EF):SF:=λρ=>(f ρ).bind λd=>(eV i ρ).bind λo=>(fj ρ).bind λj=>match o with
 |.dK ks ds=>(uT j).bind λk=>if ks.length<16777216 then some (.nx (ρ.set i (some (.dK (fH ks ds k d).1 (fH ks ds k d).2))))else none
 |.dT ks ds=>(match j with
  |.tup js=>(oZ js).bind λk=>if ks.length<16777216 then some (.nx (ρ.set i (some (.dT (fH ks ds k d).1 (fH ks ds k d).2))))else none
  |_=>none)
 |_=>none
theorem Ji {κ:Type}[DecidableEq κ]{R:D->V->Prop}{d:D}{v:V}(r:R d v)(k:κ){ks:List κ}{ds:List D}{vs:List V}(hl:ks.length=vs.length)(hp:Pr R ds vs) :
  ∃us,putK (ks.zip vs) k v=(fH ks ds k d).1.zip us/\(fH ks ds k d).1.length=us.length/\Pr R (fH ks ds k d).2 us:=by
 rw[znx k v hl]
 unfold fH
 by_cases h:ks.contains k=true
 ·rw[if_pos h,if_pos h]
  refine⟨_,rfl,by simp[hl],?_⟩
  clear h
  induction ks generalizing ds vs with
  |nil=>simp;exact .nil
  |cons y ks ih=>
   cases hp with
   |nil=>simp at hl
   |cons h t=>
    simp only[fk,aO]
    refine .cons ?_ (ih (by simpa using hl) t)
    by_cases hy:y=k
    ·rw[if_pos hy,if_pos hy];exact r
    ·rw[if_neg hy,if_neg hy];exact h
 ·rw[if_neg h,if_neg h]
  exact⟨_,rfl,by simp[hl],hp.append (.cons r .nil)⟩
theorem RQ (i:Nat){x:aQ}{j:Expr}{p1 iF:cY}{fj:EF}(hm:ms[i]?=some (.ow 1))(hu:X.A.units+1<gK)(hj:XE X ct ms 0 j fj)(he:XE X ct ms 0 e f)(hN:X.N[i]?=some x:=by rfl)(hv:lQ X.env.scope x:=by first|exact Or.inl rfl|exact Or.inr (Or.inl rfl)|exact Or.inr (Or.inr rfl))(hd:(x==("__debug__":aQ))=false:=by decide)
  (gA:(x==("__classdict__":aQ))=false:=by decide) (hs:dw e (some (.Subscript (.Name x p1) j iF)) pos.line X.env=pure false:=by rfl) :
  XS X ct ms rk (.Assign [.Subscript (.Name x p1) j iF] e pos) (ko i fj f):=by
 obtain⟨t,pt,qt⟩:=he
 obtain⟨tj,tG,tH⟩:=hj
 refine⟨_,RA hu (um hN hv hd gA) tG pt hs,λF0 B F H ρ σ o E rs e z=>?_⟩
 obtain⟨d,g1,g2⟩:=aJ e
 obtain⟨d1,sM,g3,g4,g5⟩:=cQ g2
 refine qt F0 B F H ρ σ d _ rs g1 λv0 F1 H1 x1 l0=>?_
 have iO:=rs.ext x1
 obtain⟨f1,fr,n1,b1,dj,i4,cf,put⟩:=iO.put (F':=F) (H':=H) hm
 obtain⟨v,hσ,ow⟩:=i4 d1 (zu g3)
 refine⟨v,hσ,tH F0 B F1 H1 ρ σ sM _ iO g4 λvj F2 H2 x2 lj=>?_⟩
 have FJ:Dt X.K ct F2 d v0:=Dt.mono x2.ff l0
 cases d1 with
 |dK ks ds=>
  dsimp only at g5
  obtain⟨key,g6,g7⟩:=aJ g5
  by_cases hz:ks.length<16777216
  ·rw[if_pos hz]at g7
   cases g7
   obtain⟨ad,vs,mz,rfl,rfl,hF,hH,hl,ol⟩:=ow.dK_inv
   have hA:=x2.hh _ _ hH
   have fA:F2 ad=none:=x2.nf ad _ hH hF
   have e0:=ol.nil0
   subst e0
   have hp:Pr (Dt X.K ct F2) ds vs:=ol.pr λ_ _ _ _ q=>q.1.mono x2.ff
   obtain⟨us,Ac,Ad,Ae⟩:=Ji FJ key hl hp
   have hk:=JH g6 lj
   subst hk
   refine⟨ad,_,rfl,mU.k hA (by rw[eA,←hl,gJ,cy];exact hz),?_⟩
   rw[Ac]
   refine z σ F2 _ (iO.change hm x2 hσ b1 dj cf put af fA (.inr (.dK fA yt Ad (OwL.ofPr (Ae.mono λ_ _ q=>⟨q,rfl⟩)))) (fn:=[ad]) (by simp) ?_)
   intro a ha
   rw[aD]at ha
   subst ha
   exact .inl af
  ·rw[if_neg hz]at g7;cases g7
 |dT ks ds=>
  cases sM with
  |tup js=>
   dsimp only at g5
   obtain⟨key,g6,g7⟩:=aJ g5
   by_cases hz:ks.length<16777216
   ·rw[if_pos hz]at g7
    cases g7
    obtain⟨ad,vs,mz,rfl,rfl,hF,hH,hl,ol⟩:=ow.dT_inv
    have hA:=x2.hh _ _ hH
    have fA:F2 ad=none:=x2.nf ad _ hH hF
    have e0:=ol.nil0
    subst e0
    have hp:Pr (Dt X.K ct F2) ds vs:=ol.pr λ_ _ _ _ q=>q.1.mono x2.ff
    obtain⟨us,Ac,Ad,Ae⟩:=Ji FJ key hl hp
    obtain⟨bd,ws,rfl,hb,ED⟩:=lj.tup x2.fh
    have hk:=Js g6 ED
    subst hk
    refine⟨ad,_,rfl,mU.t hA hb (by rw[eA,←hl,gJ,cy];exact hz),?_⟩
    rw[Ac]
    refine z σ F2 _ (iO.change hm x2 hσ b1 dj cf put af fA (.inr (.dT fA yt Ad (OwL.ofPr (Ae.mono λ_ _ q=>⟨q,rfl⟩)))) (fn:=[ad]) (by simp) ?_)
    intro a ha
    rw[aD]at ha
    subst ha
    exact .inl af
   ·rw[if_neg hz]at g7;cases g7
  |_=>cases g5
 |_=>cases g5
def GW (K:aa):V->V->Hp->VK->Prop:=λo i H Q=>∃p xs k v,o=.ref p/\i=.int k/\e5 K H p xs/\atI xs k=some v/\Q v H
theorem zlr:B3 X (GW X.K):=by
 intro ai s σ H o i ov iv Q I ro ri h
 obtain⟨p,xs,k,z,rfl,rfl,hq,he,q⟩:=h
 cases ro
 obtain⟨t,rfl⟩:=ri
 obtain⟨bZ,r,pl,hz⟩:=I.list hq
 obtain⟨j,h1,h2,h3,h4,h5⟩:=Jm he
 obtain⟨w,ew,nq⟩:=r.get h2
 have hl:=r.length
 have hn:=jN
 have fin:EP X ai σ Q w s:=⟨z,H,I,nq,q⟩
 by_cases h0:0<=k
 ·have hj:k.toNat=j:=by
   rw[nS h0 h5]at h1
   exact Option.some.inj h1
  exact wpAny_getItem_list pl.isList h0 (by omega) (by rw[hj];simpa using ew) fin
 ·have hj:(k+(bZ.toArray.size:Int)).toNat=j:=by
   rw[mN (by omega) h4]at h1
   rw[aE,←hl]
   exact Option.some.inj h1
  exact wpAny_getItem_list_neg pl.isList (by omega) (by rw[aE]<;>omega) (by omega) (by rw[hj];simpa using ew) fin
def o6 (i:Nat)(fj:EF)(gi:Int->Int->Int)(f:EF):SF:=λρ=>(eV i ρ).bind λo=>(fj ρ).bind λj=>(f ρ).bind λy=>match o,j with
 |.lst ds,.int z=>(atI ds z).bind λx=>(match x,y with
  |.int a,.int b=>(o8 ds z (.int (gi a b))).bind λkj=>some (.nx (ρ.set i (some (.lst kj))))
  |_,_=>none)
 |_,_=>none
theorem RR (i:Nat){x:aQ}{op:i8}{j:Expr}{p1 iF:cY}{fj:EF}{gi:Int->Int->Int}(ho:A9 X op (Iz gi))(hm:ms[i]?=some (.ow 1))(hj:XE X ct ms n j fj)(he:XE X ct ms m e f)(hN:X.N[i]?=some x:=by rfl)(hv:lQ X.env.scope x:=by first|exact Or.inl rfl|exact Or.inr (Or.inl rfl)|exact Or.inr (Or.inr rfl))(hd:(x==("__debug__":aQ))=false:=by decide)
  (gA:(x==("__classdict__":aQ))=false:=by decide) (ha:∀ov iv new,augStore j ov iv new=(do eG [new,ov,iv] (oP ov iv new);release [new,ov,iv] [];pure .next):=by intros;rfl) :
  XS X ct ms rk (.AugAssign (.Subscript (.Name x p1) j iF) op e pos) (o6 i fj gi f):=by
 obtain⟨t,pt,qt⟩:=he
 obtain⟨tj,tG,tH⟩:=hj
 refine⟨_,zpz (um hN hv hd gA) tG zlr pt ho Rl ha,λF0 B F H ρ σ o E rs e z=>?_⟩
 obtain⟨d1,sM,g3,g4,g5⟩:=cQ e
 obtain⟨d2,g6,g7⟩:=aJ g5
 obtain⟨f1,fr,n1,b1,dj,i4,cf,put⟩:=rs.put (F':=F) (H':=H) hm
 obtain⟨v,hσ,ow⟩:=i4 d1 (zu g3)
 refine⟨v,hσ,tH F0 B F H ρ σ sM _ rs g4 λvj F2 H2 x2 lj=>?_⟩
 match d1,sM,g7,ow,lj with
 |.lst ds,.int zi,g7,ow,lj=>
  dsimp only at g7
  obtain⟨da,g8,g9⟩:=aJ g7
  obtain⟨ad,vs,mz,rfl,rfl,hF,hH,ol⟩:=ow.lst_inv
  have hA:H2 ad=some (.lst vs):=x2.hh _ _ hH
  have hp:Pr (Al X.K ct F2 H2 0) ds vs:=ol.pr λ_ _ _ _ q=>q.1.mono x2.ff
  obtain⟨va,U1,Ln⟩:=hp.atI g8
  refine⟨ad,vs,zi,va,rfl,lj.int,e5.of hA,U1,qt F0 B F2 H2 ρ σ d2 _ (rs.ext x2) g6 λvy F3 H3 x3 ly=>?_⟩
  have kP:=x2.trans x3
  match da,d2,g9,Ln,ly with
  |.int ia,.int ib,g9,Ln,ly=>
   dsimp only at g9
   obtain⟨kj,UD,UE⟩:=aJ g9
   cases UE
   obtain⟨jn,UF,UG⟩:=aJ UD
   cases UG
   have UO:H3 ad=some (.lst vs):=x3.hh _ _ hA
   have fA:F3 ad=none:=kP.nf ad _ hH hF
   have e0:=ol.nil0
   subst e0
   refine⟨ia,ib,Ln.int,ly.int,ad,vs,zi,jn,rfl,lj.int,UO,by rw[←ol.length];exact UF,?_⟩
   refine z σ F3 _ (rs.change hm kP hσ b1 dj cf put af fA (.inr (.lst fA yt (OwL.set0 ⟨.int _,rfl⟩ (λ_ _ _ q=>q.2) jn (ol.mono λ_ _ _ _ q=>⟨q.1.mono kP.ff,q.2⟩)))) (fn:=[ad]) (by simp) ?_)
   intro a ha
   rw[aD]at ha
   subst ha
   exact .inl af
structure Ic (K:aa)(C:ah):Prop where
 cl:mj K C
 ha:aA K (.ref C) "__class__"=some (some (.builtin "object.__class__"))
 hn:dZ K (.builtin "object.__class__") "__get__"=some (some (.builtin "getset_descriptor.__get__"))
 ht:kY K (.builtin "object.__class__")=some true
 hm:eX K C (.type "object")=some true
def sX (all sub:List Nat):D->Option D
 |.obj c _ _=>if all.contains c=true then some (.bl (sub.contains c))else none
 |_=>none
theorem RT {C:ah}{x:aQ}{all sub:List Nat}{pp p2:cY}(hI:∀c∈all,Ic X.K (ct c)/\bO X.K (.ref (ct c)) (.ref C)=some (sub.contains c))(hm:X.mg "isinstance"=none)(mB:X.mg x=some (.ref C))(he:XE X ct ms n e f)(hg:Gl X "isinstance":=by rfl)(nG:Gl X x:=by rfl)(hd2:(x==("__debug__":aQ))=false:=by decide)
  (EI:aq [e,.Name x p2] X.env=(false,bJ e X.env)::aq [.Name x p2] X.env:=by rfl) (mR:aq [.Name x p2] X.env=(false,bJ (.Name x p2) X.env)::aq [] X.env:=by rfl) (iT:(cB pos (aq [.Name x p2] X.env)).any (·.1)=false:=by rfl) :
  XE X ct ms k (.Call (.Name "isinstance" pp) [e,.Name x p2] [] pos) (e1 (sX all sub) f):=by
 obtain⟨t,pt,qt⟩:=he
 refine⟨_,Jc ZT hg hm Qb (vi pt (vi (RC (v:=.ref C) nG mB rfl hd2) q0 mR) EI) (by decide) (by decide) EI iT,λF0 B F H ρ σ d Q rs e w=>?_⟩
 obtain⟨d1,h1,h2⟩:=aJ e
 refine qt F0 B F H ρ σ d1 _ rs h1 λv F' H' x l=>?_
 cases d1 with
 |obj c ns ds=>
  unfold sX at h2
  dsimp only at h2
  by_cases hc:all.contains c=true
  ·rw[if_pos hc]at h2
   cases h2
   obtain⟨a,dx,vs,rfl,ha,_⟩:=l.obj x.fh
   obtain⟨ic,VJ⟩:=hI c (by simpa using hc)
   exact⟨_,C,_,_,rfl,.ins ha ic.cl ic.ha ic.hn ic.ht ic.hm,VJ,w _ F' H' x (Al.of (.bl _))⟩
  ·rw[if_neg hc]at h2;cases h2
 |_=>cases h2
end
end L3
namespace L3
open PySem PySem.Spec L2
section
variable {K:aa}{ct:Nat->ah}{n m k:Nat}
def wI (i:Int):aQ:=((toString i:String):aQ)
def rP:List D->Option D
 |[.int i]=>if i.natAbs.log2<1920 then some (.str (wI i))else none
 |_=>none
theorem zrb:uI K ct [n] k (λxs H Q=>∃i,xs=[.int i]/\i.natAbs.log2<1920/\Q (.str (toString i)) H) rP:=by
 intro F H vs ds d Q s l e w
 cases l with
 |cons h t=>
  cases t
  rename_i d1 v
  cases d1 with
  |int i=>
   unfold rP at e
   dsimp only at e
   by_cases hz:i.natAbs.log2<1920
   ·rw[if_pos hz]at e
    cases e
    exact⟨i,by rw[h.int],hz,w _ F H (.refl s) (Al.of (.str _))⟩
   ·rw[if_neg hz]at e;cases e
  |_=>cases e
end
theorem zny {i:Int}(h:Sz 1900 i):rP [.int i]=some (.str (wI i)):=by
 unfold rP
 dsimp only
 rw[if_pos]
 by_cases h0:i.natAbs=0
 ·rw[h0];decide
 ·rw[mh h0]
  exact bj h (dG (by decide) (by decide))
theorem zrc {i:Int}(h:Sz 1900 i):(wI i).length<=1921:=by
 refine PyProof.Rows.int_text_len_1921 ?_
 by_cases h0:i.natAbs=0
 ·rw[h0];decide
 ·rw[mh h0]
  exact bj h (dG (by decide) (by decide))
end L3
namespace PySem
section
variable {prog:bB}{w:cj}{A:bR}{R:Result->am->Prop}{I:ah}{fp wr:List ah}{n:Nat}{P:Nat->ae->Prop}{St:Nat->aZ->Prop}{kw:List (aQ×ae)}
end
section
variable {prog:bB}{w:cj}{A:bR}{E:ae->am->Prop}{s:am}
end
end PySem
namespace L3
open PySem PySem.Spec L2
section
variable {X:Cx}{ct:Nat->ah}{ms:List Mo}{e b:Expr}{f g:EF}{n m k:Nat}
end
end L3
namespace L3
open PySem PySem.Spec L2
open PyProof.Rows hiding St
section
variable {X:Cx}{ct:Nat->ah}{ms:List Mo}{rk n m k:Nat}{a b c e o:Expr}{f g h:EF}{pos:cY}
def AC (K:aa):V->List V->Hp->VK->Prop:=λx vs H Q=>∃p ys y j,x=.ref p/\vs=[y]/\e5 K H p ys/\ie y=true/\ys.all ie=true/\ys.findIdx? (λz=>rG z y)=some j/\Q (.int (j:Nat)) H
theorem RU:∀{xs:List V} {us:List ae} {x:V},bX xs us->xs.all ie=true->us.map (sn x)=xs.map λy=>rG y x
 |_,_,_,.nil,_=>rfl
 |y::xs,u::us,x,.cons r t,f=>by
  rw[dE,bE]at f
  rw[aO,aO,NT r f.1,RU t f.2]
theorem znz:JT X "list.index" (AC X.K):=by
 intro ai s σ H x vs v us Q I rx rv h
 obtain⟨p,ys,y,j,rfl,rfl,hq,fy,fs,hj,q⟩:=h
 cases rx
 obtain⟨u,rfl,ru⟩:=rv.one
 obtain⟨bZ,r,pl,hz⟩:=I.list hq
 obtain⟨⟨cls,dd,data,sl⟩,ho,hc,n,hd⟩:=pl.isList
 simp only at hc hd
 subst hc hd
 have hm:=RU (x:=y) r fs
 have eS:=r.length
 obtain⟨j1,j2,j3⟩:=List.findIdx?_eq_some_iff_getElem.mp hj
 have OS:∀i (hi:i<bZ.length),sn y bZ[i]=rG (ys[i]'(by omega)) y:=λi hi=>by
  have:=congrArg (λl=>l[i]?) hm
  simp only[aX]at this
  rw[br hi,br (by omega)]at this
  simpa using this
 have VC:ys.length<=16777216:=hz
 refine iq PySem.F.slot_list_index ⟨_,ho,rfl⟩ PySem.F.entry_list_index (PySem.F.args_list_index_2 _ _)
  (SeqAt.list_indexAt p bZ.toArray n dd sl u (sn y) j (by simp;omega) (by omega) ?_ ?_) ⟨ho,λw hw=>Jd ru fy r fs w (by simpa using hw),.int (j:Nat),H,I.tok _,⟨_,rfl⟩,q⟩
 ·simp only[pL];rw[OS j (by omega)];exact j2
 ·intro i hi mQ
  simp only[pL]
  rw[OS i (by simpa using hi)]
  simpa using j3 i mQ
def sW:D->D->Option D
 |.lst ds,x=>if x.sc=true/\ds.all D.sc=true then(ds.findIdx? λy=>rF y x).bind λj=>some (.int (j:Nat))else none
 |_,_=>none
theorem Ss {x:D}(hx:x.sc=true):∀{ds:List D},ds.all D.sc=true->(ds.map D.v).findIdx? (λz=>rG z x.v)=ds.findIdx? λy=>rF y x
 |[],_=>rfl
 |d::ds,h=>by
  rw[dE,bE]at h
  rw[aO,jW,jW,SH h.1 hx,Ss hx h.2]
theorem zn0 {dD dO:cY}(ho:XE X ct ms n o f)(he:XE X ct ms m e g)(kK:aq [e] X.env=(false,bJ e X.env)::aq [] X.env:=by rfl)
  (ig:dJ o "index" X.env (bJ o X.env)=bJ o X.env:=by rfl)
  (n4:((cB dO (aq [e] X.env)).all (λx=>!x.1)&&(eL dO (dC [] X.env)).all (λx=>x.1.isSome)
   && decide ([e].length+([]:List fL).length+(if([]:List fL).isEmpty then 0 else 1)<30))=true:=by rfl)
  (ij:(dD.endLine==dO.line)=true:=by rfl) (iC:(cB dO (aq [] X.env)).any (·.1)=false:=by rfl) :
  XE X ct ms k (.Call (.Attribute o "index" dD) [e] [] dO) (e2 sW f g):=by
 obtain⟨ta,pa,qa⟩:=ho
 obtain⟨tb,pb,qb⟩:=he
 refine⟨_,HI PySem.F.plainAttrs_list PySem.F.slot_list_index PySem.F.type_list_index znz pa (vi pb q0 kK) ig n4 ij kK iC,λF0 B F H ρ σ d Q rs e w=>?_⟩
 obtain⟨d1,d2,h1,h2,h3⟩:=cQ e
 refine qa F0 B F H ρ σ d1 _ rs h1 λv1 F1 H1 x1 l1=>?_
 cases d1 with
 |lst ds=>
  unfold sW at h3
  dsimp only at h3
  by_cases hz:d2.sc=true/\ds.all D.sc=true
  ·rw[if_pos hz]at h3
   obtain⟨j,hj,h4⟩:=aJ h3
   cases h4
   obtain⟨p,vs,rfl,hp,Vw⟩:=l1.lst x1.fh
   refine⟨.inl ⟨rfl,_,hp⟩,qb F0 B F1 H1 ρ σ d2 _ (rs.ext x1) h2 λv2 F2 H2 x2 l2=>?_⟩
   have hv:=Vw.vs hz.2
   subst hv
   have hx:=Al.v l2 hz.1
   subst hx
   exact⟨p,_,_,j,rfl,rfl,x2.hh.seq hp,D.flat hz.1,Je hz.2,by rw[Ss hz.1 hz.2];exact hj,w _ F2 H2 (x1.trans x2) (Al.of (.int _))⟩
  ·rw[if_neg hz]at h3;cases h3
 |_=>cases h3
theorem Nu:∀{xs:List V} {us:List ae},xs.length=us.length->(∀(i:Nat) (x:V) (u:ae),xs[i]?=some x->us[i]?=some u->L2.RelV x u)->bX xs us
 |[],[],_,_=>.nil
 |[],_::_,h,_=>by cases h
 |_::_,[],h,_=>by cases h
 |x::xs,u::us,h,r=>.cons (r 0 x u rfl rfl) (Nu (by simpa using h) λi y w hy hw=>r (i+1) y w (by simpa using hy) (by simpa using hw))
def wN:List V->Hp->VK->Prop:=λvs H Q=>∃j:Int,vs=[.int j]/\0<=j/\j<=16777216/\∀l,H l=none->Q (.ref l) (upd H l (.lst ((eE 0 j.toNat).map D.v)))
def iI:List D->Option D
 |[.int j]=>if 0<=j/\j<=16777216 then some (.lst (eE 0 j.toNat))else none
 |_=>none
theorem zn1 {lo:Int}{n i:Nat}{d:D}(h:(eE lo n)[i]?=some d):d=.int (lo+(i:Int)):=by
 unfold eE at h
 rw[aX]at h
 obtain⟨t,ht,rfl⟩:=dN.mp h
 have:=aV.mp ht
 obtain⟨h1,h2⟩:=this
 rw[List.getElem_range]at h2
 rw[h2]
theorem zrd {ta:TA}{p1 p2 gk:cY}(hc:X.calm=true)(hg:Gl X "list")(hm:X.mg "list"=none)(nG:Gl X "range")(mB:X.mg "range"=none)(ha:PA X [a] ta)(hs:aq [a] X.env=[(false,bJ a X.env)]:=by rfl)
    (mR:aq [.Call (.Name "range" p2) [a] [] gk] X.env=[(false,bJ (.Call (.Name "range" p2) [a] [] gk) X.env)]:=by rfl) :
    PE X (.Call (.Name "list" p1) [.Call (.Name "range" p2) [a] [] gk] [] pos) (Mr wN ta):=by
  intro ai s σ H Q I h
  refine dH (vI I hg hm AO ?_ (by decide) (by decide))
  refine cw ?_ mR rfl
  rw[mR]
  show bi _ _ (spliced ((false,bJ (.Call (.Name "range" p2) [a] [] gk) X.env)::[])) _ _ s
  refine Calls.spliced_cons ?_
  refine dH (vI I nG mB boot_range ?_ (by decide) (by decide))
  refine cw (dz (ha gk ai s σ H _ I h) λus s1 ⟨vs,H1,I1,r1,q1⟩=>?_) hs rfl
  obtain⟨j,rfl,h1,h2,q⟩:=q1
  obtain⟨u,rfl,t,rfl⟩:=mG r1
  refine call_range_1 (Calls.spliced_nil ?_)
  have I2:L2.Inv X ai σ H1 { s1 with heap:=s1.heap.push { cls:=.type "range",data:=.fields #[.int 0 s1.toks,.int j t,.int 1 (s1.toks+1)] },toks:=s1.toks+1+1 }:=I1.kept λb o e=>aC _ e
  have hsz:e6.Range.rangeSize 0 j 1=(j.toNat:Int):=by rw[rangeSize_one];split<;>omega
  refine call_list_range (n:=j.toNat) (I2.ok.hd hc) (IsRange.new ..) (small_one (by omega) (by omega) (by omega) (by omega)) hsz (by omega) λh' tk jE c' kp hS pX=>?_
  have hv:bX ((eE 0 j.toNat).map D.v) jE.toList:=by
    obtain⟨e1,e2⟩:=pX
    refine Nu (by simp[eE,e1]) λi x u hx hu=>?_
    obtain⟨t,rfl⟩:=e2 i u (by simpa using hu)
    rw[aX]at hx
    obtain⟨d,hd,rfl⟩:=dN.mp hx
    have hd:=zn1 hd
    subst hd
    exact⟨t,by rw[lV]⟩
  have hl:((eE 0 j.toNat).map D.v).length<=sizeLine:=by rw[cy];simp[eE];omega
  exact⟨.ref _,_,I2.laid (t':=tk) kp (aM _) (show d4 X.prog X.w _ h' _ (.lst _)from⟨hl,jE.toList,c',hv,hS⟩),rfl,q _ (I2.hok.fresh (aM _))⟩
theorem zre (lo:Int)(n:Nat):(eE lo n).all D.sc=true:=by
 rw[fY]
 intro d hd
 unfold eE at hd
 obtain⟨t,_,rfl⟩:=bM.mp hd
 rfl
theorem GR {K:aa}{F G:Hp}:∀{ds:List D},ds.all D.sc=true->Pr (Al K ct F G 0) ds (ds.map D.v)
 |[],_=>.nil
 |d::ds,h=>by
  rw[dE,bE]at h
  refine .cons ?_ (GR h.2)
  cases d with
  |non=>exact Al.of .non
  |bl b=>exact Al.of (.bl b)
  |int b=>exact Al.of (.int b)
  |str b=>exact Al.of (.str b)
  |_=>cases h.1
theorem zn2 {K:aa}:xF K ct [n] 1 wN iI:=by
 intro F H vs ds d Q s l e w
 cases l with
 |cons h t=>
  cases t
  rename_i d1 v
  cases d1 with
  |int j=>
   unfold iI at e
   dsimp only at e
   by_cases hz:0<=j/\j<=16777216
   ·rw[if_pos hz]at e
    cases e
    exact⟨j,by rw[h.int],hz.1,hz.2,AT s (GR (zre 0 j.toNat)) w⟩
   ·rw[if_neg hz]at e;cases e
  |_=>cases e
theorem Jx {fs:Env->Option (List D)}{p1 p2 gk:cY}(hc:X.calm=true)(hg:Gl X "list")(hm:X.mg "list"=none)(nG:Gl X "range")(mB:X.mg "range"=none)(ha:XA X ct ms [a] [n] fs)(hs:aq [a] X.env=[(false,bJ a X.env)]:=by rfl)
  (mR:aq [.Call (.Name "range" p2) [a] [] gk] X.env=[(false,bJ (.Call (.Name "range" p2) [a] [] gk) X.env)]:=by rfl) :
  XO X ct ms 1 (.Call (.Name "list" p1) [.Call (.Name "range" p2) [a] [] gk] [] pos) (eN iI fs):=by
 obtain⟨t,pt,_,qt⟩:=ha
 refine⟨_,zrd hc hg hm nG mB pt hs mR,λF0 B F H ρ σ r Q rs e w=>?_⟩
 obtain⟨ds,h1,h2⟩:=aJ e
 exact qt F0 B F H ρ σ ds _ rs h1 λvs F1 H1 x1 l=>zn2 F1 H1 vs ds r Q x1.fh l h2 λv F2 H2 fp x2 l2 nd hf=>w v F2 H2 fp (x1.trans x2) l2 nd λz hz=>x1.hh.free (hf z hz)
def oq (i j:Nat)(f:EF):SF:=λρ=>(eV i ρ).bind λo=>(eV j ρ).bind λq=>(f ρ).bind λz=>match o,q,z with
 |.lst ds,.lst es,.int y=>if ds.length<16777216/\es.length<=16777216 then(ixN es.length y).bind λt=>es[t]?.bind λd=>some (.nx ((ρ.set j (some (.lst (es.eraseIdx t)))).set i (some (.lst (ds++[d])))))else none
 |_,_,_=>none
theorem Pr.erase {R:D->V->Prop}:∀{ds:List D} {vs:List V} (i:Nat),Pr R ds vs->Pr R (ds.eraseIdx i) (vs.eraseIdx i)
 |_,_,_,.nil=>.nil
 |_,_,0,.cons h t=>t
 |_,_,i+1,.cons h t=>.cons h (t.erase i)
theorem zlv (i j:Nat){x y:aQ}{p1 p2 dD dO mr jG:cY}(hm:ms[i]?=some (.ow 1))(mB:ms[j]?=some (.ow 1))(pZ:i≠j)(he:XE X ct ms n e f)
  (hN:X.N[i]?=some x:=by rfl) (hv:lQ X.env.scope x:=by first|exact Or.inl rfl|exact Or.inr (Or.inl rfl)|exact Or.inr (Or.inr rfl)) (hd:(x==("__debug__":aQ))=false:=by decide) (gA:(x==("__classdict__":aQ))=false:=by decide)
  (Ek:X.N[j]?=some y:=by rfl) (EO:lQ X.env.scope y:=by first|exact Or.inl rfl|exact Or.inr (Or.inl rfl)|exact Or.inr (Or.inr rfl)) (hd2:(y==("__debug__":aQ))=false:=by decide) (sR:(y==("__classdict__":aQ))=false:=by decide)
  (kK:aq [e] X.env=(false,bJ e X.env)::aq [] X.env:=by rfl)
  (zL:dJ (.Name y p2) "pop" X.env (bJ (.Name y p2) X.env)=bJ (.Name y p2) X.env:=by rfl)
  (Et:((cB jG (aq [e] X.env)).all (λx=>!x.1)&&(eL jG (dC [] X.env)).all (λx=>x.1.isSome)
   && decide ([e].length+([]:List fL).length+(if([]:List fL).isEmpty then 0 else 1)<30))=true:=by rfl)
  (zV:(mr.endLine==jG.line)=true:=by rfl) (uQ:(cB jG (aq [] X.env)).any (·.1)=false:=by rfl)
  (EK:aq [.Call (.Attribute (.Name y p2) "pop" mr) [e] [] jG] X.env=(false,bJ (.Call (.Attribute (.Name y p2) "pop" mr) [e] [] jG) X.env)::aq [] X.env:=by rfl)
  (ig:dJ (.Name x p1) "append" X.env (bJ (.Name x p1) X.env)=bJ (.Name x p1) X.env:=by rfl)
  (n4:((cB dO (aq [.Call (.Attribute (.Name y p2) "pop" mr) [e] [] jG] X.env)).all (λx=>!x.1)&&(eL dO (dC [] X.env)).all (λx=>x.1.isSome)
   && decide ([Expr.Call (.Attribute (.Name y p2) "pop" mr) [e] [] jG].length+([]:List fL).length+(if([]:List fL).isEmpty then 0 else 1)<30))=true:=by rfl)
  (ij:(dD.endLine==dO.line)=true:=by rfl) (iC:(cB dO (aq [] X.env)).any (·.1)=false:=by rfl)
  (rK:dw (.Call (.Attribute (.Name x p1) "append" dD) [.Call (.Attribute (.Name y p2) "pop" mr) [e] [] jG] [] dO) none pos.line X.env=pure false:=by rfl) :
  XS X ct ms rk (.Expr (.Call (.Attribute (.Name x p1) "append" dD) [.Call (.Attribute (.Name y p2) "pop" mr) [e] [] jG] [] dO) pos) (oq i j f):=by
 obtain⟨t,pt,qt⟩:=he
 refine⟨_,Hv (HI PySem.F.plainAttrs_list PySem.F.slot_list_append PySem.F.type_list_append Hq (um hN hv hd gA)
  (vi (HI PySem.F.plainAttrs_list PySem.F.slot_list_pop PySem.F.type_list_pop znc (um Ek EO hd2 sR) (vi pt q0 kK) zL Et zV kK uQ) q0 EK) ig n4 ij EK iC) rK,λF0 B F H ρ σ o E rs e z=>?_⟩
 obtain⟨d1,d2,h1,h2,h3⟩:=cQ e
 obtain⟨d3,h4,h5⟩:=aJ h3
 cases d1 with
 |lst ds=>
  cases d2 with
  |lst es=>
   cases d3 with
   |int w=>
    dsimp only at h5
    by_cases hz:ds.length<16777216/\es.length<=16777216
    ·rw[if_pos hz]at h5
     obtain⟨t2,h6,h7⟩:=aJ h5
     obtain⟨d,h8,h9⟩:=aJ h7
     cases h9
     obtain⟨g1,gr,gn1,gb1,gdj,UH,gcf,UJ⟩:=rs.put (F':=F) (H':=H) hm
     obtain⟨v,hσ,ow⟩:=UH _ (zu h1)
     obtain⟨ad,vs,mz,rfl,rfl,hF,hH,ol⟩:=ow.lst_inv
     obtain⟨f1,fr,n1,b1,dj,i4,cf,put⟩:=rs.put (F':=F) (H':=H) mB
     obtain⟨v2,t7,FX⟩:=i4 _ (zu h2)
     obtain⟨bd,us,K6,rfl,rfl,zI,uN,uX⟩:=FX.lst_inv
     have z2:=OwL.nil0 uX
     subst z2
     refine⟨_,hσ,.inl ⟨rfl,_,e5.of hH⟩,_,t7,.inl ⟨rfl,_,e5.of uN⟩,qt F0 B F H ρ σ _ _ rs h4 λv3 F' H' x1 l3=>?_⟩
     have Vv:=l3.int
     subst Vv
     obtain⟨s1,s2,s3,s4⟩:=NA h6
     have Lg:H' bd=some (.lst us):=x1.hh _ _ uN
     have fB:F' bd=none:=x1.nf bd _ uN zI
     have lu:=uX.length
     have PB:Pr (λd v=>Dt X.K ct F' d v) es us:=uX.pr λd v f _ q=>q.1.mono x1.ff
     obtain⟨u,hu,ru⟩:=PB.get' h8
     refine⟨bd,us,w,t2,u,rfl,rfl,Lg,by omega,by omega,by rw[←lu];exact s1,hu,?_⟩
     have iO:=rs.change mB x1 t7 b1 dj cf put af fB (d':=.lst (es.eraseIdx t2)) (o:=.lst (us.eraseIdx t2)) (.inr (.lst fB yt (OwL.ofPr ((PB.erase t2).mono λ_ _ q=>Ow.zero q)))) (fn:=[bd]) (by simp) (λa ha=>by
      rw[aD]at ha;subst ha;exact .inl af)
     obtain⟨g1',gr',UI,Lc,Le,Lf,Ld,Eg⟩:=iO.put (F':=F') (H':=upd H' bd (.lst (us.eraseIdx t2))) hm
     have iY:(ρ.set j (some (D.lst (es.eraseIdx t2))))[i]? = ρ[i]?:=cS (λe=>pZ e.symm)
     obtain⟨v',Ag,IF⟩:=Lf (.lst ds) (by rw[iY];exact zu h1)
     rw[hσ]at Ag
     cases Ag
     obtain⟨ad',IQ,UB,e1,rfl,OQ,UT,Ma⟩:=IF.lst_inv
     cases e1
     have zn:=OwL.nil0 Ma
     subst zn
     refine⟨ad,IQ,u,rfl,rfl,UT,by rw[←Ma.length,cy];exact hz.1,?_⟩
     refine z σ F' _ (iO.change hm (.refl iO.fh) hσ Lc Le Ld Eg af OQ (.inr (.lst OQ yt ((Ma.mono λ_ _ f' hi o'=>?_).append (.cons (f:=[]) (Ow.zero ru) .nil)))) (fn:=[ad]) (by simp) λa ha=>by
      rw[aD]at ha;subst ha;exact .inl af)
     exact o'
    ·rw[if_neg hz]at h5;cases h5
   |_=>cases h5
  |_=>cases h5
 |_=>cases h5
end
end L3
namespace L2
open PySem PyProof.Rows
theorem zn3 {X:Cx}{ai:List (ah×dU)}{σ:St}{H:Hp}{s:am}{QV:VK}{use:Option (ae->oO Unit)}{Q0:ae->am->Prop}{jB iter tg:Expr}{ifs:List Expr}{scope:fQ}{pos gk:cY}{N:List aQ}{own:Nat}{cap:List Nat}{wi:TI}{g:TG}{tt:TT}{te:TE}(B:jZ X scope N own cap)(hc:X.calm=true)(hi:PI X tg iter wi)
    (kg:fU own g)
    (hg:∀cl C fp s₀ H₀,PG (iw X scope cl N C fp s₀ H₀) tg g) (ht:∀cl C fp s₀ H₀,vS (iw X scope cl N C fp s₀ H₀) ifs tt) (he:∀cl C fp s₀ H₀,PE (iw X scope cl N C fp s₀ H₀) jB te)
    (hs:∀x,dP iter X.env x=pure x) (I:Inv X ai σ H s) (h:qR wi own cap g tt te σ H QV)
    (fin:∀(D C:ah) (H5:Hp) (s6:am) (r:Flow),QV (.ref D) H5->Inv X ai σ H5 s6->kb X ai H5 C->(∃m,s6.heap.Ns C m)->pD (ba X.prog X.w) X.A X.xe use Q0 (.ref D) C (.ok r) s6) :
    bi (ba X.prog X.w) X.A (comprehension (.ListComp jB [⟨tg,iter,ifs,0⟩] scope pos) scope X.env gk (newList []) false (bJ iter X.env) use) Q0 X.xe s:=by
  obtain⟨cl,zN,c1,c2,_⟩:=IS (env:=X.env) scope.names [] (λx hx hf=>I.ok.has x.1 (B.free x hx hf)) (λy c e=>by simp at e)
  have sS:pB scope X.env=pure cl:=by
    have e:pB scope X.env=(forIn scope.names ([]:List (aQ×ah)) (λ(x:aQ×bq) (cs:List (aQ×ah))=>if(x.2==bq.free)=true then do let a ← cellOf X.env x.1;pure (ForInStep.yield ((x.1,a)::cs))else pure (ForInStep.yield cs)) >>= pure:oO (List (aQ×ah))):=rfl
    rw[e,zN]
    rfl
  refine wpAny_comprehension_free (use:=use) rfl hs sS B.kind B.locs (dz (hi ai s σ H _ I h) λv s1 h1=>dz h1 λIA s2 h2=>?_)
  obtain⟨it,fp,tn,J,H2,e,I2,T,t8,f2,W0⟩:=h2
  subst e
  obtain⟨W,⟨m0,w0⟩,bW⟩:=W0 s2.heap.objs.size (I2.hok.fresh (aM _))
  refine mP ?_
  have I3:Inv X ai σ (upd H2 s2.heap.objs.size (.lst [])) { s2 with heap:=s2.heap.push { cls:=.type "list",data:=.seq ([]:List ae).toArray } }:=I2.lnew .nil (de _)
  generalize EJ:({ s2 with heap:=s2.heap.push { cls:=.type "list",data:=.seq ([]:List ae).toArray } }:am)=s3 at I3
  have k3:∀b o,s2.heap.get? b=some o->s3.heap.get? b=some o:=λb o e=>by rw[←EJ];exact aC _ e
  have z3:s3.heap.objs.size=s2.heap.objs.size+1:=by rw[←EJ];exact fI _ _
  have pY:∀b∈fp,b<s2.heap.objs.size:=λb hb=>by
    obtain⟨o,e,_⟩:=T.obj _ _ t8 b hb
    exact aP e
  have iY:∀b∈fp,b≠s2.heap.objs.size:=λb hb=>bw (pY b hb)
  have f3:∀b∈fp,kb X ai (upd H2 s2.heap.objs.size (.lst [])) b:=λb hb=>⟨by rw[ym (iY b hb)];exact(f2 b hb).1,(f2 b hb).2⟩
  have IM:tn 0 s3.heap:=T.keep _ _ _ t8 λb _ o e=>k3 b o e
  show bi _ _ (ky scope X.env.globals cl [] X.env.qual none .none (some X.env)) _ _ _
  refine Qg λh₁ kk zZ zP=>?_
  have IB:=QR (t':=s3.toks) B I3 c1 c2 f3 (λb hb=>by rw[z3];exact eI (pY b hb)) zZ kk zP
  generalize cellsFrom (s3.heap.objs.size+1) scope.names cl=cl at IB ⊢
  generalize LJ:({ s3 with heap:=h₁,toks:=s3.toks }:am)=s4 at IB
  have Hj:tn 0 s4.heap:=T.keep _ _ _ IM λb _ o e=>by rw[←LJ];exact kk b o e
  show gc (ba X.prog X.w) X.A (.compStart (.ListComp jB [⟨tg,iter,ifs,0⟩] scope pos) 0 (.ref it) (.ref s2.heap.objs.size) (pC scope cl s3.heap.objs.size X.env))
      (pD (ba X.prog X.w) X.A X.xe use Q0 (.ref s2.heap.objs.size) s3.heap.objs.size) s4
  have mF:∀{H':Hp},(∀b∈fp,H' b=none)->∀b∈fp,kb (iw X scope cl N s3.heap.objs.size fp s3 (upd H2 s2.heap.objs.size (.lst []))) [] H' b:=λhn b hb=>
    ⟨hn b hb,bw (by show b<s3.heap.objs.size;rw[z3];exact eI (pY b hb)),IB.ok.exfs b hb,.inl hb,λx c e=>(IB.ok.exf b hb).2 x c e,λp hp=>(nomatch hp)⟩
  have loop:gc (ba X.prog X.w) X.A (.compLoop (.ListComp jB [⟨tg,iter,ifs,0⟩] scope pos) 0 (.ref it) (.ref s2.heap.objs.size) (pC scope cl s3.heap.objs.size X.env))
      (pD (ba X.prog X.w) X.A X.xe use Q0 (.ref s2.heap.objs.size) s3.heap.objs.size) s4:=by
    refine Qf (λn s'=>∃i ys H',Inv (iw X scope cl N s3.heap.objs.size fp s3 (upd H2 s2.heap.objs.size (.lst []))) [] (az own none++fS σ cap) H' s'/\tn i s'.heap/\(∀b∈fp,H' b=none)/\W i n ys H') ?_ m0
      ⟨0,[],_,IB,Hj,λb hb=>(f3 b hb).1,w0⟩
    rintro n s5 ⟨i,ys,H5,I5,vB,zE,w5⟩
    obtain⟨hD,Ly⟩:=bW i n ys H5 w5
    rcases Ly with⟨stop,qn⟩|⟨go,mQ,step⟩
    · refine dz (T.done (iw X scope cl N s3.heap.objs.size fp s3 (upd H2 s2.heap.objs.size (.lst []))) rfl rfl rfl hc i [] s5 _ H5 (λ_ _=>False) I5 (mF zE) vB stop) λr s6 ⟨hr,I6⟩=>?_
      subst hr
      obtain⟨m,hm,_⟩:=id I6.loc
      refine fin s2.heap.objs.size s3.heap.objs.size H5 s6 _ qn ?_ (I3.fpOk (aM _) I6.free) ⟨m,hm⟩
      have sb:gE s3.heap.objs.size s6.heap s6.heap:=⟨rfl,λ_ _=>rfl⟩
      have U:=I6.base
      have nC:∀b o,s3.heap.get? b=some o->b≠s3.heap.objs.size:=λb o e=>bw (aP e)
      have nT:∀b o,H5 b=some o->b≠s3.heap.objs.size:=λb o e z=>by
        have q:H5 s3.heap.objs.size=none:=I6.free
        rw[z,q]at e
        cases e
      refine I3.call' (ch:=fp) I6.os ?_ (λa o e=>(I6.hok a o e).stay (λb u hb q=>sb.extBut b u ?_ q) (λ_ q=>q) λ_ _ q=>q) I6.bare (λb hb=>⟨(f3 b hb).2.2.2.1,(f3 b hb).2.1,(f3 b hb).2.2.2.2.1,(f3 b hb).2.2.2.2.2⟩)
      · exact{
          keep:=λb o e z hb he=>sb.extBut b o (nC b o e) (U.keep b o e z hb he)
          slot:=λb o e z hb he=>by
            obtain⟨sl,q⟩:=U.slot b o e z hb he
            exact⟨sl,sb.extBut b _ (nC b o e) q⟩
          free:=U.free
          there:=λb o e he=>by
            obtain⟨o',q⟩:=U.there b o e he
            exact⟨o',sb.extBut b o' (nC b o e) q⟩
          tups:=U.tups
          frzs:=U.frzs
          tbls:=U.tbls }
      · rcases hb with rfl|hb
        · exact nT _ _ e
        · exact nT _ _ hb
    · refine dz (T.item (iw X scope cl N s3.heap.objs.size fp s3 (upd H2 s2.heap.objs.size (.lst []))) rfl rfl rfl hc i [] s5 _ H5 (λ_ _=>False) I5 (mF zE) vB go) λr s6 ⟨u,hr,h6⟩=>?_
      subst hr
      refine dz h6 λ_ s7 ⟨x,H7,I7,r7,y7,AG,K8⟩=>?_
      have JP:=I7.pinned (mF K8) (T.obj _ _ AG)
      refine dz (hg cl s3.heap.objs.size fp s3 _ _ s7 _ H7 x u _ JP r7 (kg _ _ _ _ (step x H7 y7))) λ_ s8 ⟨σ8,H8,I8,q8,l8,p8⟩=>?_
      have back:∀{H9:Hp} {s9:am},Inv (iw X scope cl N s3.heap.objs.size fp s3 (upd H2 s2.heap.objs.size (.lst []))) ([]++kM fp s7.heap) σ8 H9 s9 ->
          Inv (iw X scope cl N s3.heap.objs.size fp s3 (upd H2 s2.heap.objs.size (.lst []))) [] (az own none++fS σ cap) H9 s9/\tn (i+1) s9.heap/\∀b∈fp,H9 b=none:=λ{H9 s9} I9=>by
        refine⟨(I9.unpinned).weak l8.symm (λj v e=>?_),T.keep _ _ _ AG λb hb o e=>(I9.pin (b,o) (av _ (av _ (j4 hb e)))).1,λb hb=>?_⟩
        · by_cases hj:j<own
          · rw[dh (by rw[dq];exact hj),fu,if_pos hj]at e
            cases e
          · rw[p8 j (by omega)];exact e
        · obtain⟨o,e,d⟩:=T.obj _ _ AG b hb
          exact(I9.pin (b,o) (av _ (av _ (j4 hb e)))).2.1
      refine dz (ht cl s3.heap.objs.size fp s3 _ _ s8 σ8 H8 _ I8 q8) λok s9 ⟨H9,I9,q9⟩=>?_
      cases ok with
      |false=>
        rw[if_neg aK]
        rw[if_neg aK]at q9
        obtain⟨m',zW,w'⟩:=q9
        obtain⟨b1,b2,b3⟩:=back I9
        exact⟨m',zW,i+1,ys,H9,b1,b2,b3,w'⟩
      |true=>
        rw[if_pos rfl]
        rw[if_pos rfl]at q9
        refine dz (he cl s3.heap.objs.size fp s3 _ _ s9 σ8 H9 _ I9 q9) λuy Mi ⟨y,BW,JN,r10,zF,m',zW,w'⟩=>?_
        refine dz (Hq _ Mi σ8 BW (.ref s2.heap.objs.size) [y] (.ref s2.heap.objs.size) [uy] (λ_ BX=>BX=upd BW s2.heap.objs.size (.lst (ys++[y]))) JN rfl (.cons r10 .nil) ⟨_,ys,y,rfl,rfl,zF,mQ,rfl⟩) λ_ Xh ⟨_,BX,JO,_,Ki⟩=>?_
        subst Ki
        obtain⟨b1,b2,b3⟩:=back JO
        exact⟨m',zW,i+1,ys++[y],_,b1,b2,b3,w'⟩
  exact codeAny_compStart_list loop (T.self X.A 0 s4 _ _ Hj loop)
theorem ZP {X:Cx}{i:Nat}{x:aQ}{pos' tL:cY}{jB iter tg:Expr}{ifs:List Expr}{scope:fQ}{pos:cY}{N:List aQ}{own:Nat}{cap:List Nat}{wi:TI}{g:TG}{tt:TT}{te:TE}(B:jZ X scope N own cap)(hc:X.calm=true)(hi:PI X tg iter wi)
  (kg:fU own g)
  (hg:∀cl C fp s₀ H₀,PG (iw X scope cl N C fp s₀ H₀) tg g) (ht:∀cl C fp s₀ H₀,vS (iw X scope cl N C fp s₀ H₀) ifs tt) (he:∀cl C fp s₀ H₀,PE (iw X scope cl N C fp s₀ H₀) jB te)
  (hN:X.N.Nodup) (wA:X.N[i]?=some x) (hx:Loc X.env.scope x) (rK:dw (.ListComp jB [⟨tg,iter,ifs,0⟩] scope pos) (some (.Name x pos')) tL.line X.env=pure true)
  (hs:∀x,dP iter X.env x=pure x:=by intro _;rfl) (hf:X.fn x=true\/X.env.scope.names.lookup x=some .local:=by first|exact .inl rfl|exact .inr rfl|assumption) :
  PS X (.Assign [.Name x pos'] (.ListComp jB [⟨tg,iter,ifs,0⟩] scope pos) tL) (AH (qR wi own cap g tt te) (qL i)):=by
 intro ai s σ H D I h
 rw[exec_Assign_Name_used _ _ _ _ rK]
 refine aR (lG (aR ?_))
 show bi _ X.A (do let _ ← comprehension (.ListComp jB [⟨tg,iter,ifs,0⟩] scope pos) scope X.env _ (newList []) false (bJ iter X.env) (some (ip (.Name x pos') X.env))) _ _ s
 refine aR (dQ (zn3 (use:=some (ip (.Name x pos') X.env)) (Q0:=λ_ s'=>∃σ' H',Inv X ai σ' H' s'/\D.nx σ' H') B hc hi kg hg ht he hs I h λDa C H5 s6 r q I6 fo hm=>?_) (λ_ s' hq=>bS (bS hq)) λ_ _ e=>e)
 show bi _ X.A (ip (.Name x pos') X.env (.ref Da)) _ _ _
 refine wpAny_assign_Name (QE (v:=.ref Da) I6 hN wA hx rfl (λs7 I7 Vs=>?_) hf)
 obtain⟨m,hm⟩:=hm
 obtain⟨a,sb,ha⟩:=Vs
 obtain⟨f0,f1,f2,f3,f4,f5⟩:=fo
 have iY:C≠a:=by
  rcases ha with rfl|ha
  ·exact f1
  ·exactλz=>f4 x a ha z.symm
 refine⟨m,hm.sameBut sb iY,λh' Xl=>⟨_,H5,I7.turned (t':=s7.toks) (it:=C) (λb o hb e=>Xl.extBut b o hb e) f0 f1 f3 f4 f5,q⟩⟩
end L2
namespace L3
open PySem PySem.Spec L2
open PyProof.Rows hiding St
section
variable {X:Cx}{ct:Nat->ah}{ms:List Mo}{rk n m k:Nat}{a b c e o:Expr}{f g h:EF}{pos:cY}
theorem jc {om:List Mo}{jB iter tg:Expr}{ifs:List Expr}{scope:fQ}{N:List aQ}{own:Nat}{cap:List Nat}{fi:Env->Option (List D)}{gg:D->Env->Option Env}{p:BF}{i:Nat}{x:aQ}{pos' tL:cY}
  (hm:ms[i]?=some (.ow k)) (hN:X.N.Nodup) (wA:X.N[i]?=some x) (hx:Loc X.env.scope x)
  (B:jZ X scope N own cap) (hc:X.calm=true) (ho:om.length=own) (gz:∀i∈cap,i<ms.length) (hi:Be X ct ms n tg iter fi)
  (hg:∀cl C fp s₀ H₀,xI (iw X scope cl N C fp s₀ H₀) ct (om++gH ms cap) own n tg gg) (ht:∀cl C fp s₀ H₀,xJ (iw X scope cl N C fp s₀ H₀) ct (om++gH ms cap) ifs p) (he:∀cl C fp s₀ H₀,XO (iw X scope cl N C fp s₀ H₀) ct (om++gH ms cap) (k-1) jB f)
  (rK:dw (.ListComp jB [⟨tg,iter,ifs,0⟩] scope pos) (some (.Name x pos')) tL.line X.env=pure true:=by rfl)
  (hs:∀x,dP iter X.env x=pure x:=by intro _;rfl) (hf:X.fn x=true\/X.env.scope.names.lookup x=some .local:=by first|exact .inl rfl|exact .inr rfl|assumption) :
  XS X ct ms rk (.Assign [.Name x pos'] (.ListComp jB [⟨tg,iter,ifs,0⟩] scope pos) tL) (sSet i (d5 fi own cap gg p f)):=by
 obtain⟨wi,g,tt,te,pi,kg,pg,pt,pe,q⟩:=Ro (k:=k-1) (pos:=pos) B hc ho gz hi hg ht he
 refine⟨_,ZP B hc pi kg pg pt pe hN wA hx rK hs hf,λF0 B F H ρ σ o E rs e w=>?_⟩
 obtain⟨d,h1,h2⟩:=aJ e
 cases h2
 cases k with
 |succ k=>exact q F0 B F H ρ σ d _ rs h1 λv F' H' fp x l nd hf=>w _ F' H' (rs.set hm x l nd hf)
 |zero=>
  refine q F0 B F H ρ σ d _ rs h1 λv F' H' fp x l nd hf=>?_
  obtain⟨F2,x2,l2⟩:=l.freeze x hf
  exact w _ F2 H' (rs.set hm x2 (Ow.zero l2) bA λa z=>by cases z)
theorem zrf {i:Nat}{x:aQ}{pos':cY}(hm:ms[i]?=some (.ow k))(hN:X.N[i]?=some x:=by rfl)(hv:lQ X.env.scope x:=by first|exact Or.inl rfl|exact Or.inr (Or.inl rfl)|exact Or.inr (Or.inr rfl))(hd:(x==("__debug__":aQ))=false:=by decide)
  (gA:(x==("__classdict__":aQ))=false:=by decide):XS X ct ms 0 (.Return (some (.Name x pos')) pos) (sRet (eV i)):=by
 refine⟨_,BK (um hN hv hd gA),λF0 B F H ρ σ o E rs e w=>?_⟩
 obtain⟨d,h1,h2⟩:=aJ e
 cases h2
 obtain⟨fp,sl,nd,hb⟩:=rs.sl
 obtain⟨f1,fr,i1,i2,i3,i4,i5⟩:=sl.put hm
 obtain⟨v,Af,l⟩:=i4 d (zu h1)
 obtain⟨F',x,l2⟩:=l.freeze (⟨rs.f0,rs.bh,rs.fh,rs.nf⟩:fq F0 B F H) (λz hz=>hb z (i1 z hz))
 exact⟨v,Af,w v F' H [] x.ff x.hh x.fh x.nf (Ow.zero l2) bA λz hz=>by cases hz⟩
theorem ztx (hu:X.A.units+1<gK)(ha:XE X ct ms n a f)(hb:XE X ct ms m b g)(hm:dL .In b=false):XT X ct ms (.Compare a [.In] [b] pos) (tb λρ=>(f ρ).bind λx=>(g ρ).bind λy=>(hZ y x).bind λr=>some (.bl r.isSome)):=by
 obtain⟨ta,Hg,pa,pb,q⟩:=ha.bin hb
 refine⟨_,Sa (ztd hu pa pb) hm,λF0 B F H ρ σ t Q rs e w=>?_⟩
 obtain⟨d0,h0,h9⟩:=aJ e
 obtain⟨d1,d2,h1,h2,h3⟩:=cQ h0
 obtain⟨r,h4,h5⟩:=aJ h3
 cases h5
 cases h9
 refine q F0 B F H ρ σ d1 d2 _ rs h1 h2 λx y F' H' x1 l1 l2=>?_
 obtain⟨a,o,rfl,g,_,h⟩:=ND (r:=r) x1.fh l2 l1 h4
 refine⟨a,o,rfl,g,?_⟩
 cases r with
 |none=>rw[h.none_of];exact⟨_,rfl,w F' H' x1⟩
 |some d=>obtain⟨u,rfl,EN⟩:=h.some_of;exact⟨_,rfl,w F' H' x1⟩
theorem zlw (hu:X.A.units+1<gK)(ha:XE X ct ms n a f)(hb:XE X ct ms m b g)(hm:dL .NotIn b=false):XT X ct ms (.Compare a [.NotIn] [b] pos) (tb λρ=>(f ρ).bind λx=>(g ρ).bind λy=>(hZ y x).bind λr=>some (.bl (!r.isSome))):=by
 obtain⟨ta,Hg,pa,pb,q⟩:=ha.bin hb
 refine⟨_,Sa (ZQ hu pa pb) hm,λF0 B F H ρ σ t Q rs e w=>?_⟩
 obtain⟨d0,h0,h9⟩:=aJ e
 obtain⟨d1,d2,h1,h2,h3⟩:=cQ h0
 obtain⟨r,h4,h5⟩:=aJ h3
 cases h5
 cases h9
 refine q F0 B F H ρ σ d1 d2 _ rs h1 h2 λx y F' H' x1 l1 l2=>?_
 obtain⟨a,o,rfl,g,_,h⟩:=ND (r:=r) x1.fh l2 l1 h4
 refine⟨a,o,rfl,g,?_⟩
 cases r with
 |none=>rw[h.none_of];exact⟨_,rfl,w F' H' x1⟩
 |some d=>obtain⟨u,rfl,EN⟩:=h.some_of;exact⟨_,rfl,w F' H' x1⟩
end
end L3
namespace L2
open PySem PyProof.Rows
end L2
namespace L3
open PySem PySem.Spec L2
open PyProof.Rows hiding St
section
variable {X:Cx}{ct:Nat->ah}{ms:List Mo}{rk n m k:Nat}{st:bP}{rest:List bP}{a b c e tg:Expr}{f g h:EF}{p q:BF}{u w:SF}{pos:cY}
end
end L3
namespace L3
open PySem PySem.Spec L2
open PyProof.Rows hiding St
theorem OwL.upd {R R':D->V->List ah->Prop}{d:D}:∀{ds:List D} {vs:List V} {fp:List ah} {i:Nat},OwL R ds vs fp->ds[i]?=some d->∃v f,vs[i]?=some v/\R d v f/\(∀a∈f,a∈fp) /\
  ∀d',R' d' v f->fp.Nodup->(∀d v f',(∀a∈f',a∈fp)->(∀a∈f',a∉f)->R d v f'->R' d v f')->OwL R' (ds.set i d') vs fp
 |_,_,_,_,.nil,h=>by simp at h
 |_,_,_,0,.cons (f:=f) (g:=g) h t,e=>by
  cases(show some _=some d from e)
  refine⟨_,f,rfl,h,λa ha=>bc _ ha,λd' hd nd ot=>?_⟩
  rw[aW]at nd
  exact .cons hd (t.mono λd v f' hi r=>ot d v f' (λa ha=>av _ (hi a ha)) (λa ha hf=>nd.2.2 a hf a (hi a ha) rfl) r)
 |_,_,_,i+1,.cons (f:=f) (g:=g) h t,e=>by
  obtain⟨v,f2,h1,h2,h3,h4⟩:=OwL.upd (R':=R') (i:=i) t (by simpa using e)
  refine⟨v,f2,by simpa using h1,h2,λa ha=>av _ (h3 a ha),λd' hd nd ot=>?_⟩
  rw[aW]at nd
  exact .cons (ot _ _ f (λa ha=>bc _ ha) (λa ha hf=>nd.2.2 a ha a (h3 a hf) rfl) h) (h4 d' hd nd.2.1 λd v f' hi hn r=>ot d v f' (λa ha=>av _ (hi a ha)) hn r)
section
variable {X:Cx}{ct:Nat->ah}{ms:List Mo}{rk n m k:Nat}{st:bP}{rest:List bP}{a b c e tg:Expr}{f g h:EF}{p q:BF}{u w:SF}{pos:cY}
end
end L3
namespace L3
open PySem PySem.Spec L2
open PyProof.Rows hiding St
section
variable {K:aa}{ct:Nat->ah}{F F' H B F0:Hp}
theorem SL.fz {ms:List Mo}{ρ:Env}{σ:St}{fp:List ah}{i k:Nat}(h0:SL K ct F B H ms ρ σ fp)(s:bT F H):fp.Nodup->ms[i]?=some (.ow k)->∃f1:List ah,(∀a∈f1,a∈fp) /\
  ∃gM,SL K ct (gZ F H f1) B H (ms.set i (.ow 0)) ρ σ gM/\gM.Nodup/\∀a∈gM,a∈fp/\a∉f1:=by
 induction h0 generalizing i with
 |nil=>
  intro _ e
  simp at e
 |@no m0 o0 ms ρ σ fp t ih=>
  intro nd e
  cases i with
  |zero=>
   obtain⟨w1,w2,w3⟩:=jj (F:=F) (H:=H) (fp:=[]) s (λa z=>by cases z)
   exact⟨[],λa z=>(by cases z),fp,.no (t.frame w1 λa z=>⟨rfl,by unfold gZ;rw[if_neg (by simp)];exact(t.cells a z).1⟩),nd,λa z=>⟨z,by simp⟩⟩
  |succ i=>
   obtain⟨f1,h1,gM,q1,q2,q3⟩:=ih (i:=i) nd (by simpa using e)
   exact⟨f1,h1,gM,.no q1,q2,q3⟩
 |@al n0 d0 v0 ms ρ σ fp h t ih=>
  intro nd e
  cases i with
  |zero=>
   simp at e
  |succ i=>
   obtain⟨f1,h1,gM,q1,q2,q3⟩:=ih (i:=i) nd (by simpa using e)
   obtain⟨w1,w2,w3⟩:=jj (F:=F) (H:=H) (fp:=f1) s (λa z=>(t.cells a (h1 a z)).1)
   exact⟨f1,h1,gM,.al (h.mono w1 (.refl _)) q1,q2,q3⟩
 |@px d0 v0 ms ρ σ fp h t ih=>
  intro nd e
  cases i with
  |zero=>
   simp at e
  |succ i=>
   obtain⟨f1,h1,gM,q1,q2,q3⟩:=ih (i:=i) nd (by simpa using e)
   obtain⟨w1,w2,w3⟩:=jj (F:=F) (H:=H) (fp:=f1) s (λa z=>(t.cells a (h1 a z)).1)
   exact⟨f1,h1,gM,.px (h.mono w1 (.refl _)) q1,q2,q3⟩
 |@so d0 x ms ρ σ fp h t ih=>
  intro nd e
  cases i with
  |zero=>
   simp at e
  |succ i=>
   obtain⟨n1,n2⟩:=bv.mp nd
   obtain⟨f1,h1,gM,q1,q2,q3⟩:=ih (i:=i) n2 (by simpa using e)
   obtain⟨w1,w2,w3⟩:=jj (F:=F) (H:=H) (fp:=f1) s (λa z=>(t.cells a (h1 a z)).1)
   refine⟨f1,λa z=>aj _ (h1 a z),x::gM,.so (h.frame w1 λa z=>⟨rfl,?_⟩) q1,bv.mpr ⟨λz=>n1 (q3 x z).1,q2⟩,λa z=>?_⟩
   ·rw[aD]at z
    unfold gZ
    rw[if_neg λq=>n1 (z▸h1 a q)]
    exact(h.cells a (by rw[z];exact af)).1
   ·rcases aF.mp z with z|z
    ·exact⟨z▸af,λq=>n1 (z▸h1 a q)⟩
    ·exact⟨aj _ (q3 a z).1,(q3 a z).2⟩
 |@ow n0 d0 v0 ms ρ σ f fp h t ih=>
  intro nd e
  cases i with
  |zero=>
   obtain⟨w1,w2,w3⟩:=jj (F:=F) (H:=H) (fp:=f) s (λa z=>(h.cells a z).1)
   obtain⟨n1,n2,n3⟩:=aW.mp nd
   refine⟨f,λa z=>bc _ z,[]++fp,.ow ⟨h.dt w1 w3,rfl⟩ (t.frame w1 λa z=>⟨rfl,?_⟩),n2,λa z=>⟨av _ z,λq=>n3 a q a z rfl⟩⟩
   unfold gZ
   rw[if_neg λq=>n3 a q a z rfl]
   exact(t.cells a z).1
  |succ i=>
   obtain⟨n1,n2,n3⟩:=aW.mp nd
   obtain⟨f1,h1,gM,q1,q2,q3⟩:=ih (i:=i) n2 (by simpa using e)
   obtain⟨w1,w2,w3⟩:=jj (F:=F) (H:=H) (fp:=f1) s (λa z=>(t.cells a (h1 a z)).1)
   refine⟨f1,λa z=>av _ (h1 a z),f++gM,.ow (h.frame w1 λa z=>⟨rfl,?_⟩) q1,aW.mpr ⟨n1,q2,λa z b zb=>n3 a z b (q3 b zb).1⟩,λa z=>?_⟩
   ·unfold gZ
    rw[if_neg λq=>n3 a z a (h1 a q) rfl]
    exact(h.cells a z).1
   ·rcases aY.mp z with z|z
    ·exact⟨bc _ z,λq=>n3 a z a (h1 a q) rfl⟩
    ·exact⟨av _ (q3 a z).1,(q3 a z).2⟩
theorem SL.forget (m':Mo){ms:List Mo}{ρ:Env}{σ:St}{fp:List ah}(i:Nat)(h0:SL K ct F B H ms ρ σ fp):∃gM,SL K ct F B H (ms.set i m') (ρ.set i none) σ gM/\gM.Sublist fp:=by
 induction h0 generalizing i with
 |nil=>
  exact⟨[],.nil,.refl _⟩
 |@no m0 o0 ms ρ σ fp t ih=>
  cases i with
  |zero=>
   exact⟨fp,.no t,.refl _⟩
  |succ i=>
   obtain⟨gM,q1,q2⟩:=ih i
   exact⟨gM,.no q1,q2⟩
 |@al n0 d0 v0 ms ρ σ fp h t ih=>
  cases i with
  |zero=>
   exact⟨fp,.no t,.refl _⟩
  |succ i=>
   obtain⟨gM,q1,q2⟩:=ih i
   exact⟨gM,.al h q1,q2⟩
 |@px d0 v0 ms ρ σ fp h t ih=>
  cases i with
  |zero=>
   exact⟨fp,.no t,.refl _⟩
  |succ i=>
   obtain⟨gM,q1,q2⟩:=ih i
   exact⟨gM,.px h q1,q2⟩
 |@so d0 x ms ρ σ fp h t ih=>
  cases i with
  |zero=>
   exact⟨fp,.no t,oM _ _⟩
  |succ i=>
   obtain⟨gM,q1,q2⟩:=ih i
   exact⟨_,.so h q1,q2.cons₂ _⟩
 |@ow n0 d0 v0 ms ρ σ f fp h t ih=>
  cases i with
  |zero=>
   exact⟨fp,.no t,ny _ _⟩
  |succ i=>
   obtain⟨gM,q1,q2⟩:=ih i
   exact⟨_,.ow h q1,(kz.refl _).append q2⟩
theorem RS.fz {ms:List Mo}{ρ:Env}{σ:St}{i k:Nat}(rs:RS K ct F0 B ms F H ρ σ)(hm:ms[i]?=some (.ow k)):∃F',RS K ct F0 B (ms.set i (.ow 0)) F' H ρ σ:=by
 obtain⟨fp,sl,nd,hb⟩:=rs.sl
 obtain⟨f1,h1,gM,q1,q2,q3⟩:=sl.fz rs.fh nd hm
 obtain⟨w1,w2,w3⟩:=jj (F:=F) (H:=H) (fp:=f1) rs.fh (λa z=>(sl.cells a (h1 a z)).1)
 refine⟨gZ F H f1,rs.f0.trans w1,rs.bh,w2,λa o ho hn=>?_,gM,q1,q2,λa z=>hb a (q3 a z).1⟩
 have:¬a∈f1:=λz=>by rw[hb a (h1 a z)]at ho;cases ho
 unfold gZ;rw[if_neg this];exact rs.nf a o ho hn
theorem RS.forget {ms:List Mo}{ρ:Env}{σ:St}(m':Mo)(i:Nat)(rs:RS K ct F0 B ms F H ρ σ):RS K ct F0 B (ms.set i m') F H (ρ.set i none) σ:=by
 obtain⟨fp,sl,nd,hb⟩:=rs.sl
 obtain⟨gM,q1,q2⟩:=sl.forget m' i
 exact⟨rs.f0,rs.bh,rs.fh,rs.nf,gM,q1,q2.nodup nd,λa z=>hb a (q2.subset z)⟩
end
def tw (i:Nat):Out->Out
 |.nx ρ=>.nx (ρ.set i none)
 |.rt d=>.rt d
 |.bk ρ=>.bk (ρ.set i none)
 |.ct ρ=>.ct (ρ.set i none)
def sFz (i:Nat)(u:SF):SF:=λρ=>(u ρ).bind λo=>some (tw i o)
section
variable {X:Cx}{ct:Nat->ah}{ms:List Mo}{rk k:Nat}
theorem Zt {ms:List Mo}{i k:Nat}(hm:ms[i]?=some (.ow k)):(ms.set i (.ow 0)).set i (.ow k)=ms:=by
 rw[List.set_set]
 apply fK
 intro j
 rw[rW]
 split
 ·next h=>
  subst h
  rw[hm]
  have:=(aV.mp hm).1
  rw[if_pos this]
 ·rfl
theorem zu6 {i:Nat}{t:kD->St->Hp->Prop}{w:SF}(hm:ms[i]?=some (.ow k))
  (q:∀(F0 B F H:Hp) (ρ:Env) (σ:St) (o:Out) (E:kD),RS X.K ct F0 B (ms.set i (.ow 0)) F H ρ σ->w ρ=some o->lA X.K ct F0 B (ms.set i (.ow 0)) rk E o->t E σ H)
  (F0 B F H:Hp) (ρ:Env) (σ:St) (o:Out) (E:kD) (rs:RS X.K ct F0 B ms F H ρ σ) (e:sFz i w ρ=some o) (z:lA X.K ct F0 B ms rk E o):t E σ H:=by
 obtain⟨F',r2⟩:=rs.fz hm
 obtain⟨o1,e1,e2⟩:=aJ e
 refine q F0 B F' H ρ σ o1 E r2 e1 ?_
 have back:∀{ρ':Env} {σ':St} {F2 H2:Hp},RS X.K ct F0 B (ms.set i (.ow 0)) F2 H2 ρ' σ'->RS X.K ct F0 B ms F2 H2 (ρ'.set i none) σ':=λr=>by
  have:=r.forget (.ow k) i
  rw[Zt hm]at this
  exact this
 cases o1 with
 |nx ρ'=>cases e2;exactλσ' F2 H2 r=>z σ' F2 H2 (back r)
 |rt d=>cases e2;exact z
 |bk ρ'=>cases e2;exactλσ' F2 H2 r=>z σ' F2 H2 (back r)
 |ct ρ'=>cases e2;exactλσ' F2 H2 r=>z σ' F2 H2 (back r)
theorem NZ {PQ:List bP}{w:SF}{i:Nat}(hm:ms[i]?=some (.ow k))(h:rB X ct (ms.set i (.ow 0)) rk PQ w):rB X ct ms rk PQ (sFz i w):=by
 obtain⟨t,pt,qt⟩:=h
 exact⟨t,pt,zu6 hm qt⟩
theorem zn4 {i:Nat}{d:D}:tw i (.rt d)=.rt d:=rfl
theorem zn5 {i:Nat}{ρ:Env}:tw i (.nx ρ)=.nx (ρ.set i none):=rfl
end
end L3
namespace L3
open PySem PySem.Spec L2
open PyProof.Rows hiding St
section
variable {X:Cx}{ct:Nat->ah}{ms:List Mo}{rk n m k:Nat}{a b c tg:Expr}{pos:cY}
end
end L3
namespace L2
open PySem PySem.Spec PyProof.Rows
section
variable {X:Cx}{rE:List Expr}{kt:Nat}{pt:cY}
end
end L2
namespace L3
open PySem PySem.Spec L2
open PyProof.Rows hiding St
section
variable {X:Cx}{ct:Nat->ah}{ms:List Mo}{n:Nat}{a b:Expr}{pos:cY}
end
end L3
namespace L3
open PySem PySem.Spec L2
open PyProof.Rows hiding St
section
variable {K:aa}{ct:Nat->ah}{n m k:Nat}
end
end L3
namespace L2
open PySem PySem.Spec PyProof.Rows
section
variable {X:Cx}{e sp:Expr}{te:TE}{tp:TO}{pos p2:cY}
end
end L2
namespace L3
open PySem PySem.Spec L2
open PyProof.Rows hiding St
section
variable {X:Cx}{ct:Nat->ah}{ms:List Mo}{n m:Nat}{e sp:Expr}{f g:EF}{pos p1:cY}
end
end L3
namespace L3
open PySem PySem.Spec L2
open PyProof.Rows hiding St
def kg {α:Type}(p q:Nat)(rv:Bool)(us ws:List α):List α:=if us.length=p/\ws.length=q then us++(if rv then ws.reverse else ws)else[]
section
variable {X:Cx}{ct:Nat->ah}{ms:List Mo}{rk n m k kk:Nat}{e a:Expr}{f:EF}{x:aQ}{pp pos Ak:cY}{fa:ah}{fd:aH}{ps ks:List aQ}{mf:List D->Option D}
end
end L3
namespace L3
open PySem PySem.Spec L2
open PyProof.Rows hiding St
section
variable {X:Cx}{ct:Nat->ah}{ms:List Mo}{rk n m k:Nat}{st:bP}{rest:List bP}{a b c e tg:Expr}{f g h:EF}{p q:BF}{u w:SF}{pos:cY}
def Xk (i:Nat):SF:=λρ=>(eV i ρ).bind λo=>match o with
 |.lst ds=>if ds.isEmpty=true then none else some (.nx (ρ.set i (some (.lst ds.dropLast))))
 |_=>none
def Ai (g:List D->Option (List D))(o j:D):Option D:=match o,j with
 |.lst rs,.int y=>(ixN rs.length y).bind λy'=>(rs[y']?).bind λr=>(match r with
  |.lst ds=>(g ds).bind λkj=>some (.lst (rs.set y' (.lst kj)))
  |_=>none)
 |.tup rs,.int y=>(ixN rs.length y).bind λy'=>(rs[y']?).bind λr=>(match r with
  |.lst ds=>(g ds).bind λkj=>some (.tup (rs.set y' (.lst kj)))
  |_=>none)
 |_,_=>none
def pW (d:D)(ds:List D):Option (List D):=if ds.length<16777216 then some (ds++[d])else none
def oo (i:Nat)(fj f:EF):SF:=λρ=>(eV i ρ).bind λo=>(fj ρ).bind λj=>(f ρ).bind λd=>(Ai (pW d) o j).bind λo'=>some (.nx (ρ.set i (some o')))
def ou (i:Nat)(fj:EF):SF:=λρ=>(eV i ρ).bind λo=>(fj ρ).bind λj=>(Ai (λ_=>some []) o j).bind λo'=>some (.nx (ρ.set i (some o')))
theorem Q4 {F0 B F H:Hp}{ρ:Env}{σ:St}{i:Nat}{g:List D->Option (List D)}{o j o':D}(rs:RS X.K ct F0 B ms F H ρ σ)(hm:ms[i]?=some (.ow 2))(ho:eV i ρ=some o)(hg:Ai g o j=some o') :
  ∃(v:V) (y:Int) (bd:ah) (us:List V) (ds kj:List D),σ[i]?=some (some v)/\j=.int y/\g ds=some kj/\H bd=some (.lst us)/\F bd=none/\OwL (Ow X.K ct F H 0) ds us [] /\
   (∀F2 H2 vj Q,fq F H F2 H2->vj=.int y->Q (.ref bd) H2->IH X.K v vj H2 Q) /\
   ∀F3 H3 AL,fq F H F3 H3->OwL (Ow X.K ct F3 (upd H3 bd (.lst AL)) 0) kj AL []->RS X.K ct F0 B ms F3 (upd H3 bd (.lst AL)) (ρ.set i (some o')) σ:=by
 obtain⟨f1,fr,n1,b1,dj,i4,cf,put⟩:=rs.put (F':=F) (H':=H) hm
 obtain⟨v,hσ,ow⟩:=i4 o (zu ho)
 unfold Ai at hg
 split at hg
 ·rename_i Xg yi
  obtain⟨y',k1,k2⟩:=aJ hg
  obtain⟨r,k3,k4⟩:=aJ k2
  cases r with
  |lst ds=>
   obtain⟨kj,k5,k6⟩:=aJ k4
   cases k6
   obtain⟨ad,vs,mz,rfl,rfl,hF,hH,ol⟩:=ow.lst_inv
   obtain⟨vr,f2,q1,q2,q3,_⟩:=OwL.upd (R':=Ow X.K ct F H 1) ol k3
   obtain⟨bd,us,K6,rfl,rfl,zI,uN,uX⟩:=q2.lst_inv
   have e0:=uX.nil0
   subst e0
   refine⟨.ref ad,yi,bd,us,ds,kj,hσ,rfl,k5,uN,zI,uX,λF2 H2 vj Q x2 hj hQ=>.inl ⟨ad,vs,yi,.ref bd,rfl,hj,e5.of (x2.hh _ _ hH),?_,hQ⟩,λF3 H3 AL kP As=>?_⟩
   ·unfold atI
    rw[←ol.length,k1]
    exact q1
   ·have fB:F3 bd=none:=kP.nf bd _ uN zI
    have Br:=bv.mp n1
    have Ik:bd∈mz:=q3 bd af
    have iY:ad≠bd:=λz=>Br.1 (z▸Ik)
    obtain⟨Ys,Uz,GS,GU,Xd,Me⟩:=OwL.upd (R':=Ow X.K ct F3 (upd H3 bd (.lst AL)) 1) ol k3
    rw[q1]at GS
    cases GS
    obtain⟨Uv,MI,K7,eb,rfl,_,UU,Ar⟩:=GU.lst_inv
    cases eb
    have e1:=Ar.nil0
    subst e1
    refine rs.change hm kP hσ b1 dj cf put (aj _ Ik) fB (.inr (.lst (kP.nf ad _ hH hF) (by rw[ym iY];exact kP.hh _ _ hH) (Me (.lst kj) (.inr (.lst fB yt As)) Br.2 ?_))) (fn:=ad::mz) n1 λa ha=>.inl ha
    intro d0 v1 f' nj zR o'
    refine(o'.ext kP).frame (.refl _) λa' zJ=>⟨ym λe=>zR a' zJ (by rw[e];exact af),((o'.ext kP).cells a' zJ).1⟩
  |_=>cases k4
 ·rename_i Xg yi
  obtain⟨y',k1,k2⟩:=aJ hg
  obtain⟨r,k3,k4⟩:=aJ k2
  cases r with
  |lst ds=>
   obtain⟨kj,k5,k6⟩:=aJ k4
   cases k6
   rcases ow with⟨hs,_⟩|oc
   ·cases hs
   ·cases oc with
    |@tup ad vs _ _ Ij ol=>
     obtain⟨vr,f2,q1,q2,q3,_⟩:=OwL.upd (R':=Ow X.K ct F H 1) ol k3
     obtain⟨bd,us,K6,rfl,rfl,zI,uN,uX⟩:=q2.lst_inv
     have e0:=uX.nil0
     subst e0
     refine⟨.ref ad,yi,bd,us,ds,kj,hσ,rfl,k5,uN,zI,uX,λF2 H2 vj Q x2 hj hQ=>.inr (.inl ⟨ad,vs,yi,.ref bd,rfl,hj,kJ.of (x2.hh _ _ (rs.fh _ _ Ij)),?_,hQ⟩),λF3 H3 AL kP As=>?_⟩
     ·unfold atI
      rw[←ol.length,k1]
      exact q1
     ·have fB:F3 bd=none:=kP.nf bd _ uN zI
      have Ik:bd∈f1:=q3 bd af
      obtain⟨Ys,Uz,GS,GU,Xd,Me⟩:=OwL.upd (R':=Ow X.K ct F3 (upd H3 bd (.lst AL)) 1) ol k3
      rw[q1]at GS
      cases GS
      obtain⟨Uv,MI,K7,eb,rfl,_,UU,Ar⟩:=GU.lst_inv
      cases eb
      have e1:=Ar.nil0
      subst e1
      refine rs.change hm kP hσ b1 dj cf put Ik fB (.inr (.tup (kP.ff _ _ Ij) (Me (.lst kj) (.inr (.lst fB yt As)) n1 ?_))) (fn:=f1) n1 λa ha=>.inl ha
      intro d0 v1 f' nj zR o'
      refine(o'.ext kP).frame (.refl _) λa' zJ=>⟨ym λe=>zR a' zJ (by rw[e];exact af),((o'.ext kP).cells a' zJ).1⟩
  |_=>cases k4
 ·cases hg
theorem zn6 (i:Nat){x:aQ}{j:Expr}{p1 p2 dD dO:cY}{fj:EF}(hm:ms[i]?=some (.ow 2))(hj:XE X ct ms n j fj)(hp:gU j)(he:XE X ct ms 0 e f)(hN:X.N[i]?=some x:=by rfl)(hv:lQ X.env.scope x:=by first|exact Or.inl rfl|exact Or.inr (Or.inl rfl)|exact Or.inr (Or.inr rfl))(hd:(x==("__debug__":aQ))=false:=by decide)
  (gA:(x==("__classdict__":aQ))=false:=by decide) (kK:aq [e] X.env=(false,bJ e X.env)::aq [] X.env:=by rfl)
  (ig:dJ (.Subscript (.Name x p1) j p2) "append" X.env (bJ (.Subscript (.Name x p1) j p2) X.env)=bJ (.Subscript (.Name x p1) j p2) X.env:=by rfl)
  (n4:((cB dO (aq [e] X.env)).all (λx=>!x.1)&&(eL dO (dC [] X.env)).all (λx=>x.1.isSome)
   && decide ([e].length+([]:List fL).length+(if([]:List fL).isEmpty then 0 else 1)<30))=true:=by rfl)
  (ij:(dD.endLine==dO.line)=true:=by rfl) (iC:(cB dO (aq [] X.env)).any (·.1)=false:=by rfl)
  (rK:dw (.Call (.Attribute (.Subscript (.Name x p1) j p2) "append" dD) [e] [] dO) none pos.line X.env=pure false:=by rfl) :
  XS X ct ms rk (.Expr (.Call (.Attribute (.Subscript (.Name x p1) j p2) "append" dD) [e] [] dO) pos) (oo i fj f):=by
 obtain⟨t,pt,qt⟩:=he
 obtain⟨tj,tG,tH⟩:=hj
 refine⟨_,Hv (HI PySem.F.plainAttrs_list PySem.F.slot_list_append PySem.F.type_list_append Hq (BQ xu (um hN hv hd gA) tG hp) (vi pt q0 kK) ig n4 ij kK iC) rK,λF0 B F H ρ σ o E rs e z=>?_⟩
 obtain⟨o1,j1,h1,h2,h3⟩:=cQ e
 obtain⟨d,h4,h5⟩:=aJ h3
 obtain⟨o',h6,h7⟩:=aJ h5
 cases h7
 obtain⟨v,y,bd,us,ds,kj,hσ,rfl,hg,hH,hF,ol,rd,wr⟩:=Q4 rs hm h1 h6
 refine⟨v,hσ,tH F0 B F H ρ σ _ _ rs h2 λvj F2 H2 x2 lj=>?_⟩
 refine rd F2 H2 vj _ x2 lj.int ⟨.inl ⟨rfl,_,e5.of (x2.hh _ _ hH)⟩,qt F0 B F2 H2 ρ σ d _ (rs.ext x2) h4 λv0 F3 H3 x3 l0=>?_⟩
 have kP:=x2.trans x3
 unfold pW at hg
 by_cases hz:ds.length<16777216
 ·rw[if_pos hz]at hg
  cases hg
  refine⟨bd,us,v0,rfl,rfl,kP.hh _ _ hH,by rw[←ol.length,cy];exact hz,?_⟩
  refine z σ F3 _ (wr F3 H3 (us++[v0]) kP ((ol.mono λ_ _ _ _ q=>⟨q.1.mono kP.ff,q.2⟩).append (.cons (f:=[]) ⟨l0,rfl⟩ .nil)))
 ·rw[if_neg hz]at hg;cases hg
theorem zn7 (i:Nat){x:aQ}{j:Expr}{p1 p2 dD dO:cY}{fj:EF}(hm:ms[i]?=some (.ow 2))(hj:XE X ct ms n j fj)(hp:gU j)(hN:X.N[i]?=some x:=by rfl)(hv:lQ X.env.scope x:=by first|exact Or.inl rfl|exact Or.inr (Or.inl rfl)|exact Or.inr (Or.inr rfl))(hd:(x==("__debug__":aQ))=false:=by decide)
  (gA:(x==("__classdict__":aQ))=false:=by decide)
  (ig:dJ (.Subscript (.Name x p1) j p2) "clear" X.env (bJ (.Subscript (.Name x p1) j p2) X.env)=bJ (.Subscript (.Name x p1) j p2) X.env:=by rfl)
  (ij:(dD.endLine==dO.line)=true:=by rfl)
  (rK:dw (.Call (.Attribute (.Subscript (.Name x p1) j p2) "clear" dD) [] [] dO) none pos.line X.env=pure false:=by rfl) :
  XS X ct ms rk (.Expr (.Call (.Attribute (.Subscript (.Name x p1) j p2) "clear" dD) [] [] dO) pos) (ou i fj):=by
 obtain⟨tj,tG,tH⟩:=hj
 refine⟨_,Hv (zta PySem.F.plainAttrs_list PySem.F.slot_list_clear PySem.F.type_list_clear znd (BQ xu (um hN hv hd gA) tG hp) ig ij) rK,λF0 B F H ρ σ o E rs e z=>?_⟩
 obtain⟨o1,j1,h1,h2,h3⟩:=cQ e
 obtain⟨o',h6,h7⟩:=aJ h3
 cases h7
 obtain⟨v,y,bd,us,ds,kj,hσ,rfl,hg,hH,hF,ol,rd,wr⟩:=Q4 rs hm h1 h6
 cases hg
 refine⟨v,hσ,tH F0 B F H ρ σ _ _ rs h2 λvj F2 H2 x2 lj=>?_⟩
 refine rd F2 H2 vj _ x2 lj.int ⟨.inl ⟨rfl,_,e5.of (x2.hh _ _ hH)⟩,bd,us,rfl,rfl,x2.hh _ _ hH,?_⟩
 exact z σ F2 _ (wr F2 H2 [] x2 .nil)
end
end L3
namespace L3
open PySem PySem.Spec L2
open PyProof.Rows hiding St
theorem zrg:pE (ae.type "list_reverseiterator") (aQ.ofString "__len__")=pure none:=by with_unfolding_all rfl
theorem zn8:pE (ae.type "list_reverseiterator") (aQ.ofString "__length_hint__")=pure (some (ae.builtin "list_reverseiterator.__length_hint__")):=by with_unfolding_all rfl
theorem zly:splitId "list_reverseiterator.__length_hint__"=some ("list_reverseiterator","__length_hint__"):=by with_unfolding_all rfl
theorem zrh:isSubtype (ae.type "list_reverseiterator") (ae.type "list_reverseiterator")=pure true:=by with_unfolding_all rfl
theorem zn9 {prog:bB}{w:cj}{A:bR}{E:ae->am->Prop}{s:am}{it l:ah}{i:Int}{Q:Bool->am->Prop}(st:s.heap.IsRevIter it l i)(h:Q false s):bi (ba prog w) A (e6.List.listLengthHint (ae.ref it)) Q E s:=by
 unfold e6.List.listLengthHint
 refine aR (oH st.typeIs zrg ?_)
 simp only[]
 refine aR (oH st.typeIs zn8 ?_)
 simp only[zly]
 refine aR (wpAny_isInstance st.typeIs zrh ?_)
 rw[if_neg (by decide)]
 rw[if_pos (by with_unfolding_all decide),if_neg (by decide)]
 exact bS h
theorem Zu {prog:bB}{w:cj}{A:bR}{s:am}{R:Result->am->Prop}{it l:ah}{items:Array ae}(hh:A.handled=none)(st:s.heap.IsRevIter it l ((items.size:Int)-1))(hl:s.heap.IsList l items)(iY:l≠it)(hsz:items.size<=sizeLine)(S:ah)(res:ae)(c₀:Nat)(hS:s.heap.get? S=some { cls:=ae.type "list",data:=jR.seq #[] c₀ })(UY:S≠l)
    (hR:∀(h':aZ) (tk:Nat) (jE:Array ae) (c':Nat),(∀(b:ah) (o:dU),b≠S->b≠it->s.heap.get? b=some o->h'.get? b=some o)->h'.get? S=some { cls:=ae.type "list",data:=jR.seq jE c' }->ItemsOf (λi v=>items[items.size-1-i]?=some v) jE items.size->R (Except.ok (Flow.ret res)) { s with heap:=h',toks:=tk }) :
    bi (ba prog w) A.in1 (e6.List.listExtendWith (ae.ref S) (ae.ref it) res) (λfin s'=>match fin with|Fin.done f=>R (Except.ok f) s'|Fin.again c'=>c'.quiet=true/\gc (ba prog w) A c' R s') (λe s'=>R (Except.error e) s') s:=by
  have Em:S≠it:=λe=>by
    obtain⟨o,h1,h2,h3⟩:=st
    rw[←e,hS]at h1
    cases h1
    simp at h2
  have W:=(Walks.listRev (prog:=prog) (w:=w) (A:=A.in1) hh it l iY items).toS
  have key:gc (ba prog w) A (qE.builtin "list.extend.loop" { pos:=[ae.ref S,ae.ref it,res] }) R s:=by
    refine codeAny_extend_loopS W hsz S (by simp[Em,UY]) res items.size 0 s #[] c₀ rfl (de _) ⟨de _,by simpa using st,hl⟩ hS (ItemsOf.nil _) λs' jE c' hm Lm pX=>?_
    rw[Moved.eq_with hm]
    exact hR s'.heap s'.toks jE c' (λb o hb hi e=>hm.heap b o (by simp[hb,hi]) e) Lm pX
  unfold e6.List.listExtendWith
  refine aR (wpAny_typeOf st.typeIs ?_)
  have h1:e6.List.listSameRef (ae.ref S) (ae.ref it)=false:=by simp[e6.List.listSameRef,Em]
  have h2:(ae.type "list_reverseiterator" == ae.type "list")=false:=by decide
  have h3:(ae.type "list_reverseiterator" == ae.type "tuple")=false:=by decide
  simp only[h1,h2,h3,vK,dA,if_false]
  refine aR (wpAny_pyIter_revIter st ?_)
  refine aR (lF (zn9 st ?_))
  rw[if_neg (by with_unfolding_all decide)]
  exact bS ⟨plainId_quiet F.plain_extend_loop _,key⟩
theorem YY {prog:bB}{w:cj}{A:bR}{E:ae->am->Prop}{s:am}{Q:ae->am->Prop}{it l:ah}{items:Array ae}(hh:A.handled=none)(st:s.heap.IsRevIter it l ((items.size:Int)-1))(hl:s.heap.IsList l items)(iY:l≠it)(hsz:items.size<=sizeLine)
    (hQ:∀(h':aZ) (tk:Nat) (jE:Array ae) (c':Nat),(∀(b:ah) (o:dU),b≠it->s.heap.get? b=some o->h'.get? b=some o)->h'.get? s.heap.objs.size=some { cls:=ae.type "list",data:=jR.seq jE c' }->ItemsOf (λi v=>items[items.size-1-i]?=some v) jE items.size->Q (ae.ref s.heap.objs.size) { s with heap:=h',toks:=tk }) :
    bi (ba prog w) A (call (ae.type "list") [ae.ref it]) Q E s:=by
  refine callType_codes (Q₁:=λobj s₁=>obj=ae.ref s.heap.objs.size/\s₁ = { s with heap:=s.heap.push { cls:=ae.type "list",data:=jR.seq #[] } }) F.called_list (F.typeCall_list_1 (ae.ref it)) F.entry_list_init (code_list_new (ae.ref it) ⟨rfl,rfl⟩) λobj s₁ h₁=>?_
  obtain⟨rfl,rfl⟩:=h₁
  have hS:=bQ s.heap (o:={ cls:=ae.type "list",data:=jR.seq #[] }) rfl
  refine⟨⟨_,hS,rfl⟩,F.args_list_init_2 (ae.ref s.heap.objs.size) (ae.ref it),?_⟩
  have FK:∀b o,s.heap.get? b=some o->b≠s.heap.objs.size:=λb o e=>bw (aP e)
  have Vi:s.heap.objs.size≠l:=λe=>by
    obtain⟨o,h1,_⟩:=hl
    exact FK l o h1 e.symm
  have VB:(#[]:Array ae).size<=sizeLine:=de _
  have pH:(#[]:Array ae).size<=sizeLine+1:=de _
  show bi _ _ (e6.List.listItems (ae.ref s.heap.objs.size) >>= _) _ _ _
  refine aR ?_
  show bi _ _ (seqItems? (ae.ref s.heap.objs.size) >>= _) _ _ _
  refine aR (wpAny_seqItems hS rfl ?_)
  refine bS ?_
  show bi _ _ (updateSeq s.heap.objs.size (λ_=>#[]) >>= _) _ _ _
  refine aR (wpAny_updateSeq hS rfl ?_ VB pH)
  have UZ:((s.heap.push { cls:=ae.type "list",data:=jR.seq #[] }).update s.heap.objs.size (dU.mapSeq λ_=>#[])).get? s.heap.objs.size=some { cls:=ae.type "list",data:=jR.seq #[] 0 }:=o9 (dU.mapSeq λ_=>#[]) hS rfl
  have Mb:∀(b:ah) (o:dU),b≠s.heap.objs.size->s.heap.get? b=some o->((s.heap.push { cls:=ae.type "list",data:=jR.seq #[] }).update s.heap.objs.size (dU.mapSeq λ_=>#[])).get? b=some o:=λb o hb e=>(iJ _ _ (Ne.symm hb)).trans (aC _ e)
  refine aR (wpAny_letGo ?_)
  obtain⟨oi,i1,i2,i3⟩:=st
  obtain⟨ol,l1,l2,l3⟩:=hl
  refine Zu (A:=A.in1) (R:=wants (λr s₂=>r=ae.none/\Q (ae.ref s.heap.objs.size) s₂) E) (s:={ s with heap:=(s.heap.push { cls:=ae.type "list",data:=jR.seq #[] }).update s.heap.objs.size (dU.mapSeq λ_=>#[]) }) (l:=l) (items:=items) hh ⟨oi,Mb it oi (FK it oi i1) i1,i2,i3⟩ ⟨ol,Mb l ol (FK l ol l1) l1,l2,l3⟩ iY hsz s.heap.objs.size ae.none _ UZ Vi λh' tk jE c' hk Lm pX=>⟨rfl,hQ h' tk jE c' (λb o hb e=>hk b o (FK b o e) hb (Mb b o (FK b o e) e)) Lm pX⟩
section
variable {X:Cx}{ct:Nat->ah}{ms:List Mo}{rk n m k:Nat}{a e:Expr}{f:EF}{pos:cY}
def wM (K:aa):V->Hp->VK->Prop:=λx H Q=>∃a xs,x=.ref a/\e5 K H a xs/\∀p,H p=none->Q (.ref p) (upd H p (.lst xs.reverse))
def Ha (K:aa)(te:TE):TE:=λσ H Q=>te σ H λx H1=>wM K x H1 Q
theorem zri {te:TE}{p1 p2 gk:cY}(hc:X.calm=true)(hg:Gl X "list")(hm:X.mg "list"=none)(nG:Gl X "reversed")(mB:X.mg "reversed"=none)(he:PE X e te)(hs:aq [e] X.env=[(false,bJ e X.env)]:=by rfl)
  (mR:aq [.Call (.Name "reversed" p2) [e] [] gk] X.env=[(false,bJ (.Call (.Name "reversed" p2) [e] [] gk) X.env)]:=by rfl) :
  PE X (.Call (.Name "list" p1) [.Call (.Name "reversed" p2) [e] [] gk] [] pos) (Ha X.K te):=by
 intro ai s σ H Q I h
 refine dH (vI I hg hm AO ?_ (by decide) (by decide))
 refine cw ?_ mR rfl
 rw[mR]
 show bi _ _ (spliced ((false,bJ (.Call (.Name "reversed" p2) [e] [] gk) X.env)::[])) _ _ s
 refine Calls.spliced_cons ?_
 refine dH (vI (u:=.type "reversed") I nG mB (by rfl) ?_ (by decide) (by decide))
 refine cw (dz ((vi he q0 hs) gk ai s σ H (λvs H1=>match vs with|[x]=>wM X.K x H1 Q|_=>False) I h) λus s1 ⟨vs,H1,I1,r,q⟩=>?_) hs rfl
 match vs,q with
 |[x],q=>
  obtain⟨a,xs,rfl,hq,q⟩:=q
  obtain⟨u,rfl,ru⟩:=r.one
  cases ru
  obtain⟨bZ,rv,pl,hz⟩:=I1.list hq
  have hl:=rv.length
  refine call_reversed_list pl.isList (Calls.spliced_nil ?_)
  have I2:L2.Inv X ai σ H1 { s1 with heap:=s1.heap.push (vP a ((bZ.toArray.size:Int)-1)) }:=I1.kept (t':=s1.toks) λb o e=>aC _ e
  have st:(s1.heap.push (vP a ((bZ.toArray.size:Int)-1))).IsRevIter s1.heap.objs.size a ((bZ.toArray.size:Int)-1):=⟨_,bQ _ rfl,rfl,by simp[vP]⟩
  have Xc:(s1.heap.push (vP a ((bZ.toArray.size:Int)-1))).IsList a bZ.toArray:=by
   obtain⟨o,h1,h2⟩:=pl.isList
   exact⟨o,aC _ h1,h2⟩
  have TC:a≠s1.heap.objs.size:=by
   obtain⟨o,h1,h2⟩:=pl.isList
   exact bw (aP h1)
  refine YY (I2.ok.hd hc) st Xc TC (by rw[aE,←hl];exact hz) λh' tk jE c' kp hS pX=>?_
  have wD:(s1.heap.push (vP a ((bZ.toArray.size:Int)-1))).objs.size=s1.heap.objs.size+1:=by simp[aZ.push]
  have hv:bX xs.reverse jE.toList:=by
   obtain⟨e1,e2⟩:=pX
   have e3:jE.size=bZ.length:=by rw[e1,aE]
   refine Nu ((eZ).trans (hl.trans (e3.symm.trans cC.symm))) λi x u hx hu=>?_
   have hi:i<xs.length:=by
    have:=(aV.mp hx).1
    rwa[eZ]at this
   rw[List.getElem?_reverse hi]at hx
   obtain⟨u',EN,ru⟩:=rv.get hx
   have:=e2 i u (by simpa using hu)
   rw[aE,←hl]at this
   have h3:bZ[xs.length-1-i]?=some u:=by simpa using this
   rw[EN]at h3
   cases h3
   exact ru
  have eS:xs.reverse.length<=sizeLine:=by rw[eZ];exact hz
  refine⟨.ref _,_,I1.laid (t':=tk) (λb o e=>kp b o (bw (aP e)) (aC _ e)) (by rw[wD];omega) (show d4 X.prog X.w _ h' _ (.lst _)from⟨eS,jE.toList,c',hv,hS⟩),rfl,q _ (I1.hok.fresh (by rw[wD];omega))⟩
def sZ:D->Option D
 |.lst ds=>some (.lst ds.reverse)
 |_=>none
theorem zrj {p1 p2 gk:cY}(hn:n<=1)(hc:X.calm=true)(hg:Gl X "list")(hm:X.mg "list"=none)(nG:Gl X "reversed")(mB:X.mg "reversed"=none)(he:XE X ct ms n e f)(hs:aq [e] X.env=[(false,bJ e X.env)]:=by rfl)
  (mR:aq [.Call (.Name "reversed" p2) [e] [] gk] X.env=[(false,bJ (.Call (.Name "reversed" p2) [e] [] gk) X.env)]:=by rfl) :
  XO X ct ms 1 (.Call (.Name "list" p1) [.Call (.Name "reversed" p2) [e] [] gk] [] pos) (e1 sZ f):=by
 obtain⟨t,pt,qt⟩:=he
 refine⟨_,zri hc hg hm nG mB pt hs mR,λF0 B F H ρ σ r Q rs e w=>?_⟩
 obtain⟨d,h1,h2⟩:=aJ e
 refine qt F0 B F H ρ σ d _ rs h1 λv F1 H1 x1 l=>?_
 cases d with
 |lst ds=>
  cases h2
  obtain⟨a,vs,rfl,ha,hp⟩:=Al.lst1 hn l x1.fh
  exact⟨a,vs,rfl,ha,AT x1.fh (Pr.reverse hp) λv F2 H2 fp x2 l2 nd hf=>w v F2 H2 fp (x1.trans x2) l2 nd λz hz=>x1.hh.free (hf z hz)⟩
 |_=>cases h2
end
end L3
namespace L3
open PySem PySem.Spec L2
open PyProof.Rows hiding St
section
variable {X:Cx}{ct:Nat->ah}{ms:List Mo}{n m l k:Nat}{a b c:Expr}{f g h:EF}{pos:cY}
theorem zoa {r r':R2}{o o':D->D->Option D}{ta Hg tc:TE}(hs:kI X.K ct n m k r o)(EH:kI X.K ct m l k r' o')
  (qa:∀(F0 B F H:Hp) (ρ:Env) (σ:St) (d:D) (Q:VK),RS X.K ct F0 B ms F H ρ σ->f ρ=some d->(∀v F' H',fq F H F' H'->Al X.K ct F' H' n d v->Q v H')->ta σ H Q)
  (qb:∀(F0 B F H:Hp) (ρ:Env) (σ:St) (d:D) (Q:VK),RS X.K ct F0 B ms F H ρ σ->g ρ=some d->(∀v F' H',fq F H F' H'->Al X.K ct F' H' m d v->Q v H')->Hg σ H Q)
  (qc:∀(F0 B F H:Hp) (ρ:Env) (σ:St) (d:D) (Q:VK),RS X.K ct F0 B ms F H ρ σ->h ρ=some d->(∀v F' H',fq F H F' H'->Al X.K ct F' H' l d v->Q v H')->tc σ H Q)
  {F0 B F H:Hp} {ρ:Env} {σ:St} {t:Bool} {Q:VK} (rs:RS X.K ct F0 B ms F H ρ σ) (e:bAnd (tb (e2 o f g)) (tb (e2 o' g h)) ρ=some t) (w:∀F' H',fq F H F' H'->Q (.bl t) H'):tM r r' ta Hg tc σ H Q:=by
 obtain⟨b1,e1,e3⟩:=aJ e
 obtain⟨z1,z2,z3⟩:=aJ e1
 rw[qp z3]at z2
 obtain⟨d1,d2,h1,h2,h3⟩:=cQ z2
 refine qa F0 B F H ρ σ d1 _ rs h1 λx F1 H1 x1 l1=>?_
 refine qb F0 B F1 H1 ρ σ d2 _ (rs.ext x1) h2 λy F2 H2 x2 l2=>?_
 refine hs F2 H2 x y d1 d2 _ _ x2.fh (l1.mono x2.ff x2.hh) l2 h3 λv F3 H3 x3 l3=>⟨b1,l3.bl,?_⟩
 have Bv:=x1.trans (x2.trans x3)
 cases b1 with
 |false=>
  rw[if_neg aK]at e3 ⊢
  cases e3
  exact w F3 H3 Bv
 |true=>
  rw[if_pos rfl]at e3 ⊢
  obtain⟨z1',P3,Yu⟩:=aJ e3
  rw[qp Yu]at P3
  obtain⟨d2',d3,h4,h5,h6⟩:=cQ P3
  rw[h2]at h4
  cases h4
  refine qc F0 B F3 H3 ρ σ d3 _ (rs.ext Bv) h5 λu F4 H4 x4 l4=>?_
  exact EH F4 H4 y u d2 d3 _ _ x4.fh ((l2.mono x3.ff x3.hh).mono x4.ff x4.hh) l4 h6 λv' F5 H5 x5 l5=>by
   rw[l5.bl]
   exact w F5 H5 (Bv.trans (x4.trans x5))
theorem zob {op Au:jK}{r r':R2}{o o':D->D->Option D}(ho:fP X (ck op) r)(hs:kI X.K ct n m k r o)(qN:fP X (ck Au) r')(EH:kI X.K ct m l k r' o')(ha:XE X ct ms n a f)(hb:XE X ct ms m b g)(hc:XE X ct ms l c h)
  (hm:lastMarks [op,Au] [b,c]=false:=by with_unfolding_all rfl):XT X ct ms (.Compare a [op,Au] [b,c] pos) (bAnd (tb (e2 o f g)) (tb (e2 o' g h))):=by
 obtain⟨ta,pa,qa⟩:=ha
 obtain⟨Hg,pb,qb⟩:=hb
 obtain⟨tc,pc,qc⟩:=hc
 refine⟨_,zm6 ho qN pa pb pc hm,λF0 B F H ρ σ t Q rs e w=>?_⟩
 exact zoa hs EH qa qb qc rs e λF' H' x=>⟨t,rfl,w F' H' x⟩
end
end L3
namespace L3
open PySem PySem.Spec L2
open PyProof.Rows hiding St
def qK (f:EF):EF:=λρ=>(f ρ).bind λd=>if d.sc=true then some d else none
section
variable {X:Cx}{ct:Nat->ah}{ms:List Mo}{rk n m k:Nat}{a b c e tg:Expr}{f g h:EF}{pos:cY}
theorem BP (he:XE X ct ms n e f):XO X ct ms k e (qK f):=by
 obtain⟨t,p,q⟩:=he
 refine⟨t,p,λF0 B F H ρ σ d Q r e w=>?_⟩
 obtain⟨d0,h1,h2⟩:=aJ e
 by_cases hs:d0.sc=true
 ·rw[if_pos hs]at h2
  cases h2
  exact q F0 B F H ρ σ d Q r h1 λv F' H' x l=>w v F' H' [] x (Ow.scal (Al.scal l hs) hs) bA λa z=>(by cases z)
 ·rw[if_neg hs]at h2;cases h2
theorem RV {i:Nat}{x:aQ}{p1:cY}{gg:D->Env->Option Env}(hm:ms[i]?=some (.al n))(hg:XG X ct ms n tg gg)(hN:X.N[i]?=some x:=by rfl)(hv:lQ X.env.scope x:=by first|exact Or.inl rfl|exact Or.inr (Or.inl rfl)|exact Or.inr (Or.inr rfl))(hd:(x==("__debug__":aQ))=false:=by decide)
  (gA:(x==("__classdict__":aQ))=false:=by decide) (hs:gG [tg] (.Name x p1) pos.line X.env=pure false:=by rfl) (hw:gF [tg] (.Name x p1) X.env=pure none:=by rfl)
  (h1:(d6 [tg] X.env).map (·.2)=[ip tg X.env]:=by rfl):XS X ct ms rk (.Assign [tg] (.Name x p1) pos) (sAsg gg (eV i)):=by
 obtain⟨t2,mC,p7⟩:=hg
 refine⟨_,NR (um hN hv hd gA) mC hs hw h1,λF0 B F H ρ σ o E rs e z=>?_⟩
 obtain⟨d,h1,h2⟩:=aJ e
 obtain⟨ρ',h3,h4⟩:=aJ h2
 cases h4
 obtain⟨fp,sl,_,_⟩:=rs.sl
 obtain⟨v,Af,l⟩:=sl.getA hm (zu h1)
 exact⟨v,Af,p7 F0 B F H ρ ρ' σ d v _ rs l h3 λσ' r=>z σ' F H r⟩
end
end L3
namespace L3
open PySem PySem.Spec L2
open PyProof.Rows hiding St
section
variable {X:Cx}{ct:Nat->ah}{ms:List Mo}{n:Nat}{e tg:Expr}{f:EF}{pos:cY}
end
end L3
namespace L3
open PySem PySem.Spec L2
open PyProof.Rows hiding St
section
variable {X:Cx}{K:aa}{ct:Nat->ah}{ms:List Mo}{n k:Nat}
end
end L3
namespace L3
open PySem PySem.Spec L2
open PyProof.Rows hiding St
def qJ (ns:List Int):List Int:=firstMet (λi=>ns.getD i 0) ns.length
section
variable {X:Cx}{ct:Nat->ah}{ms:List Mo}{rk n m k:Nat}{a b c e:Expr}{f g h:EF}{pos:cY}
theorem zl0 (hc:X.calm=true):et X (.type "set") (λxs H Q=>∃(a:ah) (ns:List Int),xs=[.ref a]/\e5 X.K H a (ns.map V.int)/\ns.length<4000/\∀p,H p=none->Q (.ref p) (upd H p (.set (λk=>(qJ ns).any (· == k)) (qJ ns).length))):=by
 intro ai s σ H xs us Q I r h
 obtain⟨a,ns,rfl,hq,h64,q⟩:=h
 obtain⟨u,rfl,ru⟩:=r.one
 cases(show u=ae.ref a from ru)
 obtain⟨bZ,rv,pl,hz⟩:=I.list hq
 have hi:=IntsAre.of rv
 have eS:bZ.length=ns.length:=by rw[←rv.length,ak]
 have hsz:bZ.toArray.size=ns.length:=by rw[aE,eS]
 refine call_set_list (items:=bZ.toArray) (ns:=ns) (I.ok.hd hc) pl.isList (by simpa using hi) (by rw[hsz];unfold scanBound;omega) λh' tk hS hk=>?_
 rw[hsz]at hS
 exact⟨.ref _,_,I.laid (a:=s.heap.objs.size) (o:=.set (λk=>(qJ ns).any (· == k)) (qJ ns).length) (t':=tk) (λb u hb=>hk b u (aP hb) hb) (aM _) hS,rfl,q _ (I.hok.fresh (aM _))⟩
theorem zl1:et X (.builtin "len") (λxs H Q=>∃(p:ah) (S:Int->Bool) (n:Nat),xs=[.ref p]/\H p=some (.set S n)/\Q (.int n) H):=by
 intro ai s σ H xs us Q I r h
 obtain⟨p,S,n,rfl,hp,q⟩:=h
 obtain⟨u,rfl,ru⟩:=r.one
 cases(show u=ae.ref p from ru)
 obtain⟨o,es,ep,t,h1,h2,h3,h4,h5,h6,h7,h8⟩:=(show s.heap.SetOf (intKind X.prog X.w) p S n from I.hok p _ hp)
 refine call_len_set h1 h2 h3 h7 (by unfold scanBound at h6;omega) ?_
 refine⟨.int n,H,I.kept (t':=s.toks+1+1) (λ_ _ h=>h),⟨s.toks+1,by rw[h8]⟩,q⟩
def oe:D->Option D
 |.lst ds=>(fG ds).bind λns=>if ns.length<4000 then some (.int ((qJ ns).length:Int))else none
 |_=>none
theorem zl2 {p1 p2 gk:cY}(hc:X.calm=true)(hg:Gl X "len")(hm:X.mg "len"=none)(nG:Gl X "set")(mB:X.mg "set"=none)(he:XE X ct ms n e f)(hs:aq [e] X.env=[(false,bJ e X.env)]:=by rfl)
  (mR:aq [.Call (.Name "set" p2) [e] [] gk] X.env=[(false,bJ (.Call (.Name "set" p2) [e] [] gk) X.env)]:=by rfl) :
  XE X ct ms k (.Call (.Name "len" p1) [.Call (.Name "set" p2) [e] [] gk] [] pos) (e1 oe f):=by
 obtain⟨t,pt,qt⟩:=he
 refine⟨_,Jc zl1 hg hm Sj (vi (M4 (zl0 hc) nG mB ztf (vi pt q0 hs) (by decide) (by decide) hs (by rfl)) q0 mR) (by decide) (by decide) mR (by rfl),λF0 B F H ρ σ d Q rs e w=>?_⟩
 obtain⟨d1,h1,h2⟩:=aJ e
 cases d1 with
 |lst ds=>
  obtain⟨ns,h3,h4⟩:=aJ (show(fG ds).bind _=_ from h2)
  by_cases hz:ns.length<4000
  ·rw[if_pos hz]at h4
   cases h4
   refine qt F0 B F H ρ σ _ _ rs h1 λv F1 H1 x1 l1=>?_
   have Es:=M0 h3
   subst Es
   obtain⟨a,vs,rfl,ha,hp⟩:=l1.lst x1.fh
   have hv:=hp.intV
   subst hv
   refine⟨a,ns,rfl,ha,hz,λp LI=>⟨p,_,_,rfl,yt,?_⟩⟩
   exact w _ F1 _ (x1.trans (fq.newO x1.fh LI _)) (Al.of (.int _))
  ·rw[if_neg hz]at h4;cases h4
 |_=>cases h2
end
end L3
namespace L3
open PySem PySem.Spec L2
open PyProof.Rows hiding St
def iD:D->Bool
 |.lst _=>true
 |.dK _ _=>true
 |.dT _ _=>true
 |_=>false
theorem Ow.cell {K:aa}{ct:Nat->ah}{F H:Hp}{d:D}{v:V}{fp:List ah}(h:Ow K ct F H 1 d v fp)(hc:iD d=true):∃a,v=.ref a/\fp=[a]:=by
 cases d with
 |lst ds=>obtain⟨a,vs,fr,rfl,rfl,_,_,ol⟩:=h.lst_inv;have e0:=ol.nil0;subst e0;exact⟨_,rfl,rfl⟩
 |dK ks ds=>obtain⟨a,vs,fr,rfl,rfl,_,_,_,ol⟩:=h.dK_inv;have e0:=ol.nil0;subst e0;exact⟨_,rfl,rfl⟩
 |dT ks ds=>obtain⟨a,vs,fr,rfl,rfl,_,_,_,ol⟩:=h.dT_inv;have e0:=ol.nil0;subst e0;exact⟨_,rfl,rfl⟩
 |_=>cases hc
section
variable {K:aa}{ct:Nat->ah}{F F' H H' B F0:Hp}
theorem SL.putS {x:ah}{d:D}{ms:List Mo}{ρ:Env}{σ:St}{fp:List ah}{i:Nat}(h0:SL K ct F B H ms ρ σ fp):fp.Nodup->ms[i]?=some (.so x)->ρ[i]?=some (some d) ->
  σ[i]?=some (some (.ref x))/\Ow K ct F H 1 d (.ref x) [x]/\x∈fp/\∀(F' H':Hp) (d':D),bT F F'->(∀a∈fp,a≠x->H' a=H a/\F' a=none)->Ow K ct F' H' 1 d' (.ref x) [x]->SL K ct F' B H' ms (ρ.set i (some d')) σ fp:=by
 induction h0 generalizing i with
 |nil=>
  intro _ e _
  simp at e
 |@no m0 o0 ms ρ σ fp t ih=>
  intro nd e e'
  cases i with
  |zero=>
   have e:=e'
   simp at e
  |succ i=>
   obtain⟨h1,h2,h3,h4⟩:=ih (i:=i) nd (by simpa using e) (by simpa using e')
   exact⟨by simpa using h1,h2,h3,λF' H' d' s k o=>.no (h4 F' H' d' s k o)⟩
 |@al n0 d0 v0 ms ρ σ fp h t ih=>
  intro nd e e'
  cases i with
  |zero=>
   simp at e
  |succ i=>
   obtain⟨h1,h2,h3,h4⟩:=ih (i:=i) nd (by simpa using e) (by simpa using e')
   exact⟨by simpa using h1,h2,h3,λF' H' d' s k o=>.al (h.mono s (.refl _)) (h4 F' H' d' s k o)⟩
 |@px d0 v0 ms ρ σ fp h t ih=>
  intro nd e e'
  cases i with
  |zero=>
   simp at e
  |succ i=>
   obtain⟨h1,h2,h3,h4⟩:=ih (i:=i) nd (by simpa using e) (by simpa using e')
   exact⟨by simpa using h1,h2,h3,λF' H' d' s k o=>.px (h.mono s (.refl _)) (h4 F' H' d' s k o)⟩
 |@so d0 y ms ρ σ zD h t ih=>
  intro nd e e'
  cases i with
  |zero=>
   simp at e e'
   subst e
   subst e'
   obtain⟨n1,n2⟩:=bv.mp nd
   exact⟨rfl,h,af,λF' H' d' s k o=>.so o (t.frame s λa z=>k a (aj _ z) λe=>n1 (e▸z))⟩
  |succ i=>
   obtain⟨n1,n2⟩:=bv.mp nd
   obtain⟨h1,h2,h3,h4⟩:=ih (i:=i) n2 (by simpa using e) (by simpa using e')
   refine⟨by simpa using h1,h2,aj _ h3,λF' H' d' s k o=>.so (h.frame s λa z=>?_) (h4 F' H' d' s (λa z=>k a (aj _ z)) o)⟩
   rw[aD]at z
   subst z
   exact k a af λe=>n1 (e▸h3)
 |@ow n0 d0 v0 ms ρ σ f zD h t ih=>
  intro nd e e'
  cases i with
  |zero=>
   simp at e
  |succ i=>
   obtain⟨n1,n2,n3⟩:=aW.mp nd
   obtain⟨h1,h2,h3,h4⟩:=ih (i:=i) n2 (by simpa using e) (by simpa using e')
   refine⟨by simpa using h1,h2,av _ h3,λF' H' d' s k o=>.ow (h.frame s λa z=>?_) (h4 F' H' d' s (λa z=>k a (av _ z)) o)⟩
   exact k a (bc _ z) λe=>n3 a z x h3 e
theorem RS.changeS {ms:List Mo}{ρ:Env}{σ:St}{i:Nat}{d d':D}{ad:ah}{o:HO}(rs:RS K ct F0 B ms F H ρ σ)(hm:ms[i]?=some (.so ad))(hρ:ρ[i]?=some (some d))(x:fq F H F' H')(K3:F' ad=none)(o':Ow K ct F' (upd H' ad o) 1 d' (.ref ad) [ad]) :
  RS K ct F0 B ms F' (upd H' ad o) (ρ.set i (some d')) σ:=by
 have r:=rs.ext x
 obtain⟨fp,sl,nd,hb⟩:=rs.sl
 obtain⟨h1,h2,h3,h4⟩:=sl.putS nd hm hρ
 have hB:B ad=none:=hb ad h3
 refine⟨r.f0,λz u h=>?_,λz u h=>?_,r.nf,fp,h4 F' _ d' x.ff (λa z ne=>?_) o',nd,hb⟩
 ·rw[ym (λe=>by rw[e,hB]at h;cases h)];exact r.bh _ _ h
 ·rw[ym (λe=>by rw[e,K3]at h;cases h)];exact x.fh _ _ h
 ·obtain⟨hn,o,ho⟩:=sl.cells a z
  rw[ym ne]
  exact⟨(x.hh _ _ ho).trans ho.symm,x.nf a o ho hn⟩
theorem RS.so_at {ms:List Mo}{ρ:Env}{σ:St}{i:Nat}{d:D}{ad:ah}(rs:RS K ct F0 B ms F H ρ σ)(hm:ms[i]?=some (.so ad))(hρ:ρ[i]?=some (some d)):σ[i]?=some (some (.ref ad))/\Ow K ct F H 1 d (.ref ad) [ad]/\B ad=none:=by
 obtain⟨fp,sl,nd,hb⟩:=rs.sl
 obtain⟨h1,h2,h3,h4⟩:=sl.putS nd hm hρ
 exact⟨h1,h2,hb _ h3⟩
end
section
variable {X:Cx}{ct:Nat->ah}{ms:List Mo}{rk n m k:Nat}{st:bP}{rest:List bP}{a b c e tg:Expr}{f g h:EF}{p q:BF}{u w:SF}{pos:cY}
theorem zoc (i:Nat){xa:ah}{x:aQ}{j:Expr}{p1 iF:cY}{fj:EF}(hm:ms[i]?=some (.so xa))(hj:XE X ct ms n j fj)(he:XE X ct ms 0 e f)(hN:X.N[i]?=some x:=by rfl)(hv:lQ X.env.scope x:=by first|exact Or.inl rfl|exact Or.inr (Or.inl rfl)|exact Or.inr (Or.inr rfl))(hd:(x==("__debug__":aQ))=false:=by decide)
  (gA:(x==("__classdict__":aQ))=false:=by decide)
  (ha:∀v,ip (.Subscript (.Name x p1) j iF) X.env v=(do
   let ov ← eG [v] (bJ (.Name x p1) X.env)
   let iv ← eG [v,ov] (bJ j X.env)
   hU iF
   eG [v,ov,iv] (oP ov iv v)
   release [v,ov,iv] []):=by intro _;rfl)
  (hs:gG [.Subscript (.Name x p1) j iF] e pos.line X.env=pure false:=by rfl) (hw:gF [.Subscript (.Name x p1) j iF] e X.env=pure none:=by rfl)
  (h1:(d6 [.Subscript (.Name x p1) j iF] X.env).map (·.2)=[ip (.Subscript (.Name x p1) j iF) X.env]:=by rfl) :
  XS X ct ms rk (.Assign [.Subscript (.Name x p1) j iF] e pos) (o7 i fj f):=by
 obtain⟨t,pt,qt⟩:=he
 obtain⟨tj,tG,tH⟩:=hj
 refine⟨_,NR pt (zsv (um hN hv hd gA) tG Rl ha) hs hw h1,λF0 B F H ρ σ o E rs e z=>?_⟩
 obtain⟨d,g1,g2⟩:=aJ e
 obtain⟨d1,sM,g3,g4,g5⟩:=cQ g2
 refine qt F0 B F H ρ σ d _ rs g1 λv0 F1 H1 x1 l0=>?_
 have iO:=rs.ext x1
 obtain⟨hσ,ow,hB⟩:=iO.so_at hm (zu g3)
 refine⟨_,hσ,tH F0 B F1 H1 ρ σ sM _ iO g4 λvj F2 H2 x2 lj=>?_⟩
 cases d1 with
 |lst ds=>
  cases sM with
  |int zi=>
   obtain⟨kj,g6,g7⟩:=aJ g5
   cases g7
   obtain⟨jn,g8,g9⟩:=aJ g6
   cases g9
   obtain⟨ad,vs,mz,ea,ef,hF,hH,ol⟩:=ow.lst_inv
   cases ea
   cases ef
   have hA:H2 xa=some (.lst vs):=x2.hh _ _ hH
   have fA:F2 xa=none:=x2.nf xa _ hH hF
   refine⟨xa,vs,zi,jn,rfl,lj.int,hA,by rw[←ol.length];exact g8,?_⟩
   exact z σ F2 _ (iO.changeS hm (zu g3) x2 fA (.inr (.lst fA yt (OwL.set0 ⟨Dt.mono x2.ff l0,rfl⟩ (λ_ _ _ q=>q.2) jn (ol.mono λ_ _ _ _ q=>⟨q.1.mono x2.ff,q.2⟩)))))
  |_=>cases g5
 |_=>cases g5
theorem zod (i:Nat){xa:ah}{x:aQ}{j:Expr}{p1 iF:cY}{fj:EF}(hm:ms[i]?=some (.so xa))(hu:X.A.units+1<gK)(hj:XE X ct ms 0 j fj)(he:XE X ct ms 0 e f)(hN:X.N[i]?=some x:=by rfl)(hv:lQ X.env.scope x:=by first|exact Or.inl rfl|exact Or.inr (Or.inl rfl)|exact Or.inr (Or.inr rfl))(hd:(x==("__debug__":aQ))=false:=by decide)
  (gA:(x==("__classdict__":aQ))=false:=by decide) (hs:dw e (some (.Subscript (.Name x p1) j iF)) pos.line X.env=pure false:=by rfl) :
  XS X ct ms rk (.Assign [.Subscript (.Name x p1) j iF] e pos) (ko i fj f):=by
 obtain⟨t,pt,qt⟩:=he
 obtain⟨tj,tG,tH⟩:=hj
 refine⟨_,RA hu (um hN hv hd gA) tG pt hs,λF0 B F H ρ σ o E rs e z=>?_⟩
 obtain⟨d,g1,g2⟩:=aJ e
 obtain⟨d1,sM,g3,g4,g5⟩:=cQ g2
 refine qt F0 B F H ρ σ d _ rs g1 λv0 F1 H1 x1 l0=>?_
 have iO:=rs.ext x1
 obtain⟨hσ,ow,hB⟩:=iO.so_at hm (zu g3)
 refine⟨_,hσ,tH F0 B F1 H1 ρ σ sM _ iO g4 λvj F2 H2 x2 lj=>?_⟩
 have FJ:Dt X.K ct F2 d v0:=Dt.mono x2.ff l0
 cases d1 with
 |dK ks ds=>
  dsimp only at g5
  obtain⟨key,g6,g7⟩:=aJ g5
  by_cases hz:ks.length<16777216
  ·rw[if_pos hz]at g7
   cases g7
   obtain⟨ad,vs,mz,ea,ef,hF,hH,hl,ol⟩:=ow.dK_inv
   cases ea
   cases ef
   have hA:=x2.hh _ _ hH
   have fA:F2 xa=none:=x2.nf xa _ hH hF
   have hp:Pr (Dt X.K ct F2) ds vs:=ol.pr λ_ _ _ _ q=>q.1.mono x2.ff
   obtain⟨us,Ac,Ad,Ae⟩:=Ji FJ key hl hp
   have hk:=JH g6 lj
   subst hk
   refine⟨xa,_,rfl,mU.k hA (by rw[eA,←hl,gJ,cy];exact hz),?_⟩
   rw[Ac]
   exact z σ F2 _ (iO.changeS hm (zu g3) x2 fA (.inr (.dK fA yt Ad (OwL.ofPr (Ae.mono λ_ _ q=>⟨q,rfl⟩)))))
  ·rw[if_neg hz]at g7;cases g7
 |dT ks ds=>
  cases sM with
  |tup js=>
   dsimp only at g5
   obtain⟨key,g6,g7⟩:=aJ g5
   by_cases hz:ks.length<16777216
   ·rw[if_pos hz]at g7
    cases g7
    obtain⟨ad,vs,mz,ea,ef,hF,hH,hl,ol⟩:=ow.dT_inv
    cases ea
    cases ef
    have hA:=x2.hh _ _ hH
    have fA:F2 xa=none:=x2.nf xa _ hH hF
    have hp:Pr (Dt X.K ct F2) ds vs:=ol.pr λ_ _ _ _ q=>q.1.mono x2.ff
    obtain⟨us,Ac,Ad,Ae⟩:=Ji FJ key hl hp
    obtain⟨bd,ws,rfl,hb,ED⟩:=lj.tup x2.fh
    have hk:=Js g6 ED
    subst hk
    refine⟨xa,_,rfl,mU.t hA hb (by rw[eA,←hl,gJ,cy];exact hz),?_⟩
    rw[Ac]
    exact z σ F2 _ (iO.changeS hm (zu g3) x2 fA (.inr (.dT fA yt Ad (OwL.ofPr (Ae.mono λ_ _ q=>⟨q,rfl⟩)))))
   ·rw[if_neg hz]at g7;cases g7
  |_=>cases g5
 |_=>cases g5
abbrev EM:=Env->Option (D×Env)
def uK (X:Cx)(ct:Nat->ah)(ms:List Mo)(st:List bP)(f:EM):Prop:=∃t,pV X st t/\∀(F0 B F H:Hp) (ρ ρ':Env) (σ:St) (d:D) (E:kD),RS X.K ct F0 B ms F H ρ σ->f ρ=some (d,ρ')->(∀v σ' F' H',RS X.K ct F0 B ms F' H' ρ' σ'->Dt X.K ct F' d v->E.rt v H')->t E σ H
def uV (f:SF)(g:EM):EM:=λρ=>(f ρ).bind λo=>match o with
 |.nx ρ'=>g ρ'
 |_=>none
def Ap (f:EF):EM:=λρ=>(f ρ).bind λd=>some (d,ρ)
theorem zty (he:XE X ct ms 0 e f):uK X ct ms [.Return (some e) pos] (Ap f):=by
 obtain⟨t,pt,qt⟩:=he
 refine⟨_,RD (BK pt),λF0 B F H ρ ρ' σ d E rs e z=>?_⟩
 obtain⟨d',h1,h2⟩:=aJ e
 cases h2
 exact qt F0 B F H ρ σ _ _ rs h1 λv F' H' x l=>z v σ F' H' (rs.ext x) l
theorem RI {gm:EM}(h1:XS X ct ms 0 st u)(h2:uK X ct ms rest gm):uK X ct ms (st::rest) (uV u gm):=by
 obtain⟨t,pt,qt⟩:=h1
 obtain⟨t2,mC,p7⟩:=h2
 refine⟨_,Rj pt mC,λF0 B F H ρ ρ' σ d E rs e z=>?_⟩
 obtain⟨o1,e1,e2⟩:=aJ e
 refine qt F0 B F H ρ σ o1 _ rs e1 ?_
 cases o1 with
 |nx ρ1=>exactλσ' F' H' Mh=>p7 F0 B F' H' ρ1 ρ' σ' d E Mh e2 z
 |rt d=>cases e2
 |bk ρ'=>cases e2
 |ct ρ'=>cases e2
end
theorem SL.app {K:aa}{ct:Nat->ah}{F B H:Hp}{Pl:List Mo}{ρ2:Env}{σ2:St}{Ig:List ah}(h2:SL K ct F B H Pl ρ2 σ2 Ig){ms:List Mo}{ρ:Env}{σ:St}{fp:List ah}(h0:SL K ct F B H ms ρ σ fp):SL K ct F B H (ms++Pl) (ρ ++ ρ2) (σ ++ σ2) (fp++Ig):=by
 induction h0 with
 |nil=>
  exact h2
 |@no m0 o0 ms ρ σ fp t ih=>
  exact .no ih
 |@al n0 d0 v0 ms ρ σ fp h t ih=>
  exact .al h ih
 |@px d0 v0 ms ρ σ fp h t ih=>
  exact .px h ih
 |@so d0 x0 ms ρ σ zD h t ih=>
  exact .so h ih
 |@ow n0 d0 v0 ms ρ σ f0 zD h t ih=>
  rw[d8]
  exact .ow h ih
theorem SL.none {K:aa}{ct:Nat->ah}{F B H:Hp}:∀(ms:List Mo),SL K ct F B H ms (az ms.length none) (az ms.length none) []
 |[]=>.nil
 |m::ms=>.no (SL.none ms)
theorem SL.start0 {K:aa}{ct:Nat->ah}{F B H:Hp}:∀{ds:List D} {us:List V},Pr (Dt K ct F) ds us->SL K ct F B H (az ds.length (Mo.ow 0)) (ds.map some) (us.map some) []
 |_,_,.nil=>.nil
 |_,_,.cons h t=>SL.ow (f:=[]) (Ow.zero h) (SL.start0 t)
def A8 (K:aa)(ct:Nat->ah)(n:Nat)(mf:List D->Option D):Sp:=λvs H Q _=>∃(F:Hp) (ds:List D) (us:List V) (d p q p' q':D) (a b:ah),vs=us++[.ref a,.ref b]/\ds.length=n/\bT F H/\Pr (Dt K ct F) ds us/\a≠b/\Ow K ct F H 1 p (.ref a) [a]/\Ow K ct F H 1 q (.ref b) [b]/\mf (ds++[p,q])=some (.tup [d,p',q']) /\
 ∀v F' H',bT F F'->(∀x o,H x=some o->x≠a->x≠b->H' x=some o)->bT F' H'->(∀x o,H x=some o->F x=none->F' x=none)->Ow K ct F' H' 1 p' (.ref a) [a]->Ow K ct F' H' 1 q' (.ref b) [b]->Dt K ct F' d v->Q v H'
theorem A8.len {K:aa}{ct:Nat->ah}{n:Nat}{mf:List D->Option D}{ps:List aQ}(h:n+2=ps.length):∀vs H Q E,A8 K ct n mf vs H Q E->vs.length=ps.length:=by
 rintro vs H Q E ⟨F,ds,us,d,p,q,p',q',a,b,rfl,hn,_,l,_⟩
 rw[←h,←hn,l.length,bg]
 rfl
def Ao (n:Nat)(N:List aQ)(bf:EM)(ds:List D):Option D:=(bf (startD N ds)).bind λr=>(r.2[n]?).join.bind λp=>(r.2[n+1]?).join.bind λq=>some (.tup [r.1,p,q])
theorem zoe {ct:Nat->ah}{P:bB}{w:cj}{K:aa}{mg:aQ->Option ae}{base:aZ}{x qual:aQ}{st:bP}{fa:ah}{fd:aH}{N ps:List aQ}{kk n:Nat}{ms:List Mo}{bf:EM}(Fn:Fun2 K x qual st fa fd)(S:bp N ps (aL st))(Ab:n+2=ps.length)(Iq:n+2+ms.length=N.length)
  (body:∀(a b:ah) (gW:ae) (A:bR) (outer:List PySem.Env) (s:am) (H:Hp) (E:XK),eo kk (A.deeper (envOfC qual (aL st) s.heap.objs.size fa gW))->uK (ni ez P w K mg base N qual (aL st) fa gW A outer s H E).nox ct (az n (Mo.ow 0) ++ .so a::.so b::ms) (gx st) bf) :
  cx P w K mg base ez (kk+1) fa fd ps (A8 K ct n (Ao n N bf)):=by
 refine Fn.ok S (A8.len Ab) λgW A outer s H vs Q E hr h=>?_
 obtain⟨F,ds,us,d,p,q,p',q',a,b,rfl,hn,sF,l,uO,oa,ob,hm,z⟩:=h
 subst hn
 obtain⟨t,pt,qt⟩:=body a b gW A outer s H E hr
 refine⟨t,pt,?_⟩
 obtain⟨⟨d1,ρ'⟩,h1,h2⟩:=aJ hm
 obtain⟨p1,h3,h4⟩:=aJ h2
 obtain⟨q1,h5,h6⟩:=aJ h4
 cases h6
 have O8:us.length=ds.length:=l.length.symm
 have K2:=(oa.cells a af).1
 have K4:=(ob.cells b af).1
 have Xi:bT F (lT (lT H a) b):=λy o hy=>by
  rw[j8 (λe=>by rw[e,K4]at hy;cases hy),j8 (λe=>by rw[e,K2]at hy;cases hy)]
  exact sF _ _ hy
 have hB:bT (lT (lT H a) b) H:=(Jh _ _).trans (Jh _ _)
 refine qt F (lT (lT H a) b) F H (startD N (ds++[p,q])) ρ' (L2.start N (us++[.ref a,.ref b])) d1 _ ⟨.refl _,hB,sF,λ_ _ _ h=>h,[a,b],?_,by simp[uO],λy hy=>?_⟩ h1 ?_
 ·have e1:startD N (ds++[p,q])=ds.map some++(some p::some q::az ms.length none):=by
   unfold startD
   rw[show N.length-(ds++[p,q]).length=ms.length by rw[bg];simp;omega]
   simp
  have e2:L2.start N (us++[.ref a,.ref b])=us.map some++(some (.ref a)::some (.ref b)::az ms.length none):=by
   unfold L2.start
   rw[show N.length-(us++[V.ref a,V.ref b]).length=ms.length by rw[bg];simp;omega]
   simp
  rw[e1,e2]
  have:=SL.app (.so oa (.so ob (SL.none (K:=K) (ct:=ct) (F:=F) (B:=lT (lT H a) b) (H:=H) ms))) (SL.start0 (B:=lT (lT H a) b) (H:=H) l)
  have h7:SL K ct F (lT (lT H a) b) H (az ds.length (Mo.ow 0)++Mo.so a::Mo.so b::ms) (ds.map some++(some p::some q::az ms.length none)) (us.map some++(some (.ref a)::some (.ref b)::az ms.length none)) [a,b]:=by simpa using this
  exact h7
 ·simp at hy
  rcases hy with rfl|rfl
  ·rw[j8 uO];exact JA _ _
  ·exact JA _ _
 ·intro v σ' F' H' r dt
  obtain⟨_,o1,_⟩:=r.so_at (i:=ds.length) (ad:=a) (by simp) (zu h3)
  obtain⟨_,o2,_⟩:=r.so_at (i:=ds.length+1) (ad:=b) (by simp) (zu h5)
  refine z v F' H' r.f0 (λy o hy n1 n2=>r.bh _ _ (by rw[j8 n2,j8 n1];exact hy)) r.fh (λy o hy hn=>?_) o1 o2 dt
  by_cases ea:y=a
  ·subst ea;exact(o1.cells _ af).1
  by_cases eb:y=b
  ·subst eb;exact(o2.cells _ af).1
  exact r.nf y o (by rw[j8 eb,j8 ea];exact hy) hn
section
variable {X:Cx}{ct:Nat->ah}{ms:List Mo}{rk n m k:Nat}{st:bP}{rest:List bP}{a b c e tg:Expr}{f g h:EF}{p q:BF}{u w:SF}{pos:cY}{i j:Nat}
def HQ (X:Cx)(ct:Nat->ah)(ms:List Mo)(i j:Nat)(es:List Expr)(f:Env->Option (List D)):Prop:=∃t,PA X es t/\∀(F0 B F H:Hp) (ρ:Env) (σ:St) (ds:List D) (a b:ah) (Q:List V->Hp->Prop),RS X.K ct F0 B ms F H ρ σ->f ρ=some ds->σ[i]?=some (some (.ref a))->σ[j]?=some (some (.ref b)) ->
 (∀us F' H',fq F H F' H'->Pr (Dt X.K ct F') ds us->Q (us++[.ref a,.ref b]) H')->t σ H Q
theorem zrk {x y:aQ}{p1 p2:cY}(hN:X.N[i]?=some x:=by rfl)(hv:lQ X.env.scope x:=by first|exact Or.inl rfl|exact Or.inr (Or.inl rfl)|exact Or.inr (Or.inr rfl))(hd:(x==("__debug__":aQ))=false:=by decide)(gA:(x==("__classdict__":aQ))=false:=by decide)
  (Ek:X.N[j]?=some y:=by rfl) (EO:lQ X.env.scope y:=by first|exact Or.inl rfl|exact Or.inr (Or.inl rfl)|exact Or.inr (Or.inr rfl)) (hd2:(y==("__debug__":aQ))=false:=by decide) (sR:(y==("__classdict__":aQ))=false:=by decide) :
  HQ X ct ms i j [.Name x p1,.Name y p2] aNil:=by
 refine⟨_,vi (um hN hv hd gA) (vi (um Ek EO hd2 sR) q0),λF0 B F H ρ σ ds a b Q rs e ha hb z=>?_⟩
 cases e
 exact⟨_,ha,_,hb,z [] F H (.refl rs.fh) .nil⟩
theorem Nk {es:List Expr}{fs:Env->Option (List D)}(h1:XE X ct ms 0 a f)(h2:HQ X ct ms i j es fs)(hs:aq (a::es) X.env=(false,bJ a X.env)::aq es X.env:=by rfl):HQ X ct ms i j (a::es) (aCons f fs):=by
 obtain⟨t,pt,qt⟩:=h1
 obtain⟨t2,mC,p7⟩:=h2
 refine⟨_,vi pt mC hs,λF0 B F H ρ σ ds xa xb Q rs e ha hb z=>?_⟩
 obtain⟨d,kj,g1,g2,g3⟩:=cQ e
 cases g3
 refine qt F0 B F H ρ σ d _ rs g1 λv F1 H1 x1 l=>?_
 exact p7 F0 B F1 H1 ρ σ kj xa xb _ (rs.ext x1) g2 ha hb λus F2 H2 x2 l2=>z (v::us) F2 H2 (x1.trans x2) (.cons (Dt.mono x2.ff l) l2)
def XM (X:Cx)(ct:Nat->ah)(ms:List Mo)(e:Expr)(g:EM):Prop:=∃t,PE X e t/\∀(F0 B F H:Hp) (ρ ρ':Env) (σ:St) (d:D) (Q:VK),RS X.K ct F0 B ms F H ρ σ->g ρ=some (d,ρ')->(∀v F' H',RS X.K ct F0 B ms F' H' ρ' σ->Dt X.K ct F' d v->Q v H')->t σ H Q
def mw (i j:Nat)(fs:Env->Option (List D))(mf:List D->Option D):EM:=λρ=>(fs ρ).bind λds=>(eV i ρ).bind λp=>(eV j ρ).bind λq=>if iD p=true/\iD q=true then(mf (ds++[p,q])).bind λr=>match r with
 |.tup [d,p',q']=>some (d,(ρ.set i (some p')).set j (some q'))
 |_=>none else none
theorem Re {σ:St}{i:Nat}{v:V}(h:σ[i]?=some (some v)):σ.set i (some v) = σ:=by
 apply fK
 intro k
 rw[rW]
 by_cases e:i=k
 ·subst e
  rw[if_pos rfl]
  by_cases hl:i < σ.length
  ·rw[if_pos hl,h]
  ·rw[if_neg hl,dS (by omega)]
 ·rw[if_neg e]
theorem RS.two {K:aa}{F0 B F H:Hp}{ρ:Env}{σ:St}{p q:D}(rs:RS K ct F0 B ms F H ρ σ)(pZ:i≠j)(Bo:ms[i]?=some (.ow 1))(wB:ms[j]?=some (.ow 1))(hp:ρ[i]?=some (some p))(hq:ρ[j]?=some (some q))(cp:iD p=true)(cq:iD q=true) :
  ∃a b,σ[i]?=some (some (.ref a))/\σ[j]?=some (some (.ref b))/\a≠b/\Ow K ct F H 1 p (.ref a) [a]/\Ow K ct F H 1 q (.ref b) [b]/\B a=none/\B b=none /\
   ∀(F' H':Hp) (p' q':D),bT F F'->(∀x o,H x=some o->x≠a->x≠b->H' x=some o)->bT F' H'->(∀x o,H x=some o->F x=none->F' x=none)->Ow K ct F' H' 1 p' (.ref a) [a]->Ow K ct F' H' 1 q' (.ref b) [b]->RS K ct F0 B ms F' H' ((ρ.set i (some p')).set j (some q')) σ:=by
 obtain⟨f1,fr,n1,b1,dj,i4,cf,put⟩:=rs.put (F':=F) (H':=H) Bo
 obtain⟨v,hσ,ow⟩:=i4 p hp
 obtain⟨a,rfl,rfl⟩:=ow.cell cp
 obtain⟨f2,K6,n2,b2,dj2,VE,cf2,put2⟩:=rs.put (F':=F) (H':=H) wB
 obtain⟨v2,t7,FX⟩:=VE q hq
 obtain⟨b,rfl,rfl⟩:=FX.cell cq
 have ca:=ow.cells a af
 have cb:=FX.cells b af
 have uO:a≠b:=by
  intro e
  subst e
  have r1:=put F (lT H a) (.non) .non [] (.refl _) (λy o hy=>by rw[j8 (λe=>by rw[e,b1 a af]at hy;cases hy)];exact rs.bh _ _ hy) (λy o hy=>by rw[j8 (λe=>by rw[e,ca.1]at hy;cases hy)];exact rs.fh _ _ hy) rs.nf
   (λy hy=>⟨j8 (λe=>dj a af (e▸hy)),(cf y hy).1⟩) (Ow.scal .non rfl) bA (λy hy=>by cases hy) (λy hy=>by cases hy)
  obtain⟨f3,Ih,n3,b3,Kh,LO,Oq,put3⟩:=r1.put (F':=F) (H':=H) wB
  obtain⟨v3,ES,IG⟩:=LO q (by rw[cS pZ];exact hq)
  obtain⟨a3,rfl,rfl⟩:=IG.cell cq
  rw[cS pZ,t7]at ES
  cases ES
  obtain⟨o,ho⟩:=(IG.cells a af).2
  rw[JA]at ho
  cases ho
 refine⟨a,b,hσ,t7,uO,ow,FX,b1 a af,b2 b af,λF' H' p' q' s1 kH s3 nf o1 o2=>?_⟩
 have Ba:=b1 a af
 have Bb:=b2 b af
 have K2:=(o1.cells a af).1
 have K4:=(o2.cells b af).1
 obtain⟨ob,Vo⟩:=cb.2
 have hm:∀y,y≠b->upd H' b ob y=H' y:=λy ne=>ym ne
 have r1:=put F' (upd H' b ob) p' (.ref a) [a] s1 (λy o hy=>by
   have na:y≠a:=λe=>by rw[e,Ba]at hy;cases hy
   have nb:y≠b:=λe=>by rw[e,Bb]at hy;cases hy
   rw[hm y nb]
   exact kH y o (rs.bh _ _ hy) na nb) (λy o hy=>by
   rw[hm y (λe=>by rw[e,K4]at hy;cases hy)]
   exact s3 _ _ hy) (λy o hy hn=>nf y o (rs.bh _ _ hy) (rs.nf y o hy hn)) (λy hy=>by
   obtain⟨hn,o,ho⟩:=cf y hy
   refine⟨?_,nf y o ho hn⟩
   have na:y≠a:=λe=>dj a af (e▸hy)
   by_cases nb:y=b
   ·subst nb;rw[yt,Vo]
   ·rw[hm y nb,kH y o ho na nb,ho]) (o1.frame (.refl _) λy hy=>by
   rw[aD]at hy
   subst hy
   exact⟨hm _ uO,K2⟩) (by simp) (λy hy=>by
   rw[aD]at hy
   subst hy
   exact dj _ af) (λy hy=>by
   rw[aD]at hy
   subst hy
   exact Ba)
 rw[Re hσ]at r1
 obtain⟨f3,Ih,n3,b3,Kh,LO,Oq,put3⟩:=r1.put (F':=F) (H':=H) wB
 obtain⟨v3,ES,IG⟩:=LO q (by rw[cS pZ];exact hq)
 obtain⟨a3,rfl,rfl⟩:=IG.cell cq
 rw[t7]at ES
 cases ES
 have r2:=put3 F' H' q' (.ref b) [b] (.refl _) (λy o hy=>by
   have na:y≠a:=λe=>by rw[e,Ba]at hy;cases hy
   have nb:y≠b:=λe=>by rw[e,Bb]at hy;cases hy
   exact kH y o (rs.bh _ _ hy) na nb) s3 r1.nf (λy hy=>by
   have nb:y≠b:=λe=>Kh b af (e▸hy)
   exact⟨(hm y nb).symm,(Oq y hy).1⟩) o2 (by simp) (λy hy=>by
   rw[aD]at hy
   subst hy
   exact Kh _ af) (λy hy=>by
   rw[aD]at hy
   subst hy
   exact Bb)
 rw[Re t7]at r2
 exact r2
variable {kk:Nat}{fa:ah}{fd:aH}{ps:List aQ}{mf:List D->Option D}{x:aQ}{pp:cY}
theorem zrl {es:List Expr}{fs:Env->Option (List D)}{nF:List ae}(pZ:i≠j)(Bo:ms[i]?=some (.ow 1))(wB:ms[j]?=some (.ow 1))(Fn:cx X.prog X.w X.K X.mg X.base ez kk fa fd ps (A8 X.K ct n mf))(hr:eo kk X.A)(hg:Gl X x)(hm:X.mg x=some (.ref fa))(hk:ao X.K (.ref fa)=true)
  (hb:bH X.K fd ps nF) (hd:bX [] nF) (hn:∀ρ ds,fs ρ=some ds->ds.length=n) (ha:HQ X ct ms i j (e::es) fs)
  (lM:(x==("__debug__":aQ))=false:=by decide) (he:aq (e::es) X.env=(false,bJ e X.env)::aq es X.env:=by rfl) (iT:(cB pos (aq es X.env)).any (·.1)=false:=by rfl) :
  XM X ct ms (.Call (.Name x pp) (e::es) [] pos) (mw i j fs mf):=by
 obtain⟨t,pt,qt⟩:=ha
 refine⟨_,RF Fn hr hg hm hk hb hd nK pt lM he iT,λF0 B F H ρ ρ' σ d Q rs e z=>?_⟩
 obtain⟨ds,h1,h2⟩:=aJ e
 obtain⟨p,h3,h4⟩:=aJ h2
 obtain⟨q,h5,h6⟩:=aJ h4
 by_cases hc:iD p=true/\iD q=true
 ·rw[if_pos hc]at h6
  obtain⟨r,h7,h8⟩:=aJ h6
  have:∃p' q',r=.tup [d,p',q']/\ρ'=(ρ.set i (some p')).set j (some q'):=by
   split at h8
   ·cases h8;exact⟨_,_,rfl,rfl⟩
   ·cases h8
  obtain⟨p',q',rfl,rfl⟩:=this
  obtain⟨a0,b0,hσ,t7,_⟩:=rs.two pZ Bo wB (zu h3) (zu h5) hc.1 hc.2
  refine qt F0 B F H ρ σ ds a0 b0 _ rs h1 hσ t7 λus F1 H1 x1 l=>?_
  obtain⟨a,b,Ag,ER,uO,oa,ob,Ba,Bb,put⟩:=(rs.ext x1).two pZ Bo wB (zu h3) (zu h5) hc.1 hc.2
  rw[hσ]at Ag
  rw[t7]at ER
  cases Ag
  cases ER
  refine⟨F1,ds,us,d,p,q,p',q',a0,b0,by simp,hn _ _ h1,x1.fh,l,uO,oa,ob,h7,λv F' H' s1 kH s3 nf o1 o2 dt=>?_⟩
  exact z v F' H' (put F' H' p' q' s1 kH s3 nf o1 o2) dt
 ·rw[if_neg hc]at h6;cases h6
theorem ztz:∀(ρ:Env) (ds:List D),aNil ρ=some ds->ds.length=0:=λρ ds e=>by cases e;rfl
theorem Nv {fs:Env->Option (List D)}(h:∀(ρ:Env) (ds:List D),fs ρ=some ds->ds.length=n):∀(ρ:Env) (ds:List D),aCons f fs ρ=some ds->ds.length=n+1:=λρ ds e=>by
 obtain⟨x,xs,h1,h2,h3⟩:=cQ e
 cases h3
 rw[aI,h ρ xs h2]
def nM (i:Nat)(g:EM):SF:=λρ=>(g ρ).bind λr=>some (.nx (r.2.set i (some r.1)))
theorem zrm {i:Nat}{x:aQ}{pos':cY}{gm:EM}(hm:ms[i]?=some (.ow 0))(hN:X.N.Nodup)(hi:X.N[i]?=some x)(hx:Loc X.env.scope x)(he:XM X ct ms e gm)(hs:dw e (some (.Name x pos')) pos.line X.env=pure false:=by rfl)
  (hf:X.fn x=true\/X.env.scope.names.lookup x=some .local:=by first|exact .inl rfl|exact .inr rfl|assumption):XS X ct ms rk (.Assign [.Name x pos'] e pos) (nM i gm):=by
 obtain⟨t,pt,qt⟩:=he
 refine⟨_,NS hN hi hx pt hs hf,λF0 B F H ρ σ o E rs e w=>?_⟩
 obtain⟨⟨d,ρ'⟩,h1,h2⟩:=aJ e
 cases h2
 exact qt F0 B F H ρ ρ' σ d _ rs h1 λv F' H' r l=>w _ F' H' (r.set hm (.refl r.fh) (Ow.zero l) bA λa z=>(by cases z))
end
end L3
namespace L2
open PySem PySem.Spec
open PyProof.Rows hiding St
section
variable {X:Cx}{pos:cY}
end
end L2
namespace L3
open PySem PySem.Spec L2
open PyProof.Rows hiding St
section
variable {X:Cx}{ct:Nat->ah}{ms:List Mo}{n:Nat}{pos:cY}
end
end L3
namespace L3
open PySem PySem.Spec L2
open PyProof.Rows hiding St
section
variable {X:Cx}{ct:Nat->ah}{ms:List Mo}{rk n m k i:Nat}{a b c e:Expr}{f g h:EF}{pos:cY}
def HR (X:Cx)(ct:Nat->ah)(ms:List Mo)(k i:Nat)(es:List Expr)(f:Env->Option (List D)):Prop:=∃t,PA X es t/\(∀ρ ds,f ρ=some ds->ds.length=es.length)/\∀(F0 B F H:Hp) (ρ:Env) (σ:St) (ds:List D) (Q:List V->Hp->Prop) (d:D) (v:V) (f1:List ah),RS X.K ct F0 B ms F H ρ σ->ρ[i]?=some (some d)->σ[i]?=some (some v)->Ow X.K ct F H k d v f1->f1.Nodup->f ρ=some ds ->
 (∀vs F' H' fp,fq F H F' H'->OwL (Ow X.K ct F' H' k) ds vs fp->fp.Nodup->(∀a∈fp,H a=none\/a∈f1)->Q vs H')->t σ H Q
theorem zof {es:List Expr}{fs:Env->Option (List D)}(h1:XO X ct ms k a f)(h2:HR X ct ms k i es fs)(hs:aq (a::es) X.env=(false,bJ a X.env)::aq es X.env:=by rfl):HR X ct ms k i (a::es) (aCons f fs):=by
 obtain⟨ta,pa,qa⟩:=h1
 obtain⟨tb,pb,lb,qb⟩:=h2
 refine⟨_,vi pa pb hs,λρ ds e=>(by obtain⟨x,xs,h1,h2,h3⟩:=cQ e;cases h3;rw[aI,aI,lb _ _ h2]),λF0 B F H ρ σ ds Q d v f1 rs hρ hσ ow nd e z=>?_⟩
 obtain⟨y,ys,h1,h2,h3⟩:=cQ e
 cases h3
 refine qa F0 B F H ρ σ y _ rs h1 λu F1 H1 fp x1 l L8 hf=>?_
 refine qb F0 B F1 H1 ρ σ ys _ d v f1 (rs.ext x1) hρ hσ (ow.ext x1) nd h2 λus F2 H2 Ig x2 l2 uW Bl=>?_
 refine z (u::us) F2 H2 (fp++Ig) (x1.trans x2) (.cons (l.ext x2) l2) ?_ λa ha=>?_
 ·refine aW.mpr ⟨L8,uW,λa ha b hb e=>?_⟩
  subst e
  obtain⟨_,o,ho⟩:=l.cells a ha
  rcases Bl a hb with h|h
  ·rw[ho]at h;cases h
  ·obtain⟨_,o',qN⟩:=ow.cells a h
   rw[hf a ha]at qN;cases qN
 ·rcases aY.mp ha with h|h
  ·exact .inl (hf a h)
  ·rcases Bl a h with h|h
   ·exact .inl (x1.hh.free h)
   ·exact .inr h
theorem zog {es:List Expr}{fs:Env->Option (List D)}{x1}{p2:cY}(hm:ms[i]?=some (.ow k))(h:HR X ct ms k i es fs)(hl:es.length<=1000:=by decide):XS X ct ms (k+1) (.Return (some (.Tuple es x1 p2)) pos) (sRet (λρ=>(eV i ρ).bind λ_=>(fs ρ).bind λds=>some (.tup ds))):=by
 obtain⟨t,pt,lt,qt⟩:=h
 refine⟨_,BK (Sf pt),λF0 B F H ρ σ o E rs e w=>?_⟩
 obtain⟨r,h1,h2⟩:=aJ e
 cases h2
 obtain⟨d,h3,h4⟩:=aJ h1
 obtain⟨ds,h5,h6⟩:=aJ h4
 cases h6
 obtain⟨f1,fr,n1,b1,n3,i4,cf,put⟩:=rs.put (F':=F) (H':=H) hm
 obtain⟨v,hσ,ow⟩:=i4 d (zu h3)
 refine qt F0 B F H ρ σ ds _ d v f1 rs (zu h3) hσ ow n1 h5 λvs F1 H1 fp x1 l nd hf=>⟨?_,λp hp=>?_⟩
 ·rw[←l.length,lt _ _ h5];exact small hl
 ·have x2:=fq.newS x1.fh hp (.tup vs)
  have r2:=rs.ext (x1.trans x2)
  refine w _ _ _ fp r2.f0 r2.bh r2.fh r2.nf (.inr (.tup yt (l.mono λ_ _ _ _ o=>o.ext x2))) nd λa ha=>?_
  rcases hf a ha with h|h
  ·exact rs.bh.free h
  ·exact b1 a h
end
end L3
namespace L3
open PySem PySem.Spec L2
open PyProof.Rows hiding St
section
variable {X:Cx}{ct:Nat->ah}{ms:List Mo}{rk n m k:Nat}{a b c e o:Expr}{f g h:EF}{pos:cY}
end
end L3
namespace L2
open PySem PySem.Spec
open PyProof.Rows hiding St
section
variable {X:Cx}{CX:sk}{k:Nat}{f C:ah}{fd:aH}{ps ks:List aQ}{sp:Sp}{E:XK}{x m:aQ}{p pos dD Ak:cY}{e o:Expr}{es:List Expr}{kws:List fL}{te ta:TE}{t tk:TA}{nm:Option aQ}
variable {g:List ae->List ae->List ae}{gV:List V->List V->List V}
end
end L2
namespace L3
open PySem PySem.Spec L2
open PyProof.Rows hiding St
section
variable {X:Cx}{ct:Nat->ah}{ms:List Mo}{rk n m k kk:Nat}{e a:Expr}{f:EF}{x:aQ}{pp pos Ak:cY}{fa:ah}{fd:aH}{ps ks:List aQ}{pm cs:List Nat}{mi:Nat->List D->Option D}
end
end L3
namespace L3
open PySem PySem.Spec L2
open PyProof.Rows hiding St
section
variable {X:Cx}{ct:Nat->ah}{ms:List Mo}{rk n m k i j:Nat}{a b c e:Expr}{f g h:EF}{pos:cY}
variable {kk:Nat}{fa:ah}{fd:aH}{ps:List aQ}{mf:List D->Option D}{x y:aQ}{pp:cY}
end
end L3
namespace L3
open PySem PySem.Spec L2
open PyProof.Rows hiding St
open Classical in
open Classical in
section
variable {X:Cx}
end
section
variable {K:aa}{ct:Nat->ah}{n m k:Nat}
end
section
variable {α:Type}[DecidableEq α]
end
end L3
namespace L3
open PySem PySem.Spec L2
open PyProof.Rows hiding St
section
variable {X:Cx}{ct:Nat->ah}{ms:List Mo}{rk n m k:Nat}{st:bP}{rest:List bP}{a b c e tg:Expr}{f g h:EF}{p q:BF}{u w:SF}{pos:cY}{K:aa}
end
end L3
namespace L3
open PySem PySem.Spec L2
open PyProof.Rows hiding St
section
variable {X:Cx}{ct:Nat->ah}{ms:List Mo}{rk n m k kk kq:Nat}{st:bP}{rest:List bP}{a b c e tg:Expr}{f g h:EF}{p q:BF}{u w:SF}{pos pp:cY}{K:aa}{x:aQ}{fa:ah}{fd:aH}{ps:List aQ}{mf:List D->Option D}
theorem nZ (h:XO X ct ms k e f):XO X ct ms 0 e f:=XE.ow (XO.sh (n:=0) h)
theorem nO {own i:Nat}(hN:X.N.Nodup)(ho:i<own:=by decide)(hm:ms[i]?=some (.ow 0):=by rfl)(hi:X.N[i]?=some x:=by rfl)(hx:Loc X.env.scope x:=by first|exact Or.inl rfl|exact Or.inr rfl)
  (hf:X.fn x=true\/X.env.scope.names.lookup x=some .local:=by first|exact .inl rfl|exact .inr rfl|assumption):xI X ct ms own 0 (.Name x pos) (gV i):=znl ho hm hN hi hx hf
theorem ek {i:Nat}{pos':cY}(hN:X.N.Nodup)(he:XO X ct ms k e f)(hm:ms[i]?=some (.ow k):=by rfl)(hi:X.N[i]?=some x:=by rfl)(hx:Loc X.env.scope x:=by first|exact Or.inl rfl|exact Or.inr rfl)
  (hs:dw e (some (.Name x pos')) pos.line X.env=pure false:=by rfl)
  (hf:X.fn x=true\/X.env.scope.names.lookup x=some .local:=by first|exact .inl rfl|exact .inr rfl|assumption):XS X ct ms rk (.Assign [.Name x pos'] e pos) (sSet i f):=ztk hm hN hi hx he hs hf
theorem lU {i:Nat}(hN:X.N.Nodup)(hm:ms[i]?=some (.ow 0):=by rfl)(hi:X.N[i]?=some x:=by rfl)(hx:Loc X.env.scope x:=by first|exact Or.inl rfl|exact Or.inr rfl)
  (hf:X.fn x=true\/X.env.scope.names.lookup x=some .local:=by first|exact .inl rfl|exact .inr rfl|assumption):XG X ct ms 0 (.Name x pos) (gV i):=zqq hm hN hi hx hf
theorem cu {es:List Expr}{ns:List Nat}{fs:Env->Option (List D)}(d:gO X.K X.mg x st ps fa fd)(Fn:cx X.prog X.w X.K X.mg X.base ez kk fa fd ps (fR X.K ct ns rk mf))(hr:eo kq X.A)(ha:XA X ct ms (e::es) ns fs)(rJ:kk<=kq:=by decide)(hg:Gl X x:=by rfl)
  (lM:(x==("__debug__":aQ))=false:=by decide) (he:aq (e::es) X.env=(false,bJ e X.env)::aq es X.env:=by rfl) (iT:(cB pos (aq es X.env)).any (·.1)=false:=by rfl) :
  XO X ct ms rk (.Call (.Name x pp) (e::es) [] pos) (λρ=>(fs ρ).bind λds=>mf (ds++[])) :=
 zqo (ns:=ns) (nd:=[]) (nY:=[]) (by rw[cz];exact Fn) (hr.mono rJ) hg d.mgx d.fn.kp d.bd .nil (λ_ _=>.nil) ha lM he iT
theorem rR {om:List Mo}{jB iter:Expr}{ifs:List Expr}{scope:fQ}{N:List aQ}{own:Nat}{cap:List Nat}{fi:Env->Option (List D)}{gg:D->Env->Option Env}(hi:Be X ct ms n tg iter fi)
  (hg:∀cl C fp s₀ H₀,xI (iw X scope cl N C fp s₀ H₀) ct (om++gH ms cap) own n tg gg) (ht:∀cl C fp s₀ H₀,xJ (iw X scope cl N C fp s₀ H₀) ct (om++gH ms cap) ifs p) (he:∀cl C fp s₀ H₀,XO (iw X scope cl N C fp s₀ H₀) ct (om++gH ms cap) k jB f)
  (B:jZ X scope N own cap:=by exact wX (by rfl)) (hc:X.calm=true:=by rfl) (ho:om.length=own:=by rfl) (gz:∀i∈cap,i<ms.length:=by decide)
  (hs:∀x,dP iter X.env x=pure x:=by intro _;rfl):XO X ct ms (k+1) (.ListComp jB [⟨tg,iter,ifs,0⟩] scope pos) (d5 fi own cap gg p f):=zqv B hc ho gz hi hg ht he hs
theorem gX {P:bB}{w:cj}{mg:aQ->Option ae}{base:aZ}{qual:aQ}{N:List aQ}{pm:List Nat}{bf:SF}(Fn:Fun2 K x qual st fa fd)(S:bp N ps (aL st))
  (body:∀(gW:ae) (A:bR) (outer:List PySem.Env) (s:am) (H:Hp) (E:XK),eo kk (A.deeper (envOfC qual (aL st) s.heap.objs.size fa gW))->rB (ni ez P w K mg base N qual (aL st) fa gW A outer s H E).nox ct ms rk (gx st) bf)
  (Ab:pm.length=ps.length:=by rfl) (Iq:ms.length=N.length:=by rfl) (rJ:ps.length<=N.length:=by decide) (Ez:∀(i n:Nat),pm[i]?=some n->ms[i]?=some (Mo.al n)\/(n=0/\ms[i]?=some (Mo.ow 0)):=by exact qv (by decide)) :
  cx P w K mg base ez (kk+1) fa fd ps (fR K ct pm rk (mOf N bf)):=lift Fn S Ab Iq rJ Ez body
theorem bY {i:Int}{j}:XE X ct ms 0 (.Constant (.int i) j pos) (eC (.int i)):=zth
theorem t9 {j}:XE X ct ms 0 (.Constant .none j pos) (eC .non):=zti
theorem mH (ha:XE X ct ms 0 a f)(hb:XE X ct ms 0 b g):XO X ct ms 1 (.BinOp a .Add b pos) (e2 ej f g):=zuz zqy (zqz (by decide) (by decide)) ha hb
theorem fX (ha:XE X ct ms 0 a f)(hb:XE X ct ms 0 b g)(hp:gU b:=by exactλ_ _=>rfl):XE X ct ms 0 (.Subscript a b pos) (e2 cH f g):=uk (n:=0) xu wo ha hb hp
theorem kr {fs:Env->Option (List D)}(hm:X.mg "len"=none)(ha:XA X ct ms [e] [n] fs)(hg:Gl X "len":=by rfl)(he:aq [e] X.env=(false,bJ e X.env)::aq [] X.env:=by rfl)(iT:(cB pos (aq [] X.env)).any (·.1)=false:=by rfl):XE X ct ms 0 (.Call (.Name "len" pp) [e] [] pos) (eN dg fs):=vh (k:=0) zlh zqu hg hm Sj ha (by decide) (by decide) he iT
theorem VL {P:List ae->Prop}(h:P [])(us:List ae)(e:us.length=0):P us:=by
 cases us with
 |nil=>exact h
 |cons a t=>cases e
theorem qO {P:List ae->Prop}(h:∀a1,P [a1])(us:List ae)(e:us.length=1):P us:=by
 cases us with
 |nil=>cases e
 |cons a t=>exact VL (P:=λt=>P (a::t)) (h a) t (Nat.succ.inj e)
theorem nk {P:List ae->Prop}(h:∀a1 a2,P [a1,a2])(us:List ae)(e:us.length=2):P us:=by
 cases us with
 |nil=>cases e
 |cons a t=>exact qO (P:=λt=>P (a::t)) (h a) t (Nat.succ.inj e)
theorem rL {P:List ae->Prop}(h:∀a1 a2 a3,P [a1,a2,a3])(us:List ae)(e:us.length=3):P us:=by
 cases us with
 |nil=>cases e
 |cons a t=>exact nk (P:=λt=>P (a::t)) (h a) t (Nat.succ.inj e)
theorem Ph {P:List ae->Prop}(h:∀a1 a2 a3 a4,P [a1,a2,a3,a4])(us:List ae)(e:us.length=4):P us:=by
 cases us with
 |nil=>cases e
 |cons a t=>exact rL (P:=λt=>P (a::t)) (h a) t (Nat.succ.inj e)
theorem Pj {P:List ae->Prop}(h:∀a1 a2 a3 a4 a5,P [a1,a2,a3,a4,a5])(us:List ae)(e:us.length=5):P us:=by
 cases us with
 |nil=>cases e
 |cons a t=>exact Ph (P:=λt=>P (a::t)) (h a) t (Nat.succ.inj e)
end
end L3
namespace L3
open PySem PySem.Spec L2
open PyProof.Rows hiding St
section
variable {K:aa}{ct:Nat->ah}{F B H:Hp}
theorem SL.drop:∀{ms:List Mo} {ρ:Env} {σ:St} {fp:List ah} {i k:Nat},SL K ct F B H ms ρ σ fp->ms[i]?=some (.ow k) ->
  ∃f1 fr:List ah,(∀a∈f1,a∈fp)/\(∀a∈fr,a∈fp)/\(fp.Nodup->f1.Nodup/\fr.Nodup/\∀a∈f1,a∉fr)/\(∀d,ρ[i]?=some (some d)->∃v,σ[i]?=some (some v)/\Ow K ct F H k d v f1)/\SL K ct F B H ms (ρ.set i Option.none) σ fr
 |_,_,_,_,_,_,.nil,e=>by simp at e
 |_,_,_,fp,0,k,.no t,e=>⟨[],fp,λa z=>(by cases z),λa z=>z,λn=>⟨bA,n,λa z=>(by cases z)⟩,λd q=>(by simp at q),.no t⟩
 |_,_,_,_,0,k,.al h t,e=>by simp at e
 |_,_,_,_,0,k,.px h t,e=>by simp at e
 |_,_,_,_,0,k,.so h t,e=>by simp at e
 |_,_,_,_,0,k,.ow (f:=f) (fp:=fp) h t,e=>by
  simp at e;subst e
  refine⟨f,fp,λa z=>bc _ z,λa z=>av _ z,λn=>?_,λd q=>?_,.no t⟩
  ·obtain⟨n1,n2,n3⟩:=aW.mp n
   exact⟨n1,n2,λa z zb=>n3 a z a zb rfl⟩
  ·simp at q;subst q;exact⟨_,rfl,h⟩
 |_,_,_,_,i+1,k,.no t,e=>by
  obtain⟨f1,fr,h1,h2,h3,h4,h5⟩:=SL.drop (i:=i) (k:=k) t (by simpa using e)
  exact⟨f1,fr,h1,h2,h3,λd q=>by simpa using h4 d (by simpa using q),.no h5⟩
 |_,_,_,_,i+1,k,.al h t,e=>by
  obtain⟨f1,fr,h1,h2,h3,h4,h5⟩:=SL.drop (i:=i) (k:=k) t (by simpa using e)
  exact⟨f1,fr,h1,h2,h3,λd q=>by simpa using h4 d (by simpa using q),.al h h5⟩
 |_,_,_,_,i+1,k,.px h t,e=>by
  obtain⟨f1,fr,h1,h2,h3,h4,h5⟩:=SL.drop (i:=i) (k:=k) t (by simpa using e)
  exact⟨f1,fr,h1,h2,h3,λd q=>by simpa using h4 d (by simpa using q),.px h h5⟩
 |_,_,_,_,i+1,k,.so (x:=x) (fp:=fp) h t,e=>by
  obtain⟨f1,fr,h1,h2,h3,h4,h5⟩:=SL.drop (i:=i) (k:=k) t (by simpa using e)
  refine⟨f1,x::fr,λa z=>aj _ (h1 a z),λa z=>(aF.mp z).elim (λz=>by rw[z];exact af) λz=>aj _ (h2 a z),λn=>?_,λd q=>by simpa using h4 d (by simpa using q),.so h h5⟩
  obtain⟨n1,n2⟩:=bv.mp n
  obtain⟨m1,m2,m3⟩:=h3 n2
  refine⟨m1,bv.mpr ⟨λz=>n1 (h2 x z),m2⟩,λa z zb=>?_⟩
  rcases aF.mp zb with zb|zb
  ·rw[zb]at z;exact n1 (h1 x z)
  ·exact m3 a z zb
 |_,_,_,_,i+1,k,.ow (f:=f) (fp:=fp) h t,e=>by
  obtain⟨f1,fr,h1,h2,h3,h4,h5⟩:=SL.drop (i:=i) (k:=k) t (by simpa using e)
  refine⟨f1,f++fr,λa z=>av _ (h1 a z),λa z=>(aY.mp z).elim (λz=>bc _ z) λz=>av _ (h2 a z),λn=>?_,λd q=>by simpa using h4 d (by simpa using q),.ow h h5⟩
  obtain⟨n1,n2,n3⟩:=aW.mp n
  obtain⟨m1,m2,m3⟩:=h3 n2
  refine⟨m1,aW.mpr ⟨n1,m2,λa z b zb e=>n3 a z b (h2 b zb) e⟩,λa z zb=>?_⟩
  rcases aY.mp zb with zb|zb
  ·exact n3 a zb a (h1 a z) rfl
  ·exact m3 a z zb
theorem OwL.getI {R:D->V->List ah->Prop}{d:D}:∀{ds:List D} {vs:List V} {fp:List ah} {j:Nat},OwL R ds vs fp->ds[j]?=some d->∃v f,vs[j]?=some v/\R d v f/\kz f fp
 |_,_,_,_,.nil,e=>by simp at e
 |_,_,_,0,.cons h t,e=>by
  simp at e;subst e
  exact⟨_,_,rfl,h,List.sublist_append_left _ _⟩
 |_,_,_,j+1,.cons h t,e=>by
  obtain⟨v,f,h1,h2,h3⟩:=OwL.getI (j:=j) t (by simpa using e)
  exact⟨v,f,by simpa using h1,h2,h3.trans (ny _ _)⟩
theorem OwL.atI {R:D->V->List ah->Prop}{ds:List D}{vs:List V}{fp:List ah}{i:Int}{d:D}(h:OwL R ds vs fp)(e:atI ds i=some d):∃v f,L2.atI vs i=some v/\R d v f/\kz f fp:=by
 obtain⟨j,h1,h2⟩:=aJ e
 obtain⟨v,f,h3,h4,h5⟩:=OwL.getI h h2
 refine⟨v,f,?_,h4,h5⟩
 unfold L2.atI
 rw[←h.length,h1]
 exact h3
end
section
variable {X:Cx}{ct:Nat->ah}{ms:List Mo}{rk n m k i j:Nat}{a b c e:Expr}{f g h:EF}{p q:BF}{pos:cY}{K:aa}
theorem NU {F H F2 H2:Hp}{d1 d2 d:D}{v y:V}{fp:List ah}{Q:VK}(ow:Ow X.K ct F H (k+1) d1 v fp)(s:bT F H)(x2:fq F H F2 H2)(l2:Al X.K ct F2 H2 0 d2 y)(e:cH d1 d2=some d)
  (w:∀u f',Ow X.K ct F2 H2 k d u f'->kz f' fp->Q u H2):IH X.K v y H2 Q:=by
 cases d1 with
 |lst ds=>
  cases d2 with
  |int z=>
   obtain⟨ad,vs,fr,rfl,rfl,hF,hH,ol⟩:=ow.lst_inv
   obtain⟨u,f',h1,h2,h3⟩:=ol.atI e
   exact .inl ⟨ad,vs,z,u,rfl,l2.int,e5.of (x2.hh _ _ hH),h1,w u f' (h2.ext x2) (h3.trans (oM _ _))⟩
  |_=>cases e
 |tup ds=>
  cases d2 with
  |int z=>
   rcases ow with⟨hs,_⟩|oc
   ·cases hs
   ·cases oc with
    |@tup ad vs _ _ Ij ol=>
     obtain⟨u,f',h1,h2,h3⟩:=ol.atI e
     exact .inr (.inl ⟨ad,vs,z,u,rfl,l2.int,kJ.of (x2.hh _ _ (s _ _ Ij)),h1,w u f' (h2.ext x2) h3⟩)
  |_=>cases e
 |str t=>
  cases d2 with
  |int z=>
   unfold cH at e
   dsimp only at e
   by_cases ht:t.length<=16777216
   ·rw[if_pos ht]at e
    obtain⟨c,h1,h2⟩:=aJ e
    cases h2
    have hv:v=.str t:=by
     rcases ow with⟨_,dt,_⟩|oc
     ·cases dt;rfl
     ·cases oc
    exact .inr (.inr ⟨t,z,c,hv,l2.int,by rw[cy];exact ht,h1,w _ [] (Ow.scal (.str _) rfl) (List.nil_sublist _)⟩)
   ·rw[if_neg ht]at e;cases e
  |_=>cases e
 |_=>cases e
theorem zrn (he:XO X ct ms (k+1) e f)(hb:XE X ct ms 0 b g)(hp:gU b:=by exactλ_ _=>rfl):XO X ct ms k (.Subscript e b pos) (e2 cH f g):=by
 obtain⟨te,pe,qe⟩:=he
 obtain⟨tb,pb,qb⟩:=hb
 refine⟨_,BQ xu pe pb hp,λF0 B F H ρ σ d Q rs e w=>?_⟩
 obtain⟨d1,d2,h1,h2,h3⟩:=cQ e
 refine qe F0 B F H ρ σ d1 _ rs h1 λv F1 H1 fp x1 ow nd hf=>?_
 refine qb F0 B F1 H1 ρ σ d2 _ (rs.ext x1) h2 λy F2 H2 x2 l2=>?_
 exact NU ow x1.fh x2 l2 h3 λu f' o hs=>w u F2 H2 f' (x1.trans x2) o (nd.sublist hs) λa ha=>hf a (hs.subset ha)
theorem zoh {x:aQ}{p1 p2 p3:cY}{bn:Expr}(hm:ms[i]?=some (.ow (rk+1)))(hc:XT X ct ms c p)(hb:XE X ct ms 0 b g)(hn:XO X ct ms rk bn h)(hp:gU b:=by exactλ_ _=>rfl)(hN:X.N[i]?=some x:=by rfl)(hv:lQ X.env.scope x:=by first|exact Or.inl rfl|exact Or.inr (Or.inl rfl)|exact Or.inr (Or.inr rfl))(hd:(x==("__debug__":aQ))=false:=by decide)
  (gA:(x==("__classdict__":aQ))=false:=by decide):XS X ct ms rk (.Return (some (.IfExp c (.Subscript (.Name x p1) b p2) bn p3)) pos) (sRet (eIf p (e2 cH (eV i) g) h)):=by
 obtain⟨tc,pc,qc⟩:=hc
 obtain⟨tb,pb,qb⟩:=hb
 obtain⟨tn,pn,qn⟩:=hn
 refine⟨_,BK (Ri pc (BQ xu (um hN hv hd gA) pb hp) pn),λF0 B F H ρ σ o E rs e w=>?_⟩
 obtain⟨d,h1,h2⟩:=aJ e
 cases h2
 obtain⟨x,h3,h4⟩:=aJ h1
 refine qc F0 B F H ρ σ x _ rs h3 λF1 H1 x1=>?_
 have iO:=rs.ext x1
 cases x with
 |true=>
  rw[if_pos rfl]at h4
  rw[if_pos rfl]
  obtain⟨d1,d2,h5,h6,h7⟩:=cQ h4
  obtain⟨fp,sl,nd,zK⟩:=iO.sl
  obtain⟨f1,fr,i1,i2,i3,i4,i5⟩:=sl.put hm
  obtain⟨v,hσ,ow⟩:=i4 d1 (zu h5)
  refine⟨v,hσ,qb F0 B F1 H1 ρ σ d2 _ iO h6 λy F2 H2 x2 l2=>?_⟩
  have tK:=iO.ext x2
  exact NU ow iO.fh x2 l2 h7 λu f' o hs=>w u F2 H2 f' tK.f0 tK.bh tK.fh tK.nf o ((i3 nd).1.sublist hs) λz hz=>zK z (i1 z (hs.subset hz))
 |false=>
  rw[if_neg aK]at h4
  rw[if_neg aK]
  refine qn F0 B F1 H1 ρ σ d _ iO h4 λv F2 H2 fp x2 ow nd hf=>?_
  have tK:=iO.ext x2
  refine w v F2 H2 fp tK.f0 tK.bh tK.fh tK.nf ow nd λz hz=>?_
  cases hB:B z with
  |none=>rfl
  |some o'=>have:=iO.bh _ _ hB;rw[hf z hz]at this;cases this
def Ml (i j:Nat):SF:=λρ=>(eV j ρ).bind λd=>some (.nx ((ρ.set j none).set i (some d)))
theorem zu7 {x y:aQ}{p1 p2:cY}(hm:ms[i]?=some (.ow k))(mB:ms[j]?=some (.ow k))(pZ:i≠j)(hN:X.N.Nodup)(hi:X.N[i]?=some x:=by rfl)(hx:Loc X.env.scope x:=by first|exact Or.inl rfl|exact Or.inr rfl)
  (Ek:X.N[j]?=some y:=by rfl) (EO:lQ X.env.scope y:=by first|exact Or.inl rfl|exact Or.inr (Or.inl rfl)|exact Or.inr (Or.inr rfl)) (hd2:(y==("__debug__":aQ))=false:=by decide) (sR:(y==("__classdict__":aQ))=false:=by decide)
  (hs:dw (.Name y p2) (some (.Name x p1)) pos.line X.env=pure false:=by rfl)
  (hf:X.fn x=true\/X.env.scope.names.lookup x=some .local:=by first|exact .inl rfl|exact .inr rfl|assumption):XS X ct ms rk (.Assign [.Name x p1] (.Name y p2) pos) (Ml i j):=by
 refine⟨_,NS hN hi hx (um Ek EO hd2 sR) hs hf,λF0 B F H ρ σ o E rs e w=>?_⟩
 obtain⟨d,h1,h2⟩:=aJ e
 cases h2
 obtain⟨fp,sl,nd,hb⟩:=rs.sl
 obtain⟨f1,fr,i1,i2,i3,i4,i5⟩:=sl.drop mB
 obtain⟨n1,n2,n3⟩:=i3 nd
 obtain⟨v,hσ,ow⟩:=i4 d (zu h1)
 refine⟨v,hσ,?_⟩
 have iO:RS X.K ct F0 B ms F H (ρ.set j none) σ:=⟨rs.f0,rs.bh,rs.fh,rs.nf,fr,i5,n2,λa ha=>hb a (i2 a ha)⟩
 obtain⟨g1,gr,k1,k2,k3,k4,k5⟩:=i5.put hm
 obtain⟨m1,m2,m3⟩:=k3 n2
 obtain⟨gM,q1,q2,q3⟩:=k5 F H d v f1 (.refl _) (λa ha=>⟨rfl,(i5.cells a (k2 a ha)).1⟩) ow
 exact w (σ.set i (some v)) F H ⟨rs.f0,rs.bh,rs.fh,rs.nf,gM,q1,q3 n1 m2 (λa ha hr=>n3 a ha (k2 a hr)),λa ha=>(q2 a ha).elim (λz=>hb a (i1 a z)) λz=>hb a (i2 a (k2 a z))⟩
def zC (f:EF):EF:=λρ=>(f ρ).bind λd=>match d with
 |.tup ds=>some (.tup ds)
 |_=>none
theorem Dts.owl {F H:Hp}:∀{ds:List D} {vs:List V},Dts K ct F ds vs->OwL (Ow K ct F H 0) ds vs []
 |_,_,.nil=>.nil
 |_,_,.cons h t=>OwL.cons (f:=[]) (g:=[]) ⟨h,rfl⟩ (Dts.owl t)
theorem OwL.dts {F H:Hp}:∀{ds:List D} {vs:List V} {fp:List ah},OwL (Ow K ct F H 0) ds vs fp->Dts K ct F ds vs
 |_,_,_,.nil=>.nil
 |_,_,_,.cons h t=>.cons h.1 (OwL.dts t)
theorem zu8 (he:XE X ct ms 0 e f):XO X ct ms 1 e (zC f):=by
 obtain⟨t,p,q⟩:=he
 refine⟨t,p,λF0 B F H ρ σ d Q r e w=>?_⟩
 obtain⟨d0,h1,h2⟩:=aJ e
 cases d0 with
 |tup ds=>
  cases h2
  refine q F0 B F H ρ σ _ Q r h1 λv F' H' x l=>?_
  have l:Dt X.K ct F' (.tup ds) v:=l
  cases l with
  |tup q1 t1=>exact w _ F' H' [] x (.inr (.tup q1 t1.owl)) bA λa z=>(by cases z)
 |_=>cases h2
theorem zu9 {x:aQ}{p1:cY}(hm:ms[i]?=some (.ow 2))(hb:XE X ct ms 0 b g)(hp:gU b:=by exactλ_ _=>rfl)(hN:X.N[i]?=some x:=by rfl)(hv:lQ X.env.scope x:=by first|exact Or.inl rfl|exact Or.inr (Or.inl rfl)|exact Or.inr (Or.inr rfl))(hd:(x==("__debug__":aQ))=false:=by decide)
  (gA:(x==("__classdict__":aQ))=false:=by decide):XE X ct ms 0 (.Subscript (.Name x p1) b pos) (zC (e2 cH (eV i) g)):=by
 obtain⟨tb,pb,qb⟩:=hb
 refine⟨_,BQ xu (um hN hv hd gA) pb hp,λF0 B F H ρ σ d Q rs e w=>?_⟩
 obtain⟨d0,h0,h9⟩:=aJ e
 obtain⟨d1,d2,h1,h2,h3⟩:=cQ h0
 obtain⟨fp,sl,nd,zK⟩:=rs.sl
 obtain⟨f1,fr,i1,i2,i3,i4,i5⟩:=sl.put hm
 obtain⟨v,hσ,ow⟩:=i4 d1 (zu h1)
 refine⟨v,hσ,qb F0 B F H ρ σ d2 _ rs h2 λy F2 H2 x2 l2=>?_⟩
 refine NU ow rs.fh x2 l2 h3 λu f' o hs=>?_
 cases d0 with
 |tup ds=>
  cases h9
  refine w u F2 H2 x2 ?_
  rcases o with⟨hs,_⟩|oc
  ·cases hs
  ·cases oc with
   |tup q1 t1=>exact Dt.tup q1 t1.dts
 |_=>cases h9
theorem zro {es:List Expr}{fs:Env->Option (List D)}{x:aQ}{p1:cY}(h:Bd X ct ms k es fs)(hN:X.N[i]?=some x:=by rfl)(hv:lQ X.env.scope x:=by first|exact Or.inl rfl|exact Or.inr (Or.inl rfl)|exact Or.inr (Or.inr rfl))(hd:(x==("__debug__":aQ))=false:=by decide)(gA:(x==("__classdict__":aQ))=false:=by decide)
  (hs:aq (.Name x p1::es) X.env=(false,bJ (.Name x p1) X.env)::aq es X.env:=by rfl):HR X ct ms k i (.Name x p1::es) (aCons (eV i) fs):=by
 obtain⟨t,pt,lt,qt⟩:=h
 refine⟨_,vi (um hN hv hd gA) pt hs,λρ ds e=>(by obtain⟨y,ys,h1,h2,h3⟩:=cQ e;cases h3;rw[aI,aI,lt _ _ h2]),λF0 B F H ρ σ ds Q d v f1 rs hρ hσ ow nd e z=>?_⟩
 obtain⟨y,ys,h1,h2,h3⟩:=cQ e
 cases h3
 have ey:y=d:=by
  have:=zu h1
  rw[hρ]at this
  cases this
  rfl
 subst ey
 refine⟨_,hσ,qt F0 B F H ρ σ ys _ rs h2 λvs F1 H1 fp x1 l L8 hf=>?_⟩
 refine z (v::vs) F1 H1 (f1++fp) x1 (.cons (ow.ext x1) l) ?_ λa ha=>?_
 ·refine aW.mpr ⟨nd,L8,λa ha b hb e=>?_⟩
  subst e
  obtain⟨_,o,ho⟩:=ow.cells a ha
  rw[hf a hb]at ho
  cases ho
 ·rcases aY.mp ha with h|h
  ·exact .inr h
  ·exact .inl (hf a h)
end
end L3
namespace Fq
theorem gcd_step (a b:Int):dm b (a.fmod b)=dm a b:=by
 rw[Int.fmod_def,Int.gcd_sub_mul_left_right,Int.gcd_comm]
theorem fmod_less (a:Int){b:Int}(hb:b≠0):(a.fmod b).natAbs<b.natAbs:=by
 rcases Int.lt_or_gt_of_ne hb with h|h
 ·have h1:=rS (-a) (b:=-b) (by omega)
  have h2:=pd (-a) (b:=-b) (by omega)
  have e:(-a).fmod (-b) = -(a.fmod b):=Int.neg_fmod_neg ..
  omega
 ·have h1:=rS a h
  have h2:=pd a h
  omega
theorem gcd_end (a:Int):(if a<0 then -a else a)=((dm a 0:Nat):Int):=by
 rw[Int.gcd_zero_right]
 split<;>omega
def dv (t b:Int):Int:=if b<0 then -((dm t b:Nat):Int)else((dm t b:Nat):Int)
def mk (t b:Int):Int×Int:=(t.fdiv (dv t b),b.fdiv (dv t b))
structure Low (q:Int×Int):Prop where
 pos:1<=q.2
 cop:dm q.1 q.2=1
theorem gcd_pos {t b:Int}(hb:b≠0):0<dm t b:=Int.gcd_pos_of_ne_zero_right t hb
theorem Ob {t b:Int}(hb:b≠0):dv t b≠0:=by
 have:=gcd_pos (t:=t) hb
 unfold dv;split<;>omega
theorem dv_abs (t b:Int):(dv t b).natAbs=dm t b:=by
 unfold dv;split<;>omega
theorem dv_le {t b:Int}(hb:b≠0):(dv t b).natAbs<=b.natAbs:=by
 rw[dv_abs]
 exact Nat.le_of_dvd (by omega) (Int.natAbs_dvd_natAbs.mpr (kQ t b)|> λh=>by simpa using h)
theorem Qp (t b:Int):dv t b ∣ t:=by
 unfold dv;split
 ·exact Int.neg_dvd.mpr (tQ t b)
 ·exact tQ t b
theorem Qi (t b:Int):dv t b ∣ b:=by
 unfold dv;split
 ·exact Int.neg_dvd.mpr (kQ t b)
 ·exact kQ t b
theorem NV (t b:Int):t=dv t b*(mk t b).1:=by
 show t=dv t b*t.fdiv (dv t b)
 rw[oJ (Qp t b),qB (Qp t b)]
theorem NW (t b:Int):b=dv t b*(mk t b).2:=by
 show b=dv t b*b.fdiv (dv t b)
 rw[oJ (Qi t b),qB (Qi t b)]
theorem mk_low {t b:Int}(hb:b≠0):Low (mk t b):=by
 have e1:=NV t b
 have e2:=NW t b
 have hd:=Ob (t:=t) hb
 have hg:=gcd_pos (t:=t) hb
 constructor
 ·have hs:(b<0/\dv t b<0)\/(0<b/\0<dv t b):=by
   unfold dv;split<;>omega
  rcases hs with⟨h1,h2⟩|⟨h1,h2⟩
  ·rcases Int.lt_or_le (mk t b).2 1 with h|h
   ·have:0<=dv t b*(mk t b).2:=ku (by omega) (by omega)
    omega
   ·exact h
  ·rcases Int.lt_or_le (mk t b).2 1 with h|h
   ·have:dv t b*(mk t b).2<=0:=Int.mul_nonpos_of_nonneg_of_nonpos (by omega) (by omega)
    omega
   ·exact h
 ·have h:dm (dv t b*(mk t b).1) (dv t b*(mk t b).2)=dm t b:=by rw[←e1,←e2]
  rw[Int.gcd_mul_left,dv_abs]at h
  exact Nat.eq_of_mul_eq_mul_left hg (by rw[h,Nat.mul_one])
theorem mk_cross (t b:Int):(mk t b).1*b=t*(mk t b).2:=by
 have e1:=NV t b
 have e2:=NW t b
 generalize (mk t b).1=x,(mk t b).2=y,dv t b=d at *
 subst e1
 rw[e2]
 grind
theorem Qz {d x:Int}(hd:d≠0):x.natAbs<=(d*x).natAbs:=by
 rw[vL]
 exact Nat.le_mul_of_pos_left _ (by omega)
theorem mk_le_one {t b:Int}(hb:b≠0):(mk t b).1.natAbs<=t.natAbs:=by
 have h:=Qz (x:=(mk t b).1) (Ob (t:=t) hb)
 rwa[←NV]at h
theorem mk_le_two {t b:Int}(hb:b≠0):(mk t b).2.natAbs<=b.natAbs:=by
 have h:=Qz (x:=(mk t b).2) (Ob (t:=t) hb)
 rwa[←NW]at h
def plus (p q:Int×Int):Int×Int:=mk (p.1*q.2+q.1*p.2) (p.2*q.2)
def scaled (p:Int×Int)(n:Int):Int×Int:=mk (p.1*n) p.2
def minus (p q:Int×Int):Int×Int:=plus p (scaled q (-1))
def under (p q:Int×Int):Bool:=decide (p.1*q.2<q.1*p.2)
theorem Low.ne {q:Int×Int}(h:Low q):q.2≠0:=by have:=h.pos;omega
theorem Low.mul_ne {p q:Int×Int}(h:Low p)(h':Low q):p.2*q.2≠0:=mI h.ne h'.ne
theorem plus_low {p q:Int×Int}(h:Low p)(h':Low q):Low (plus p q):=mk_low (h.mul_ne h')
theorem scaled_low {p:Int×Int}(h:Low p)(n:Int):Low (scaled p n):=mk_low h.ne
theorem minus_low {p q:Int×Int}(h:Low p)(h':Low q):Low (minus p q):=plus_low h (scaled_low h' _)
theorem plus_v (p q:Int×Int):(plus p q).1*(p.2*q.2)=(p.1*q.2+q.1*p.2)*(plus p q).2:=mk_cross _ _
theorem scaled_v (p:Int×Int)(n:Int):(scaled p n).1*p.2=(p.1*n)*(scaled p n).2:=mk_cross _ _
theorem minus_v {p q:Int×Int}(h':Low q):(minus p q).1*(p.2*q.2)=(p.1*q.2-q.1*p.2)*(minus p q).2:=by
 have e1:=plus_v p (scaled q (-1))
 have e2:=scaled_v q (-1)
 have hs:=(scaled_low h' (-1)).ne
 show(plus p (scaled q (-1))).1*(p.2*q.2)=(p.1*q.2-q.1*p.2)*(plus p (scaled q (-1))).2
 have k:(scaled q (-1)).2*((plus p (scaled q (-1))).1*(p.2*q.2))=(scaled q (-1)).2*((p.1*q.2-q.1*p.2)*(plus p (scaled q (-1))).2):=by grind
 exact Int.eq_of_mul_eq_mul_left hs k
theorem lt_congr {n d m e n' d' m' e':Int}(hd:0<d)(he:0<e)(Eo:0<d')(U9:0<e')(h:n*e=m*d)(h':n' * e'=m' * d'):(n*d'<n' * d↔m*e'<m' * e):=by
 have p1:0<e*e':=cU he U9
 have p2:0<d*d':=cU hd Eo
 have k:(e*e')*(n' * d-n*d')=(d*d')*(m' * e-m*e'):=by grind
 constructor
 ·intro q
  have:0<(d*d')*(m' * e-m*e'):=by rw[←k];exact cU p1 (by omega)
  have:=oB this (by omega)
  omega
 ·intro q
  have:0<(e*e')*(n' * d-n*d'):=by rw[k];exact cU p2 (by omega)
  have:=oB this (by omega)
  omega
theorem Low.gt {q:Int×Int}(h:Low q):0<q.2:=by have:=h.pos;omega
end Fq
set_option maxHeartbeats 4000000
namespace My
open PySem L2 L3
def top (i:Nat):bP:=PySem.Challenge.pw_ringbeat_k36_whole_least_round.main.body.getD i (.Pass ⟨0,0,0,0⟩)
abbrev yw:bP:=inClass (top 2) 0
abbrev xi:bP:=inClass (top 3) 0
abbrev yj:bP:=inClass (top 4) 0
abbrev yk:bP:=inClass (top 5) 0
abbrev wb:bP:=top 16
abbrev wc:bP:=top 17
abbrev vt:bP:=top 18
abbrev we:bP:=top 19
abbrev xj:bP:=top 20
abbrev wu:bP:=top 21
abbrev yo:bP:=top 22
abbrev ye:bP:=top 23
abbrev xv:bP:=inClass (top 25) 0
abbrev ya:bP:=inClass (top 25) 1
abbrev yf:bP:=top 27
abbrev jp:bP:=top 28
abbrev uo:bP:=top 31
abbrev By:bP:=top 29
abbrev jq:bP:=top 30
abbrev jr:bP:=top 32
abbrev vv:bP:=top 34
abbrev Bz:bP:=top 35
abbrev vw:bP:=top 36
abbrev BA:bP:=top 37
abbrev wf:bP:=top 38
abbrev zk:bP:=top 39
abbrev yp:bP:=top 40
abbrev xw:bP:=top 42
abbrev uq:bP:=top 43
abbrev wg:bP:=top 44
abbrev yq:bP:=top 45
abbrev xk:bP:=top 46
abbrev xm:bP:=top 47
abbrev wv:bP:=top 48
abbrev jt:bP:=top 49
abbrev xn:bP:=top 51
abbrev wj:bP:=top 52
abbrev xx:bP:=top 53
abbrev wk:bP:=top 54
abbrev ww:bP:=top 55
abbrev wm:bP:=top 56
abbrev vx:bP:=top 57
abbrev wx:bP:=top 58
abbrev yb:bP:=top 59
abbrev xo:bP:=top 60
abbrev xy:bP:=top 61
abbrev xp:bP:=top 62
abbrev vz:bP:=top 63
abbrev wn:bP:=top 64
abbrev AU:bP:=top 65
theorem YN:bp ["self","start","goal","time","behind"] ["self","start","goal","time","behind"] (aL yw):=⟨rfl,rfl,rfl,by decide +kernel,rfl,by decide +kernel,by decide +kernel⟩
theorem YE:bp ["self","start","goal","time"] ["self","start","goal","time"] (aL xi):=⟨rfl,rfl,rfl,by decide +kernel,rfl,by decide +kernel,by decide +kernel⟩
theorem YF:bp ["self","start","goal","time","behind"] ["self","start","goal","time","behind"] (aL yj):=⟨rfl,rfl,rfl,by decide +kernel,rfl,by decide +kernel,by decide +kernel⟩
theorem YG:bp ["self","start","goal","time","behind"] ["self","start","goal","time","behind"] (aL yk):=⟨rfl,rfl,rfl,by decide +kernel,rfl,by decide +kernel,by decide +kernel⟩
theorem Y5:bp ["sign"] ["sign"] (aL wb):=⟨rfl,rfl,rfl,by decide +kernel,rfl,by decide +kernel,by decide +kernel⟩
theorem Y6:bp ["sign"] ["sign"] (aL wc):=⟨rfl,rfl,rfl,by decide +kernel,rfl,by decide +kernel,by decide +kernel⟩
theorem Zv:bp ["word"] ["word"] (aL vt):=⟨rfl,rfl,rfl,by decide +kernel,rfl,by decide +kernel,by decide +kernel⟩
theorem MM:bp ["names","seen","name"] ["names"] (aL we):=⟨rfl,rfl,rfl,by decide +kernel,rfl,by decide +kernel,by decide +kernel⟩
theorem YH:bp ["number","least","most"] ["number","least","most"] (aL xj):=⟨rfl,rfl,rfl,by decide +kernel,rfl,by decide +kernel,by decide +kernel⟩
theorem MV:bp ["arrow","many","least","most"] ["arrow","many"] (aL wu):=⟨rfl,rfl,rfl,by decide +kernel,rfl,by decide +kernel,by decide +kernel⟩
theorem xq:bp ["many","arrows","within","waited","arrow","placed","done","here"] ["many","arrows"] (aL yo):=⟨rfl,rfl,rfl,by decide +kernel,rfl,by decide +kernel,by decide +kernel⟩
theorem vk:bp ["arrows","chosen","going","here","seen","way"] ["arrows","chosen","going"] (aL ye):=⟨rfl,rfl,rfl,by decide +kernel,rfl,by decide +kernel,by decide +kernel⟩
theorem ju:bp ["self","names","arrows","number","arrow","placed"] ["self","names","arrows"] (aL xv):=⟨rfl,rfl,rfl,by decide +kernel,rfl,by decide +kernel,by decide +kernel⟩
theorem Yv:bp ["self"] ["self"] (aL ya):=⟨rfl,rfl,rfl,by decide +kernel,rfl,by decide +kernel,by decide +kernel⟩
theorem ue:bp ["one","other","rest"] ["one","other"] (aL yf):=⟨rfl,rfl,rfl,by decide +kernel,rfl,by decide +kernel,by decide +kernel⟩
theorem Nl:bp ["top","bottom","divisor"] ["top","bottom"] (aL jp):=⟨rfl,rfl,rfl,by decide +kernel,rfl,by decide +kernel,by decide +kernel⟩
theorem zl7:bp ["one","whole"] ["one","whole"] (aL uo):=⟨rfl,rfl,rfl,by decide +kernel,rfl,by decide +kernel,by decide +kernel⟩
theorem zrq:bp ["one","other"] ["one","other"] (aL By):=⟨rfl,rfl,rfl,by decide +kernel,rfl,by decide +kernel,by decide +kernel⟩
theorem zoi:bp ["one","other"] ["one","other"] (aL jq):=⟨rfl,rfl,rfl,by decide +kernel,rfl,by decide +kernel,by decide +kernel⟩
theorem zoj:bp ["one","other"] ["one","other"] (aL jr):=⟨rfl,rfl,rfl,by decide +kernel,rfl,by decide +kernel,by decide +kernel⟩
theorem M1:bp ["net","ring","starts","goals"] ["net","ring"] (aL vv):=⟨rfl,rfl,rfl,by decide +kernel,rfl,by decide +kernel,by decide +kernel⟩
theorem Nw:bp ["net","ring","times","behinds"] ["net","ring"] (aL Bz):=⟨rfl,rfl,rfl,by decide +kernel,rfl,by decide +kernel,by decide +kernel⟩
theorem QA:bp ["arrow","pace","times","earliest"] ["arrow","pace","times"] (aL vw):=⟨rfl,rfl,rfl,by decide +kernel,rfl,by decide +kernel,by decide +kernel⟩
theorem zrr:bp ["net","pace","times"] ["net","pace","times"] (aL BA):=⟨rfl,rfl,rfl,by decide +kernel,rfl,by decide +kernel,by decide +kernel⟩
theorem uz:bp ["net","pace","numbers","times","chosen","pushed","number","arrow","earliest"] ["net","pace","numbers","times","chosen"] (aL wf):=⟨rfl,rfl,rfl,by decide +kernel,rfl,by decide +kernel,by decide +kernel⟩
theorem xh:bp ["net","pace","numbers","times","chosen","pushed","count"] ["net","pace","numbers"] (aL zk):=⟨rfl,rfl,rfl,by decide +kernel,rfl,by decide +kernel,by decide +kernel⟩
theorem YA:bp ["net","pace"] ["net","pace"] (aL yp):=⟨rfl,rfl,rfl,by decide +kernel,rfl,by decide +kernel,by decide +kernel⟩
theorem P9:bp ["net","pace","numbers","found"] ["net","pace","numbers"] (aL xw):=⟨rfl,rfl,rfl,by decide +kernel,rfl,by decide +kernel,by decide +kernel⟩
theorem QI:bp ["one","other","total"] ["one","other"] (aL uq):=⟨rfl,rfl,rfl,by decide +kernel,rfl,by decide +kernel,by decide +kernel⟩
theorem Qj:bp ["net","most"] ["net"] (aL wg):=⟨rfl,rfl,rfl,by decide +kernel,rfl,by decide +kernel,by decide +kernel⟩
theorem xz:bp ["net","numbers","ring","ceiling","gap","middle","better"] ["net","numbers"] (aL yq):=⟨rfl,rfl,rfl,by decide +kernel,rfl,by decide +kernel,by decide +kernel⟩
theorem qx:bp ["net","numbers","ring","pace"] ["net","numbers"] (aL xk):=⟨rfl,rfl,rfl,by decide +kernel,rfl,by decide +kernel,by decide +kernel⟩
theorem YI:bp ["net"] ["net"] (aL xm):=⟨rfl,rfl,rfl,by decide +kernel,rfl,by decide +kernel,by decide +kernel⟩
theorem Ze:bp ["net","ring","pace"] ["net","ring","pace"] (aL wv):=⟨rfl,rfl,rfl,by decide +kernel,rfl,by decide +kernel,by decide +kernel⟩
theorem zok:bp ["net","paper"] ["net","paper"] (aL jt):=⟨rfl,rfl,rfl,by decide +kernel,rfl,by decide +kernel,by decide +kernel⟩
theorem YJ:bp ["_law_script","_law_k"] ["_law_script","_law_k"] (aL xn):=⟨rfl,rfl,rfl,by decide +kernel,rfl,by decide +kernel,by decide +kernel⟩
theorem Y7:bp ["_law_found"] ["_law_found"] (aL wj):=⟨rfl,rfl,rfl,by decide +kernel,rfl,by decide +kernel,by decide +kernel⟩
theorem YZ:bp ["_law_cell"] ["_law_cell"] (aL xx):=⟨rfl,rfl,rfl,by decide +kernel,rfl,by decide +kernel,by decide +kernel⟩
theorem MN:bp ["_law_cell","_law_k","_law_number"] ["_law_cell","_law_k"] (aL wk):=⟨rfl,rfl,rfl,by decide +kernel,rfl,by decide +kernel,by decide +kernel⟩
theorem IU:bp ["_law_turn","_law_many","_law_going","_law_order","_law_left","_law_k"] ["_law_turn","_law_many","_law_going"] (aL ww):=⟨rfl,rfl,rfl,by decide +kernel,rfl,by decide +kernel,by decide +kernel⟩
theorem vd:bp ["_law_cell","_law_many","_law_turn","_law_number","_law_start","_law_goal","_law_behind","_law_time"] ["_law_cell","_law_many","_law_turn"] (aL wm):=⟨rfl,rfl,rfl,by decide +kernel,rfl,by decide +kernel,by decide +kernel⟩
theorem wa:bp ["_law_cell","_law_many","_law_found","_law_size","_law_k","_law_number","_law_start","_law_goal","_law_behind"] ["_law_cell"] (aL vx):=⟨rfl,rfl,rfl,by decide +kernel,rfl,by decide +kernel,by decide +kernel⟩
theorem j9:bp ["_law_arrow_here","_law_kind","_law_start","_law_goal","_law_time","_law_behind"] ["_law_arrow_here","_law_kind"] (aL wx):=⟨rfl,rfl,rfl,by decide +kernel,rfl,by decide +kernel,by decide +kernel⟩
theorem v8:bp ["_law_beat","_law_one","_law_other"] ["_law_beat"] (aL yb):=⟨rfl,rfl,rfl,by decide +kernel,rfl,by decide +kernel,by decide +kernel⟩
theorem v4:bp ["_law_arrows","_law_many","_law_left","_law_step","_law_goals","_law_staying"] ["_law_arrows","_law_many"] (aL xo):=⟨rfl,rfl,rfl,by decide +kernel,rfl,by decide +kernel,by decide +kernel⟩
theorem jv:bp ["_law_found","_law_one","_law_other"] ["_law_found"] (aL xy):=⟨rfl,rfl,rfl,by decide +kernel,rfl,by decide +kernel,by decide +kernel⟩
theorem jh:bp ["_law_arrows","_law_ring","_law_goings","_law_k"] ["_law_arrows","_law_ring"] (aL xp):=⟨rfl,rfl,rfl,by decide +kernel,rfl,by decide +kernel,by decide +kernel⟩
theorem uf:bp ["_law_arrows","_law_beat","_law_times","_law_start","_law_goal","_law_time","_law_behind","_law_one","_law_other","_law_least"] ["_law_arrows","_law_beat","_law_times"] (aL vz):=⟨rfl,rfl,rfl,by decide +kernel,rfl,by decide +kernel,by decide +kernel⟩
theorem u0:bp ["_law_arrows","_law_many","_law_found","_law_beat","_law_ring","_law_times","_law_top","_law_bottom"] ["_law_arrows","_law_many","_law_found"] (aL wn):=⟨rfl,rfl,rfl,by decide +kernel,rfl,by decide +kernel,by decide +kernel⟩
theorem rQ:bp ["_law_script","_law_many","_law_turn","_law_arrows","_law_is_big","_law_net","_law_found","_law_beat","_law_lesser","_law_again"] ["_law_script"] (aL AU):=⟨rfl,rfl,rfl,by decide +kernel,rfl,by decide +kernel,by decide +kernel⟩
set_option genInjectivity false
set_option genSizeOf false
structure BV where
 c_Arrow:ah
 c_Ride:ah
 c_Wait:ah
 c_Back:ah
 c_Net:ah
 f_Arrow___init:ah
 d_Arrow___init:aH
 f_Ride___init:ah
 d_Ride___init:aH
 f_Wait___init:ah
 d_Wait___init:aH
 f_Back___init:ah
 d_Back___init:aH
 f_is_letter:ah
 d_is_letter:aH
 f_is_figure:ah
 d_is_figure:aH
 f_is_name:ah
 d_is_name:aH
 f_are_names:ah
 d_are_names:aH
 f_lies_within:ah
 d_lies_within:aH
 f_is_right:ah
 d_is_right:aH
 f_placed_goings:ah
 d_placed_goings:aH
 f_ring_back_from:ah
 d_ring_back_from:aH
 f_Net___init:ah
 d_Net___init:aH
 f_Net_most_behind:ah
 d_Net_most_behind:aH
 f_common_divisor:ah
 d_common_divisor:aH
 f_ratio:ah
 d_ratio:aH
 f_scaled:ah
 d_scaled:aH
 f_plus:ah
 d_plus:aH
 f_minus:ah
 d_minus:aH
 f_under:ah
 d_under:aH
 f_is_ring:ah
 d_is_ring:aH
 f_mean:ah
 d_mean:aH
 f_is_kept:ah
 d_is_kept:aH
 f_fits:ah
 d_fits:aH
 f_push_once:ah
 d_push_once:aH
 f_times_or_ring_along:ah
 d_times_or_ring_along:aH
 f_times_or_ring:ah
 d_times_or_ring:aH
 f_ring_above:ah
 d_ring_above:aH
 f_midway:ah
 d_midway:aH
 f_least_gap:ah
 d_least_gap:aH
 f_greatest_ring:ah
 d_greatest_ring:aH
 f_paper_along:ah
 d_paper_along:aH
 f_least_round:ah
 d_least_round:aH
 f_has_mean:ah
 d_has_mean:aH
 f_holds:ah
 d_holds:aH
 f_law_cell_at:ah
 d_law_cell_at:aH
 f_law_whole:ah
 d_law_whole:aH
 f_law_is_row:ah
 d_law_is_row:aH
 f_law_mixed:ah
 d_law_mixed:aH
 f_law_rank:ah
 d_law_rank:aH
 f_law_arrow:ah
 d_law_arrow:aH
 f_law_big:ah
 d_law_big:aH
 f_law_made:ah
 d_law_made:aH
 f_law_little_less:ah
 d_law_little_less:aH
 f_law_no_ring:ah
 d_law_no_ring:aH
 f_law_lowest:ah
 d_law_lowest:aH
 f_law_is_ring:ah
 d_law_is_ring:aH
 f_law_fit:ah
 d_law_fit:aH
 f_law_right:ah
 d_law_right:aH
 f_law:ah
 d_law:aH
set_option genSizeOf true
set_option genInjectivity true
def BV.ct (a:BV):Nat->ah
 |0=>a.c_Arrow
 |1=>a.c_Ride
 |2=>a.c_Wait
 |3=>a.c_Back
 |4=>a.c_Net
 |_=>0
structure Txt (K:aa)(mg:aQ->Option ae)(a:BV):Prop where
 Arrow:Dc K mg "Arrow" a.c_Arrow
 Ride:Dc K mg "Ride" a.c_Ride
 Wait:Dc K mg "Wait" a.c_Wait
 Back:Dc K mg "Back" a.c_Back
 Net:Dc K mg "Net" a.c_Net
 Arrow___init:Dm K a.c_Arrow "__init__" "Arrow.__init__" yw ["self","start","goal","time","behind"] a.f_Arrow___init a.d_Arrow___init
 Ride___init:Dm K a.c_Ride "__init__" "Ride.__init__" xi ["self","start","goal","time"] a.f_Ride___init a.d_Ride___init
 Wait___init:Dm K a.c_Wait "__init__" "Wait.__init__" yj ["self","start","goal","time","behind"] a.f_Wait___init a.d_Wait___init
 Wait___init_d1:∃nF,True/\bX [(V.int 0)] nF/\bH K a.d_Wait___init ["self","start","goal","time","behind"] nF
 Back___init:Dm K a.c_Back "__init__" "Back.__init__" yk ["self","start","goal","time","behind"] a.f_Back___init a.d_Back___init
 Back___init_d1:∃nF,True/\bX [(V.int 1)] nF/\bH K a.d_Back___init ["self","start","goal","time","behind"] nF
 is_letter:gO K mg "is_letter" wb ["sign"] a.f_is_letter a.d_is_letter
 is_figure:gO K mg "is_figure" wc ["sign"] a.f_is_figure a.d_is_figure
 is_name:gO K mg "is_name" vt ["word"] a.f_is_name a.d_is_name
 are_names:gO K mg "are_names" we ["names"] a.f_are_names a.d_are_names
 lies_within:gO K mg "lies_within" xj ["number","least","most"] a.f_lies_within a.d_lies_within
 is_right:gO K mg "is_right" wu ["arrow","many"] a.f_is_right a.d_is_right
 placed_goings:gO K mg "placed_goings" yo ["many","arrows"] a.f_placed_goings a.d_placed_goings
 ring_back_from:gO K mg "ring_back_from" ye ["arrows","chosen","going"] a.f_ring_back_from a.d_ring_back_from
 Net___init:Dm K a.c_Net "__init__" "Net.__init__" xv ["self","names","arrows"] a.f_Net___init a.d_Net___init
 Net_most_behind:Dm K a.c_Net "most_behind" "Net.most_behind" ya ["self"] a.f_Net_most_behind a.d_Net_most_behind
 common_divisor:gO K mg "common_divisor" yf ["one","other"] a.f_common_divisor a.d_common_divisor
 ratio:gO K mg "ratio" jp ["top","bottom"] a.f_ratio a.d_ratio
 scaled:gO K mg "scaled" uo ["one","whole"] a.f_scaled a.d_scaled
 plus:gO K mg "plus" By ["one","other"] a.f_plus a.d_plus
 minus:gO K mg "minus" jq ["one","other"] a.f_minus a.d_minus
 under:gO K mg "under" jr ["one","other"] a.f_under a.d_under
 is_ring:gO K mg "is_ring" vv ["net","ring"] a.f_is_ring a.d_is_ring
 mean:gO K mg "mean" Bz ["net","ring"] a.f_mean a.d_mean
 is_kept:gO K mg "is_kept" vw ["arrow","pace","times"] a.f_is_kept a.d_is_kept
 fits:gO K mg "fits" BA ["net","pace","times"] a.f_fits a.d_fits
 push_once:gO K mg "push_once" wf ["net","pace","numbers","times","chosen"] a.f_push_once a.d_push_once
 times_or_ring_along:gO K mg "times_or_ring_along" zk ["net","pace","numbers"] a.f_times_or_ring_along a.d_times_or_ring_along
 times_or_ring:gO K mg "times_or_ring" yp ["net","pace"] a.f_times_or_ring a.d_times_or_ring
 ring_above:gO K mg "ring_above" xw ["net","pace","numbers"] a.f_ring_above a.d_ring_above
 midway:gO K mg "midway" uq ["one","other"] a.f_midway a.d_midway
 least_gap:gO K mg "least_gap" wg ["net"] a.f_least_gap a.d_least_gap
 greatest_ring:gO K mg "greatest_ring" yq ["net","numbers"] a.f_greatest_ring a.d_greatest_ring
 paper_along:gO K mg "paper_along" xk ["net","numbers"] a.f_paper_along a.d_paper_along
 least_round:gO K mg "least_round" xm ["net"] a.f_least_round a.d_least_round
 has_mean:gO K mg "has_mean" wv ["net","ring","pace"] a.f_has_mean a.d_has_mean
 holds:gO K mg "holds" jt ["net","paper"] a.f_holds a.d_holds
 law_cell_at:gO K mg "_law_cell_at" xn ["_law_script","_law_k"] a.f_law_cell_at a.d_law_cell_at
 law_whole:gO K mg "_law_whole" wj ["_law_found"] a.f_law_whole a.d_law_whole
 law_is_row:gO K mg "_law_is_row" xx ["_law_cell"] a.f_law_is_row a.d_law_is_row
 law_mixed:gO K mg "_law_mixed" wk ["_law_cell","_law_k"] a.f_law_mixed a.d_law_mixed
 law_rank:gO K mg "_law_rank" ww ["_law_turn","_law_many","_law_going"] a.f_law_rank a.d_law_rank
 law_arrow:gO K mg "_law_arrow" wm ["_law_cell","_law_many","_law_turn"] a.f_law_arrow a.d_law_arrow
 law_big:gO K mg "_law_big" vx ["_law_cell"] a.f_law_big a.d_law_big
 law_made:gO K mg "_law_made" wx ["_law_arrow_here","_law_kind"] a.f_law_made a.d_law_made
 law_little_less:gO K mg "_law_little_less" yb ["_law_beat"] a.f_law_little_less a.d_law_little_less
 law_no_ring:gO K mg "_law_no_ring" xo ["_law_arrows","_law_many"] a.f_law_no_ring a.d_law_no_ring
 law_lowest:gO K mg "_law_lowest" xy ["_law_found"] a.f_law_lowest a.d_law_lowest
 law_is_ring:gO K mg "_law_is_ring" xp ["_law_arrows","_law_ring"] a.f_law_is_ring a.d_law_is_ring
 law_fit:gO K mg "_law_fit" vz ["_law_arrows","_law_beat","_law_times"] a.f_law_fit a.d_law_fit
 law_right:gO K mg "_law_right" wn ["_law_arrows","_law_many","_law_found"] a.f_law_right a.d_law_right
 law:gO K mg "law" AU ["_law_script"] a.f_law a.d_law
 q_Arrow:Dq K a.c_Arrow "__init__" a.f_Arrow___init
 fld_arrows:∀c∈([4]:List Nat),mj K (a.ct c)/\fD K (a.ct c) "arrows"
 fld_behind:∀c∈([0,1,2,3]:List Nat),mj K (a.ct c)/\fD K (a.ct c) "behind"
 fld_goal:∀c∈([0,1,2,3]:List Nat),mj K (a.ct c)/\fD K (a.ct c) "goal"
 fld_names:∀c∈([4]:List Nat),mj K (a.ct c)/\fD K (a.ct c) "names"
 fld_start:∀c∈([0,1,2,3]:List Nat),mj K (a.ct c)/\fD K (a.ct c) "start"
 fld_time:∀c∈([0,1,2,3]:List Nat),mj K (a.ct c)/\fD K (a.ct c) "time"
 isi_Back:∀c∈([0,1,2,3,4]:List Nat),Ic K (a.ct c)/\bO K (.ref (a.ct c)) (.ref a.c_Back)=some (vM [3] c)
 isi_Ride:∀c∈([0,1,2,3,4]:List Nat),Ic K (a.ct c)/\bO K (.ref (a.ct c)) (.ref a.c_Ride)=some (vM [1] c)
 b_abs:mg "abs"=none
 b_all:mg "all"=none
 b_bool:mg "bool"=none
 b_enumerate:mg "enumerate"=none
 b_int:mg "int"=none
 b_isinstance:mg "isinstance"=none
 b_len:mg "len"=none
 b_list:mg "list"=none
 b_max:mg "max"=none
 b_min:mg "min"=none
 b_range:mg "range"=none
 b_reversed:mg "reversed"=none
 b_set:mg "set"=none
 b_str:mg "str"=none
 b_sum:mg "sum"=none
 b_tuple:mg "tuple"=none
 g_MOST_ARROWS:∃t,mg "MOST_ARROWS"=some (.int 120 t)
 g_MOST_BEHIND:∃t,mg "MOST_BEHIND"=some (.int 4 t)
 g_MOST_NAMES:∃t,mg "MOST_NAMES"=some (.int 40 t)
 g_MOST_SIGNS:∃t,mg "MOST_SIGNS"=some (.int 8 t)
 g_MOST_TIME:∃t,mg "MOST_TIME"=some (.int 1000000000 t)
section
variable {P:bB}{w:cj}{K:aa}{mg:aQ->Option ae}{base:aZ}{a:BV}{ct:Nat->ah}
def ji:Nat->List D->Option D:=Ah ["self","start","goal","time","behind"]
  (sSeq (kn [0,1,2,3] "start" (eV 1))
  (sSeq (kn [0,1,2,3] "goal" (eV 2))
  (sSeq (kn [0,1,2,3] "time" (eV 3))
  (kn [0,1,2,3] "behind" (eV 4)))))
theorem qd (T:Txt K mg a):cx P w K mg base ez 1 a.f_Arrow___init a.d_Arrow___init ["self","start","goal","time","behind"] (sJ K a.ct [0,1,2,3] [0,0,0,0] ji):=by
 refine Hm (ms:=[.ow 0,.ow 0,.ow 0,.ow 0]) (rk:=0) T.Arrow___init.fn YN rfl rfl (by decide) (qv (by decide)) λx0 gW A outer s H E hr=>?_
 exact(zf (BO T.fld_start (za 1 0))
  (zf (BO T.fld_goal (za 2 0))
  (zf (BO T.fld_time (za 3 0))
  (zj (BO T.fld_behind (za 4 0))))))
def MP:Nat->List D->Option D:=Ah ["self","start","goal","time"]
  (ox [0,1,2,3] (aCons (eV 1) (aCons (eV 2) (aCons (eV 3) (aCons (eC (.int 0)) aNil)))) ji)
theorem YK (T:Txt K mg a):cx P w K mg base ez 2 a.f_Ride___init a.d_Ride___init ["self","start","goal","time"] (sJ K a.ct [1] [0,0,0] MP):=by
 have eJ:=qd (P:=P) (w:=w) (base:=base) T
 refine Hm (ms:=[.ow 0,.ow 0,.ow 0]) (rk:=0) T.Ride___init.fn YE rfl rfl (by decide) (qv (by decide)) λx0 gW A outer s H E hr=>?_
 exact(zj (Nt (ns:=[0,0,0,0]) eJ (hr.mono (by decide)) T.Arrow.mgx T.q_Arrow.sp T.q_Arrow.rd T.q_Arrow.fc T.Arrow___init.fn.kp T.Arrow___init.bd (by decide) (ze (za 1 0) (ze (za 2 0) (ze (za 3 0) (ze bY zh))))))
def MQ:Nat->List D->Option D:=Ah ["self","start","goal","time","behind"]
  (ox [0,1,2,3] (aCons (eV 1) (aCons (eV 2) (aCons (eV 3) (aCons (eV 4) aNil)))) ji)
theorem YL (T:Txt K mg a):cx P w K mg base ez 2 a.f_Wait___init a.d_Wait___init ["self","start","goal","time","behind"] (sJ K a.ct [2] [0,0,0,0] MQ):=by
 have eJ:=qd (P:=P) (w:=w) (base:=base) T
 refine Hm (ms:=[.ow 0,.ow 0,.ow 0,.ow 0]) (rk:=0) T.Wait___init.fn YF rfl rfl (by decide) (qv (by decide)) λx0 gW A outer s H E hr=>?_
 exact(zj (Nt (ns:=[0,0,0,0]) eJ (hr.mono (by decide)) T.Arrow.mgx T.q_Arrow.sp T.q_Arrow.rd T.q_Arrow.fc T.Arrow___init.fn.kp T.Arrow___init.bd (by decide) (ze (za 1 0) (ze (za 2 0) (ze (za 3 0) (ze (za 4 0) zh))))))
def MR:Nat->List D->Option D:=Ah ["self","start","goal","time","behind"]
  (ox [0,1,2,3] (aCons (eV 1) (aCons (eV 2) (aCons (eV 3) (aCons (eV 4) aNil)))) ji)
theorem YQ (T:Txt K mg a):cx P w K mg base ez 2 a.f_Back___init a.d_Back___init ["self","start","goal","time","behind"] (sJ K a.ct [3] [0,0,0,0] MR):=by
 have eJ:=qd (P:=P) (w:=w) (base:=base) T
 refine Hm (ms:=[.ow 0,.ow 0,.ow 0,.ow 0]) (rk:=0) T.Back___init.fn YG rfl rfl (by decide) (qv (by decide)) λx0 gW A outer s H E hr=>?_
 exact(zj (Nt (ns:=[0,0,0,0]) eJ (hr.mono (by decide)) T.Arrow.mgx T.q_Arrow.sp T.q_Arrow.rd T.q_Arrow.fc T.Arrow___init.fn.kp T.Arrow___init.bd (by decide) (ze (za 1 0) (ze (za 2 0) (ze (za 3 0) (ze (za 4 0) zh))))))
def MW:List D->Option D:=mOf ["sign"]
  (sRet (eB (bAnd (tb (e2 uU (eC (.str "a")) (eV 0))) (tb (e2 uU (eV 0) (eC (.str "z")))))))
theorem Y8 (T:Txt K mg a):cx P w K mg base ez 1 a.f_is_letter a.d_is_letter ["sign"] (fR K a.ct [0] 0 MW):=by
 refine gX (ms:=[.ow 0]) T.is_letter.fn Y5 λ_ _ _ _ _ _ hr=>?_
 exact(zj (zx (XE.ow (j7 (v6 (k:=0) AZ AR (uA (n:=0)) (za 0 0) (bo _)) (j6 (k:=0) (v6 (k:=0) AZ AR (za 0 0) (uA (n:=0)) (bo _)))))))
def Qq:List D->Option D:=mOf ["sign"]
  (sRet (eB (bAnd (tb (e2 uU (eC (.str "0")) (eV 0))) (tb (e2 uU (eV 0) (eC (.str "9")))))))
theorem Y9 (T:Txt K mg a):cx P w K mg base ez 1 a.f_is_figure a.d_is_figure ["sign"] (fR K a.ct [0] 0 Qq):=by
 refine gX (ms:=[.ow 0]) T.is_figure.fn Y6 λ_ _ _ _ _ _ hr=>?_
 exact(zj (zx (XE.ow (j7 (v6 (k:=0) AZ AR (uA (n:=0)) (za 0 0) (bo _)) (j6 (k:=0) (v6 (k:=0) AZ AR (za 0 0) (uA (n:=0)) (bo _)))))))
def Zf:EF:=(d5 (λρ=>((eV 0) ρ).bind Oo) 1 [] (gV 0) e9 (eB (bOr (tb (λρ=>((aCons (eV 0) aNil) ρ).bind λds=>MW (ds++[]))) (tb (λρ=>((aCons (eV 0) aNil) ρ).bind λds=>Qq (ds++[]))))))
def QJ:List D->Option D:=mOf ["word"]
  (sSeq (sIf (bOr (bNot (tb (e1 (iZ "str") (eV 0)))) (bOr (tb (e2 og (eN dg (aCons (eV 0) aNil)) (eC (.int 1)))) (tb (e2 sO (eN dg (aCons (eV 0) aNil)) (eC (.int 8)))))) (sRet (eC (.bl false))) sSkip)
  (sRet (eB (bAnd (tb (λρ=>((aCons (e2 cH (eV 0) (eC (.int 0))) aNil) ρ).bind λds=>MW (ds++[]))) (tb (eN rC (aCons Zf aNil)))))))
theorem Zw (T:Txt K mg a):cx P w K mg base ez 2 a.f_is_name a.d_is_name ["word"] (fR K a.ct [0] 0 QJ):=by
 have kZ:=Y8 (P:=P) (w:=w) (base:=base) T
 have oR:=Y9 (P:=P) (w:=w) (base:=base) T
 refine gX (ms:=[.ow 0]) T.is_name.fn Zv λ_ _ _ _ _ _ hr=>?_
 exact(zf (vg (XW.t (qw (uj (wz (uC (k:=0) (by decide) T.b_isinstance T.b_str Si (za 0 0)))) (qw (yn (k:=0) sy sx (kr T.b_len (ze (za 0 0) zh)) bY (bo _)) (qr (yn (k:=0) A0 AY (kr T.b_len (ze (za 0 0) zh)) (Hy (n:=0) (d:=(.int 8)) rfl T.g_MOST_SIGNS.choose_spec rfl ⟨_,rfl⟩) (bo _)))))) (zj (zx (XE.ow (nP (n:=0))))) yg)
  (zj (zx (XE.ow (j7 (XO.sh (n:=0) (cu T.is_letter kZ hr (ze (fX (za 0 0) bY) zh))) (j6 (k:=0) (vh (k:=0) (M7 rfl) NG rfl T.b_all NO (ze (XO.sh (n:=0) (rR (N:=["sign"]) (om:=[.ow 0]) (cap:=[]) (own:=1) (XI.cc (ztw (n:=0) (za 0 0))) (λ_ _ _ _ _=>(nO (show cD (["sign"]:List aQ)from by decide +kernel))) (λ_ _ _ _ _=>uu) (λ_ _ _ _ _=>(XE.ow (zu1 (XO.sh (n:=0) (cu T.is_letter kZ hr (ze (za 0 0) zh))) (j6 (k:=0) (XO.sh (n:=0) (cu T.is_figure oR hr (ze (za 0 0) zh))))))))) zh))))))))
def Y0:SF:=(sSeq (sIf (bOr (bNot (tb (λρ=>((aCons (eV 2) aNil) ρ).bind λds=>QJ (ds++[])))) (tb (λρ=>((eV 2) ρ).bind λx=>((eV 1) ρ).bind λy=>(hZ y x).bind λr=>some (.bl r.isSome)))) (sRet (eC (.bl false))) sSkip)
  (ko 1 (eV 2) (eC (.bl true))))
def qf:List D->Option D:=mOf ["names","seen","name"]
  (sSeq (sIf (bOr (bNot (tb (e1 (iZ "list") (eV 0)))) (bOr (tb (e2 og (eN dg (aCons (eV 0) aNil)) (eC (.int 1)))) (tb (e2 sO (eN dg (aCons (eV 0) aNil)) (eC (.int 40)))))) (sRet (eC (.bl false))) sSkip)
  (sSeq (sSet 1 (eC (.dK [] [])))
  (sSeq (sFor (lsD (eV 0)) (gV 2) Y0)
  (sRet (eC (.bl true))))))
theorem Za (T:Txt K mg a):cx P w K mg base ez 3 a.f_are_names a.d_are_names ["names"] (fR K a.ct [0] 0 qf):=by
 have rn:=Zw (P:=P) (w:=w) (base:=base) T
 refine gX (ms:=[.ow 0,.ow 1,.ow 0]) T.are_names.fn MM λ_ _ _ _ _ _ hr=>?_
 exact(zf (vg (XW.t (qw (uj (wz (uC (k:=0) (by decide) T.b_isinstance T.b_list AO (za 0 0)))) (qw (yn (k:=0) sy sx (kr T.b_len (ze (za 0 0) zh)) bY (bo _)) (qr (yn (k:=0) A0 AY (kr T.b_len (ze (za 0 0) zh)) (Hy (n:=0) (d:=(.int 40)) rfl T.g_MOST_NAMES.choose_spec rfl ⟨_,rfl⟩) (bo _)))))) (zj (zx (XE.ow (nP (n:=0))))) yg)
  (zf (ek MM.nd Na)
  (zf (sv (Hx (za 0 0)) (lU MM.nd) (zf (vg (XW.t (qw (uj (wz (XO.sh (n:=0) (cu T.is_name rn hr (ze (za 2 0) zh))))) (qr (ztx (wY hr) (za 2 0) (za 1 1) (by with_unfolding_all rfl))))) (zj (zx (XE.ow (nP (n:=0))))) yg)
  (zj (RQ 1 rfl (wY hr) (za 2 0) (nP (n:=0))))) cI.never rfl)
  (zj (zx (XE.ow (nP (n:=0))))))))
def yx:List D->Option D:=mOf ["number","least","most"]
  (sSeq (sIf (bOr (bNot (tb (e1 (iZ "int") (eV 0)))) (tb (e1 (iZ "bool") (eV 0)))) (sRet (eC (.bl false))) sSkip)
  (sRet (eB (bAnd (tb (e2 uU (eV 1) (eV 0))) (tb (e2 uU (eV 0) (eV 2)))))))
theorem YR (T:Txt K mg a):cx P w K mg base ez 1 a.f_lies_within a.d_lies_within ["number","least","most"] (fR K a.ct [0,0,0] 0 yx):=by
 refine gX (ms:=[.ow 0,.ow 0,.ow 0]) T.lies_within.fn YH λ_ _ _ _ _ _ hr=>?_
 exact(zf (vg (XW.t (qw (uj (wz (uC (k:=0) (by decide) T.b_isinstance T.b_int Sh (za 0 0)))) (qr (wz (uC (k:=0) (by decide) T.b_isinstance T.b_bool RB (za 0 0)))))) (zj (zx (XE.ow (nP (n:=0))))) yg)
  (zj (zx (XE.ow (j7 (v6 (k:=0) AZ AR (za 1 0) (za 0 0) (bo _)) (j6 (k:=0) (v6 (k:=0) AZ AR (za 0 0) (za 2 0) (bo _))))))))
def I0:List D->Option D:=mOf ["arrow","many","least","most"]
  (sSeq (sSet 2 (eIf (tb (e1 (sX [0,1,2,3,4] [3]) (eV 0))) (eC (.int 1)) (eC (.int 0))))
  (sSeq (sSet 3 (eIf (tb (e1 (sX [0,1,2,3,4] [1]) (eV 0))) (eC (.int 0)) (eC (.int 4))))
  (sSeq (sIf (bOr (bNot (tb (λρ=>((aCons (e1 (cV [0,1,2,3] "start") (eV 0)) (aCons (eC (.int 0)) (aCons (e2 oz (eV 1) (eC (.int 1))) aNil))) ρ).bind λds=>yx (ds++[])))) (bNot (tb (λρ=>((aCons (e1 (cV [0,1,2,3] "goal") (eV 0)) (aCons (eC (.int 0)) (aCons (e2 oz (eV 1) (eC (.int 1))) aNil))) ρ).bind λds=>yx (ds++[]))))) (sRet (eC (.bl false))) sSkip)
  (sRet (eB (bAnd (tb (λρ=>((aCons (e1 (cV [0,1,2,3] "time") (eV 0)) (aCons (eC (.int 0)) (aCons (eC (.int 1000000000)) aNil))) ρ).bind λds=>yx (ds++[]))) (tb (λρ=>((aCons (e1 (cV [0,1,2,3] "behind") (eV 0)) (aCons (eV 2) (aCons (eV 3) aNil))) ρ).bind λds=>yx (ds++[])))))))))
theorem Zg (T:Txt K mg a):cx P w K mg base ez 2 a.f_is_right a.d_is_right ["arrow","many"] (fR K a.ct [0,0] 0 I0):=by
 have fW:=YR (P:=P) (w:=w) (base:=base) T
 refine gX (ms:=[.ow 0,.ow 0,.ow 0,.ow 0]) T.is_right.fn MV λ_ _ _ _ _ _ hr=>?_
 exact(zf (ek MV.nd (XE.ow (SG (wz (RT (k:=0) T.isi_Back T.b_isinstance T.Back.mgx (za 0 0))) bY bY)))
  (zf (ek MV.nd (XE.ow (SG (wz (RT (k:=0) T.isi_Ride T.b_isinstance T.Ride.mgx (za 0 0))) bY (Hy (n:=0) (d:=(.int 4)) rfl T.g_MOST_BEHIND.choose_spec rfl ⟨_,rfl⟩))))
  (zf (vg (XW.t (qw (uj (wz (XO.sh (n:=0) (cu T.lies_within fW hr (ze (xg (n:=0) (za 0 0) T.fld_start rfl) (ze bY (ze (zy (k:=0) AX AQ (za 1 0) bY) zh))))))) (qr (uj (wz (XO.sh (n:=0) (cu T.lies_within fW hr (ze (xg (n:=0) (za 0 0) T.fld_goal rfl) (ze bY (ze (zy (k:=0) AX AQ (za 1 0) bY) zh)))))))))) (zj (zx (XE.ow (nP (n:=0))))) yg)
  (zj (zx (XE.ow (j7 (XO.sh (n:=0) (cu T.lies_within fW hr (ze (xg (n:=0) (za 0 0) T.fld_time rfl) (ze bY (ze (Hy (n:=0) (d:=(.int 1000000000)) rfl T.g_MOST_TIME.choose_spec rfl ⟨_,rfl⟩) zh))))) (j6 (k:=0) (XO.sh (n:=0) (cu T.lies_within fW hr (ze (xg (n:=0) (za 0 0) T.fld_behind rfl) (ze (za 2 0) (ze (za 3 0) zh)))))))))))))
def vm:SF:=(sIf (tb (e2 (eK false) (e1 (cV [0,1,2,3] "start") (eV 4)) (eV 7))) (sSeq (o6 3 (e1 (cV [0,1,2,3] "goal") (eV 4)) (λi j=>i-j) (eC (.int 1)))
  (sIf (tb (e2 (eK false) (e2 cH (eV 3) (e1 (cV [0,1,2,3] "goal") (eV 4))) (eC (.int 0)))) (sApp 5 (e1 (cV [0,1,2,3] "goal") (eV 4))) sSkip)) sSkip)
def jd:SF:=(sSeq (sSet 7 (e2 cH (eV 5) (eV 6)))
  (sSeq (sFor (lsD (eV 2)) (gV 4) vm)
  (AF 6 (i2 λi j=>.int (i+j)) (eC (.int 1)))))
def P6:EF:=(d5 (λρ=>((aCons (eV 0) aNil) ρ).bind iE) 1 [3] (gV 0) (tb (e2 (eK false) (e2 cH (eV 1) (eV 0)) (eC (.int 0)))) (eV 0))
def je:SF:=(o6 3 (e1 (cV [0,1,2,3] "goal") (eV 4)) (λi j=>i+j) (eC (.int 1)))
def P7:EF:=(d5 (lsD (eV 1)) 1 [] (gV 0) (tb (e2 (eK false) (e1 (cV [0,1,2,3] "behind") (eV 0)) (eC (.int 0)))) (eV 0))
def v9:List D->Option D:=mOf ["many","arrows","within","waited","arrow","placed","done","here"]
  (sSeq (sSet 2 P7)
  (sSeq (sSet 3 (e2 p9 (λρ=>((aCons (eC (.int 0)) aNil) ρ).bind λds=>some (.lst ds)) (eV 0)))
  (sSeq (sFor (lsD (eV 2)) (gV 4) je)
  (sSeq (sSet 5 P6)
  (sSeq (sSet 6 (eC (.int 0)))
  (sSeq (fV (tb (e2 og (eV 6) (eN dg (aCons (eV 5) aNil)))) jd)
  (sRet (eV 5))))))))
theorem YB (T:Txt K mg a):cx P w K mg base ez 1 a.f_placed_goings a.d_placed_goings ["many","arrows"] (fR K a.ct [0,0] 0 v9):=by
 refine gX (ms:=[.ow 0,.ow 0,.ow 0,.ow 1,.ow 0,.ow 1,.ow 0,.ow 0]) T.placed_goings.fn xq λ_ _ _ _ _ _ hr=>?_
 exact(zf (jc (k:=0) (N:=["arrow"]) (om:=[.ow 0]) (cap:=[]) (own:=1) rfl xq.nd rfl (Or.inl rfl) (wX (by rfl)) rfl rfl (by decide) (vc (n:=0) (za 1 0)) (λ_ _ _ _ _=>(nO (show cD (["arrow"]:List aQ)from by decide +kernel))) (λ_ _ _ _ _=>(Hw (yn (k:=0) (vf hr.u64) x6 (xg (n:=0) (za 0 0) T.fld_behind rfl) bY (bo _)))) (λ_ _ _ _ _=>(XE.ow (za 0 0))))
  (zf (ek xq.nd (So (uB (k:=0) (yr (XE.ow bY) wt)) (za 0 0)))
  (zf (sv (Hx (za 2 0)) (lU xq.nd) (zj (RR 3 Sb rfl (xg (n:=0) (za 4 0) T.fld_goal rfl) bY)) cI.never rfl)
  (zf (jc (k:=1) (N:=["going","waited"]) (om:=[.ow 0]) (cap:=[3]) (own:=1) rfl xq.nd rfl (Or.inl rfl) (wX (by rfl)) rfl rfl (by decide) (XI.cc (jk (n:=0) T.b_range (ze (za 0 0) zh))) (λ_ _ _ _ _=>(nO (show cD (["going","waited"]:List aQ)from by decide +kernel))) (λ_ _ _ _ _=>(Hw (yn (k:=0) (vf hr.u64) x6 (uk (n:=1) xu wo (za 1 1) (za 0 0) (λ_ _=>rfl)) bY (bo _)))) (λ_ _ _ _ _=>(XE.ow (za 0 0))))
  (zf (ek xq.nd (XE.ow bY))
  (zf (BB (yn (k:=0) sy sx (za 6 0) (kr T.b_len (ze (za 5 1) zh)) (bo _)) (zf (ek xq.nd (XE.ow (uk (n:=1) xu wo (za 5 1) (za 6 0) (λ_ _=>rfl))))
  (zf (sv (Hx (za 2 0)) (lU xq.nd) (zj (vg (yn (k:=0) (vf hr.u64) x6 (xg (n:=0) (za 4 0) T.fld_start rfl) (za 7 0) (bo _)) (zf (RR 3 zsy rfl (xg (n:=0) (za 4 0) T.fld_goal rfl) bY)
  (zj (vg (yn (k:=0) (vf hr.u64) x6 (uk (n:=1) xu wo (za 3 1) (xg (n:=0) (za 4 0) T.fld_goal rfl) (λ_ _=>rfl)) bY (bo _)) (zj (IW 5 rfl (XE.ow (xg (n:=0) (za 4 0) T.fld_goal rfl)))) yg))) yg)) cI.never rfl)
  (zj (ztp Sb rfl xq.nd rfl (Or.inl rfl) bY)))) cI.never)
  (zj (zrf (i:=5) rfl))))))))
def u7:SF:=(sSeq (ko 4 (eV 3) (eN dg (aCons (eV 5) aNil)))
  (sSeq (sApp 5 (λρ=>((eV 1) ρ).bind λx=>((eV 3) ρ).bind λy=>(hZ x y).join))
  (sSet 3 (e1 (cV [0,1,2,3] "start") (e2 cH (eV 0) (λρ=>((eV 1) ρ).bind λx=>((eV 3) ρ).bind λy=>(hZ x y).join))))))
def ur:List D->Option D:=mOf ["arrows","chosen","going","here","seen","way"]
  (sSeq (sSet 3 (eV 2))
  (sSeq (sSet 4 (eC (.dK [] [])))
  (sSeq (sSet 5 (λρ=>(aNil ρ).bind λds=>some (.lst ds)))
  (sSeq (fV (tb (λρ=>((eV 3) ρ).bind λx=>((eV 4) ρ).bind λy=>(hZ y x).bind λr=>some (.bl (!r.isSome)))) u7)
  (sRet (e1 sZ (λρ=>((eV 5) ρ).bind λd=>((pInt (λρ=>((eV 4) ρ).bind λx=>((eV 3) ρ).bind λy=>(hZ x y).join)) ρ).bind λl=>(pNo ρ).bind λh=>jP d l h)))))))
theorem Yy (T:Txt K mg a):cx P w K mg base ez 1 a.f_ring_back_from a.d_ring_back_from ["arrows","chosen","going"] (fR K a.ct [0,0,0] 1 ur):=by
 refine gX (ms:=[.ow 0,.ow 0,.ow 0,.ow 0,.ow 1,.ow 1]) T.ring_back_from.fn vk λ_ _ _ _ _ _ hr=>?_
 exact(zf (ek vk.nd (XE.ow (za 2 0)))
  (zf (ek vk.nd Na)
  (zf (ek vk.nd (uB (k:=0) wt))
  (zf (BB (zlw (wY hr) (za 3 0) (za 4 1) (by with_unfolding_all rfl)) (zf (RQ 4 rfl (wY hr) (za 3 0) (kr T.b_len (ze (za 5 1) zh)))
  (zf (IW 5 rfl (XE.ow (NX (wY hr) (za 1 0) (za 3 0) (λ_ _=>rfl))))
  (zj (ek vk.nd (XE.ow (xg (n:=0) (fX (za 0 0) (NX (wY hr) (za 1 0) (za 3 0) (λ_ _=>rfl))) T.fld_start rfl)))))) cI.never)
  (zj (zx (zrj (n:=0) (by decide) rfl rfl T.b_list rfl T.b_reversed (XO.sh (n:=0) (Jf (n:=1) (by decide) (za 5 1) (Hz (NX (wY hr) (za 4 1) (za 3 0) (λ_ _=>rfl))) N9)))))))))
def qy:SF:=(sIf (bNot (tb (λρ=>((aCons (eV 4) (aCons (eN dg (aCons (eV 1) aNil)) aNil)) ρ).bind λds=>I0 (ds++[])))) oy sSkip)
def jl:Nat->List D->Option D:=Ah ["self","names","arrows","number","arrow","placed"]
  (sSeq (sIf (bOr (bNot (tb (λρ=>((aCons (eV 1) aNil) ρ).bind λds=>qf (ds++[])))) (tb (e2 sO (eN dg (aCons (eV 2) aNil)) (eC (.int 120))))) oy sSkip)
  (sSeq (sFor (λρ=>((aCons (eV 2) aNil) ρ).bind λds=>match ds with|[.lst xs]=>some (iW 0 xs)|_=>none) (gT (gsCons (gV 3) (gsCons (gV 4) gsNil))) qy)
  (sSeq (sSet 5 (λρ=>((aCons (eN dg (aCons (eV 1) aNil)) (aCons (eV 2) aNil)) ρ).bind λds=>v9 (ds++[])))
  (sSeq (sIf (tb (e2 og (eN dg (aCons (eV 5) aNil)) (eN dg (aCons (eV 1) aNil)))) oy sSkip)
  (sSeq (kn [4] "names" (eN nI (aCons (eV 1) aNil)))
  (kn [4] "arrows" (eN nI (aCons (eV 2) aNil))))))))
theorem Y1 (T:Txt K mg a):cx P w K mg base ez 4 a.f_Net___init a.d_Net___init ["self","names","arrows"] (sJ K a.ct [4] [0,0] jl):=by
 have oQ:=Za (P:=P) (w:=w) (base:=base) T
 have pR:=Zg (P:=P) (w:=w) (base:=base) T
 have lJ:=YB (P:=P) (w:=w) (base:=base) T
 refine Hm (ms:=[.ow 0,.ow 0,.ow 0,.ow 0,.ow 0]) (rk:=0) T.Net___init.fn ju rfl rfl (by decide) (qv (by decide)) λx0 gW A outer s H E hr=>?_
 exact(zf (vg (XW.t (qw (uj (wz (XO.sh (n:=0) (cu T.are_names oQ hr (ze (za 1 0) zh))))) (qr (yn (k:=0) A0 AY (kr T.b_len (ze (za 2 0) zh)) (Hy (n:=0) (d:=(.int 120)) rfl T.g_MOST_ARROWS.choose_spec rfl ⟨_,rfl⟩) (bo _))))) (zj Nc) yg)
  (zf (sv (zqw T.b_enumerate (ze (za 2 0) zh)) (BM (n:=1) rfl (w9 (lU ju.nd) (w9 (lU ju.nd) BG))) (zj (vg (uj (wz (XO.sh (n:=0) (cu T.is_right pR hr (ze (za 4 0) (ze (kr T.b_len (ze (za 1 0) zh)) zh)))))) (zj Nc) yg)) cI.never rfl)
  (zf (ek ju.nd (cu T.placed_goings lJ hr (ze (kr T.b_len (ze (za 1 0) zh)) (ze (za 2 0) zh))))
  (zf (vg (yn (k:=0) sy sx (kr T.b_len (ze (za 5 0) zh)) (kr T.b_len (ze (za 1 0) zh)) (bo _)) (zj Nc) yg)
  (zf (BO T.fld_names (XO.sh (n:=0) (QS Qd (Q8 (n:=0) (by decide)) rfl T.b_list AO (ze (za 1 0) zh))))
  (zj (BO T.fld_arrows (XO.sh (n:=0) (QS Qd (Q8 (n:=0) (by decide)) rfl T.b_list AO (ze (za 2 0) zh))))))))))
def qh:EF:=(d5 (lsD (e1 (cV [4] "arrows") (eV 0))) 1 [] (gV 0) e9 (e1 (cV [0,1,2,3] "behind") (eV 0)))
def yy:List D->Option D:=mOf ["self"]
  (sRet (eN tf (aCons (e2 ej (λρ=>((aCons (eC (.int 1)) aNil) ρ).bind λds=>some (.lst ds)) qh) aNil)))
theorem Yw (T:Txt K mg a):cx P w K mg base ez 1 a.f_Net_most_behind a.d_Net_most_behind ["self"] (fR K a.ct [0] 0 yy):=by
 refine gX (ms:=[.ow 0]) T.Net_most_behind.fn Yv λ_ _ _ _ _ _ hr=>?_
 exact(zj (zx (XE.ow (vh (k:=0) (QZ rfl) RP rfl T.b_max Sk (ze (XO.sh (n:=0) (mH (XO.sh (n:=0) (uB (k:=0) (yr (XE.ow bY) wt))) (XO.sh (n:=0) (rR (N:=["arrow"]) (om:=[.ow 0]) (cap:=[]) (own:=1) (vc (n:=0) (xg (n:=0) (za 0 0) T.fld_arrows rfl)) (λ_ _ _ _ _=>(nO (show cD (["arrow"]:List aQ)from by decide +kernel))) (λ_ _ _ _ _=>uu) (λ_ _ _ _ _=>(XE.ow (xg (n:=0) (za 0 0) T.fld_behind rfl))))))) zh)))))
def u8:SF:=(sSeq (sSet 2 (e2 cX (eV 0) (eV 1)))
  (sSeq (sSet 0 (eV 1))
  (sSet 1 (eV 2))))
def ut:List D->Option D:=mOf ["one","other","rest"]
  (sSeq (fV (tb (e2 (eK true) (eV 1) (eC (.int 0)))) u8)
  (sRet (eN oV (aCons (eV 0) aNil))))
theorem Yz (T:Txt K mg a):cx P w K mg base ez 1 a.f_common_divisor a.d_common_divisor ["one","other"] (fR K a.ct [0,0] 0 ut):=by
 refine gX (ms:=[.ow 0,.ow 0,.ow 0]) T.common_divisor.fn ue λ_ _ _ _ _ _ hr=>?_
 exact(zf (BB (yn (k:=0) (vJ hr.u64) x6 (za 1 0) bY (bo _)) (zf (ek ue.nd (XE.ow (zy (k:=0) yz xf (za 0 0) (za 1 0))))
  (zf (ek ue.nd (XE.ow (za 1 0)))
  (zj (ek ue.nd (XE.ow (za 2 0)))))) cI.never)
  (zj (zx (XE.ow (vh (k:=0) Jb Jt rfl T.b_abs JD (ze (za 0 0) zh))))))
def vH:List D->Option D:=mOf ["top","bottom","divisor"]
  (sSeq (sSet 2 (λρ=>((aCons (eV 0) (aCons (eV 1) aNil)) ρ).bind λds=>ut (ds++[])))
  (sSeq (sIf (tb (e2 og (eV 1) (eC (.int 0)))) (sSet 2 (e1 p6 (eV 2))) sSkip)
  (sRet (λρ=>((aCons (e2 ed (eV 0) (eV 2)) (aCons (e2 ed (eV 1) (eV 2)) aNil)) ρ).bind λds=>some (.tup ds)))))
theorem BC (T:Txt K mg a):cx P w K mg base ez 2 a.f_ratio a.d_ratio ["top","bottom"] (fR K a.ct [0,0] 0 vH):=by
 have kE:=Yz (P:=P) (w:=w) (base:=base) T
 refine gX (ms:=[.ow 0,.ow 0,.ow 0]) T.ratio.fn Nl λ_ _ _ _ _ _ hr=>?_
 exact(zf (ek Nl.nd (cu T.common_divisor kE hr (ze (za 0 0) (ze (za 1 0) zh))))
  (zf (vg (yn (k:=0) sy sx (za 1 0) bY (bo _)) (zj (ek Nl.nd (XE.ow (HE (k:=0) (za 2 0))))) yg)
  (zj (zx (nZ (tP (yr (XE.ow (zy (k:=0) wy vb (za 0 0) (za 2 0))) (yr (XE.ow (zy (k:=0) wy vb (za 1 0) (za 2 0))) wt))))))))
def Hr:List D->Option D:=mOf ["one","whole"]
  (sRet (λρ=>((aCons (e2 cT (e2 cH (eV 0) (eC (.int 0))) (eV 1)) (aCons (e2 cH (eV 0) (eC (.int 1))) aNil)) ρ).bind λds=>vH (ds++[])))
theorem QK (T:Txt K mg a):cx P w K mg base ez 3 a.f_scaled a.d_scaled ["one","whole"] (fR K a.ct [1,0] 0 Hr):=by
 have fC:=BC (P:=P) (w:=w) (base:=base) T
 refine gX (ms:=[.al 1,.ow 0]) T.scaled.fn zl7 λ_ _ _ _ _ _ hr=>?_
 exact(zj (zx (cu T.ratio fC hr (ze (zy (k:=0) xr yh (uk (n:=1) xu wo (za 0 1) bY (λ_ _=>rfl)) (za 1 0)) (ze (uk (n:=1) xu wo (za 0 1) bY (λ_ _=>rfl)) zh)))))
def zev:List D->Option D:=mOf ["one","other"]
  (sRet (λρ=>((aCons (e2 ej (e2 cT (e2 cH (eV 0) (eC (.int 0))) (e2 cH (eV 1) (eC (.int 1)))) (e2 cT (e2 cH (eV 1) (eC (.int 0))) (e2 cH (eV 0) (eC (.int 1))))) (aCons (e2 cT (e2 cH (eV 0) (eC (.int 1))) (e2 cH (eV 1) (eC (.int 1)))) aNil)) ρ).bind λds=>vH (ds++[])))
theorem Nx (T:Txt K mg a):cx P w K mg base ez 3 a.f_plus a.d_plus ["one","other"] (fR K a.ct [0,0] 0 zev):=by
 have fC:=BC (P:=P) (w:=w) (base:=base) T
 refine gX (ms:=[.ow 0,.ow 0]) T.plus.fn zrq λ_ _ _ _ _ _ hr=>?_
 exact(zj (zx (cu T.ratio fC hr (ze (XO.sh (n:=0) (mH (zy (k:=0) xr yh (fX (za 0 0) bY) (fX (za 1 0) bY)) (zy (k:=0) xr yh (fX (za 1 0) bY) (fX (za 0 0) bY)))) (ze (zy (k:=0) xr yh (fX (za 0 0) bY) (fX (za 1 0) bY)) zh)))))
def AV:List D->Option D:=mOf ["one","other"]
  (sRet (λρ=>((aCons (eV 0) (aCons (λρ=>((aCons (eV 1) (aCons (e1 p6 (eC (.int 1))) aNil)) ρ).bind λds=>Hr (ds++[])) aNil)) ρ).bind λds=>zev (ds++[])))
theorem Rf (T:Txt K mg a):cx P w K mg base ez 4 a.f_minus a.d_minus ["one","other"] (fR K a.ct [0,0] 0 AV):=by
 have mm:=Nx (P:=P) (w:=w) (base:=base) T
 have mq:=QK (P:=P) (w:=w) (base:=base) T
 refine gX (ms:=[.ow 0,.ow 0]) T.minus.fn zoi λ_ _ _ _ _ _ hr=>?_
 exact(zj (zx (cu T.plus mm hr (ze (za 0 0) (ze (XO.sh (n:=0) (cu T.scaled mq hr (ze (XE.up (za 1 0) (by decide:0<=1)) (ze (HE (k:=0) bY) zh)))) zh)))))
def AW:List D->Option D:=mOf ["one","other"]
  (sRet (e2 og (e2 cT (e2 cH (eV 0) (eC (.int 0))) (e2 cH (eV 1) (eC (.int 1)))) (e2 cT (e2 cH (eV 1) (eC (.int 0))) (e2 cH (eV 0) (eC (.int 1))))))
theorem Rg (T:Txt K mg a):cx P w K mg base ez 1 a.f_under a.d_under ["one","other"] (fR K a.ct [0,0] 0 AW):=by
 refine gX (ms:=[.ow 0,.ow 0]) T.under.fn zoj λ_ _ _ _ _ _ hr=>?_
 exact(zj (zx (XE.ow (v6 (k:=0) sy sx (zy (k:=0) xr yh (fX (za 0 0) bY) (fX (za 1 0) bY)) (zy (k:=0) xr yh (fX (za 1 0) bY) (fX (za 0 0) bY)) (bo _)))))
def Qr:EF:=(d5 (lsD (eV 1)) 1 [0] (gV 0) e9 (e1 (cV [0,1,2,3] "goal") (e2 cH (e1 (cV [4] "arrows") (eV 1)) (eV 0))))
def Qs:EF:=(d5 (lsD (eV 1)) 1 [0] (gV 0) e9 (e1 (cV [0,1,2,3] "start") (e2 cH (e1 (cV [4] "arrows") (eV 1)) (eV 0))))
def qj:List D->Option D:=mOf ["net","ring","starts","goals"]
  (sSeq (sIf (bOr (tb (e2 (eK false) (eN dg (aCons (eV 1) aNil)) (eC (.int 0)))) (bOr (tb (e2 og (eN Aq (aCons (eV 1) aNil)) (eC (.int 0)))) (tb (e2 vU (eN tf (aCons (eV 1) aNil)) (eN dg (aCons (e1 (cV [4] "arrows") (eV 0)) aNil)))))) (sRet (eC (.bl false))) sSkip)
  (sSeq (sSet 2 Qs)
  (sSeq (sSet 3 Qr)
  (sRet (eB (bAnd (tb (e2 (eK false) (eV 2) (e2 ej (λρ=>((eV 3) ρ).bind λd=>((pInt (e1 p6 (eC (.int 1)))) ρ).bind λl=>(pNo ρ).bind λh=>jP d l h) (λρ=>((eV 3) ρ).bind λd=>(pNo ρ).bind λl=>((pInt (e1 p6 (eC (.int 1)))) ρ).bind λh=>jP d l h)))) (tb (e2 (eK false) (e1 oe (eV 3)) (eN dg (aCons (eV 3) aNil))))))))))
theorem Zx (T:Txt K mg a):cx P w K mg base ez 1 a.f_is_ring a.d_is_ring ["net","ring"] (fR K a.ct [0,1] 0 qj):=by
 refine gX (ms:=[.ow 0,.al 1,.ow 0,.ow 0]) T.is_ring.fn M1 λ_ _ _ _ _ _ hr=>?_
 exact(zf (vg (XW.t (qw (yn (k:=0) (vf hr.u64) x6 (kr T.b_len (ze (za 1 1) zh)) bY (bo _)) (qw (yn (k:=0) sy sx (vh (k:=0) (zlo rfl) zra rfl T.b_min ztg (ze (za 1 1) zh)) bY (bo _)) (qr (yn (k:=0) JI JG (vh (k:=0) (QZ rfl) RP rfl T.b_max Sk (ze (za 1 1) zh)) (kr T.b_len (ze (xg (n:=0) (za 0 0) T.fld_arrows rfl) zh)) (bo _)))))) (zj (zx (XE.ow (nP (n:=0))))) yg)
  (zf (jc (k:=0) (N:=["number","net"]) (om:=[.ow 0]) (cap:=[0]) (own:=1) rfl M1.nd rfl (Or.inl rfl) (wX (by rfl)) rfl rfl (by decide) (vc (n:=1) (za 1 1)) (λ_ _ _ _ _=>(nO (show cD (["number","net"]:List aQ)from by decide +kernel))) (λ_ _ _ _ _=>uu) (λ_ _ _ _ _=>(XE.ow (xg (n:=0) (fX (xg (n:=0) (za 1 0) T.fld_arrows rfl) (za 0 0)) T.fld_start rfl))))
  (zf (jc (k:=0) (N:=["number","net"]) (om:=[.ow 0]) (cap:=[0]) (own:=1) rfl M1.nd rfl (Or.inl rfl) (wX (by rfl)) rfl rfl (by decide) (vc (n:=1) (za 1 1)) (λ_ _ _ _ _=>(nO (show cD (["number","net"]:List aQ)from by decide +kernel))) (λ_ _ _ _ _=>uu) (λ_ _ _ _ _=>(XE.ow (xg (n:=0) (fX (xg (n:=0) (za 1 0) T.fld_arrows rfl) (za 0 0)) T.fld_goal rfl))))
  (zj (zx (XE.ow (j7 (v6 (k:=0) (vf hr.u64) x6 (za 2 0) (XO.sh (n:=0) (mH (XO.sh (n:=0) (Jf (n:=0) (by decide) (za 3 0) (Hz (HE (k:=0) bY)) N9)) (XO.sh (n:=0) (Jf (n:=0) (by decide) (za 3 0) N9 (Hz (HE (k:=0) bY)))))) (bo _)) (j6 (k:=0) (v6 (k:=0) (vf hr.u64) x6 (zl2 (k:=0) rfl rfl T.b_len rfl T.b_set (za 3 0)) (kr T.b_len (ze (za 3 0) zh)) (bo _))))))))))
def Nm:EF:=(d5 (lsD (eV 1)) 1 [0] (gV 0) e9 (e1 (cV [0,1,2,3] "behind") (e2 cH (e1 (cV [4] "arrows") (eV 1)) (eV 0))))
def Nn:EF:=(d5 (lsD (eV 1)) 1 [0] (gV 0) e9 (e1 (cV [0,1,2,3] "time") (e2 cH (e1 (cV [4] "arrows") (eV 1)) (eV 0))))
def uD:List D->Option D:=mOf ["net","ring","times","behinds"]
  (sSeq (sSet 2 (eN oA (aCons Nn aNil)))
  (sSeq (sSet 3 (eN oA (aCons Nm aNil)))
  (sRet (λρ=>((aCons (eV 2) (aCons (eV 3) aNil)) ρ).bind λds=>vH (ds++[])))))
theorem Ny (T:Txt K mg a):cx P w K mg base ez 3 a.f_mean a.d_mean ["net","ring"] (fR K a.ct [0,1] 0 uD):=by
 have fC:=BC (P:=P) (w:=w) (base:=base) T
 refine gX (ms:=[.ow 0,.al 1,.ow 0,.ow 0]) T.mean.fn Nw λ_ _ _ _ _ _ hr=>?_
 exact(zf (ek Nw.nd (XE.ow (vh (k:=0) (Hl rfl) HA rfl T.b_sum HD (ze (XO.sh (n:=0) (rR (N:=["number","net"]) (om:=[.ow 0]) (cap:=[0]) (own:=1) (vc (n:=1) (za 1 1)) (λ_ _ _ _ _=>(nO (show cD (["number","net"]:List aQ)from by decide +kernel))) (λ_ _ _ _ _=>uu) (λ_ _ _ _ _=>(XE.ow (xg (n:=0) (fX (xg (n:=0) (za 1 0) T.fld_arrows rfl) (za 0 0)) T.fld_time rfl))))) zh))))
  (zf (ek Nw.nd (XE.ow (vh (k:=0) (Hl rfl) HA rfl T.b_sum HD (ze (XO.sh (n:=0) (rR (N:=["number","net"]) (om:=[.ow 0]) (cap:=[0]) (own:=1) (vc (n:=1) (za 1 1)) (λ_ _ _ _ _=>(nO (show cD (["number","net"]:List aQ)from by decide +kernel))) (λ_ _ _ _ _=>uu) (λ_ _ _ _ _=>(XE.ow (xg (n:=0) (fX (xg (n:=0) (za 1 0) T.fld_arrows rfl) (za 0 0)) T.fld_behind rfl))))) zh))))
  (zj (zx (cu T.ratio fC hr (ze (za 2 0) (ze (za 3 0) zh)))))))
def IX:List D->Option D:=mOf ["arrow","pace","times","earliest"]
  (sSeq (sSet 3 (λρ=>((aCons (λρ=>((aCons (e2 cH (eV 2) (e1 (cV [0,1,2,3] "start") (eV 0))) (aCons (λρ=>((aCons (e1 (cV [0,1,2,3] "time") (eV 0)) (aCons (eC (.int 1)) aNil)) ρ).bind λds=>some (.tup ds)) aNil)) ρ).bind λds=>zev (ds++[])) (aCons (λρ=>((aCons (eV 1) (aCons (e1 (cV [0,1,2,3] "behind") (eV 0)) aNil)) ρ).bind λds=>Hr (ds++[])) aNil)) ρ).bind λds=>AV (ds++[])))
  (sRet (eB (bNot (tb (λρ=>((aCons (e2 cH (eV 2) (e1 (cV [0,1,2,3] "goal") (eV 0))) (aCons (eV 3) aNil)) ρ).bind λds=>AW (ds++[])))))))
theorem Zy (T:Txt K mg a):cx P w K mg base ez 5 a.f_is_kept a.d_is_kept ["arrow","pace","times"] (fR K a.ct [0,1,1] 0 IX):=by
 have nW:=Rf (P:=P) (w:=w) (base:=base) T
 have mm:=Nx (P:=P) (w:=w) (base:=base) T
 have mq:=QK (P:=P) (w:=w) (base:=base) T
 have nX:=Rg (P:=P) (w:=w) (base:=base) T
 refine gX (ms:=[.ow 0,.al 1,.al 1,.ow 0]) T.is_kept.fn QA λ_ _ _ _ _ _ hr=>?_
 exact(zf (ek QA.nd (cu T.minus nW hr (ze (XO.sh (n:=0) (cu T.plus mm hr (ze (uk (n:=1) xu wo (za 2 1) (xg (n:=0) (za 0 0) T.fld_start rfl) (λ_ _=>rfl)) (ze (XO.sh (n:=0) (tP (yr (XE.ow (xg (n:=0) (za 0 0) T.fld_time rfl)) (yr (XE.ow bY) wt)))) zh)))) (ze (XO.sh (n:=0) (cu T.scaled mq hr (ze (za 1 1) (ze (xg (n:=0) (za 0 0) T.fld_behind rfl) zh)))) zh))))
  (zj (zx (XE.ow (Sm (k:=0) (XO.sh (n:=0) (cu T.under nX hr (ze (uk (n:=1) xu wo (za 2 1) (xg (n:=0) (za 0 0) T.fld_goal rfl) (λ_ _=>rfl)) (ze (za 3 0) zh)))))))))
def Np:EF:=(d5 (lsD (e1 (cV [4] "arrows") (eV 0))) 1 [1,2] (gV 0) e9 (λρ=>((aCons (eV 0) (aCons (eV 1) (aCons (eV 2) aNil))) ρ).bind λds=>IX (ds++[])))
def HB:List D->Option D:=mOf ["net","pace","times"]
  (sSeq (sIf (tb (e2 (eK true) (eN dg (aCons (eV 2) aNil)) (eN dg (aCons (e1 (cV [4] "names") (eV 0)) aNil)))) (sRet (eC (.bl false))) sSkip)
  (sRet (eN rC (aCons Np aNil))))
theorem zrs (T:Txt K mg a):cx P w K mg base ez 6 a.f_fits a.d_fits ["net","pace","times"] (fR K a.ct [0,1,1] 0 HB):=by
 have rj:=Zy (P:=P) (w:=w) (base:=base) T
 refine gX (ms:=[.ow 0,.al 1,.al 1]) T.fits.fn zrr λ_ _ _ _ _ _ hr=>?_
 exact(zf (vg (yn (k:=0) (vJ hr.u64) x6 (kr T.b_len (ze (za 2 1) zh)) (kr T.b_len (ze (xg (n:=0) (za 0 0) T.fld_names rfl) zh)) (bo _)) (zj (zx (XE.ow (nP (n:=0))))) yg)
  (zj (zx (XE.ow (vh (k:=0) (M7 rfl) NG rfl T.b_all NO (ze (XO.sh (n:=0) (rR (N:=["arrow","pace","times"]) (om:=[.ow 0]) (cap:=[1,2]) (own:=1) (vc (n:=0) (xg (n:=0) (za 0 0) T.fld_arrows rfl)) (λ_ _ _ _ _=>(nO (show cD (["arrow","pace","times"]:List aQ)from by decide +kernel))) (λ_ _ _ _ _=>uu) (λ_ _ _ _ _=>(cu T.is_kept rj hr (ze (za 0 0) (ze (za 1 1) (ze (za 2 1) zh))))))) zh))))))
def x9:SF:=(sSeq (sSet 7 (e2 cH (e1 (cV [4] "arrows") (eV 0)) (eV 6)))
  (sSeq (sSet 8 (e2 oz (e2 ej (e2 cH (eV 3) (e1 (cV [0,1,2,3] "start") (eV 7))) (e2 cT (e1 (cV [0,1,2,3] "time") (eV 7)) (e2 cH (eV 1) (eC (.int 1))))) (e2 cT (e1 (cV [0,1,2,3] "behind") (eV 7)) (e2 cH (eV 1) (eC (.int 0))))))
  (sIf (tb (e2 sO (eV 8) (e2 cH (eV 3) (e1 (cV [0,1,2,3] "goal") (eV 7))))) (sSeq (o7 3 (e1 (cV [0,1,2,3] "goal") (eV 7)) (eV 8))
  (sSeq (ko 4 (e1 (cV [0,1,2,3] "goal") (eV 7)) (eV 6))
  (sSet 5 (e1 (cV [0,1,2,3] "goal") (eV 7))))) sSkip)))
def ua:List D->Option D:=Ao 3 ["net","pace","numbers","times","chosen","pushed","number","arrow","earliest"]
  (uV (sSet 5 (eC .non))
  (uV (sFor (lsD (eV 2)) (gV 6) x9)
  (Ap (eV 5))))
theorem Zi (T:Txt K mg a):cx P w K mg base ez 1 a.f_push_once a.d_push_once ["net","pace","numbers","times","chosen"] (A8 K a.ct 3 ua):=by
 refine zoe (n:=3) (ms:=[.ow 0,.ow 0,.ow 0,.ow 0]) T.push_once.fn uz rfl rfl λxa xb gW A outer s H E hr=>?_
 exact(RI (ek uz.nd (XE.ow t9))
  (RI (sv (Hx (za 2 0)) (lU uz.nd) (zf (ek uz.nd (XE.ow (fX (xg (n:=0) (za 0 0) T.fld_arrows rfl) (za 6 0))))
  (zf (ek uz.nd (XE.ow (zy (k:=0) AX AQ (XO.sh (n:=0) (mH (uk (n:=1) xu wo (za 3 1) (xg (n:=0) (za 7 0) T.fld_start rfl) (λ_ _=>rfl)) (zy (k:=0) xr yh (xg (n:=0) (za 7 0) T.fld_time rfl) (fX (za 1 0) bY)))) (zy (k:=0) xr yh (xg (n:=0) (za 7 0) T.fld_behind rfl) (fX (za 1 0) bY)))))
  (zj (vg (yn (k:=0) A0 AY (za 8 0) (uk (n:=1) xu wo (za 3 1) (xg (n:=0) (za 7 0) T.fld_goal rfl) (λ_ _=>rfl)) (bo _)) (zf (zoc 3 rfl (xg (n:=0) (za 7 0) T.fld_goal rfl) (za 8 0))
  (zf (zod 4 rfl (wY hr) (xg (n:=0) (za 7 0) T.fld_goal rfl) (za 6 0))
  (zj (ek uz.nd (XE.ow (xg (n:=0) (za 7 0) T.fld_goal rfl)))))) yg)))) cI.never rfl)
  (zty (za 5 0))))
def u9:EF:=(d5 (lsD (eV 3)) 1 [1] (gV 0) e9 (λρ=>((aCons (eV 0) (aCons (e2 cH (eV 1) (eC (.int 1))) aNil)) ρ).bind λds=>vH (ds++[])))
def wp:SF:=(sSeq (nM 5 (mw 3 4 (aCons (eV 0) (aCons (eV 1) (aCons (eV 2) aNil))) ua))
  (sIf (tb (e2 (oX false) (eV 5) (eC .non))) (sFz 3 (sRet (λρ=>((aCons (qK (eC (.str "times"))) (aCons u9 aNil)) ρ).bind λds=>some (.tup ds)))) sSkip))
def yu:List D->Option D:=mOf ["net","pace","numbers","times","chosen","pushed","count"]
  (sSeq (sSet 3 (e2 p9 (λρ=>((aCons (eC (.int 0)) aNil) ρ).bind λds=>some (.lst ds)) (eN dg (aCons (e1 (cV [4] "names") (eV 0)) aNil))))
  (sSeq (sSet 4 (eC (.dK [] [])))
  (sSeq (sSet 5 (eC .non))
  (sSeq (sFor (λρ=>((aCons (eN dg (aCons (e1 (cV [4] "names") (eV 0)) aNil)) aNil) ρ).bind iE) (gV 6) wp)
  (sFz 4 (sRet (λρ=>((aCons (qK (eC (.str "ring"))) (aCons (λρ=>((aCons (e1 (cV [4] "arrows") (eV 0)) (aCons (eV 4) (aCons (eV 5) aNil))) ρ).bind λds=>ur (ds++[])) aNil)) ρ).bind λds=>some (.tup ds))))))))
theorem v5 (T:Txt K mg a):cx P w K mg base ez 3 a.f_times_or_ring_along a.d_times_or_ring_along ["net","pace","numbers"] (fR K a.ct [0,0,0] 2 yu):=by
 have oU:=Zi (P:=P) (w:=w) (base:=base) T
 have fC:=BC (P:=P) (w:=w) (base:=base) T
 have kG:=Yy (P:=P) (w:=w) (base:=base) T
 refine gX (ms:=[.ow 0,.ow 0,.ow 0,.ow 1,.ow 1,.ow 0,.ow 0]) T.times_or_ring_along.fn xh λ_ _ _ _ _ _ hr=>?_
 exact(zf (ek xh.nd (So (uB (k:=0) (yr (XE.ow bY) wt)) (kr T.b_len (ze (xg (n:=0) (za 0 0) T.fld_names rfl) zh))))
  (zf (ek xh.nd Na)
  (zf (ek xh.nd (XE.ow t9))
  (zf (sv (jk (n:=0) T.b_range (ze (kr T.b_len (ze (xg (n:=0) (za 0 0) T.fld_names rfl) zh)) zh)) (lU xh.nd) (zf (zrm rfl xh.nd rfl (Or.inl rfl) (zrl (i:=3) (j:=4) (by decide) rfl rfl oU (hr.mono (by decide)) rfl T.push_once.mgx T.push_once.fn.kp T.push_once.bd .nil (Nv (Nv (Nv ztz))) (Nk (za 0 0) (Nk (za 1 0) (Nk (za 2 0) (zrk (i:=3) (j:=4)))))))
  (zj (vg (yn (k:=0) BU BN (za 5 0) t9 (bo _)) (NZ (i:=3) rfl (zj (zx (tP (yr (BP (uA (n:=0))) (yr (rR (N:=["time","pace"]) (om:=[.ow 0]) (cap:=[1]) (own:=1) (vc (n:=0) (za 3 0)) (λ_ _ _ _ _=>(nO (show cD (["time","pace"]:List aQ)from by decide +kernel))) (λ_ _ _ _ _=>uu) (λ_ _ _ _ _=>(cu T.ratio fC hr (ze (za 0 0) (ze (fX (za 1 0) bY) zh))))) wt)))))) yg))) cI.never rfl)
  (NZ (i:=4) rfl (zj (zx (tP (yr (BP (uA (n:=0))) (yr (cu T.ring_back_from kG hr (ze (xg (n:=0) (za 0 0) T.fld_arrows rfl) (ze (za 4 0) (ze (za 5 0) zh)))) wt))))))))))
def xt:List D->Option D:=mOf ["net","pace"]
  (sRet (λρ=>((aCons (eV 0) (aCons (eV 1) (aCons (eN iI (aCons (eN dg (aCons (e1 (cV [4] "arrows") (eV 0)) aNil)) aNil)) aNil))) ρ).bind λds=>yu (ds++[])))
theorem YC (T:Txt K mg a):cx P w K mg base ez 4 a.f_times_or_ring a.d_times_or_ring ["net","pace"] (fR K a.ct [0,0] 0 xt):=by
 have df:=v5 (P:=P) (w:=w) (base:=base) T
 refine gX (ms:=[.ow 0,.ow 0]) T.times_or_ring.fn YA λ_ _ _ _ _ _ hr=>?_
 exact(zj (zx (nZ (cu T.times_or_ring_along df hr (ze (za 0 0) (ze (za 1 0) (ze (XO.sh (n:=0) (Jx rfl rfl T.b_list rfl T.b_range (ze (kr T.b_len (ze (xg (n:=0) (za 0 0) T.fld_arrows rfl) zh)) zh))) zh)))))))
def uc:List D->Option D:=mOf ["net","pace","numbers","found"]
  (sSeq (sSet 3 (λρ=>((aCons (eV 0) (aCons (eV 1) (aCons (eV 2) aNil))) ρ).bind λds=>yu (ds++[])))
  (sRet (eIf (tb (e2 (eK false) (qK (e2 cH (eV 3) (eC (.int 0)))) (eC (.str "ring")))) (e2 cH (eV 3) (eC (.int 1))) (qK (eC .non)))))
theorem Y2 (T:Txt K mg a):cx P w K mg base ez 4 a.f_ring_above a.d_ring_above ["net","pace","numbers"] (fR K a.ct [0,0,0] 1 uc):=by
 have df:=v5 (P:=P) (w:=w) (base:=base) T
 refine gX (ms:=[.ow 0,.ow 0,.ow 0,.ow 2]) T.ring_above.fn P9 λ_ _ _ _ _ _ hr=>?_
 exact(zf (ek P9.nd (cu T.times_or_ring_along df hr (ze (za 0 0) (ze (za 1 0) (ze (za 2 0) zh)))))
  (zj (zoh (i:=3) rfl (yn (k:=0) (vf hr.u64) x6 (XO.sh (n:=0) (k:=0) (BP (uk (n:=2) xu wo (za 3 2) bY (λ_ _=>rfl)))) (uA (n:=0)) (bo _)) bY (BP t9))))
def Jj:List D->Option D:=mOf ["one","other","total"]
  (sSeq (sSet 2 (λρ=>((aCons (eV 0) (aCons (eV 1) aNil)) ρ).bind λds=>zev (ds++[])))
  (sRet (λρ=>((aCons (e2 cH (eV 2) (eC (.int 0))) (aCons (e2 cT (e2 cH (eV 2) (eC (.int 1))) (eC (.int 2))) aNil)) ρ).bind λds=>vH (ds++[]))))
theorem zl8 (T:Txt K mg a):cx P w K mg base ez 4 a.f_midway a.d_midway ["one","other"] (fR K a.ct [0,0] 0 Jj):=by
 have mm:=Nx (P:=P) (w:=w) (base:=base) T
 have fC:=BC (P:=P) (w:=w) (base:=base) T
 refine gX (ms:=[.ow 0,.ow 0,.ow 0]) T.midway.fn QI λ_ _ _ _ _ _ hr=>?_
 exact(zf (ek QI.nd (cu T.plus mm hr (ze (za 0 0) (ze (za 1 0) zh))))
  (zj (zx (cu T.ratio fC hr (ze (fX (za 2 0) bY) (ze (zy (k:=0) xr yh (fX (za 2 0) bY) bY) zh))))))
def IV:List D->Option D:=mOf ["net","most"]
  (sSeq (sSet 1 (e2 cT (eN dg (aCons (e1 (cV [4] "names") (eV 0)) aNil)) (λρ=>((eV 0) ρ).bind λo=>nn 4 "most_behind" yy o [])))
  (sRet (λρ=>((aCons (eC (.int 1)) (aCons (e2 cT (eV 1) (eV 1)) aNil)) ρ).bind λds=>vH (ds++[]))))
theorem Zj (T:Txt K mg a):cx P w K mg base ez 3 a.f_least_gap a.d_least_gap ["net"] (fR K a.ct [0] 0 IV):=by
 have kc:=Yw (P:=P) (w:=w) (base:=base) T
 have fC:=BC (P:=P) (w:=w) (base:=base) T
 refine gX (ms:=[.ow 0,.ow 0]) T.least_gap.fn Qj λ_ _ _ _ _ _ hr=>?_
 exact(zf (ek Qj.nd (XE.ow (zy (k:=0) xr yh (kr T.b_len (ze (xg (n:=0) (za 0 0) T.fld_names rfl) zh)) (XO.sh (n:=0) (zni (n:=0) (c0:=4) (nd:=[]) (nY:=[]) (za 0 0) T.Net.cl T.Net_most_behind.me kc (hr.mono (by decide)) T.Net_most_behind.bd .nil (λ_ _=>.nil))))))
  (zj (zx (cu T.ratio fC hr (ze bY (ze (zy (k:=0) xr yh (za 1 0) (za 1 0)) zh))))))
def ug:SF:=(sSeq (sSet 5 (λρ=>((aCons (λρ=>((aCons (eV 0) (aCons (eV 2) aNil)) ρ).bind λds=>uD (ds++[])) (aCons (eV 3) aNil)) ρ).bind λds=>Jj (ds++[])))
  (sSeq (sSet 6 (λρ=>((aCons (eV 0) (aCons (eV 5) (aCons (eV 1) aNil))) ρ).bind λds=>uc (ds++[])))
  (sIf (tb (e2 (oX false) (eV 6) (eC .non))) (sSet 3 (eV 5)) (Ml 2 6))))
def P8:EF:=(d5 (lsD (eV 1)) 1 [0] (gV 0) e9 (e1 (cV [0,1,2,3] "time") (e2 cH (e1 (cV [4] "arrows") (eV 1)) (eV 0))))
def ud:List D->Option D:=mOf ["net","numbers","ring","ceiling","gap","middle","better"]
  (sSeq (sSet 2 (λρ=>((aCons (eV 0) (aCons (λρ=>((aCons (e1 p6 (eC (.int 1))) (aCons (eC (.int 1)) aNil)) ρ).bind λds=>some (.tup ds)) (aCons (eV 1) aNil))) ρ).bind λds=>uc (ds++[])))
  (sSeq (sIf (tb (e2 (oX false) (eV 2) (eC .non))) (sRet (qK (eC .non))) sSkip)
  (sSeq (sSet 3 (λρ=>((aCons (eN oA (aCons P8 aNil)) (aCons (eC (.int 1)) aNil)) ρ).bind λds=>some (.tup ds)))
  (sSeq (sSet 4 (λρ=>((aCons (eV 0) aNil) ρ).bind λds=>IV (ds++[])))
  (sSeq (fV (bNot (tb (λρ=>((aCons (λρ=>((aCons (eV 3) (aCons (λρ=>((aCons (eV 0) (aCons (eV 2) aNil)) ρ).bind λds=>uD (ds++[])) aNil)) ρ).bind λds=>AV (ds++[])) (aCons (eV 4) aNil)) ρ).bind λds=>AW (ds++[])))) ug)
  (sRet (eV 2)))))))
theorem YD (T:Txt K mg a):cx P w K mg base ez 5 a.f_greatest_ring a.d_greatest_ring ["net","numbers"] (fR K a.ct [0,0] 1 ud):=by
 have kh:=Y2 (P:=P) (w:=w) (base:=base) T
 have oT:=Zj (P:=P) (w:=w) (base:=base) T
 have nX:=Rg (P:=P) (w:=w) (base:=base) T
 have nW:=Rf (P:=P) (w:=w) (base:=base) T
 have kF:=Ny (P:=P) (w:=w) (base:=base) T
 have sE:=zl8 (P:=P) (w:=w) (base:=base) T
 refine gX (ms:=[.ow 0,.ow 0,.ow 1,.ow 0,.ow 0,.ow 0,.ow 1]) T.greatest_ring.fn xz λ_ _ _ _ _ _ hr=>?_
 exact(zf (ek xz.nd (cu T.ring_above kh hr (ze (za 0 0) (ze (XO.sh (n:=0) (tP (yr (XE.ow (HE (k:=0) bY)) (yr (XE.ow bY) wt)))) (ze (za 1 0) zh)))))
  (zf (vg (yn (k:=0) BU BN (za 2 1) t9 (bo _)) (zj (zx (BP t9))) yg)
  (zf (ek xz.nd (nZ (tP (yr (XE.ow (vh (k:=0) (Hl rfl) HA rfl T.b_sum HD (ze (XO.sh (n:=0) (rR (N:=["number","net"]) (om:=[.ow 0]) (cap:=[0]) (own:=1) (vc (n:=0) (za 1 0)) (λ_ _ _ _ _=>(nO (show cD (["number","net"]:List aQ)from by decide +kernel))) (λ_ _ _ _ _=>uu) (λ_ _ _ _ _=>(XE.ow (xg (n:=0) (fX (xg (n:=0) (za 1 0) T.fld_arrows rfl) (za 0 0)) T.fld_time rfl))))) zh))) (yr (XE.ow bY) wt)))))
  (zf (ek xz.nd (cu T.least_gap oT hr (ze (za 0 0) zh)))
  (zf (BB (uj (wz (XO.sh (n:=0) (cu T.under nX hr (ze (XO.sh (n:=0) (cu T.minus nW hr (ze (za 3 0) (ze (XO.sh (n:=0) (cu T.mean kF hr (ze (za 0 0) (ze (za 2 1) zh)))) zh)))) (ze (za 4 0) zh)))))) (zf (ek xz.nd (cu T.midway sE hr (ze (XO.sh (n:=0) (cu T.mean kF hr (ze (za 0 0) (ze (za 2 1) zh)))) (ze (za 3 0) zh))))
  (zf (ek xz.nd (cu T.ring_above kh hr (ze (za 0 0) (ze (za 5 0) (ze (za 1 0) zh)))))
  (zj (vg (yn (k:=0) BU BN (za 6 1) t9 (bo _)) (zj (ek xz.nd (XE.ow (za 5 0)))) (zj (zu7 (i:=2) (j:=6) rfl rfl (by decide) xz.nd)))))) cI.never)
  (zj (zqp (i:=2) rfl)))))))
def uh:List D->Option D:=mOf ["net","numbers","ring","pace"]
  (sSeq (sSet 2 (λρ=>((aCons (eV 0) (aCons (eV 1) aNil)) ρ).bind λds=>ud (ds++[])))
  (sSeq (sIf (tb (e2 (oX false) (eV 2) (eC .non))) (sRet (qK (eC .non))) sSkip)
  (sSeq (sSet 3 (λρ=>((aCons (eV 0) (aCons (eV 2) aNil)) ρ).bind λds=>uD (ds++[])))
  (sRet (λρ=>(eV 2 ρ).bind λ_=>((aCons (zC (eV 3)) (aCons (eV 2) (aCons (e2 cH (λρ=>((aCons (eV 0) (aCons (eV 3) (aCons (eV 1) aNil))) ρ).bind λds=>yu (ds++[])) (eC (.int 1))) aNil))) ρ).bind λds=>some (.tup ds))))))
theorem YS (T:Txt K mg a):cx P w K mg base ez 6 a.f_paper_along a.d_paper_along ["net","numbers"] (fR K a.ct [0,0] 2 uh):=by
 have lI:=YD (P:=P) (w:=w) (base:=base) T
 have kF:=Ny (P:=P) (w:=w) (base:=base) T
 have df:=v5 (P:=P) (w:=w) (base:=base) T
 refine gX (ms:=[.ow 0,.ow 0,.ow 1,.ow 0]) T.paper_along.fn qx λ_ _ _ _ _ _ hr=>?_
 exact(zf (ek qx.nd (cu T.greatest_ring lI hr (ze (za 0 0) (ze (za 1 0) zh))))
  (zf (vg (yn (k:=0) BU BN (za 2 1) t9 (bo _)) (zj (zx (BP t9))) yg)
  (zf (ek qx.nd (cu T.mean kF hr (ze (za 0 0) (ze (za 2 1) zh))))
  (zj (zog (i:=2) rfl (zof (zu8 (za 3 0)) (zro (i:=2) (yr (zrn (cu T.times_or_ring_along df hr (ze (za 0 0) (ze (za 3 0) (ze (za 1 0) zh)))) bY) wt))))))))
def vp:List D->Option D:=mOf ["net"]
  (sRet (λρ=>((aCons (eV 0) (aCons (eN iI (aCons (eN dg (aCons (e1 (cV [4] "arrows") (eV 0)) aNil)) aNil)) aNil)) ρ).bind λds=>uh (ds++[])))
theorem YT (T:Txt K mg a):cx P w K mg base ez 7 a.f_least_round a.d_least_round ["net"] (fR K a.ct [0] 2 vp):=by
 have m9:=YS (P:=P) (w:=w) (base:=base) T
 refine gX (ms:=[.ow 0]) T.least_round.fn YI λ_ _ _ _ _ _ hr=>?_
 exact(zj (zx (cu T.paper_along m9 hr (ze (za 0 0) (ze (XO.sh (n:=0) (Jx rfl rfl T.b_list rfl T.b_range (ze (kr T.b_len (ze (xg (n:=0) (za 0 0) T.fld_arrows rfl) zh)) zh))) zh)))))
def Ho:List D->Option D:=mOf ["net","ring","pace"]
  (sRet (eB (bAnd (tb (λρ=>((aCons (eV 0) (aCons (eV 1) aNil)) ρ).bind λds=>qj (ds++[]))) (tb (e2 (eK false) (λρ=>((aCons (eV 0) (aCons (eV 1) aNil)) ρ).bind λds=>uD (ds++[])) (eV 2))))))
theorem Zh (T:Txt K mg a):cx P w K mg base ez 4 a.f_has_mean a.d_has_mean ["net","ring","pace"] (fR K a.ct [0,1,1] 0 Ho):=by
 have rq:=Zx (P:=P) (w:=w) (base:=base) T
 have kF:=Ny (P:=P) (w:=w) (base:=base) T
 refine gX (ms:=[.ow 0,.al 1,.al 1]) T.has_mean.fn Ze λ_ _ _ _ _ _ hr=>?_
 exact(zj (zx (XE.ow (j7 (XO.sh (n:=0) (cu T.is_ring rq hr (ze (za 0 0) (ze (za 1 1) zh)))) (j6 (k:=0) (v6 (k:=0) (vf hr.u64) x6 (XO.sh (n:=0) (cu T.mean kF hr (ze (za 0 0) (ze (za 1 1) zh)))) (za 2 1) (bo _)))))))
def wW:List D->Option D:=mOf ["net","paper"]
  (sRet (eB (bAnd (tb (λρ=>((aCons (eV 0) (aCons (e2 cH (eV 1) (eC (.int 1))) (aCons (e2 cH (eV 1) (eC (.int 0))) aNil))) ρ).bind λds=>Ho (ds++[]))) (tb (λρ=>((aCons (eV 0) (aCons (e2 cH (eV 1) (eC (.int 0))) (aCons (e2 cH (eV 1) (eC (.int 2))) aNil))) ρ).bind λds=>HB (ds++[]))))))
theorem zol (T:Txt K mg a):cx P w K mg base ez 7 a.f_holds a.d_holds ["net","paper"] (fR K a.ct [0,2] 0 wW):=by
 have pQ:=Zh (P:=P) (w:=w) (base:=base) T
 have xC:=zrs (P:=P) (w:=w) (base:=base) T
 refine gX (ms:=[.ow 0,.al 2]) T.holds.fn zok λ_ _ _ _ _ _ hr=>?_
 exact(zj (zx (XE.ow (j7 (XO.sh (n:=0) (cu T.has_mean pQ hr (ze (za 0 0) (ze (uk (n:=2) xu wo (za 1 2) bY (λ_ _=>rfl)) (ze (uk (n:=2) xu wo (za 1 2) bY (λ_ _=>rfl)) zh))))) (j6 (k:=0) (XO.sh (n:=0) (cu T.fits xC hr (ze (za 0 0) (ze (uk (n:=2) xu wo (za 1 2) bY (λ_ _=>rfl)) (ze (uk (n:=2) xu wo (za 1 2) bY (λ_ _=>rfl)) zh))))))))))
def zl:List D->Option D:=mOf ["_law_script","_law_k"]
  (sSeq (sIf (tb (e2 og (eV 1) (eN dg (aCons (eV 0) aNil)))) (sRet (e2 cH (eV 0) (eV 1))) sSkip)
  (sRet (eC (.int 0))))
theorem YU (T:Txt K mg a):cx P w K mg base ez 1 a.f_law_cell_at a.d_law_cell_at ["_law_script","_law_k"] (fR K a.ct [0,0] 0 zl):=by
 refine gX (ms:=[.ow 0,.ow 0]) T.law_cell_at.fn YJ λ_ _ _ _ _ _ hr=>?_
 exact(zf (vg (yn (k:=0) sy sx (za 1 0) (kr T.b_len (ze (za 0 0) zh)) (bo _)) (zj (zx (XE.ow (fX (za 0 0) (za 1 0))))) yg)
  (zj (zx (XE.ow bY))))
def uv:List D->Option D:=mOf ["_law_found"]
  (sRet (eB (bAnd (tb (e1 (iZ "int") (eV 0))) (tb (eB (bNot (tb (e1 (iZ "bool") (eV 0)))))))))
theorem Qk (T:Txt K mg a):cx P w K mg base ez 1 a.f_law_whole a.d_law_whole ["_law_found"] (fR K a.ct [0] 0 uv):=by
 refine gX (ms:=[.ow 0]) T.law_whole.fn Y7 λ_ _ _ _ _ _ hr=>?_
 exact(zj (zx (XE.ow (j7 (uC (k:=0) (by decide) T.b_isinstance T.b_int Sh (za 0 0)) (j6 (k:=0) (Sm (k:=0) (uC (k:=0) (by decide) T.b_isinstance T.b_bool RB (za 0 0))))))))
def u5:List D->Option D:=mOf ["_law_cell"]
  (sRet (eB (bAnd (tb (e2 vU (eV 0) (e2 vA (eC (.int 1)) (eC (.int 90))))) (tb (e2 (eK false) (e2 cX (eV 0) (eC (.int 2))) (eC (.int 1)))))))
theorem MS (T:Txt K mg a):cx P w K mg base ez 1 a.f_law_is_row a.d_law_is_row ["_law_cell"] (fR K a.ct [0] 0 u5):=by
 refine gX (ms:=[.ow 0]) T.law_is_row.fn YZ λ_ _ _ _ _ _ hr=>?_
 exact(zj (zx (XE.ow (j7 (v6 (k:=0) JI JG (za 0 0) (zy (k:=0) zs1 zqs bY bY) (bo _)) (j6 (k:=0) (v6 (k:=0) (vf hr.u64) x6 (zy (k:=0) yz xf (za 0 0) bY) bY (bo _)))))))
def wq:List D->Option D:=mOf ["_law_cell","_law_k","_law_number"]
  (sSeq (sIf (bAnd (tb (λρ=>((aCons (eV 0) aNil) ρ).bind λds=>u5 (ds++[]))) (tb (e2 sO (e2 rN (eV 0) (e2 ej (eC (.int 1)) (e2 cT (eC (.int 31)) (eV 1)))) (eC (.int 0))))) (sRet (e2 cX (e2 rN (eV 0) (e2 ej (eC (.int 1)) (e2 cT (eC (.int 31)) (eV 1)))) (eC (.int 2147483648)))) sSkip)
  (sSeq (sSet 2 (e2 cX (e2 cT (e2 ej (e2 ej (eV 0) (e2 cT (eC (.int 7919)) (eV 1))) (eC (.int 1))) (eC (.int 48271))) (eC (.int 2147483647))))
  (sSeq (sSet 2 (e2 cX (e2 cT (eV 2) (e2 ej (e2 ed (eV 2) (eC (.int 1009))) (eC (.int 69621)))) (eC (.int 2147483647))))
  (sRet (e2 cX (e2 cT (eV 2) (e2 ej (e2 ej (e2 ed (eV 2) (eC (.int 2003))) (eC (.int 39373))) (eV 1))) (eC (.int 2147483629)))))))
theorem MO (T:Txt K mg a):cx P w K mg base ez 2 a.f_law_mixed a.d_law_mixed ["_law_cell","_law_k"] (fR K a.ct [0,0] 0 wq):=by
 have fw:=MS (P:=P) (w:=w) (base:=base) T
 refine gX (ms:=[.ow 0,.ow 0,.ow 0]) T.law_mixed.fn MN λ_ _ _ _ _ _ hr=>?_
 exact(zf (vg (XW.t (BL (wz (XO.sh (n:=0) (cu T.law_is_row fw hr (ze (za 0 0) zh)))) (BE (yn (k:=0) A0 AY (zy (k:=0) Se RM (za 0 0) (XO.sh (n:=0) (mH bY (zy (k:=0) xr yh bY (za 1 0))))) bY (bo _))))) (zj (zx (XE.ow (zy (k:=0) yz xf (zy (k:=0) Se RM (za 0 0) (XO.sh (n:=0) (mH bY (zy (k:=0) xr yh bY (za 1 0))))) bY)))) yg)
  (zf (ek MN.nd (XE.ow (zy (k:=0) yz xf (zy (k:=0) xr yh (XO.sh (n:=0) (mH (XO.sh (n:=0) (mH (za 0 0) (zy (k:=0) xr yh bY (za 1 0)))) bY)) bY) bY)))
  (zf (ek MN.nd (XE.ow (zy (k:=0) yz xf (zy (k:=0) xr yh (za 2 0) (XO.sh (n:=0) (mH (zy (k:=0) wy vb (za 2 0) bY) bY))) bY)))
  (zj (zx (XE.ow (zy (k:=0) yz xf (zy (k:=0) xr yh (za 2 0) (XO.sh (n:=0) (mH (XO.sh (n:=0) (mH (zy (k:=0) wy vb (za 2 0) bY) bY)) (za 1 0)))) bY)))))))
def jm:SF:=(oq 3 4 (e2 cX (λρ=>((aCons (eV 0) (aCons (eV 5) aNil)) ρ).bind λds=>wq (ds++[])) (eN dg (aCons (eV 4) aNil))))
def jf:List D->Option D:=mOf ["_law_turn","_law_many","_law_going","_law_order","_law_left","_law_k"]
  (sSeq (sIf (bNot (tb (λρ=>((aCons (eV 0) aNil) ρ).bind λds=>u5 (ds++[])))) (sRet (e2 cX (e2 ej (eV 2) (eV 0)) (eV 1))) sSkip)
  (sSeq (sSet 3 (λρ=>(aNil ρ).bind λds=>some (.lst ds)))
  (sSeq (sSet 4 (eN iI (aCons (eV 1) aNil)))
  (sSeq (sFor (λρ=>((aCons (eV 1) aNil) ρ).bind iE) (gV 5) jm)
  (sRet (e2 sW (eV 3) (eV 2)))))))
theorem Zr (T:Txt K mg a):cx P w K mg base ez 3 a.f_law_rank a.d_law_rank ["_law_turn","_law_many","_law_going"] (fR K a.ct [0,0,0] 0 jf):=by
 have fw:=MS (P:=P) (w:=w) (base:=base) T
 have e7:=MO (P:=P) (w:=w) (base:=base) T
 refine gX (ms:=[.ow 0,.ow 0,.ow 0,.ow 1,.ow 1,.ow 0]) T.law_rank.fn IU λ_ _ _ _ _ _ hr=>?_
 exact(zf (vg (uj (wz (XO.sh (n:=0) (cu T.law_is_row fw hr (ze (za 0 0) zh))))) (zj (zx (XE.ow (zy (k:=0) yz xf (XO.sh (n:=0) (mH (za 2 0) (za 0 0))) (za 1 0))))) yg)
  (zf (ek IU.nd (uB (k:=0) wt))
  (zf (ek IU.nd (Jx rfl rfl T.b_list rfl T.b_range (ze (za 1 0) zh)))
  (zf (sv (jk (n:=0) T.b_range (ze (za 1 0) zh)) (lU IU.nd) (zj (zlv 3 4 rfl rfl (by decide) (zy (k:=0) yz xf (XO.sh (n:=0) (cu T.law_mixed e7 hr (ze (za 0 0) (ze (za 5 0) zh)))) (kr T.b_len (ze (za 4 1) zh))))) cI.never rfl)
  (zj (zx (XE.ow (zn0 (k:=0) (za 3 1) (za 2 0)))))))))
def jw:SF:=(sSeq (sSet 7 (e2 cX (e2 ed (eV 3) (eC (.int 1000))) (eC (.int 10))))
  (sSeq (sIf (tb (e2 (eK false) (e2 cX (eV 0) (eC (.int 3))) (eC (.int 2)))) (sSet 7 (e2 cX (e2 ed (eV 0) (eC (.int 3))) (e2 ej (e2 tF (eC (.int 10)) (eC (.int 9))) (eC (.int 1))))) sSkip)
  (sSeq (sIf (tb (λρ=>((aCons (eV 0) aNil) ρ).bind λds=>u5 (ds++[]))) (sSet 7 (e2 cX (λρ=>((aCons (eV 0) (aCons (eC (.int 30)) aNil)) ρ).bind λds=>wq (ds++[])) (e2 ej (e2 tF (eC (.int 10)) (eC (.int 9))) (eC (.int 1))))) sSkip)
  (sRet (λρ=>((aCons (eV 4) (aCons (eV 5) (aCons (eV 7) (aCons (eV 6) aNil)))) ρ).bind λds=>some (.tup ds))))))
def ve:List D->Option D:=mOf ["_law_cell","_law_many","_law_turn","_law_number","_law_start","_law_goal","_law_behind","_law_time"]
  (sSeq (sSet 3 (λρ=>((aCons (eV 0) (aCons (eC (.int 1)) aNil)) ρ).bind λds=>wq (ds++[])))
  (sSeq (sSet 4 (e2 cX (eV 3) (eV 1)))
  (sSeq (sSet 5 (e2 cX (e2 ed (eV 3) (eC (.int 8))) (eV 1)))
  (sSeq (sSet 6 (e2 cX (e2 ed (eV 3) (eC (.int 64))) (eC (.int 5))))
  (sSeq (sIf (bAnd (tb (e2 (eK false) (eV 6) (eC (.int 0)))) (tb (e2 vU (λρ=>((aCons (eV 2) (aCons (eV 1) (aCons (eV 4) aNil))) ρ).bind λds=>jf (ds++[])) (λρ=>((aCons (eV 2) (aCons (eV 1) (aCons (eV 5) aNil))) ρ).bind λds=>jf (ds++[]))))) (sSet 6 (e2 ej (eC (.int 1)) (e2 cX (e2 ed (eV 3) (eC (.int 320))) (eC (.int 2))))) sSkip)
  jw)))))
theorem Zk (T:Txt K mg a):cx P w K mg base ez 4 a.f_law_arrow a.d_law_arrow ["_law_cell","_law_many","_law_turn"] (fR K a.ct [0,0,0] 0 ve):=by
 have e7:=MO (P:=P) (w:=w) (base:=base) T
 have ml:=Zr (P:=P) (w:=w) (base:=base) T
 have fw:=MS (P:=P) (w:=w) (base:=base) T
 refine gX (ms:=[.ow 0,.ow 0,.ow 0,.ow 0,.ow 0,.ow 0,.ow 0,.ow 0]) T.law_arrow.fn vd λ_ _ _ _ _ _ hr=>?_
 exact(zf (ek vd.nd (cu T.law_mixed e7 hr (ze (za 0 0) (ze bY zh))))
  (zf (ek vd.nd (XE.ow (zy (k:=0) yz xf (za 3 0) (za 1 0))))
  (zf (ek vd.nd (XE.ow (zy (k:=0) yz xf (zy (k:=0) wy vb (za 3 0) bY) (za 1 0))))
  (zf (ek vd.nd (XE.ow (zy (k:=0) yz xf (zy (k:=0) wy vb (za 3 0) bY) bY)))
  (zf (vg (XW.t (BL (yn (k:=0) (vf hr.u64) x6 (za 6 0) bY (bo _)) (BE (yn (k:=0) JI JG (XO.sh (n:=0) (cu T.law_rank ml hr (ze (za 2 0) (ze (za 1 0) (ze (za 4 0) zh))))) (XO.sh (n:=0) (cu T.law_rank ml hr (ze (za 2 0) (ze (za 1 0) (ze (za 5 0) zh))))) (bo _))))) (zj (ek vd.nd (nZ (mH bY (zy (k:=0) yz xf (zy (k:=0) wy vb (za 3 0) bY) bY))))) yg)
  (zf (ek vd.nd (XE.ow (zy (k:=0) yz xf (zy (k:=0) wy vb (za 3 0) bY) bY)))
  (zf (vg (yn (k:=0) (vf hr.u64) x6 (zy (k:=0) yz xf (za 0 0) bY) bY (bo _)) (zj (ek vd.nd (XE.ow (zy (k:=0) yz xf (zy (k:=0) wy vb (za 0 0) bY) (XO.sh (n:=0) (mH (zy (k:=0) Sd RL bY bY) bY)))))) yg)
  (zf (vg (wz (XO.sh (n:=0) (cu T.law_is_row fw hr (ze (za 0 0) zh)))) (zj (ek vd.nd (XE.ow (zy (k:=0) yz xf (XO.sh (n:=0) (cu T.law_mixed e7 hr (ze (za 0 0) (ze bY zh)))) (XO.sh (n:=0) (mH (zy (k:=0) Sd RL bY bY) bY)))))) yg)
  (zj (zx (nZ (tP (yr (XE.ow (za 4 0)) (yr (XE.ow (za 5 0)) (yr (XE.ow (za 7 0)) (yr (XE.ow (za 6 0)) wt))))))))))))))))
def qk:SF:=(sSeq (sSet 5 (λρ=>((aCons (eV 0) (aCons (e2 ej (eC (.int 3)) (eV 4)) aNil)) ρ).bind λds=>wq (ds++[])))
  (sSeq (sSet 6 (e2 cX (eV 5) (eV 1)))
  (sSeq (sSet 7 (e2 cX (e2 ed (eV 5) (eC (.int 64))) (eV 1)))
  (sSeq (sIf (bAnd (tb (e2 og (eV 4) (eV 1))) (tb (e2 (eK false) (e2 cX (e2 ed (eV 0) (eC (.int 21))) (eC (.int 2))) (eC (.int 1))))) (sSeq (sSet 6 (eV 4))
  (sSet 7 (e2 cX (e2 ej (eV 4) (eC (.int 1))) (eV 1)))) sSkip)
  (sSeq (sSet 8 (e2 cX (e2 ed (eV 5) (eC (.int 5000))) (eC (.int 4))))
  (sSeq (sIf (bAnd (tb (e2 (eK false) (eV 8) (eC (.int 0)))) (tb (e2 vU (eV 6) (eV 7)))) (sSet 8 (eC (.int 1))) sSkip)
  (sApp 2 (λρ=>((aCons (eV 6) (aCons (eV 7) (aCons (e2 cX (e2 ed (eV 5) (eC (.int 20000))) (eC (.int 1000))) (aCons (eV 8) aNil)))) ρ).bind λds=>some (.tup ds)))))))))
def ja:List D->Option D:=mOf ["_law_cell","_law_many","_law_found","_law_size","_law_k","_law_number","_law_start","_law_goal","_law_behind"]
  (sSeq (sSet 1 (e2 ej (eC (.int 20)) (e2 cX (eV 0) (eC (.int 21)))))
  (sSeq (sSet 2 (λρ=>(aNil ρ).bind λds=>some (.lst ds)))
  (sSeq (sSet 3 (eC (.int 60)))
  (sSeq (sIf (tb (e2 (eK false) (e2 cX (e2 ed (eV 0) (eC (.int 42))) (eC (.int 3))) (eC (.int 1)))) (sSeq (sSet 1 (eC (.int 20)))
  (sSet 3 (eC (.int 120)))) sSkip)
  (sSeq (sFor (λρ=>((aCons (eV 3) aNil) ρ).bind iE) (gV 4) qk)
  (sFz 2 (sRet (λρ=>((aCons (eV 1) (aCons (eV 2) aNil)) ρ).bind λds=>some (.tup ds)))))))))
theorem Zz (T:Txt K mg a):cx P w K mg base ez 3 a.f_law_big a.d_law_big ["_law_cell"] (fR K a.ct [0] 0 ja):=by
 have e7:=MO (P:=P) (w:=w) (base:=base) T
 refine gX (ms:=[.ow 0,.ow 0,.ow 1,.ow 0,.ow 0,.ow 0,.ow 0,.ow 0,.ow 0]) T.law_big.fn wa λ_ _ _ _ _ _ hr=>?_
 exact(zf (ek wa.nd (nZ (mH bY (zy (k:=0) yz xf (za 0 0) bY))))
  (zf (ek wa.nd (uB (k:=0) wt))
  (zf (ek wa.nd (XE.ow bY))
  (zf (vg (yn (k:=0) (vf hr.u64) x6 (zy (k:=0) yz xf (zy (k:=0) wy vb (za 0 0) bY) bY) bY (bo _)) (zf (ek wa.nd (XE.ow bY))
  (zj (ek wa.nd (XE.ow bY)))) yg)
  (zf (sv (jk (n:=0) T.b_range (ze (za 3 0) zh)) (lU wa.nd) (zf (ek wa.nd (cu T.law_mixed e7 hr (ze (za 0 0) (ze (XO.sh (n:=0) (mH bY (za 4 0))) zh))))
  (zf (ek wa.nd (XE.ow (zy (k:=0) yz xf (za 5 0) (za 1 0))))
  (zf (ek wa.nd (XE.ow (zy (k:=0) yz xf (zy (k:=0) wy vb (za 5 0) bY) (za 1 0))))
  (zf (vg (XW.t (BL (yn (k:=0) sy sx (za 4 0) (za 1 0) (bo _)) (BE (yn (k:=0) (vf hr.u64) x6 (zy (k:=0) yz xf (zy (k:=0) wy vb (za 0 0) bY) bY) bY (bo _))))) (zf (ek wa.nd (XE.ow (za 4 0)))
  (zj (ek wa.nd (XE.ow (zy (k:=0) yz xf (XO.sh (n:=0) (mH (za 4 0) bY)) (za 1 0)))))) yg)
  (zf (ek wa.nd (XE.ow (zy (k:=0) yz xf (zy (k:=0) wy vb (za 5 0) bY) bY)))
  (zf (vg (XW.t (BL (yn (k:=0) (vf hr.u64) x6 (za 8 0) bY (bo _)) (BE (yn (k:=0) JI JG (za 6 0) (za 7 0) (bo _))))) (zj (ek wa.nd (XE.ow bY))) yg)
  (zj (IW 2 rfl (nZ (tP (yr (XE.ow (za 6 0)) (yr (XE.ow (za 7 0)) (yr (XE.ow (zy (k:=0) yz xf (zy (k:=0) wy vb (za 5 0) bY) bY)) (yr (XE.ow (za 8 0)) wt)))))))))))))) cI.never rfl)
  (NZ (i:=2) rfl (zj (zx (nZ (tP (yr (XE.ow (za 1 0)) (yr (XE.ow (za 2 0)) wt))))))))))))
def Ja:List D->Option D:=mOf ["_law_arrow_here","_law_kind","_law_start","_law_goal","_law_time","_law_behind"]
  (sSeq (sAsg (gT (gsCons (gV 2) (gsCons (gV 3) (gsCons (gV 4) (gsCons (gV 5) gsNil))))) (eV 0))
  (sSeq (sIf (bAnd (tb (e2 (eK false) (eV 5) (eC (.int 0)))) (tb (e2 (eK false) (e2 cX (eV 1) (eC (.int 2))) (eC (.int 0))))) (sRet (λρ=>((aCons (eV 2) (aCons (eV 3) (aCons (eV 4) aNil))) ρ).bind λds=>MP 1 (ds++[]))) sSkip)
  (sSeq (sIf (bAnd (tb (e2 sO (eV 5) (eC (.int 0)))) (tb (e2 (eK false) (e2 cX (eV 1) (eC (.int 2))) (eC (.int 0))))) (sRet (λρ=>((aCons (eV 2) (aCons (eV 3) (aCons (eV 4) (aCons (eV 5) aNil)))) ρ).bind λds=>MR 3 (ds++[]))) sSkip)
  (sRet (λρ=>((aCons (eV 2) (aCons (eV 3) (aCons (eV 4) (aCons (eV 5) aNil)))) ρ).bind λds=>MQ 2 (ds++[]))))))
theorem Zs (T:Txt K mg a):cx P w K mg base ez 4 a.f_law_made a.d_law_made ["_law_arrow_here","_law_kind"] (fR K a.ct [0,0] 0 Ja):=by
 have mW:=YK (P:=P) (w:=w) (base:=base) T
 have mV:=YQ (P:=P) (w:=w) (base:=base) T
 have si:=T.Back___init_d1.choose_spec
 have mX:=YL (P:=P) (w:=w) (base:=base) T
 have sj:=T.Wait___init_d1.choose_spec
 refine gX (ms:=[.ow 0,.ow 0,.ow 0,.ow 0,.ow 0,.ow 0]) T.law_made.fn j9 λ_ _ _ _ _ _ hr=>?_
 exact(zf (Sr (za 0 0) (BM (n:=0) rfl (w9 (lU j9.nd) (w9 (lU j9.nd) (w9 (lU j9.nd) (w9 (lU j9.nd) BG))))))
  (zf (vg (XW.t (BL (yn (k:=0) (vf hr.u64) x6 (za 5 0) bY (bo _)) (BE (yn (k:=0) (vf hr.u64) x6 (zy (k:=0) yz xf (za 1 0) bY) bY (bo _))))) (zj (zx (nZ (Jv (c0:=1) (nY:=[]) (ns:=[0,0,0]) (nd:=[]) ⟨T.Ride.mks,T.Ride___init.me.at_,T.Ride___init.me.fn,T.Ride.kp⟩ (by decide) mW (hr.mono (by decide)) rfl T.Ride.mgx T.Ride___init.bd .nil (λ_ _=>.nil) (ze (za 2 0) (ze (za 3 0) (ze (za 4 0) zh))))))) yg)
  (zf (vg (XW.t (BL (yn (k:=0) A0 AY (za 5 0) bY (bo _)) (BE (yn (k:=0) (vf hr.u64) x6 (zy (k:=0) yz xf (za 1 0) bY) bY (bo _))))) (zj (zx (nZ (Jv (c0:=3) (nY:=[]) (ns:=[0,0,0,0]) (nd:=[]) ⟨T.Back.mks,T.Back___init.me.at_,T.Back___init.me.fn,T.Back.kp⟩ (by decide) mV (hr.mono (by decide)) rfl T.Back.mgx T.Back___init.bd .nil (λ_ _=>.nil) (ze (za 2 0) (ze (za 3 0) (ze (za 4 0) (ze (za 5 0) zh)))))))) yg)
  (zj (zx (nZ (Jv (c0:=2) (nY:=[]) (ns:=[0,0,0,0]) (nd:=[]) ⟨T.Wait.mks,T.Wait___init.me.at_,T.Wait___init.me.fn,T.Wait.kp⟩ (by decide) mX (hr.mono (by decide)) rfl T.Wait.mgx T.Wait___init.bd .nil (λ_ _=>.nil) (ze (za 2 0) (ze (za 3 0) (ze (za 4 0) (ze (za 5 0) zh)))))))))))
def uw:SF:=(sPar 1 2 (aCons (eV 2) (aCons (e2 cX (eV 1) (eV 2)) aNil)))
def vn:List D->Option D:=mOf ["_law_beat","_law_one","_law_other"]
  (sSeq (sSet 1 (e2 oz (e2 cT (e2 cH (eV 0) (eC (.int 0))) (eC (.int 100))) (eC (.int 1))))
  (sSeq (sSet 2 (e2 cT (e2 cH (eV 0) (eC (.int 1))) (eC (.int 100))))
  (sSeq (fV (tb (e2 (eK true) (eV 2) (eC (.int 0)))) uw)
  (sRet (λρ=>((aCons (e2 ed (e2 oz (e2 cT (e2 cH (eV 0) (eC (.int 0))) (eC (.int 100))) (eC (.int 1))) (eN oV (aCons (eV 1) aNil))) (aCons (e2 ed (e2 cT (e2 cH (eV 0) (eC (.int 1))) (eC (.int 100))) (eN oV (aCons (eV 1) aNil))) aNil)) ρ).bind λds=>some (.tup ds))))))
theorem Yx (T:Txt K mg a):cx P w K mg base ez 1 a.f_law_little_less a.d_law_little_less ["_law_beat"] (fR K a.ct [0] 0 vn):=by
 refine gX (ms:=[.ow 0,.ow 0,.ow 0]) T.law_little_less.fn v8 λ_ _ _ _ _ _ hr=>?_
 exact(zf (ek v8.nd (XE.ow (zy (k:=0) AX AQ (zy (k:=0) xr yh (fX (za 0 0) bY) bY) bY)))
  (zf (ek v8.nd (XE.ow (zy (k:=0) xr yh (fX (za 0 0) bY) bY)))
  (zf (BB (yn (k:=0) (vJ hr.u64) x6 (za 2 0) bY (bo _)) (zj (Sq rfl rfl rfl v8.nd rfl rfl (by decide) rfl rfl (ze (za 2 0) (ze (zy (k:=0) yz xf (za 1 0) (za 2 0)) zh)) rfl)) cI.never)
  (zj (zx (nZ (tP (yr (XE.ow (zy (k:=0) wy vb (zy (k:=0) AX AQ (zy (k:=0) xr yh (fX (za 0 0) bY) bY) bY) (vh (k:=0) Jb Jt rfl T.b_abs JD (ze (za 1 0) zh)))) (yr (XE.ow (zy (k:=0) wy vb (zy (k:=0) xr yh (fX (za 0 0) bY) bY) (vh (k:=0) Jb Jt rfl T.b_abs JD (ze (za 1 0) zh)))) wt)))))))))
def P4:EF:=(d5 (lsD (eV 2)) 1 [4] (gV 0) (tb (e2 (inD false) (eV 0) (eV 1))) (eV 0))
def P5:EF:=(d5 (lsD (eV 0)) 1 [2] (gV 0) (tb (e2 (inD false) (e2 cH (eV 0) (eC (.int 0))) (eV 1))) (e2 cH (eV 0) (eC (.int 1))))
def jb:SF:=(sSeq (sSet 4 P5)
  (sSeq (sSet 5 P4)
  (sSeq (sIf (tb (e2 (eK false) (eV 5) (eV 2))) (sRet (e2 (eK false) (eV 2) (λρ=>(aNil ρ).bind λds=>some (.lst ds)))) sSkip)
  (sSet 2 (eV 5)))))
def ui:List D->Option D:=mOf ["_law_arrows","_law_many","_law_left","_law_step","_law_goals","_law_staying"]
  (sSeq (sSet 2 (eN iI (aCons (eV 1) aNil)))
  (sSeq (sFor (λρ=>((aCons (eV 1) aNil) ρ).bind iE) (gV 3) jb)
  (sRet (e2 (eK false) (eV 2) (λρ=>(aNil ρ).bind λds=>some (.lst ds))))))
theorem YV (T:Txt K mg a):cx P w K mg base ez 1 a.f_law_no_ring a.d_law_no_ring ["_law_arrows","_law_many"] (fR K a.ct [0,0] 0 ui):=by
 refine gX (ms:=[.ow 0,.ow 0,.ow 0,.ow 0,.ow 0,.ow 0]) T.law_no_ring.fn v4 λ_ _ _ _ _ _ hr=>?_
 exact(zf (ek v4.nd (nZ (Jx rfl rfl T.b_list rfl T.b_range (ze (za 1 0) zh))))
  (zf (sv (jk (n:=0) T.b_range (ze (za 1 0) zh)) (lU v4.nd) (zf (ek v4.nd (nZ (rR (N:=["_law_one","_law_left"]) (om:=[.ow 0]) (cap:=[2]) (own:=1) (vc (n:=0) (za 0 0)) (λ_ _ _ _ _=>(nO (show cD (["_law_one","_law_left"]:List aQ)from by decide +kernel))) (λ_ _ _ _ _=>(Hw (yn (k:=0) M5 NY (fX (za 0 0) bY) (za 1 0) (by with_unfolding_all rfl)))) (λ_ _ _ _ _=>(XE.ow (fX (za 0 0) bY))))))
  (zf (jc (k:=0) (N:=["_law_going","_law_goals"]) (om:=[.ow 0]) (cap:=[4]) (own:=1) rfl v4.nd rfl (Or.inl rfl) (wX (by rfl)) rfl rfl (by decide) (vc (n:=0) (za 2 0)) (λ_ _ _ _ _=>(nO (show cD (["_law_going","_law_goals"]:List aQ)from by decide +kernel))) (λ_ _ _ _ _=>(Hw (yn (k:=0) M5 NY (za 0 0) (za 1 0) (by with_unfolding_all rfl)))) (λ_ _ _ _ _=>(XE.ow (za 0 0))))
  (zf (vg (yn (k:=0) (vf hr.u64) x6 (za 5 0) (za 2 0) (bo _)) (zj (zx (XE.ow (v6 (k:=0) (vf hr.u64) x6 (za 2 0) (XO.sh (n:=0) (uB (k:=0) wt)) (bo _))))) yg)
  (zj (ek v4.nd (XE.ow (za 5 0))))))) cI.never rfl)
  (zj (zx (XE.ow (v6 (k:=0) (vf hr.u64) x6 (za 2 0) (XO.sh (n:=0) (uB (k:=0) wt)) (bo _)))))))
def qz:SF:=(sPar 1 2 (aCons (eV 2) (aCons (e2 cX (eV 1) (eV 2)) aNil)))
def jo:List D->Option D:=mOf ["_law_found","_law_one","_law_other"]
  (sSeq (sIf (bOr (bNot (tb (e1 (iZ "tuple") (eV 0)))) (bOr (tb (e2 (eK true) (eN dg (aCons (eV 0) aNil)) (eC (.int 2)))) (bOr (bNot (tb (λρ=>((aCons (e2 cH (eV 0) (eC (.int 0))) aNil) ρ).bind λds=>uv (ds++[])))) (bNot (tb (λρ=>((aCons (e2 cH (eV 0) (eC (.int 1))) aNil) ρ).bind λds=>uv (ds++[]))))))) (sRet (eC (.bl false))) sSkip)
  (sSeq (sAsg (gT (gsCons (gV 1) (gsCons (gV 2) gsNil))) (eV 0))
  (sSeq (fV (tb (e2 (eK true) (eV 2) (eC (.int 0)))) qz)
  (sRet (eB (bAnd (tb (e2 (eK false) (eN oV (aCons (eV 1) aNil)) (eC (.int 1)))) (tb (e2 sO (e2 cH (eV 0) (eC (.int 1))) (eC (.int 0))))))))))
theorem Y3 (T:Txt K mg a):cx P w K mg base ez 2 a.f_law_lowest a.d_law_lowest ["_law_found"] (fR K a.ct [1] 0 jo):=by
 have gS:=Qk (P:=P) (w:=w) (base:=base) T
 refine gX (ms:=[.al 1,.ow 0,.ow 0]) T.law_lowest.fn jv λ_ _ _ _ _ _ hr=>?_
 exact(zf (vg (XW.t (qw (uj (wz (uC (k:=0) (by decide) T.b_isinstance T.b_tuple Rn (za 0 1)))) (qw (yn (k:=0) (vJ hr.u64) x6 (kr T.b_len (ze (za 0 1) zh)) bY (bo _)) (qw (uj (wz (XO.sh (n:=0) (cu T.law_whole gS hr (ze (uk (n:=1) xu wo (za 0 1) bY (λ_ _=>rfl)) zh))))) (qr (uj (wz (XO.sh (n:=0) (cu T.law_whole gS hr (ze (uk (n:=1) xu wo (za 0 1) bY (λ_ _=>rfl)) zh)))))))))) (zj (zx (XE.ow (nP (n:=0))))) yg)
  (zf (RV (i:=0) rfl (BM (n:=1) rfl (w9 (lU jv.nd) (w9 (lU jv.nd) BG))))
  (zf (BB (yn (k:=0) (vJ hr.u64) x6 (za 2 0) bY (bo _)) (zj (Sq rfl rfl rfl jv.nd rfl rfl (by decide) rfl rfl (ze (za 2 0) (ze (zy (k:=0) yz xf (za 1 0) (za 2 0)) zh)) rfl)) cI.never)
  (zj (zx (XE.ow (j7 (v6 (k:=0) (vf hr.u64) x6 (vh (k:=0) Jb Jt rfl T.b_abs JD (ze (za 1 0) zh)) bY (bo _)) (j6 (k:=0) (v6 (k:=0) A0 AY (uk (n:=1) xu wo (za 0 1) bY (λ_ _=>rfl)) bY (bo _))))))))))
def ql:SF:=(sSeq (sIf (bOr (tb (e2 (eK true) (e2 cH (e2 cH (eV 0) (e2 cH (eV 1) (eV 3))) (eC (.int 0))) (e2 cH (e2 cH (eV 0) (e2 cH (eV 1) (e2 oz (eV 3) (eC (.int 1))))) (eC (.int 1))))) (tb (e2 (inD false) (e2 cH (e2 cH (eV 0) (e2 cH (eV 1) (eV 3))) (eC (.int 0))) (eV 2)))) (sRet (eC (.bl false))) sSkip)
  (sApp 2 (e2 cH (e2 cH (eV 0) (e2 cH (eV 1) (eV 3))) (eC (.int 0)))))
def qm:SF:=(sIf (bOr (bNot (tb (λρ=>((aCons (e2 cH (eV 1) (eV 3)) aNil) ρ).bind λds=>uv (ds++[])))) (bNot (bAnd (tb (e2 uU (eC (.int 0)) (e2 cH (eV 1) (eV 3)))) (tb (e2 og (e2 cH (eV 1) (eV 3)) (eN dg (aCons (eV 0) aNil))))))) (sRet (eC (.bl false))) sSkip)
def jx:List D->Option D:=mOf ["_law_arrows","_law_ring","_law_goings","_law_k"]
  (sSeq (sSet 2 (λρ=>(aNil ρ).bind λds=>some (.lst ds)))
  (sSeq (sFor (λρ=>((aCons (eN dg (aCons (eV 1) aNil)) aNil) ρ).bind iE) (gV 3) qm)
  (sSeq (sFor (λρ=>((aCons (eN dg (aCons (eV 1) aNil)) aNil) ρ).bind iE) (gV 3) ql)
  (sRet (e2 (eK true) (eV 1) (λρ=>(aNil ρ).bind λds=>some (.lst ds)))))))
theorem YW (T:Txt K mg a):cx P w K mg base ez 2 a.f_law_is_ring a.d_law_is_ring ["_law_arrows","_law_ring"] (fR K a.ct [0,1] 0 jx):=by
 have gS:=Qk (P:=P) (w:=w) (base:=base) T
 refine gX (ms:=[.ow 0,.al 1,.ow 1,.ow 0]) T.law_is_ring.fn jh λ_ _ _ _ _ _ hr=>?_
 exact(zf (ek jh.nd (uB (k:=0) wt))
  (zf (sv (jk (n:=0) T.b_range (ze (kr T.b_len (ze (za 1 1) zh)) zh)) (lU jh.nd) (zj (vg (XW.t (qw (uj (wz (XO.sh (n:=0) (cu T.law_whole gS hr (ze (uk (n:=1) xu wo (za 1 1) (za 3 0) (λ_ _=>rfl)) zh))))) (qr (uj (zob (k:=0) AZ AR sy sx bY (uk (n:=1) xu wo (za 1 1) (za 3 0) (λ_ _=>rfl)) (kr T.b_len (ze (za 0 0) zh))))))) (zj (zx (XE.ow (nP (n:=0))))) yg)) cI.never rfl)
  (zf (sv (jk (n:=0) T.b_range (ze (kr T.b_len (ze (za 1 1) zh)) zh)) (lU jh.nd) (zf (vg (XW.t (qw (yn (k:=0) (vJ hr.u64) x6 (fX (fX (za 0 0) (uk (n:=1) xu wo (za 1 1) (za 3 0) (λ_ _=>rfl))) bY) (fX (fX (za 0 0) (uk (n:=1) xu wo (za 1 1) (zy (k:=0) AX AQ (za 3 0) bY) (λ_ _=>rfl))) bY) (bo _)) (qr (yn (k:=0) M5 NY (fX (fX (za 0 0) (uk (n:=1) xu wo (za 1 1) (za 3 0) (λ_ _=>rfl))) bY) (za 2 1) (by with_unfolding_all rfl))))) (zj (zx (XE.ow (nP (n:=0))))) yg)
  (zj (IW 2 rfl (XE.ow (fX (fX (za 0 0) (uk (n:=1) xu wo (za 1 1) (za 3 0) (λ_ _=>rfl))) bY))))) cI.never rfl)
  (zj (zx (XE.ow (v6 (k:=0) (vJ hr.u64) x6 (za 1 1) (XO.sh (n:=0) (uB (k:=0) wt)) (bo _))))))))
def MX:SF:=(sSeq (sSet 7 (e2 cH (eV 2) (eV 3)))
  (sSeq (sSet 8 (e2 cH (eV 2) (eV 4)))
  (sSeq (sSet 9 (e2 ej (e2 cT (e2 cH (eV 7) (eC (.int 0))) (e2 cH (eV 1) (eC (.int 1)))) (e2 cT (e2 cT (eV 5) (e2 cH (eV 7) (eC (.int 1)))) (e2 cH (eV 1) (eC (.int 1))))))
  (sSeq (sSet 9 (e2 oz (eV 9) (e2 cT (e2 cT (e2 cH (eV 1) (eC (.int 0))) (eV 6)) (e2 cH (eV 7) (eC (.int 1))))))
  (sIf (tb (e2 og (e2 cT (e2 cT (e2 cH (eV 8) (eC (.int 0))) (e2 cH (eV 7) (eC (.int 1)))) (e2 cH (eV 1) (eC (.int 1)))) (e2 cT (eV 9) (e2 cH (eV 8) (eC (.int 1)))))) (sRet (eC (.bl false))) sSkip)))))
def IY:List D->Option D:=mOf ["_law_arrows","_law_beat","_law_times","_law_start","_law_goal","_law_time","_law_behind","_law_one","_law_other","_law_least"]
  (sSeq (sFor (lsD (eV 0)) (gT (gsCons (gV 3) (gsCons (gV 4) (gsCons (gV 5) (gsCons (gV 6) gsNil))))) MX)
  (sRet (eC (.bl true))))
theorem ZA (T:Txt K mg a):cx P w K mg base ez 1 a.f_law_fit a.d_law_fit ["_law_arrows","_law_beat","_law_times"] (fR K a.ct [0,1,1] 0 IY):=by
 refine gX (ms:=[.ow 0,.al 1,.al 1,.ow 0,.ow 0,.ow 0,.ow 0,.ow 0,.ow 0,.ow 0]) T.law_fit.fn uf λ_ _ _ _ _ _ hr=>?_
 exact(zf (sv (Hx (za 0 0)) (BM (n:=0) rfl (w9 (lU uf.nd) (w9 (lU uf.nd) (w9 (lU uf.nd) (w9 (lU uf.nd) BG))))) (zf (ek uf.nd (XE.ow (uk (n:=1) xu wo (za 2 1) (za 3 0) (λ_ _=>rfl))))
  (zf (ek uf.nd (XE.ow (uk (n:=1) xu wo (za 2 1) (za 4 0) (λ_ _=>rfl))))
  (zf (ek uf.nd (nZ (mH (zy (k:=0) xr yh (fX (za 7 0) bY) (uk (n:=1) xu wo (za 1 1) bY (λ_ _=>rfl))) (zy (k:=0) xr yh (zy (k:=0) xr yh (za 5 0) (fX (za 7 0) bY)) (uk (n:=1) xu wo (za 1 1) bY (λ_ _=>rfl))))))
  (zf (ek uf.nd (XE.ow (zy (k:=0) AX AQ (za 9 0) (zy (k:=0) xr yh (zy (k:=0) xr yh (uk (n:=1) xu wo (za 1 1) bY (λ_ _=>rfl)) (za 6 0)) (fX (za 7 0) bY)))))
  (zj (vg (yn (k:=0) sy sx (zy (k:=0) xr yh (zy (k:=0) xr yh (fX (za 8 0) bY) (fX (za 7 0) bY)) (uk (n:=1) xu wo (za 1 1) bY (λ_ _=>rfl))) (zy (k:=0) xr yh (za 9 0) (fX (za 8 0) bY)) (bo _)) (zj (zx (XE.ow (nP (n:=0))))) yg)))))) cI.never rfl)
  (zj (zx (XE.ow (nP (n:=0))))))
def MT:EF:=(d5 (lsD (eV 4)) 1 [0] (gV 0) e9 (e2 cH (e2 cH (eV 1) (eV 0)) (eC (.int 3))))
def MU:EF:=(d5 (lsD (eV 4)) 1 [0] (gV 0) e9 (e2 cH (e2 cH (eV 1) (eV 0)) (eC (.int 2))))
def Qa:EF:=(d5 (lsD (eV 5)) 1 [] (gV 0) e9 (λρ=>((aCons (eV 0) aNil) ρ).bind λds=>jo (ds++[])))
def ux:List D->Option D:=mOf ["_law_arrows","_law_many","_law_found","_law_beat","_law_ring","_law_times","_law_top","_law_bottom"]
  (sSeq (sIf (bOr (bNot (tb (e1 (iZ "tuple") (eV 2)))) (bOr (tb (e2 (eK true) (eN dg (aCons (eV 2) aNil)) (eC (.int 3)))) (bNot (tb (λρ=>((aCons (e2 cH (eV 2) (eC (.int 0))) aNil) ρ).bind λds=>jo (ds++[])))))) (sRet (eC (.bl false))) sSkip)
  (sSeq (sAsg (gT (gsCons (gV 3) (gsCons (gV 4) (gsCons (gV 5) gsNil)))) (eV 2))
  (sSeq (sIf (bOr (bNot (tb (e1 (iZ "list") (eV 4)))) (bNot (tb (λρ=>((aCons (eV 0) (aCons (eV 4) aNil)) ρ).bind λds=>jx (ds++[]))))) (sRet (eC (.bl false))) sSkip)
  (sSeq (sIf (bOr (bNot (tb (e1 (iZ "list") (eV 5)))) (bOr (tb (e2 (eK true) (eN dg (aCons (eV 5) aNil)) (eV 1))) (bNot (tb (eN rC (aCons Qa aNil)))))) (sRet (eC (.bl false))) sSkip)
  (sSeq (sSet 6 (eN oA (aCons MU aNil)))
  (sSeq (sSet 7 (eN oA (aCons MT aNil)))
  (sRet (eB (bAnd (tb (e2 (eK false) (e2 cT (eV 6) (e2 cH (eV 3) (eC (.int 1)))) (e2 cT (e2 cH (eV 3) (eC (.int 0))) (eV 7)))) (tb (λρ=>((aCons (eV 0) (aCons (eV 3) (aCons (eV 5) aNil))) ρ).bind λds=>IY (ds++[]))))))))))))
theorem Zl (T:Txt K mg a):cx P w K mg base ez 3 a.f_law_right a.d_law_right ["_law_arrows","_law_many","_law_found"] (fR K a.ct [0,0,2] 0 ux):=by
 have ke:=Y3 (P:=P) (w:=w) (base:=base) T
 have mY:=YW (P:=P) (w:=w) (base:=base) T
 have rA:=ZA (P:=P) (w:=w) (base:=base) T
 refine gX (ms:=[.ow 0,.ow 0,.al 2,.al 1,.al 1,.al 1,.ow 0,.ow 0]) T.law_right.fn u0 λ_ _ _ _ _ _ hr=>?_
 exact(zf (vg (XW.t (qw (uj (wz (uC (k:=0) (by decide) T.b_isinstance T.b_tuple Rn (za 2 2)))) (qw (yn (k:=0) (vJ hr.u64) x6 (kr T.b_len (ze (za 2 2) zh)) bY (bo _)) (qr (uj (wz (XO.sh (n:=0) (cu T.law_lowest ke hr (ze (uk (n:=2) xu wo (za 2 2) bY (λ_ _=>rfl)) zh))))))))) (zj (zx (XE.ow (nP (n:=0))))) yg)
  (zf (RV (i:=2) rfl (BM (n:=2) rfl (w9 (Nd rfl u0.nd rfl (Or.inl rfl)) (w9 (Nd rfl u0.nd rfl (Or.inl rfl)) (w9 (Nd rfl u0.nd rfl (Or.inl rfl)) BG)))))
  (zf (vg (XW.t (qw (uj (wz (uC (k:=0) (by decide) T.b_isinstance T.b_list AO (za 4 1)))) (qr (uj (wz (XO.sh (n:=0) (cu T.law_is_ring mY hr (ze (za 0 0) (ze (za 4 1) zh))))))))) (zj (zx (XE.ow (nP (n:=0))))) yg)
  (zf (vg (XW.t (qw (uj (wz (uC (k:=0) (by decide) T.b_isinstance T.b_list AO (za 5 1)))) (qw (yn (k:=0) (vJ hr.u64) x6 (kr T.b_len (ze (za 5 1) zh)) (za 1 0) (bo _)) (qr (uj (wz (vh (k:=0) (M7 rfl) NG rfl T.b_all NO (ze (XO.sh (n:=0) (rR (N:=["_law_one"]) (om:=[.ow 0]) (cap:=[]) (own:=1) (vc (n:=1) (za 5 1)) (λ_ _ _ _ _=>(nO (show cD (["_law_one"]:List aQ)from by decide +kernel))) (λ_ _ _ _ _=>uu) (λ_ _ _ _ _=>(cu T.law_lowest ke hr (ze (XE.up (za 0 0) (by decide:0<=1)) zh))))) zh)))))))) (zj (zx (XE.ow (nP (n:=0))))) yg)
  (zf (ek u0.nd (XE.ow (vh (k:=0) (Hl rfl) HA rfl T.b_sum HD (ze (XO.sh (n:=0) (rR (N:=["_law_k","_law_arrows"]) (om:=[.ow 0]) (cap:=[0]) (own:=1) (vc (n:=1) (za 4 1)) (λ_ _ _ _ _=>(nO (show cD (["_law_k","_law_arrows"]:List aQ)from by decide +kernel))) (λ_ _ _ _ _=>uu) (λ_ _ _ _ _=>(XE.ow (fX (fX (za 1 0) (za 0 0)) bY))))) zh))))
  (zf (ek u0.nd (XE.ow (vh (k:=0) (Hl rfl) HA rfl T.b_sum HD (ze (XO.sh (n:=0) (rR (N:=["_law_k","_law_arrows"]) (om:=[.ow 0]) (cap:=[0]) (own:=1) (vc (n:=1) (za 4 1)) (λ_ _ _ _ _=>(nO (show cD (["_law_k","_law_arrows"]:List aQ)from by decide +kernel))) (λ_ _ _ _ _=>uu) (λ_ _ _ _ _=>(XE.ow (fX (fX (za 1 0) (za 0 0)) bY))))) zh))))
  (zj (zx (XE.ow (j7 (v6 (k:=0) (vf hr.u64) x6 (zy (k:=0) xr yh (za 6 0) (uk (n:=1) xu wo (za 3 1) bY (λ_ _=>rfl))) (zy (k:=0) xr yh (uk (n:=1) xu wo (za 3 1) bY (λ_ _=>rfl)) (za 7 0)) (bo _)) (j6 (k:=0) (XO.sh (n:=0) (cu T.law_fit rA hr (ze (za 0 0) (ze (za 3 1) (ze (za 5 1) zh))))))))))))))))
def NH:EF:=(d5 (lsD (eV 3)) 1 [] (gV 0) e9 (λρ=>((aCons (eV 0) (aCons (e2 cH (eV 0) (eC (.int 0))) aNil)) ρ).bind λds=>Ja (ds++[])))
def NI:EF:=(d5 (λρ=>((aCons (eV 1) aNil) ρ).bind iE) 1 [] (gV 0) e9 (e2 ej (eC (.str "a")) (eN rP (aCons (eV 0) aNil))))
def Jy:EF:=(d5 (lsD (eV 3)) 1 [2,1] (gV 0) (tb (e2 og (e2 cX (e2 ej (e2 cH (eV 0) (eC (.int 0))) (eV 1)) (eV 2)) (e2 cX (e2 ej (e2 cH (eV 0) (eC (.int 1))) (eV 1)) (eV 2)))) (eV 0))
def Jz:EF:=(d5 (lsD (λρ=>((eV 0) ρ).bind λd=>((pInt (eC (.int 4))) ρ).bind λl=>((pInt (eC (.int 20))) ρ).bind λh=>jP d l h)) 1 [1,2] (gV 0) e9 (λρ=>((aCons (eV 0) (aCons (eV 1) (aCons (eV 2) aNil))) ρ).bind λds=>ve (ds++[])))
def JK:List D->Option D:=mOf ["_law_script","_law_many","_law_turn","_law_arrows","_law_is_big","_law_net","_law_found","_law_beat","_law_lesser","_law_again"]
  (sSeq (sSet 1 (e2 ej (eC (.int 1)) (e2 cX (λρ=>((aCons (eV 0) (aCons (eC (.int 0)) aNil)) ρ).bind λds=>zl (ds++[])) (eC (.int 8)))))
  (sSeq (sSet 2 (e2 ed (λρ=>((aCons (eV 0) (aCons (eC (.int 0)) aNil)) ρ).bind λds=>zl (ds++[])) (eC (.int 8))))
  (sSeq (sSet 3 Jz)
  (sSeq (sIf (tb (e2 (eK false) (e2 cX (λρ=>((aCons (eV 0) (aCons (eC (.int 1)) aNil)) ρ).bind λds=>zl (ds++[])) (eC (.int 4))) (eC (.int 1)))) (sSet 3 Jy) sSkip)
  (sSeq (sSet 4 (e2 (eK false) (e2 cX (λρ=>((aCons (eV 0) (aCons (eC (.int 1)) aNil)) ρ).bind λds=>zl (ds++[])) (eC (.int 9))) (eC (.int 5))))
  (sSeq (sIf (tb (eV 4)) (sAsg (gT (gsCons (gV 1) (gsCons (gV 3) gsNil))) (λρ=>((aCons (λρ=>((aCons (eV 0) (aCons (eC (.int 2)) aNil)) ρ).bind λds=>zl (ds++[])) aNil) ρ).bind λds=>ja (ds++[]))) sSkip)
  (sSeq (sSet 5 (λρ=>((aCons NI (aCons NH aNil)) ρ).bind λds=>jl 4 (ds++[])))
  (sSeq (sSet 6 (λρ=>((aCons (eV 5) aNil) ρ).bind λds=>vp (ds++[])))
  (sSeq (sIf (tb (λρ=>((aCons (eV 3) (aCons (eV 1) aNil)) ρ).bind λds=>ui (ds++[]))) (sRet (e2 (oX false) (eV 6) (eC .non))) sSkip)
  (sSeq (sIf (bOr (bNot (tb (λρ=>((aCons (eV 3) (aCons (eV 1) (aCons (eV 6) aNil))) ρ).bind λds=>ux (ds++[])))) (tb (e2 (oX true) (λρ=>((aCons (eV 5) (aCons (eV 6) aNil)) ρ).bind λds=>wW (ds++[])) (eC (.bl true))))) (sRet (eC (.bl false))) sSkip)
  (sSeq (sSet 7 (zC (e2 cH (eV 6) (eC (.int 0)))))
  (sSeq (sIf (tb (eV 4)) (sSeq (sSet 8 (λρ=>((aCons (eV 7) aNil) ρ).bind λds=>vn (ds++[])))
  (sRet (eB (bAnd (tb (e2 (eK false) (e2 cH (λρ=>((aCons (eV 5) (aCons (eV 7) aNil)) ρ).bind λds=>xt (ds++[])) (eC (.int 0))) (eC (.str "times")))) (tb (e2 (eK false) (e2 cH (λρ=>((aCons (eV 5) (aCons (eV 8) aNil)) ρ).bind λds=>xt (ds++[])) (eC (.int 0))) (eC (.str "ring")))))))) sSkip)
  (sSeq (ou 6 (eC (.int 1)))
  (sSeq (oo 6 (eC (.int 2)) (λρ=>((aCons (eC (.int 7)) (aCons (eC (.int 1)) aNil)) ρ).bind λds=>some (.tup ds)))
  (sSeq (sSet 9 (λρ=>((aCons (eV 5) aNil) ρ).bind λds=>vp (ds++[])))
  (sRet (eB (bAnd (tb (λρ=>((aCons (eV 3) (aCons (eV 1) (aCons (eV 9) aNil))) ρ).bind λds=>ux (ds++[]))) (bAnd (tb (e2 (eK false) (e2 cH (eV 9) (eC (.int 0))) (eV 7))) (tb (e2 (oX false) (λρ=>((aCons (eV 5) (aCons (eV 9) aNil)) ρ).bind λds=>wW (ds++[])) (eC (.bl true)))))))))))))))))))))))
theorem zt0 (T:Txt K mg a):cx P w K mg base ez 8 a.f_law a.d_law ["_law_script"] (fR K a.ct [0] 0 JK):=by
 have e4:=YU (P:=P) (w:=w) (base:=base) T
 have oS:=Zk (P:=P) (w:=w) (base:=base) T
 have rz:=Zz (P:=P) (w:=w) (base:=base) T
 have nV:=Y1 (P:=P) (w:=w) (base:=base) T
 have pS:=Zs (P:=P) (w:=w) (base:=base) T
 have jF:=YT (P:=P) (w:=w) (base:=base) T
 have mZ:=YV (P:=P) (w:=w) (base:=base) T
 have lf:=Zl (P:=P) (w:=w) (base:=base) T
 have qH:=zol (P:=P) (w:=w) (base:=base) T
 have kd:=Yx (P:=P) (w:=w) (base:=base) T
 have iH:=YC (P:=P) (w:=w) (base:=base) T
 refine gX (ms:=[.ow 0,.ow 0,.ow 0,.ow 0,.ow 0,.ow 0,.ow 2,.ow 0,.ow 0,.ow 0]) T.law.fn rQ λ_ _ _ _ _ _ hr=>?_
 exact(zf (ek rQ.nd (nZ (mH bY (zy (k:=0) yz xf (XO.sh (n:=0) (cu T.law_cell_at e4 hr (ze (za 0 0) (ze bY zh)))) bY))))
  (zf (ek rQ.nd (XE.ow (zy (k:=0) wy vb (XO.sh (n:=0) (cu T.law_cell_at e4 hr (ze (za 0 0) (ze bY zh)))) bY)))
  (zf (jc (k:=0) (N:=["_law_cell","_law_many","_law_turn"]) (om:=[.ow 0]) (cap:=[1,2]) (own:=1) rfl rQ.nd rfl (Or.inl rfl) (wX (by rfl)) rfl rfl (by decide) (vc (n:=0) (XO.sh (n:=0) (Jf (n:=0) (by decide) (za 0 0) (Hz bY) (Hz bY)))) (λ_ _ _ _ _=>(nO (show cD (["_law_cell","_law_many","_law_turn"]:List aQ)from by decide +kernel))) (λ_ _ _ _ _=>uu) (λ_ _ _ _ _=>(cu T.law_arrow oS hr (ze (za 0 0) (ze (za 1 0) (ze (za 2 0) zh))))))
  (zf (vg (yn (k:=0) (vf hr.u64) x6 (zy (k:=0) yz xf (XO.sh (n:=0) (cu T.law_cell_at e4 hr (ze (za 0 0) (ze bY zh)))) bY) bY (bo _)) (zj (jc (k:=0) (N:=["_law_one","_law_turn","_law_many"]) (om:=[.ow 0]) (cap:=[2,1]) (own:=1) rfl rQ.nd rfl (Or.inl rfl) (wX (by rfl)) rfl rfl (by decide) (vc (n:=0) (za 3 0)) (λ_ _ _ _ _=>(nO (show cD (["_law_one","_law_turn","_law_many"]:List aQ)from by decide +kernel))) (λ_ _ _ _ _=>(Hw (yn (k:=0) sy sx (zy (k:=0) yz xf (XO.sh (n:=0) (mH (fX (za 0 0) bY) (za 1 0))) (za 2 0)) (zy (k:=0) yz xf (XO.sh (n:=0) (mH (fX (za 0 0) bY) (za 1 0))) (za 2 0)) (bo _)))) (λ_ _ _ _ _=>(XE.ow (za 0 0))))) yg)
  (zf (ek rQ.nd (XE.ow (v6 (k:=0) (vf hr.u64) x6 (zy (k:=0) yz xf (XO.sh (n:=0) (cu T.law_cell_at e4 hr (ze (za 0 0) (ze bY zh)))) bY) bY (bo _))))
  (zf (vg (wz (za 4 0)) (zj (Sr (XO.sh (n:=0) (cu T.law_big rz hr (ze (XO.sh (n:=0) (cu T.law_cell_at e4 hr (ze (za 0 0) (ze bY zh)))) zh))) (BM (n:=0) rfl (w9 (lU rQ.nd) (w9 (lU rQ.nd) BG))))) yg)
  (zf (ek rQ.nd (nZ (Jv (c0:=4) (nY:=[]) (ns:=[0,0]) (nd:=[]) ⟨T.Net.mks,T.Net___init.me.at_,T.Net___init.me.fn,T.Net.kp⟩ (by decide) nV (hr.mono (by decide)) rfl T.Net.mgx T.Net___init.bd .nil (λ_ _=>.nil) (ze (XO.sh (n:=0) (rR (N:=["_law_k"]) (om:=[.ow 0]) (cap:=[]) (own:=1) (XI.cc (jk (n:=0) T.b_range (ze (za 1 0) zh))) (λ_ _ _ _ _=>(nO (show cD (["_law_k"]:List aQ)from by decide +kernel))) (λ_ _ _ _ _=>uu) (λ_ _ _ _ _=>(nZ (mH (uA (n:=0)) (zlb (k:=0) YX zrb rfl T.b_str Si (ze (za 0 0) zh))))))) (ze (XO.sh (n:=0) (rR (N:=["_law_arrow_here"]) (om:=[.ow 0]) (cap:=[]) (own:=1) (vc (n:=0) (za 3 0)) (λ_ _ _ _ _=>(nO (show cD (["_law_arrow_here"]:List aQ)from by decide +kernel))) (λ_ _ _ _ _=>uu) (λ_ _ _ _ _=>(cu T.law_made pS hr (ze (za 0 0) (ze (fX (za 0 0) bY) zh)))))) zh)))))
  (zf (ek rQ.nd (cu T.least_round jF hr (ze (za 5 0) zh)))
  (zf (vg (wz (XO.sh (n:=0) (cu T.law_no_ring mZ hr (ze (za 3 0) (ze (za 1 0) zh))))) (zj (zx (XE.ow (v6 (k:=0) BU BN (za 6 2) t9 (bo _))))) yg)
  (zf (vg (XW.t (qw (uj (wz (XO.sh (n:=0) (cu T.law_right lf hr (ze (za 3 0) (ze (za 1 0) (ze (za 6 2) zh))))))) (qr (yn (k:=0) znk zle (XO.sh (n:=0) (cu T.holds qH hr (ze (za 5 0) (ze (za 6 2) zh)))) (nP (n:=0)) (bo _))))) (zj (zx (XE.ow (nP (n:=0))))) yg)
  (zf (ek rQ.nd (XE.ow (zu9 (i:=6) rfl bY)))
  (zf (vg (wz (za 4 0)) (zf (ek rQ.nd (cu T.law_little_less kd hr (ze (za 7 0) zh)))
  (zj (zx (XE.ow (j7 (v6 (k:=0) (vf hr.u64) x6 (fX (XO.sh (n:=0) (cu T.times_or_ring iH hr (ze (za 5 0) (ze (za 7 0) zh)))) bY) (uA (n:=0)) (bo _)) (j6 (k:=0) (v6 (k:=0) (vf hr.u64) x6 (fX (XO.sh (n:=0) (cu T.times_or_ring iH hr (ze (za 5 0) (ze (za 8 0) zh)))) bY) (uA (n:=0)) (bo _)))))))) yg)
  (zf (zn7 6 rfl bY (λ_ _=>rfl))
  (zf (zn6 6 rfl bY (λ_ _=>rfl) (XO.sh (n:=0) (tP (yr (XE.ow bY) (yr (XE.ow bY) wt)))))
  (zf (ek rQ.nd (nZ (cu T.least_round jF hr (ze (za 5 0) zh))))
  (zj (zx (XE.ow (j7 (XO.sh (n:=0) (cu T.law_right lf hr (ze (za 3 0) (ze (za 1 0) (ze (XE.up (za 9 0) (by decide:0<=2)) zh))))) (j7 (v6 (k:=0) (vf hr.u64) x6 (fX (za 9 0) bY) (za 7 0) (bo _)) (j6 (k:=0) (v6 (k:=0) BU BN (XO.sh (n:=0) (cu T.holds qH hr (ze (za 5 0) (ze (XE.up (za 9 0) (by decide:0<=2)) zh)))) (nP (n:=0)) (bo _)))))))))))))))))))))))
end
local macro_rules| `(tactic|walk_at "mir")=>`(tactic|simp -implicitDefEqProofs [mOf,startD,sSeq,sIf,sSet,sRet,sRetN,sDrop,sPar,sAsg,sApp,sFor,lsD,zq8,sSkip,eV,eC,e1,e2,eN,aNil,aCons,pNo,pInt,zeo,tb,ztt,bNot,bAnd,bOr,eB,eIf,gV,gT,gsCons,gsNil,zno,znq,zlj,zq5,zhy,zq6,v7,zns,znr,zfe,zq7,zts,D.isN,D.isB,zdr,ztu,zgt,jg,zdq,zb1,znm,znn,zi2,zeo,zlk,zll,sFz,zn4,zn5, *])
def eF (n:Nat)(f:Nat->Int):List D:=(ax n).map λg=>D.int (f g)
theorem zrt (n:Nat)(f:Nat->Int):(eF n f).length=n:=by simp[eF]
theorem HF {n:Nat}(f:Nat->Int){g:Nat}(h:g<n):atI (eF n f) (g:Int)=some (.int (f g)):=by
 refine j5 ?_
 simp[eF,h]
theorem RJ {n:Nat}(f:Nat->Int){g:Nat}(h:g<n)(v:Int):o8 (eF n f) (g:Int) (.int v)=some (eF n λx=>if x=g then v else f x):=by
 unfold o8
 have hx:ixN (eF n f).length (g:Int)=some g:=by
  unfold ixN
  rw[zrt]
  rw[if_pos (by omega),if_pos (by omega)]
  simp
 rw[hx]
 simp only[dr,Option.some.injEq]
 apply List.ext_getElem
 ·simp[eF]
 ·intro i h1 h2
  simp[eF,List.getElem_set]
  by_cases hi:g=i
  ·subst hi;simp
  ·rw[if_neg hi,if_neg (λz=>hi z.symm)]
theorem RW {i:Nat}{fj f:EF}{gi:Int->Int->Int}{ρ:L3.Env}{n g:Nat}{w:Nat->Int}{y:Int}(h1:(ρ[i]?).join=some (.lst (eF n w)))(h2:fj ρ=some (.int (g:Int)))(h3:f ρ=some (.int y))(hg:g<n) :
  o6 i fj gi f ρ=some (.nx (ρ.set i (some (.lst (eF n λx=>if x=g then gi (w g) y else w x))))):=by
 unfold o6
 have:eV i ρ=some (.lst (eF n w)):=h1
 rw[this,h2,h3]
 simp only[dr,HF w hg,RJ w hg]
def aB (p:List Nat):List D:=p.map λ(x:Nat)=>D.int (x:Int)
theorem Su {f:EF}{r:L3.Env}{n:Nat}(h:f r=some (.int (n:Int)))(hn:n<=1000000):((aCons f aNil) r).bind iE=some ((ax n).map λ(t:Nat)=>D.int (t:Int)):=by
 have e:(aCons f aNil) r=some [.int (n:Int)]:=by unfold aCons;rw[h];rfl
 rw[e,dr,AN (by omega) (by omega)]
 unfold eE
 simp
theorem BH {α:Type}{fi:L3.Env->Option (List D)}{own:Nat}{cap:List Nat}{g:D->L3.Env->Option L3.Env}{p:BF}{f:EF}{r:L3.Env}(enc:α->D)(q:α->Bool)(h:α->D)(xs:List α)(hi:fi r=some (xs.map enc))(hl:xs.length<=16777216)
  (st:∀x∈xs,∃ρ1,g (enc x) (az own none++fF r cap)=some ρ1/\p ρ1=some (q x)/\(q x=true->f ρ1=some (h x))):d5 fi own cap g p f r=some (.lst ((xs.filter q).map h)):=by
 unfold d5
 rw[hi]
 simp only[dr,ak]
 rw[if_pos hl,QY enc q h xs st]
 rfl
theorem zru {n i:Nat}(h:i<n):ixN n (i:Int)=some i:=by
 unfold ixN
 rw[if_pos (by omega),if_pos (by omega)]
 simp
theorem jy {α:Type}{fi:L3.Env->Option (List D)}{own:Nat}{cap:List Nat}{g:D->L3.Env->Option L3.Env}{f:EF}{r:L3.Env}(enc:α->D)(h:α->D)(xs:List α)(hi:fi r=some (xs.map enc))(hl:xs.length<=16777216)
  (st:∀x∈xs,∃ρ1,g (enc x) (az own none++fF r cap)=some ρ1/\f ρ1=some (h x)):d5 fi own cap g e9 f r=some (.lst (xs.map h)):=by
 have:=BH (p:=e9) enc (λ_=>true) h xs hi hl λx hx=>by
  obtain⟨ρ1,h1,h2⟩:=st x hx
  exact⟨ρ1,h1,rfl,λ_=>h2⟩
 rw[this,qD.mpr λ_ _=>rfl]
inductive Kd where
 |ride|wait|back
deriving DecidableEq
structure cO where
 c:Kd
 s:Nat
 g:Nat
 t:Int
 b:Nat
deriving DecidableEq
namespace Kahn
def cnt (W:List cO)(P:List Nat)(g:Nat):Nat:=W.countP λa=>decide (a.g=g/\a.s∉P)
structure Ok (W:List cO)(many:Nat)(p:List Nat):Prop where
 nd:p.Nodup
 lt:∀x∈p,x<many
 ord:∀(i x:Nat),p[i]?=some x->∀a∈W,a.g=x->a.s∈p.take i
theorem Ok.snoc {W:List cO}{many:Nat}{p:List Nat}{x:Nat}(h:Ok W many p)(hx:x∉p)(hl:x<many)(ho:∀a∈W,a.g=x->a.s∈p):Ok W many (p++[x]) where
 nd:=by
  rw[aW]
  exact⟨h.nd,by simp,λa ha b hb e=>by simp at hb;subst hb;subst e;exact hx ha⟩
 lt:=λy hy=>by
  rcases aY.mp hy with hy|hy
  ·exact h.lt y hy
  ·simp at hy;subst hy;exact hl
 ord:=λi y hy a ha e=>by
  by_cases hi:i<p.length
  ·rw[dh hi]at hy
   rw[lO (by omega)]
   exact h.ord i y hy a ha e
  ·rw[eP (by omega)]at hy
   have Lz:i-p.length=0:=by
    cases hq:i-p.length with
    |zero=>rfl
    |succ k=>rw[hq]at hy;simp at hy
   rw[Lz]at hy
   simp at hy
   subst hy
   have:i=p.length:=by omega
   rw[this,List.take_left']
   ·exact ho a ha e
   ·rfl
def stp (here:Nat)(S:(Nat->Int)×List Nat)(a:cO):(Nat->Int)×List Nat :=
 if a.s=here then
  let f':Nat->Int:=λx=>if x=a.g then S.1 a.g-1 else S.1 x
  (f',if f' a.g=0 then S.2++[a.g]else S.2)
 else S
structure In (W:List cO)(many:Nat)(P:List Nat)(here:Nat)(pre:List cO)(S:(Nat->Int)×List Nat):Prop where
 ok:Ok W many S.2
 f:∀g,S.1 g=(cnt W P g:Int)-(pre.countP λa=>decide (a.g=g/\a.s=here):Nat)
 z:∀g,g<many->(g∈S.2↔S.1 g=0)
 sub:∀x,(x∈P\/x=here)->x∈S.2
theorem zt1 {W pre post:List cO}{P:List Nat}{here:Nat}{a:cO}(e:W=pre++a::post)(hP:here∉P)(ha:a.s=here):(pre.countP λx=>decide (x.g=a.g/\x.s=here))+1<=cnt W P a.g:=by
 unfold cnt
 rw[e,gN,fZ]
 have h1:(pre.countP λx=>decide (x.g=a.g/\x.s=here))<=pre.countP λx=>decide (x.g=a.g/\x.s∉P):=by
  apply List.countP_mono_left
  intro x _ hx
  simp at hx ⊢
  exact⟨hx.1,by rw[hx.2];exact hP⟩
 have h2:(decide (a.g=a.g/\a.s∉P))=true:=by simp[ha,hP]
 rw[h2]
 simp only[if_true]
 omega
theorem In.step {W pre post:List cO}{many:Nat}{P:List Nat}{here:Nat}{a:cO}{S:(Nat->Int)×List Nat}(h:In W many P here pre S)(e:W=pre++a::post)(hP:here∉P)(hl:a.g<many):In W many P here (pre++[a]) (stp here S a):=by
 by_cases ha:a.s=here
 ·have Ve:=zt1 e hP ha
  have hf:∀g,(if g=a.g then S.1 a.g-1 else S.1 g)=(cnt W P g:Int)-((pre++[a]).countP λx=>decide (x.g=g/\x.s=here):Nat):=λg=>by
   rw[gN,pj]
   by_cases hg:g=a.g
   ·subst hg
    rw[if_pos rfl,h.f]
    have:decide (a.g=a.g/\a.s=here)=true:=by simp[ha]
    rw[this]
    simp only[if_true]
    omega
   ·rw[if_neg hg,h.f]
    have:decide (a.g=g/\a.s=here)=false:=by simp;intro z;exact absurd z.symm hg
    rw[this]
    simp
  have iY:S.1 a.g≠0:=by rw[h.f];omega
  have n8:a.g∉S.2:=λz=>iY ((h.z a.g hl).mp z)
  by_cases h0:S.1 a.g-1=0
  ·have es:stp here S a=(λx=>if x=a.g then S.1 a.g-1 else S.1 x,S.2++[a.g]):=by unfold stp;simp[ha,h0]
   rw[es]
   refine⟨h.ok.snoc n8 hl λb hb eb=>?_,hf,λg hg=>?_,λx hx=>bc _ (h.sub x hx)⟩
   ·
    refine h.sub _ (Classical.byContradiction λhc=>?_)
    have Lr:b.s∉P:=λz=>hc (.inl z)
    have Bj:b.s≠here:=λz=>hc (.inr z)
    have h1:cnt W P a.g=(pre.countP λx=>decide (x.g=a.g/\x.s=here))+1:=by
     have:=h.f a.g
     omega
    have h2:(W.countP λx=>decide (x.g=a.g/\x.s=here))+(W.countP λx=>decide (x.g=a.g/\x.s∉P/\x.s≠here))<=cnt W P a.g:=by
     have:cnt W P a.g=(W.countP λx=>decide (x.g=a.g/\x.s=here))+(W.countP λx=>decide (x.g=a.g/\x.s∉P/\x.s≠here)):=by
      unfold cnt
      clear h1 hc Lr Bj eb hb h0 hf Ve e h
      induction W with
      |nil=>rfl
      |cons x W ih=>
       simp only[fZ]
       rw[ih]
       by_cases q1:x.g=a.g<;>by_cases q2:x.s=here<;>by_cases q3:x.s∈P<;>simp_all<;>omega
     omega
    have h3:(pre.countP λx=>decide (x.g=a.g/\x.s=here))+1<=W.countP λx=>decide (x.g=a.g/\x.s=here):=by
     rw[e,gN,fZ]
     have:decide (a.g=a.g/\a.s=here)=true:=by simp[ha]
     rw[this]
     simp only[if_true]
     omega
    have h4:0<W.countP λx=>decide (x.g=a.g/\x.s∉P/\x.s≠here):=by
     rw[List.countP_pos_iff]
     exact⟨b,hb,by simp[eb,Lr,Bj]⟩
    omega
   ·rw[aY,aD]
    by_cases nG:g=a.g
    ·subst nG;simp[h0]
    ·dsimp only;rw[if_neg nG,h.z g hg];simp[nG]
  ·have es:stp here S a=(λx=>if x=a.g then S.1 a.g-1 else S.1 x,S.2):=by unfold stp;simp[ha,h0]
   rw[es]
   refine⟨h.ok,hf,λg hg=>?_,h.sub⟩
   by_cases nG:g=a.g
   ·subst nG
    dsimp only
    rw[if_pos rfl]
    exact⟨λz=>absurd z n8,λz=>absurd z h0⟩
   ·dsimp only;rw[if_neg nG];exact h.z g hg
 ·have:stp here S a=S:=by unfold stp;rw[if_neg ha]
  rw[this]
  refine⟨h.ok,λg=>?_,h.z,h.sub⟩
  rw[gN,pj]
  have:decide (a.g=g/\a.s=here)=false:=by simp[ha]
  rw[this,h.f]
  simp
theorem In.fold {W:List cO}{many:Nat}{P:List Nat}{here:Nat}(hP:here∉P)(hl:∀a∈W,a.g<many):∀(post pre:List cO) (S:(Nat->Int)×List Nat),W=pre++post->In W many P here pre S->In W many P here W (post.foldl (stp here) S)
 |[],pre,S,e,h=>by rw[e] ;simpa using(by rw[cz]at e;subst e;exact h)
 |a::post,pre,S,e,h=>by
  have:=In.fold hP hl post (pre++[a]) (stp here S a) (by rw[e];simp) (h.step e hP (hl a (by rw[e];simp)))
  exact this
theorem zon {W:List cO}{P:List Nat}{here g:Nat}(hP:here∉P):(cnt W P g:Int)-(W.countP λa=>decide (a.g=g/\a.s=here):Nat)=cnt W (P++[here]) g:=by
 have:cnt W P g=(W.countP λa=>decide (a.g=g/\a.s=here))+cnt W (P++[here]) g:=by
  unfold cnt
  induction W with
  |nil=>rfl
  |cons x W ih=>
   simp only[fZ]
   rw[ih]
   by_cases q1:x.g=g<;>by_cases q2:x.s=here<;>by_cases q3:x.s∈P<;>simp_all<;>omega
 omega
structure Wh (W:List cO)(many:Nat)(f:Nat->Int)(p:List Nat)(d:Nat):Prop where
 ok:Ok W many p
 dl:d<=p.length
 fe:∀g,f g=cnt W (p.take d) g
 z:∀g,g<many->(g∈p↔f g=0)
theorem Wh.step {W:List cO}{many:Nat}{f:Nat->Int}{p:List Nat}{d here:Nat}(h:Wh W many f p d)(hl:∀a∈W,a.g<many)(hh:p[d]?=some here) :
  Wh W many (W.foldl (stp here) (f,p)).1 (W.foldl (stp here) (f,p)).2 (d+1)/\∃q,(W.foldl (stp here) (f,p)).2=p++q:=by
 have hd:d<p.length:=(aV.mp hh).1
 have hP:here∉p.take d:=λz=>by
  obtain⟨i,hi,e⟩:=eQ.mp z
  have Lz:i<d:=by rw[ei]at hi;omega
  rw[rX]at e
  have e2:p[d]=here:=by have:=aV.mp hh;exact this.2
  have:=(lD (xs:=p) (h₀:=by omega) (h₁:=hd) h.ok.nd).mp (e.trans e2.symm)
  omega
 have Lv:∀(l:List cO) (S:(Nat->Int)×List Nat),∃q,(l.foldl (stp here) S).2=S.2++q:=by
  intro l
  induction l with
  |nil=>exactλS=>⟨[],by simp⟩
  |cons a l ih=>
   intro S
   obtain⟨q,hq⟩:=ih (stp here S a)
   have:∃r,(stp here S a).2=S.2++r:=by
    by_cases ha:a.s=here
    ·by_cases h0:S.1 a.g-1=0
     ·exact⟨[a.g],by unfold stp;simp[ha,h0]⟩
     ·exact⟨[],by unfold stp;simp[ha,h0]⟩
    ·exact⟨[],by unfold stp;simp[ha]⟩
   obtain⟨r,hr⟩:=this
   exact⟨r++q,by rw[iQ,hq,hr,d8]⟩
 obtain⟨q,hq⟩:=Lv W (f,p)
 have I:=In.fold hP hl W [] (f,p) rfl ⟨h.ok,λg=>by show f g=_;rw[h.fe];simp,h.z,λx hx=>by
  rcases hx with hx|rfl
  ·exact pN hx
  ·exact bG.mpr ⟨d,hh⟩⟩
 have EL:(W.foldl (stp here) (f,p)).2.take (d+1)=p.take d++[here]:=by
  rw[hq]
  show(p++q).take (d+1)=_
  rw[lO (by omega),List.take_succ,hh]
  rfl
 refine⟨⟨I.ok,?_,λg=>?_,I.z⟩,q,hq⟩
 ·rw[hq]
  show d+1<=(p++q).length
  rw[bg];omega
 ·rw[I.f,EL]
  exact zon hP
theorem cnt_zero {W:List cO}{P:List Nat}{g:Nat}:cnt W P g=0↔∀a∈W,a.g=g->a.s∈P:=by
 unfold cnt
 rw[List.countP_eq_zero]
 constructor
 ·intro h a ha e
  have:=h a ha
  simp at this
  exact Classical.byContradiction λz=>z (this e)
 ·intro h a ha
  simp
  exact h a ha
theorem Wh.all {W:List cO}{many:Nat}{f:Nat->Int}{p:List Nat}(h:Wh W many f p p.length)(rank:Nat->Nat)(hr:∀a∈W,rank a.s<rank a.g)(hs:∀a∈W,a.s<many):∀g,g<many->g∈p:=by
 have:∀n g,rank g<n->g<many->g∈p:=by
  intro n
  induction n with
  |zero=>intro g h;omega
  |succ n ih=>
   intro g hg hl
   rw[h.z g hl,h.fe,List.take_length]
   have:cnt W p g=0:=cnt_zero.mpr λa ha e=>ih a.s (by have:=hr a ha;rw[e]at this;omega) (hs a ha)
   rw[this];rfl
 exactλg hl=>this (rank g+1) g (by omega) hl
theorem len_of {many:Nat}{p:List Nat}(nd:p.Nodup)(lt:∀x∈p,x<many)(all:∀g,g<many->g∈p):p.length=many:=by
 have h1:p.Perm (ax many):=by
  rw[mS nd iz]
  intro a
  rw[bx]
  exact⟨lt a,all a⟩
 simpa using h1.length_eq
theorem len_le {many:Nat}{p:List Nat}(nd:p.Nodup)(lt:∀x∈p,x<many):p.length<=many:=by
 have h1:(p++(ax many).filter λx=>decide (x∉p)).Perm (ax many):=by
  rw[mS (by
   rw[aW]
   refine⟨nd,iz.filter _,λa ha b hb e=>?_⟩
   subst e
   simp at hb
   exact hb.2 ha) iz]
  intro a
  rw[aY,ce,bx]
  constructor
  ·rintro(h|h)
   ·exact lt a h
   ·exact h.1
  ·intro h
   by_cases ha:a∈p
   ·exact .inl ha
   ·exact .inr ⟨h,by simpa using ha⟩
 have:=h1.length_eq
 rw[bg,bD]at this
 omega
end Kahn
def Kd.n:Kd->Nat
 |.ride=>1|.wait=>2|.back=>3
def bV (a:cO):D:=.obj a.c.n ["start","goal","time","behind"] [.int a.s,.int a.g,.int a.t,.int a.b]
theorem fs (a:cO):cV [0,1,2,3] "start" (bV a)=some (.int a.s):=by obtain⟨c,_,_,_,_⟩:=a;cases c<;>rfl
theorem fg (a:cO):cV [0,1,2,3] "goal" (bV a)=some (.int a.g):=by obtain⟨c,_,_,_,_⟩:=a;cases c<;>rfl
theorem ft (a:cO):cV [0,1,2,3] "time" (bV a)=some (.int a.t):=by obtain⟨c,_,_,_,_⟩:=a;cases c<;>rfl
theorem fb (a:cO):cV [0,1,2,3] "behind" (bV a)=some (.int a.b):=by obtain⟨c,_,_,_,_⟩:=a;cases c<;>rfl
structure Right (many:Nat)(a:cO):Prop where
 s:a.s<many
 g:a.g<many
 t0:0<=a.t
 t1:a.t<=1000000000
 b:a.b<=4
 r:a.c=.ride->a.b=0
 k:a.c=.back->1<=a.b
theorem BD {n l m:Int}(h1:l<=n)(h2:n<=m):yx [.int n,.int l,.int m]=some (.bl true):=by
 unfold yx
 have q1 (i:Int):iZ "int" (.int i)=some (.bl true):=rfl
 have q2 (i:Int):iZ "bool" (.int i)=some (.bl false):=rfl
 walk_at "mir"
theorem isA (all sub:List Nat)(a:cO):sX all sub (bV a)=if all.contains a.c.n=true then some (.bl (sub.contains a.c.n))else none:=rfl
theorem zrv {many:Nat}{a:cO}(h:Right many a):I0 [bV a,.int (many:Int)]=some (.bl true):=by
 have w1:yx [.int (a.s:Int),.int 0,.int ((many:Int)-1)]=some (.bl true):=BD (by omega) (by have:=h.s;omega)
 have w2:yx [.int (a.g:Int),.int 0,.int ((many:Int)-1)]=some (.bl true):=BD (by omega) (by have:=h.g;omega)
 have w3:yx [.int a.t,.int 0,.int 1000000000]=some (.bl true):=BD h.t0 h.t1
 have f1:=fs a
 have f2:=fg a
 have f3:=ft a
 have f4:=fb a
 have hi:=λall sub=>isA all sub a
 have hb:=h.b
 have hr:=h.r
 have hk:=h.k
 clear h
 unfold I0
 cases hc:a.c with
 |ride=>
  have w4:yx [.int (a.b:Int),.int 0,.int 0]=some (.bl true):=BD (by omega) (by have:=hr hc;omega)
  rw[hc]at hi
  clear hr hk hb
  have hn:Kd.ride.n=1:=rfl
  walk_at "mir"
 |wait=>
  have w4:yx [.int (a.b:Int),.int 0,.int 4]=some (.bl true):=BD (by omega) (by omega)
  rw[hc]at hi
  clear hr hk hb
  have hn:Kd.wait.n=2:=rfl
  walk_at "mir"
 |back=>
  have w4:yx [.int (a.b:Int),.int 1,.int 4]=some (.bl true):=BD (by have:=hk hc;omega) (by omega)
  rw[hc]at hi
  clear hr hk hb
  have hn:Kd.back.n=3:=rfl
  walk_at "mir"
def W0 (as:List cO):List cO:=as.filter λa=>decide (a.b=0)
theorem Y4 (as:List cO)(l:as.length<=16777216)(r:L3.Env)(h:r[1]?.join=some (.lst (as.map bV))) :
  P7 r=some (.lst ((W0 as).map bV)):=by
 have e:lsD (eV 1) r=some (as.map bV):=by unfold lsD;have:eV 1 r=some (.lst (as.map bV)):=h;rw[this];rfl
 refine BH bV (λa=>decide (a.b=0)) bV as e l λa _=>⟨_,rfl,?_,λ_=>rfl⟩
 have:=fb a
 walk_at "mir"
def CN (s:(Nat->Int)×Option D)(a:cO):(Nat->Int)×Option D:=(λx=>if x=a.g then s.1 a.g+1 else s.1 x,some (bV a))
theorem Rq:∀(W:List cO) (s:(Nat->Int)×Option D) (g:Nat),(W.foldl CN s).1 g=s.1 g+(W.countP λa=>decide (a.g=g):Nat)
 |[],s,g=>by simp
 |a::W,s,g=>by
  rw[iQ,Rq W,fZ]
  by_cases hg:g=a.g
  ·subst hg;simp[CN];omega
  ·have:decide (a.g=g)=false:=by simp;exactλz=>hg z.symm
   simp[CN,hg,this]
def VI (here:Nat)(s:((Nat->Int)×List Nat)×Option D)(a:cO):((Nat->Int)×List Nat)×Option D:=(Kahn.stp here s.1 a,some (bV a))
theorem Rr (p:List Nat)(x:Nat):aB p++[D.int (x:Int)]=aB (p++[x]):=by simp[aB]
theorem zrw {many:Nat}{as:List cO}{f:Nat->Int}{p:List Nat}{here d:Nat}{x4:Option D}(hm:many<=1000)(hW:∀a∈W0 as,a.s<many/\a.g<many)(h:Kahn.Wh (W0 as) many f p d)(hh:p[d]?=some here) :
  ∃x,fT (gV 4) vm ((W0 as).map bV) [some (.int (many:Int)),some (.lst (as.map bV)),some (.lst ((W0 as).map bV)),some (.lst (eF many f)),x4,some (.lst (aB p)),some (.int (d:Int)),some (.int (here:Int))] =
   some (.nx [some (.int (many:Int)),some (.lst (as.map bV)),some (.lst ((W0 as).map bV)),some (.lst (eF many ((W0 as).foldl (Kahn.stp here) (f,p)).1)),x,some (.lst (aB ((W0 as).foldl (Kahn.stp here) (f,p)).2)),some (.int (d:Int)),some (.int (here:Int))]):=by
 have hd:d<p.length:=(aV.mp hh).1
 have hP:here∉p.take d:=λz=>by
  obtain⟨i,hi,e⟩:=eQ.mp z
  have Lz:i<d:=by rw[ei]at hi;omega
  rw[rX]at e
  have e2:p[d]=here:=(aV.mp hh).2
  have:=(lD (xs:=p) (h₀:=by omega) (h₁:=hd) h.ok.nd).mp (e.trans e2.symm)
  omega
 obtain⟨ρ',h1,x,pre,e1,e2⟩:=Q9 (g:=gV 4) (b:=vm) (ds:=(W0 as).map bV) (ρ:=[some (.int (many:Int)),some (.lst (as.map bV)),some (.lst ((W0 as).map bV)),some (.lst (eF many f)),x4,some (.lst (aB p)),some (.int (d:Int)),some (.int (here:Int))])
  (λds ρ=>∃x pre,ds=pre.map bV/\(∃post,W0 as=pre++post)/\Kahn.In (W0 as) many (p.take d) here pre (pre.foldl (Kahn.stp here) (f,p))/\ρ=[some (.int (many:Int)),some (.lst (as.map bV)),some (.lst ((W0 as).map bV)),some (.lst (eF many (pre.foldl (Kahn.stp here) (f,p)).1)),x,some (.lst (aB (pre.foldl (Kahn.stp here) (f,p)).2)),some (.int (d:Int)),some (.int (here:Int))])
  ⟨x4,[],rfl,⟨_,rfl⟩,⟨h.ok,λg=>by show f g=_;rw[h.fe];simp,h.z,λx hx=>by
   rcases hx with hx|rfl
   ·exact pN hx
   ·exact bG.mpr ⟨d,hh⟩⟩,rfl⟩ (by
  rintro ds dd post ρ e ⟨x,pre,rfl,⟨tD,e'⟩,I,rfl⟩
  rw[e',dc]at e
  have e3:=List.append_cancel_left e
  cases tD with
  |nil=>cases e3
  |cons a tD=>
   rw[aO]at e3
   cases e3
   have ha:a∈W0 as:=by rw[e'];simp
   have hl:=Kahn.len_le I.ok.nd I.ok.lt
   have I2:=I.step e' hP (hW a ha).2
   refine⟨_,_,rfl,.inl ?_,some (bV a),pre++[a],by simp,⟨tD,by rw[e'];simp⟩,by rw[rV];exact I2,rfl⟩
   rw[rV]
   generalize pre.foldl (Kahn.stp here) (f,p)=S at hl
   show vm _=some (.nx [_,_,_,some (.lst (eF many (Kahn.stp here S a).1)),_,some (.lst (aB (Kahn.stp here S a).2)),_,_])
   have f1:=fs a
   have f2:=fg a
   have eS:(aB S.2).length<16777216:=by simp[aB];omega
   unfold vm
   by_cases hs:a.s=here
   ·have EH:((a.s:Nat):Int)=(here:Int):=by rw[hs]
    have au:=RW (i:=3) (fj:=e1 (cV [0,1,2,3] "goal") (eV 4)) (f:=eC (.int 1)) (gi:=λi j=>i-j) (ρ:=[some (.int (many:Int)),some (.lst (as.map bV)),some (.lst ((W0 as).map bV)),some (.lst (eF many S.1)),some (bV a),some (.lst (aB S.2)),some (.int (d:Int)),some (.int (here:Int))]) (n:=many) (g:=a.g) (w:=S.1) (y:=1) rfl (by walk_at "mir") rfl (hW a ha).2
    have va:cH (.lst (eF many λx=>if x=a.g then S.1 a.g-1 else S.1 x)) (.int (a.g:Int))=some (.int (S.1 a.g-1)):=by
     have:=HF (λx=>if x=a.g then S.1 a.g-1 else S.1 x) (hW a ha).2
     rw[if_pos rfl]at this
     exact this
    by_cases h0:S.1 a.g-1=0
    ·have es:Kahn.stp here S a=(λx=>if x=a.g then S.1 a.g-1 else S.1 x,S.2++[a.g]):=by unfold Kahn.stp;simp[hs,h0]
     rw[es,←Rr]
     rw[h0]at va
     clear I I2 e' es
     walk_at "mir"
    ·have es:Kahn.stp here S a=(λx=>if x=a.g then S.1 a.g-1 else S.1 x,S.2):=by unfold Kahn.stp;simp[hs,h0]
     rw[es]
     clear I I2 e' es
     walk_at "mir"
   ·have es:Kahn.stp here S a=S:=by unfold Kahn.stp;rw[if_neg hs]
    rw[es]
    have EH:¬((a.s:Nat):Int)=(here:Int):=by omega
    clear I I2 e' es
    walk_at "mir")
 obtain⟨⟨post,e2⟩,I,rfl⟩:=e2
 have:pre=W0 as:=by
  have:=congrArg lN e1
  rw[ak,ak]at this
  rw[e2,bg]at this
  have hp:post=[]:=gh (by omega)
  rw[e2,hp,cz]
 rw[this]at h1
 exact⟨x,h1⟩
theorem zoo {many:Nat}(as:List cO)(l:as.length<=1000)(hm:many<=1000)(hs:∀a∈as,a.s<many/\a.g<many) :
  ∃(f:Nat->Int) (p:List Nat),v9 [.int (many:Int),.lst (as.map bV)]=some (.lst (aB p))/\Kahn.Wh (W0 as) many f p p.length:=by
 have hW:∀a∈W0 as,a.s<many/\a.g<many:=λa ha=>hs a (ce.mp ha).1
 obtain⟨c1,_⟩:=QW (g:=gV 4) (b:=je) bV (λs:(Nat->Int)×Option D=>[some (.int (many:Int)),some (.lst (as.map bV)),some (.lst ((W0 as).map bV)),some (.lst (eF many s.1)),s.2,none,none,none])
  CN (λ_=>True) (W0 as) (λ_=>0,none) trivial (λs a ha _=>by
   refine⟨_,rfl,.inl ?_,trivial⟩
   unfold je
   have f2:=fg a
   rw[RW (n:=many) (g:=a.g) (w:=s.1) (y:=1) rfl (by walk_at "mir") rfl (hW a ha).2]
   rfl)
 have c2:=Rq (W0 as) (λ_=>0,none)
 generalize UX:(W0 as).foldl CN (λ_=>0,none)=S0 at c1 c2
 obtain⟨f0,y4⟩:=S0
 dsimp only at c1 c2
 have LI:∀r:L3.Env,r[0]?.join=some (.int (many:Int))->r[3]?.join=some (.lst (eF many f0))->P6 r=some (.lst (aB ((ax many).filter λg=>decide (f0 g=0)))):=by
  intro r h0 h3
  refine BH (λ(t:Nat)=>D.int (t:Int)) (λg=>decide (f0 g=0)) (λ(t:Nat)=>D.int (t:Int)) (ax many) (Su h0 (by omega)) (by rw[bD];omega) ?_
  ·intro g hg
   refine⟨_,rfl,?_,λ_=>rfl⟩
   have hg:g<many:=bx.mp hg
   have hv:cH (.lst (eF many f0)) (.int (g:Int))=some (.int (f0 g)):=HF f0 hg
   have hc:fF r [3]=[some (.lst (eF many f0))]:=by unfold fF;simp[h3]
   rw[hc]
   walk_at "mir"
 generalize hq:((ax many).filter λg=>decide (f0 g=0))=p0 at LI
 have w0:Kahn.Wh (W0 as) many f0 p0 0:=by
  have hf:∀g,f0 g=Kahn.cnt (W0 as) [] g:=λg=>by
   rw[c2 g]
   unfold Kahn.cnt
   simp
  refine⟨⟨by rw[←hq];exact iz.filter _,λx hx=>by rw[←hq,ce,bx]at hx;exact hx.1,λi x hx a ha e=>?_⟩,by omega,hf,λg hg=>by rw[←hq,ce,bx];simp[hg]⟩
  have Bq:x∈p0:=bG.mpr ⟨i,hx⟩
  rw[←hq,ce]at Bq
  have h0:f0 x=0:=by simpa using Bq.2
  rw[hf]at h0
  have:=Kahn.cnt_zero.mp (by exact_mod_cast h0) a ha e
  cases this
 obtain⟨ρ',h1,⟨f,p,d,x4,x7,rfl,wh⟩,h3⟩:=Qv (c:=tb (e2 og (eV 6) (eN dg (aCons (eV 5) aNil)))) (b:=jd)
  (λρ=>∃f p d x4 x7,ρ=[some (.int (many:Int)),some (.lst (as.map bV)),some (.lst ((W0 as).map bV)),some (.lst (eF many f)),x4,some (.lst (aB p)),some (.int ((d:Nat):Int)),x7]/\Kahn.Wh (W0 as) many f p d)
  (λρ:L3.Env=>match ρ[6]? with|some (some (D.int i))=>(1001-i).toNat|_=>0) (by
   rintro ρ ⟨f,p,d,x4,x7,rfl,wh⟩
   have hl:(aB p).length=p.length:=by simp[aB]
   refine⟨decide ((d:Int)<(p.length:Int)),by walk_at "mir",λht=>?_⟩
   have hd:d<p.length:=by simpa using ht
   have hh:p[d]?=some p[d]:=by simp[hd]
   obtain⟨x,zS⟩:=zrw (x4:=x4) hm hW wh hh
   obtain⟨Hk,q,_⟩:=wh.step (λa ha=>(hW a ha).2) hh
   have rJ:=Kahn.len_le Hk.ok.nd Hk.ok.lt
   have Er:=Hk.dl
   refine⟨_,.inl ?_,⟨_,_,d+1,x,some (.int (p[d]:Int)),rfl,Hk⟩,?_⟩
   ·have hix:cH (.lst (aB p)) (.int (d:Int))=some (.int (p[d]:Int)):=j5 (by simp[aB,hd])
    have hau:i2 (λi j=>D.int (i+j)) (.int (d:Int)) (.int 1)=some (.int ((d+1:Nat):Int)):=by simp[i2]
    unfold jd AF
    clear wh Hk rJ Er
    walk_at "mir"
   ·show(1001-((d+1:Nat):Int)).toNat<(1001-(d:Int)).toNat
    omega) lH [some (.int (many:Int)),some (.lst (as.map bV)),some (.lst ((W0 as).map bV)),some (.lst (eF many f0)),y4,some (.lst (aB p0)),some (.int ((0:Nat):Int)),none] ⟨f0,p0,0,y4,none,rfl,w0⟩ (by
   show(1001-((0:Nat):Int)).toNat<lH
   have:(1001:Nat)<lH:=NE (by decide)
   omega)
 have hd:d=p.length:=by
  have hl:(aB p).length=p.length:=by simp[aB]
  have h4:(tb (e2 og (eV 6) (eN dg (aCons (eV 5) aNil)))) [some (.int (many:Int)),some (.lst (as.map bV)),some (.lst ((W0 as).map bV)),some (.lst (eF many f)),x4,some (.lst (aB p)),some (.int (d:Int)),x7]=some (decide ((d:Int)<(p.length:Int))):=by walk_at "mir"
  rw[h4]at h3
  have:=wh.dl
  simp at h3
  omega
 subst hd
 refine⟨f,p,?_,wh⟩
 have r1:=Y4 as (by omega)
 have rp:p9 (.lst [.int 0]) (.int (many:Int))=some (.lst (eF many λ_=>0)):=by
  unfold p9
  dsimp only
  rw[if_pos ⟨by omega,by omega,by simp⟩]
  congr 2
  unfold eF
  rw[tR,bD]
  simp
 rw[show(((0:Nat):Int))=0 from rfl]at h1
 unfold v9 fV
 clear hs hW c2 UX hq w0 wh h3 l hm
 walk_at "mir"
def bU (ns:List D)(as:List cO):D:=.obj 4 ["names","arrows"] [.lst ns,.lst (as.map bV)]
structure lh (many:Nat)(as:List cO):Prop where
 pos:1<=many
 le:many<=40
 len:as.length<=120
 right:∀a∈as,Right many a
 rank:∃rank:Nat->Nat,∀a∈as,a.b=0->rank a.s<rank a.g
theorem lh.placed {many:Nat}{as:List cO}(h:lh many as):∃p:List Nat,v9 [.int (many:Int),.lst (as.map bV)]=some (.lst (aB p))/\Kahn.Ok (W0 as) many p/\p.length=many/\∀g,g<many->g∈p:=by
 obtain⟨f,p,h1,h2⟩:=zoo (many:=many) as (by have:=h.len;omega) (by have:=h.le;omega) (λa ha=>⟨(h.right a ha).s,(h.right a ha).g⟩)
 obtain⟨rank,hr⟩:=h.rank
 have all:=h2.all rank (λa ha=>by
  have:=ce.mp ha
  exact hr a this.1 (by simpa using this.2)) (λa ha=>(h.right a (ce.mp ha).1).s)
 exact⟨p,h1,h2.ok,Kahn.len_of h2.ok.nd h2.ok.lt all,all⟩
theorem zva {many:Nat}{as:List cO}{ns:List D}(h:lh many as)(hn:ns.length=many)(Ir:qf [.lst ns]=some (.bl true)):jl 4 [.lst ns,.lst (as.map bV)]=some (bU ns as):=by
 obtain⟨p,hp,_,hl,_⟩:=h.placed
 have eS:=h.len
 obtain⟨ρ',h1,x3,x4,rfl⟩:=Q9 (g:=gT (gsCons (gV 3) (gsCons (gV 4) gsNil))) (b:=qy) (ds:=iW 0 (as.map bV)) (ρ:=[some (.obj 4 [] []),some (.lst ns),some (.lst (as.map bV)),none,none,none])
  (λ_ ρ=>∃x3 x4,ρ=[some (.obj 4 [] []),some (.lst ns),some (.lst (as.map bV)),x3,x4,none]) ⟨none,none,rfl⟩ (by
   rintro pre d post ρ e ⟨x3,x4,rfl⟩
   obtain⟨x,hx,rfl⟩:=M6 (ztr e)
   rw[aX]at hx
   obtain⟨a,ha,rfl⟩:=dN.mp hx
   have hr:=zrv (h.right a (bG.mpr ⟨_,ha⟩))
   refine⟨_,_,rfl,.inl ?_,some (.int (0+pre.length:Nat)),some (bV a),rfl⟩
   unfold qy
   rw[←hn]at hr
   clear hp hl hn eS h
   walk_at "mir")
 have hz:(aB p).length=many:=by simp[aB,hl]
 have hgt:¬((as.length:Int) > 120):=by omega
 rw[←hn]at hp hz
 have l1:∀ds:List D,nI [.lst ds]=some (.lst ds):=λ_=>rfl
 have s1:kn [4] "names" (eN nI (aCons (eV 1) aNil)) [some (D.obj 4 [] []),some (.lst ns),some (.lst (as.map bV)),x3,x4,some (.lst (aB p))]=some (.nx [some (D.obj 4 ["names"] [.lst ns]),some (.lst ns),some (.lst (as.map bV)),x3,x4,some (.lst (aB p))]):=rfl
 have s2:kn [4] "arrows" (eN nI (aCons (eV 2) aNil)) [some (D.obj 4 ["names"] [.lst ns]),some (.lst ns),some (.lst (as.map bV)),x3,x4,some (.lst (aB p))]=some (.nx [some (bU ns as),some (.lst ns),some (.lst (as.map bV)),x3,x4,some (.lst (aB p))]):=rfl
 clear h eS hl hn
 unfold jl Ah
 walk_at "mir"
theorem N1 (ns:List Int)(i:Int)(hi:0<=i):∃c,zl [.lst (ns.map .int),.int i]=some (.int c):=by
 obtain⟨k,rfl⟩:∃k:Nat,i=k:=⟨i.toNat,by omega⟩
 unfold zl
 by_cases h:k<ns.length
 ·refine⟨ns[k],?_⟩
  have:cH (.lst (ns.map .int)) (.int (k:Int))=some (.int ns[k]):=zq9 D.int (.inl rfl) (by simp[h])
  walk_at "mir"
 ·refine⟨0,?_⟩
  walk_at "mir"
def oY (c:Int):Bool:=decide (1237940039285380274899124224<=c)&&decide (c%2=1)
theorem NJ (c:Int):u5 [.int c]=some (.bl (oY c)):=by
 unfold u5 oY
 by_cases h1:(1237940039285380274899124224:Int)<=c<;>by_cases h2:c%2=1<;>walk_at "mir"
theorem RX (c:Int){k:Int}(h0:0<=k)(h1:k<=1000000):∃r:Nat,wq [.int c,.int k]=some (.int (r:Int))/\r<2147483648:=by
 have m0:cT (.int 31) (.int k)=some (.int (31*k)):=zdq (by decide) (by decide)
 have s0:rN (.int c) (.int (1+31*k))=some (.int (c/2 ^ (1+31*k).toNat)):=zi2 (by omega)
 have r0:=NJ c
 have fin:∀z:Int,∀m:Int,0<m->m<=2147483648->∃r:Nat,(some (D.int (z%m)):Option D)=some (.int (r:Int))/\r<2147483648:=λz m hm mB=>by
  have a1:=uE z (by omega:m≠0)
  have a2:=Int.emod_lt_of_pos z hm
  exact⟨(z%m).toNat,by rw[qT a1],by omega⟩
 generalize hn:(c+7919*k+1)*48271%2147483647=n1
 have b1:0<=n1/\n1<2147483647:=by omega
 have m1:cT (.int 7919) (.int k)=some (.int (7919*k)):=zdq (by decide) (by decide)
 have m2:cT (.int (c+7919*k+1)) (.int 48271)=some (.int ((c+7919*k+1)*48271)):=zb1 (by decide) (by decide)
 have m3:cT (.int n1) (.int (n1/1009+69621))=some (.int (n1*(n1/1009+69621))):=zdq (by omega) (by omega)
 generalize wC:n1*(n1/1009+69621)%2147483647=n2
 have b2:0<=n2/\n2<2147483647:=by omega
 have m4:cT (.int n2) (.int (n2/2003+39373+k))=some (.int (n2*(n2/2003+39373+k))):=zdq (by omega) (by omega)
 unfold wq
 by_cases hr:oY c=true
 ·by_cases hs:c/2 ^ (1+31*k).toNat > 0
  ·obtain⟨r,e1,e2⟩:=fin (c/2 ^ (1+31*k).toNat) 2147483648 (by decide) (by decide)
   refine⟨r,?_,e2⟩
   rw[←e1]
   generalize c/2 ^ (1+31*k).toNat=q at s0 hs
   clear e1 e2 fin hn wC b1 b2 h0 h1
   walk_at "mir"
  ·obtain⟨r,e1,e2⟩:=fin (n2*(n2/2003+39373+k)) 2147483629 (by decide) (by decide)
   refine⟨r,?_,e2⟩
   rw[←e1]
   generalize c/2 ^ (1+31*k).toNat=q at s0 hs
   clear e1 e2 fin b1 b2 h0 h1
   walk_at "mir"
 ·obtain⟨r,e1,e2⟩:=fin (n2*(n2/2003+39373+k)) 2147483629 (by decide) (by decide)
  refine⟨r,?_,e2⟩
  rw[←e1]
  clear e1 e2 fin b1 b2 h0 h1 s0
  walk_at "mir"
theorem Rt (g:Nat):∀O:List Nat,g∈O->∃j:Nat,(aB O).findIdx? (λy=>rF y (.int (g:Int)))=some j
 |[],h=>by cases h
 |x::O,h=>by
  have hc:aB (x::O)=.int (x:Int)::aB O:=rfl
  rw[hc,jW]
  by_cases hx:x=g
  ·refine⟨0,?_⟩
   have:rF (.int (x:Int)) (.int (g:Int))=true:=by simp[rF,hx]
   rw[this];rfl
  ·have:rF (.int (x:Int)) (.int (g:Int))=false:=by simp[rF];omega
   rw[this]
   obtain⟨j,hj⟩:=Rt g O (by
    rcases aF.mp h with e|e
    ·exact absurd e.symm hx
    ·exact e)
   exact⟨j+1,by rw[hj];rfl⟩
theorem zrx (O:List Nat):(aB O).all D.sc=true:=by
 rw[fY]
 intro d hd
 obtain⟨t,_,rfl⟩:=bM.mp hd
 rfl
def LX (O:List Nat)(g:Nat):Nat:=((aB O).findIdx? (λy=>rF y (.int (g:Int)))).getD 0
theorem zop {g:Nat}{O:List Nat}(h:g∈O):sW (.lst (aB O)) (.int (g:Int))=some (.int (LX O g:Int)):=by
 obtain⟨j,hj⟩:=Rt g O h
 unfold sW LX
 dsimp only
 rw[if_pos ⟨rfl,zrx O⟩,hj]
 rfl
def jO (c k:Int):Nat:=match wq [.int c,.int k]with
 |some (.int r)=>r.toNat
 |_=>0
theorem NK (c:Int){k:Int}(h0:0<=k)(h1:k<=1000000):wq [.int c,.int k]=some (.int (jO c k:Int))/\jO c k<2147483648:=by
 obtain⟨r,h,hr⟩:=RX c h0 h1
 unfold jO
 rw[h]
 simpa using hr
def my (bW:Int)(many:Nat):Nat->List Nat×List Nat
 |0=>([],ax many)
 |k+1=>
  let S:=my bW many k
  let i:=jO bW (k:Int)%S.2.length
  (S.1++[S.2.getD i 0],S.2.eraseIdx i)
theorem QB {α:Type}:∀(l:List α) (i:Nat) (h:i<l.length),(l[i]::l.eraseIdx i).Perm l
 |[],_,h=>by simp at h
 |x::l,0,_=>by simp
 |x::l,i+1,h=>by
  have ih:=QB l i (by simpa using h)
  simp only[List.getElem_cons_succ,oC]
  exact(List.Perm.swap x _ _).trans (ih.cons x)
theorem N2 (bW:Int)(many:Nat):∀k,k<=many->(my bW many k).2.length=many-k/\((my bW many k).1++(my bW many k).2).Perm (ax many)
 |0,_=>by simp[my]
 |k+1,h=>by
  obtain⟨h1,h2⟩:=N2 bW many k (by omega)
  unfold my
  dsimp only
  generalize my bW many k=S at h1 h2
  have hi:jO bW (k:Int)%S.2.length<S.2.length:=gQ _ (by omega)
  generalize jO bW (k:Int)%S.2.length=i at hi
  refine⟨by rw[List.length_eraseIdx_of_lt hi];omega,?_⟩
  have e:=QB S.2 i hi
  have hg:S.2.getD i 0=S.2[i]:=by simp[hi]
  rw[hg,d8]
  exact(List.Perm.append_left S.1 e).trans h2
theorem QC:∀(L:List Nat) (i:Nat),(aB L).eraseIdx i=aB (L.eraseIdx i)
 |[],_=>rfl
 |_::_,0=>rfl
 |x::L,i+1=>by
  have ih:=QC L i
  show D.int (x:Int)::(aB L).eraseIdx i=D.int (x:Int)::aB (L.eraseIdx i)
  rw[ih]
theorem zoq (bW:Int){many:Nat}(h2:many<=1000)(g:Nat):∃x5:Option D,fT (gV 5) jm (eE 0 many) [some (.int bW),some (.int (many:Int)),some (.int (g:Int)),some (.lst []),some (.lst (eE 0 many)),none] =
  some (.nx [some (.int bW),some (.int (many:Int)),some (.int (g:Int)),some (.lst (aB (my bW many many).1)),some (.lst (aB (my bW many many).2)),x5]):=by
 have hu:eE 0 many=aB (ax many):=by simp[eE,aB]
 obtain⟨ρ',h1,x5,rfl⟩:=Qu (g:=gV 5) (b:=jm) (lo:=0) (n:=many) (ρ:=[some (.int bW),some (.int (many:Int)),some (.int (g:Int)),some (.lst []),some (.lst (eE 0 many)),none])
  (λk ρ=>∃x5,ρ=[some (.int bW),some (.int (many:Int)),some (.int (g:Int)),some (.lst (aB (my bW many k).1)),some (.lst (aB (my bW many k).2)),x5]) ⟨none,by rw[hu];rfl⟩ (by
   rintro k ρ hk ⟨x5,rfl⟩
   obtain⟨o1,o2⟩:=N2 bW many k (by omega)
   have o3:=o2.length_eq
   rw[bg,bD]at o3
   obtain⟨mx,mb⟩:=NK bW (k:=0+(k:Int)) (by omega) (by omega)
   refine⟨_,_,rfl,.inl ?_,some (.int (0+(k:Int))),rfl⟩
   have e0:(0:Int)+(k:Int)=(k:Int):=by omega
   rw[e0]at mx ⊢
   show jm [some (.int bW),some (.int (many:Int)),some (.int (g:Int)),some (.lst (aB (my bW many k).1)),some (.lst (aB (my bW many k).2)),some (.int (k:Int))]=some (.nx [some (.int bW),some (.int (many:Int)),some (.int (g:Int)),some (.lst (aB ((my bW many k).1++[(my bW many k).2.getD (jO bW (k:Int)%(my bW many k).2.length) 0]))),some (.lst (aB ((my bW many k).2.eraseIdx (jO bW (k:Int)%(my bW many k).2.length)))),some (.int (k:Int))])
   generalize my bW many k=S at o1 o3
   have hi:jO bW (k:Int)%S.2.length<S.2.length:=gQ _ (by omega)
   have md:cX (.int (jO bW (k:Int):Int)) (.int ((aB S.2).length:Int))=some (.int ((jO bW (k:Int)%S.2.length:Nat):Int)):=by
    rw[jg (by simp[aB];omega)]
    simp[aB]
   generalize jO bW (k:Int)%S.2.length=i at hi md
   have hg:S.2.getD i 0=S.2[i]:=by simp[hi]
   have l1:(aB S.1).length<16777216:=by simp[aB];omega
   have l2:(aB S.2).length<=16777216:=by simp[aB];omega
   have ix:ixN (aB S.2).length (i:Int)=some i:=zru (by simp[aB];exact hi)
   have gt:(aB S.2)[i]?=some (.int (S.2[i]:Int)):=by simp[aB,hi]
   have ev:eN dg (aCons (eV 4) aNil) [some (.int bW),some (.int (many:Int)),some (.int (g:Int)),some (.lst (aB S.1)),some (.lst (aB S.2)),some (.int (k:Int))]=some (.int ((aB S.2).length:Int)):=rfl
   have em:(aCons (eV 0) (aCons (eV 5) aNil) [some (.int bW),some (.int (many:Int)),some (.int (g:Int)),some (.lst (aB S.1)),some (.lst (aB S.2)),some (.int (k:Int))]).bind (λds=>wq (ds++[]))=some (.int (jO bW (k:Int):Int)):=mx
   have ee:e2 cX (λρ=>((aCons (eV 0) (aCons (eV 5) aNil)) ρ).bind λds=>wq (ds++[])) (eN dg (aCons (eV 4) aNil)) [some (.int bW),some (.int (many:Int)),some (.int (g:Int)),some (.lst (aB S.1)),some (.lst (aB S.2)),some (.int (k:Int))]=some (.int (i:Int)):=by
    unfold e2
    dsimp only
    rw[em,ev]
    exact md
   unfold jm oq
   rw[ee]
   show(if(aB S.1).length<16777216/\(aB S.2).length<=16777216 then _ else _)=_
   rw[if_pos ⟨l1,l2⟩,ix]
   show((aB S.2)[i]?).bind _=_
   rw[gt,hg,←Rr,←QC]
   rfl)
 exact⟨x5,h1⟩
theorem zt2 (bW:Int){many:Nat}(h1:1<=many)(h2:many<=1000):∃rk:Nat->Nat,∀g,g<many->jf [.int bW,.int (many:Int),.int (g:Int)]=some (.int (rk g:Int)):=by
 have hr:=NJ bW
 cases Vr:oY bW with
 |false=>
  refine⟨λg=>(((g:Int)+bW)%(many:Int)).toNat,λg hg=>?_⟩
  have a1:=uE ((g:Int)+bW) (by omega:(many:Int)≠0)
  have a2:cX (.int ((g:Int)+bW)) (.int (many:Int))=some (.int (((g:Int)+bW)%(many:Int))):=jg (by omega)
  rw[qT a1]
  unfold jf
  clear a1
  walk_at "mir"
 |true=>
  obtain⟨o1,o2⟩:=N2 bW many many (aM _)
  rw[Nat.sub_self]at o1
  have o3:(my bW many many).2=[]:=gh o1
  rw[o3,cz]at o2
  refine⟨LX (my bW many many).1,λg hg=>?_⟩
  obtain⟨x5,lp⟩:=zoq bW h2 g
  have ix:=zop (g:=g) (O:=(my bW many many).1) (o2.mem_iff.mpr (bx.mpr hg))
  have lr:iI [.int (many:Int)]=some (.lst (eE 0 many)):=by
   unfold iI
   dsimp only
   rw[if_pos ⟨by omega,by omega⟩]
   simp
  have r1:iE [.int (many:Int)]=some (eE 0 many):=by
   rw[AN (by omega) (by omega)]
   simp
  unfold jf
  generalize my bW many many=S at lp ix
  clear o1 o2 o3
  walk_at "mir"
def bL (a:cO):D:=.tup [.int a.s,.int a.g,.int a.t,.int a.b]
theorem Zm (c many bW n s g b:Int):∃t:Int,0<=t/\t<=1000000000/\jw [some (.int c),some (.int many),some (.int bW),some (.int n),some (.int s),some (.int g),some (.int b),none]=some (.rt (.tup [.int s,.int g,.int t,.int b])):=by
 obtain⟨m2,_⟩:=NK c (k:=30) (by decide) (by decide)
 generalize jO c 30=u at m2
 have row:=NJ c
 unfold jw
 by_cases hr:oY c=true
 ·refine⟨(u:Int)%1000000001,by omega,by omega,?_⟩
  by_cases h3:c%3=2<;>walk_at "mir"
 ·by_cases h3:c%3=2
  ·refine⟨c/3%1000000001,by omega,by omega,?_⟩
   walk_at "mir"
  ·refine⟨n/1000%10,by omega,by omega,?_⟩
   walk_at "mir"
theorem zry (c bW:Int){many:Nat}(h1:1<=many)(h2:many<=1000)(rk:Nat->Nat)(n9:∀g,g<many->jf [.int bW,.int (many:Int),.int (g:Int)]=some (.int (rk g:Int))) :
  ∃a:cO,ve [.int c,.int (many:Int),.int bW]=some (bL a)/\a.s<many/\a.g<many/\0<=a.t/\a.t<=1000000000/\a.b<=4/\(a.b=0->rk a.s<rk a.g):=by
 obtain⟨m1,_⟩:=NK c (k:=1) (by decide) (by decide)
 generalize jO c 1=n at m1
 have hs:n%many<many:=gQ _ (by omega)
 have hg:n/8%many<many:=gQ _ (by omega)
 have e1:cX (.int (n:Int)) (.int (many:Int))=some (.int ((n%many:Nat):Int)):=by rw[jg (by omega)];simp
 have e2:cX (.int ((n:Int)/8)) (.int (many:Int))=some (.int ((n/8%many:Nat):Int)):=by rw[jg (by omega)];simp
 have k1:=n9 _ hs
 have k2:=n9 _ hg
 generalize n%many=s0,n/8%many=g0 at *
 have fin:∀b:Nat,b<=4->(b=0->rk s0<rk g0)->(∀t:Int,jw [some (.int c),some (.int (many:Int)),some (.int bW),some (.int (n:Int)),some (.int (s0:Int)),some (.int (g0:Int)),some (.int (b:Int)),none]=some (.rt (.tup [.int s0,.int g0,.int t,.int b]))->ve [.int c,.int (many:Int),.int bW]=some (.tup [.int s0,.int g0,.int t,.int b])) ->
   ∃a:cO,ve [.int c,.int (many:Int),.int bW]=some (bL a)/\a.s<many/\a.g<many/\0<=a.t/\a.t<=1000000000/\a.b<=4/\(a.b=0->rk a.s<rk a.g):=by
  intro b hb vW h
  obtain⟨t,t0,t1,ht⟩:=Zm c many bW n s0 g0 b
  exact⟨⟨.wait,s0,g0,t,b⟩,h t ht,hs,hg,t0,t1,hb,vW⟩
 have eb:((n:Int)/64)%5=((n/64%5:Nat):Int):=by omega
 have Ia:(1:Int)+(n:Int)/320%2=((1+n/320%2:Nat):Int):=by omega
 by_cases q:n/64%5=0
 ·have q':((n:Int)/64)%5=0:=by omega
  by_cases q2:rk g0<=rk s0
  ·have GU:((rk g0:Nat):Int)<=(rk s0:Int):=by omega
   refine fin (1+n/320%2) (by omega) (by omega) λt ht=>?_
   rw[←Ia]at ht ⊢
   unfold ve
   clear eb Ia q hs hg q2 n9 fin
   walk_at "mir"
  ·have GU:¬((rk g0:Nat):Int)<=(rk s0:Int):=by omega
   refine fin 0 (by omega) (by omega) λt ht=>?_
   rw[show((0:Nat):Int)=0 from rfl]at ht ⊢
   unfold ve
   clear eb Ia q hs hg q2 n9 fin
   walk_at "mir"
 ·have q':¬((n:Int)/64)%5=0:=by omega
  refine fin (n/64%5) (by omega) (by omega) λt ht=>?_
  rw[←eb]at ht ⊢
  unfold ve
  clear eb Ia q hs hg n9 fin
  walk_at "mir"
def kL (b:Nat)(kind:Int):Kd:=if b=0/\kind%2=0 then .ride else if 0<b/\kind%2=0 then .back else .wait
def nJ (a:cO)(kind:Int):cO:={ a with c:=kL a.b kind }
theorem zt3 (s g t:Int):MP 1 [.int s,.int g,.int t]=some (.obj 1 ["start","goal","time","behind"] [.int s,.int g,.int t,.int 0]):=rfl
theorem zt4 (s g t b:Int):MQ 2 [.int s,.int g,.int t,.int b]=some (.obj 2 ["start","goal","time","behind"] [.int s,.int g,.int t,.int b]):=rfl
theorem zt5 (s g t b:Int):MR 3 [.int s,.int g,.int t,.int b]=some (.obj 3 ["start","goal","time","behind"] [.int s,.int g,.int t,.int b]):=rfl
theorem zt6 (a:cO)(kind:Int):Ja [bL a,.int kind]=some (bV (nJ a kind)):=by
 obtain⟨c,s,g,t,b⟩:=a
 have r1:=zt3
 have r2:=zt4
 have r3:=zt5
 unfold Ja bL nJ bV
 dsimp only
 by_cases hb:b=0
 ·by_cases hk:kind%2=0
  ·subst hb
   have:kL 0 kind=.ride:=by unfold kL;rw[if_pos ⟨rfl,hk⟩]
   rw[this]
   have e:(((0:Nat)):Int)=0:=rfl
   have hn:Kd.ride.n=1:=rfl
   walk_at "mir"
  ·have:kL b kind=.wait:=by unfold kL;rw[if_neg (λz=>hk z.2),if_neg (λz=>hk z.2)]
   rw[this]
   have hn:Kd.wait.n=2:=rfl
   have zK:(b:Int)=0:=by omega
   walk_at "mir"
 ·have zK:¬(b:Int)=0:=by omega
  have U2:0<b:=by omega
  by_cases hk:kind%2=0
  ·have:kL b kind=.back:=by unfold kL;rw[if_neg (λz=>hb z.1),if_pos ⟨by omega,hk⟩]
   rw[this]
   have hn:Kd.back.n=3:=rfl
   clear zK
   walk_at "mir"
  ·have:kL b kind=.wait:=by unfold kL;rw[if_neg (λz=>hk z.2),if_neg (λz=>hk z.2)]
   rw[this]
   have hn:Kd.wait.n=2:=rfl
   clear zK
   walk_at "mir"
def nm (n:Nat):List D:=(ax n).map λ(k:Nat)=>D.str ("a"++wI (k:Int))
def LU:Option D->Bool
 |some (.bl true)=>true
 |_=>false
theorem zt7 {x:Option D}(h:LU x=true):x=some (.bl true):=by
 unfold LU at h
 split at h
 ·rfl
 ·cases h
structure Drawn (many:Nat)(rk:Nat->Nat)(a:cO):Prop where
 s:a.s<many
 g:a.g<many
 t0:0<=a.t
 t1:a.t<=1000000000
 b:a.b<=4
 r:a.b=0->rk a.s<rk a.g
theorem Drawn.right {many:Nat}{rk:Nat->Nat}{a:cO}(h:Drawn many rk a)(kind:Int):Right many (nJ a kind):=by
 refine⟨h.s,h.g,h.t0,h.t1,h.b,λz=>?_,λz=>?_⟩
 ·change kL a.b kind=.ride at z
  unfold kL at z
  split at z
  ·next q=>exact q.1
  ·split at z<;>cases z
 ·change kL a.b kind=.back at z
  unfold kL at z
  split at z
  ·cases z
  ·split at z
   ·next q=>exact q.1
   ·cases z
theorem Q5 {κ:Type}(h:κ×D->D):∀(ks:List κ) (ds:List D),ks.zip ((ks.zip ds).map h)=(ks.zip ds).map λp=>(p.1,h p)
 |[],_=>rfl
 |_::_,[]=>rfl
 |k::ks,d::ds=>by
  show(k,h (k,d))::ks.zip ((ks.zip ds).map h)=(k,h (k,d))::(ks.zip ds).map _
  rw[Q5 h ks ds]
theorem zor {κ:Type}[DecidableEq κ]{ks:List κ}{ds:List D}(hl:ks.length=ds.length)(k k':κ)(d:D):iX (fH ks ds k d).1 (fH ks ds k d).2 k'=if k'=k then some d else iX ks ds k':=by
 unfold fH
 by_cases hc:ks.contains k=true
 ·rw[if_pos hc]
  unfold iX
  dsimp only
  rw[Q5,List.find?_map]
  by_cases hk:k'=k
  ·subst hk
   rw[if_pos rfl]
   have hm:k'∈ks:=by simpa using hc
   have:∃p∈ks.zip ds,p.1=k':=by
    obtain⟨i,hi,e⟩:=eQ.mp hm
    refine⟨(ks[i],ds[i]),?_,e⟩
    rw[eQ]
    exact⟨i,by rw[eA];omega,by simp⟩
   obtain⟨p,hp,he⟩:=this
   cases hf:(ks.zip ds).find? ((λp:κ×D=>decide (p.1=k')) ∘ λp:κ×D=>(p.1,if p.1=k' then d else p.2))with
   |none=>
    rw[qV]at hf
    have:=hf p hp
    simp[he]at this
   |some q=>
    have hq:=tS hf
    simp at hq
    simp[hq]
  ·rw[if_neg hk]
   have:((λp:κ×D=>decide (p.1=k')) ∘ λp:κ×D=>(p.1,if p.1=k then d else p.2))=λp:κ×D=>decide (p.1=k'):=rfl
   rw[this]
   cases hf:(ks.zip ds).find? λp=>decide (p.1=k')with
   |none=>rfl
   |some q=>
    have hq:=tS hf
    simp at hq
    have iY:¬q.1=k:=λz=>hk (hq▸z)
    simp[iY]
 ·rw[if_neg hc]
  unfold iX
  dsimp only
  have hz:(ks++[k]).zip (ds++[d])=ks.zip ds++[(k,d)]:=by
   rw[tW hl];rfl
  rw[hz,List.find?_append]
  by_cases hk:k'=k
  ·subst hk
   rw[if_pos rfl]
   have hn:(ks.zip ds).find? (λp=>decide (p.1=k'))=none:=by
    rw[qV]
    intro p hp
    have hm:=(gw (a:=p.1) (b:=p.2) hp).1
    have mB:¬k'∈ks:=by simpa using hc
    simp
    intro z
    exact mB (z▸hm)
   rw[hn]
   simp
  ·rw[if_neg hk]
   have:¬k=k':=λz=>hk z.symm
   cases hf:(ks.zip ds).find? (λp=>decide (p.1=k'))<;>simp[this]
theorem RY {κ:Type}[DecidableEq κ]{ks:List κ}{ds:List D}(hl:ks.length=ds.length)(k:κ)(d:D):(fH ks ds k d).1.length=(fH ks ds k d).2.length/\(fH ks ds k d).1.length<=ks.length+1:=by
 unfold fH
 by_cases hc:ks.contains k=true
 ·rw[if_pos hc];simp;omega
 ·rw[if_neg hc];simp[hl]
theorem Nq (ns:List D)(as:List cO):cV [4] "names" (bU ns as)=some (.lst ns):=rfl
theorem Bx (ns:List D)(as:List cO):cV [4] "arrows" (bU ns as)=some (.lst (as.map bV)):=rfl
theorem zos {ns:List Int}{r:L3.Env}(i a b:Nat)(h:r[i]?.join=some (.lst (ns.map .int))):lsD (λρ=>((eV i) ρ).bind λd=>((pInt (eC (.int a))) ρ).bind λl=>((pInt (eC (.int b))) ρ).bind λh=>jP d l h) r=some (((ns.drop a).take (b-a)).map .int):=by
 have e:eV i r=some (.lst (ns.map .int)):=h
 unfold lsD
 show(((eV i) r).bind _).bind _=_
 rw[e]
 show some (cutD (ns.map .int) (some (a:Int)) (some (b:Int)))=_
 rw[znt,nR,gb]
theorem drawn (bW:Int){many:Nat}(h1:1<=many)(h2:many<=1000):∃(mk:Int->cO) (rk:Nat->Nat),(∀c,ve [.int c,.int (many:Int),.int bW]=some (bL (mk c)))/\∀c,Drawn many rk (mk c):=by
 obtain⟨rk,n9⟩:=zt2 bW h1 h2
 have:=λc=>zry c bW h1 h2 rk n9
 refine⟨λc=>Classical.choose (this c),rk,λc=>(Classical.choose_spec (this c)).1,λc=>?_⟩
 obtain⟨_,a,b,c,d,e,f⟩:=Classical.choose_spec (this c)
 exact⟨a,b,c,d,e,f⟩
theorem zrz (g:Nat)(hg:g<=1000000):rP [.int (g:Int)]=some (.str (wI (g:Int)))/\ej (.str "a") (.str (wI (g:Int)))=some (.str ("a"++wI (g:Int))):=by
 have h:Sz 1900 (g:Int):=by
  show(g:Int).natAbs<2 ^ 1900
  have:(2:Nat) ^ 20<=2 ^ 1900:=dG (by decide) (by decide)
  omega
 have h2:=zrc h
 have h3:("a":aQ).length=1:=by decide
 exact⟨zny h,znp (by omega)⟩
def fr (q:Int×Int):D:=.tup [.int q.1,.int q.2]
theorem t4 (q:Int×Int):cH (fr q) (.int 0)=some (.int q.1):=rfl
theorem mz (q:Int×Int):cH (fr q) (.int 1)=some (.int q.2):=rfl
def Fz (n:Nat)(q:Int×Int):Prop:=Sz n q.1/\Sz n q.2
theorem Fz.mono {n m:Nat}{q:Int×Int}(h:Fz n q)(hm:n<=m):Fz m q:=⟨h.1.mono hm,h.2.mono hm⟩
theorem OL {neg:Bool}(p q:Int×Int):eK neg (fr p) (fr q)=some (.bl (if neg then !decide (p=q)else decide (p=q))):=(E2 Ei Ei).eq (by decide) p q
theorem jz {n:Nat}{i w:Int}(h1:-w<=i)(h2:i<=w)(hw:w<2 ^ n):Sz n i:=by
 unfold Sz
 have:(i.natAbs:Int)<2 ^ n:=by omega
 exact_mod_cast this
theorem MF {x y:Int}(hy:Sz 8000 y):ut [.int x,.int y]=some (.int ((dm x y:Nat):Int)):=by
 obtain⟨s',h1,h2,h3,r,h5⟩:=IT (c:=tb (e2 (eK true) (eV 1) (eC (D.int 0)))) (b:=u8) (λs:Int×Int×Option D=>[some (.int s.1),some (.int s.2.1),s.2.2]) (λs=>!decide (s.2.1=0)) (λs=>(s.2.1,s.1.fmod s.2.1,some (.int (s.1.fmod s.2.1)))) (λs=>s.2.1.natAbs) (λs=>dm s.1 s.2.1=dm x y)
  (λs hp=>by walk_at "mir") (λs hp ht=>by
   have hs:s.2.1≠0:=by simpa using ht
   refine⟨.inl ?_,(Fq.gcd_step s.1 s.2.1).trans hp,Fq.fmod_less s.1 hs⟩
   unfold u8
   have:=NF (i:=s.1) hs
   walk_at "mir") lH (x,y,none) rfl (Ju hy (by decide))
 have h3:s'.2.1=0:=by simpa using h3
 have h4:=Fq.gcd_end s'.1
 rw[h3]at h2
 rw[h2]at h4
 clear h5
 unfold ut fV
 walk_at "mir"
theorem BI {t b:Int}(hb:b≠0)(hz:Sz 8000 b):vH [.int t,.int b]=some (fr (Fq.mk t b)):=by
 have e:=MF (x:=t) hz
 have hg:=Fq.gcd_pos (t:=t) (b:=b) hb
 have hd:Fq.dv t b≠0:=by unfold Fq.dv;split<;>omega
 have jC:Sz 9000 (Fq.dv t b):=(hz.le (Fq.dv_le hb)).mono (by decide)
 have e1:=Jg (i:=t) hd jC
 have e2:=Jg (i:=b) hd jC
 unfold vH fr Fq.mk
 by_cases hn:b<0
 ·have hd:Fq.dv t b = -((dm t b:Nat):Int):=by unfold Fq.dv;rw[if_pos hn]
  rw[hd]at e1 e2 ⊢
  walk_at "mir"
 ·have hd:Fq.dv t b=((dm t b:Nat):Int):=by unfold Fq.dv;rw[if_neg hn]
  rw[hd]at e1 e2 ⊢
  walk_at "mir"
theorem HL {n:Nat}{t b:Int}(hb:b≠0)(ht:Sz n t)(hz:Sz n b):Fz n (Fq.mk t b):=⟨ht.le (Fq.mk_le_one hb),hz.le (Fq.mk_le_two hb)⟩
def nh (S G:Nat->Nat):Nat->List Nat->Nat->Prop
 |a,[],b=>a=b
 |a,n::l,b=>S n=a/\nh S G (G n) l b
theorem nh.app {S G:Nat->Nat}{b c:Nat}{m:List Nat}(h2:nh S G b m c):∀{a:Nat} {l:List Nat},nh S G a l b->nh S G a (l++m) c
 |a,[],h=>by
  have h:a=b:=h
  rw[h];exact h2
 |a,n::l,h=>⟨h.1,nh.app h2 h.2⟩
theorem nh.one (S G:Nat->Nat)(n:Nat):nh S G (S n) [n] (G n):=⟨rfl,rfl⟩
structure Oc (ts:List Nat)(S G:Nat->Nat)(going:Nat)(re:List Nat)(ch:Nat->Option Nat)(done:Nat):Prop where
 nd:re.Nodup
 hd:going∈re
 le:done<=re.length
 way:∀x∈re,x≠going->∃n,ch x=some n/\n∈ts/\G n=x/\∃j,re[j]?=some x/\S n∈re.take j
 cl:∀i,i<done->∀x,re[i]?=some x->∀n∈ts,S n=x->G n≠going/\G n∈re
section
variable {ts:List Nat}{S G:Nat->Nat}{going:Nat}{re:List Nat}{ch:Nat->Option Nat}{done:Nat}
theorem Oc.start:Oc ts S G going [going] (λ_=>none) 0 :=
 ⟨by simp,by simp,de _,λx hx h=>absurd (aD.mp hx) h,λi hi=>absurd hi (by omega)⟩
end
theorem Nr {step:List Int->Int->List Int}(hs:∀l x,step l x=if l.any (· == x)then l else l++[x]):∀(xs fE:List Int),(xs.foldl step fE).length<=fE.length+xs.length/\(fE.Nodup->((xs.foldl step fE).length=fE.length+xs.length↔(fE++xs).Nodup))
 |[],fE=>by simp
 |x::xs,fE=>by
  rw[iQ,hs]
  by_cases h:fE.any (· == x)=true
  ·rw[if_pos h]
   obtain⟨h1,h2⟩:=Nr hs xs fE
   refine⟨by rw[aI];omega,λnd=>?_⟩
   rw[aI]
   constructor
   ·intro e;omega
   ·intro e
    exfalso
    obtain⟨y,hy,LN⟩:=lB.mp h
    have LN:y=x:=by simpa using LN
    rw[LN]at hy
    exact(aW.mp e).2.2 x hy x af rfl
  ·rw[if_neg h]
   obtain⟨h1,h2⟩:=Nr hs xs (fE++[x])
   rw[bg,cN]at h1 h2
   have hx:x∉fE:=λhm=>h (lB.mpr ⟨x,hm,by simp⟩)
   refine⟨by rw[aI];omega,λnd=>?_⟩
   have uW:(fE++[x]).Nodup:=aW.mpr ⟨nd,by simp,λa ha b hb e=>hx (by rw[←aD.mp hb,←e];exact ha)⟩
   have:=h2 uW
   rw[d8,List.singleton_append]at this
   rw[aI]
   constructor
   ·intro e;exact this.mp (by omega)
   ·intro e;have:=this.mpr e;omega
def o4 {α:Type}(l:List α):List α:=l.drop (l.length-1)++l.take (l.length-1)
theorem RZ {α:Type}(l:List α){j:Nat}(hj:j<l.length):(o4 l)[j]?=l[if j=0 then l.length-1 else j-1]?:=by
 unfold o4
 by_cases h0:j=0
 ·subst h0
  rw[dh (by rw[cJ];omega),List.getElem?_drop,if_pos rfl]
  congr 1
 ·rw[if_neg h0,eP (by rw[cJ];omega),cJ,List.getElem?_take]
  rw[if_pos (by omega)]
  congr 1
  omega
theorem Jk {α:Type}(l:List α):(o4 l).Perm l:=by
 unfold o4
 refine List.perm_append_comm.trans ?_
 rw[List.take_append_drop]
theorem zr0 {α:Type}(l:List α):(o4 l).length=l.length:=(Jk l).length_eq
def pI (n j:Nat):Nat:=if j=0 then n-1 else j-1
def JM (S G:Int->Nat)(n:Nat)(is:List Int)(j:Nat):Prop:=(0<=is.getD j 0/\is.getD j 0<(n:Int))/\(0<=is.getD (pI is.length j) 0/\is.getD (pI is.length j) 0<(n:Int))/\S (is.getD j 0)=G (is.getD (pI is.length j) 0)/\∀i,i<j->S (is.getD i 0)≠S (is.getD j 0)
def nc (S G:Int->Nat)(n:Nat)(is:List Int):Prop:=is≠[]/\(∀i∈is,0<=i/\i<(n:Int))/\is.map S=o4 (is.map G)/\(is.map G).Nodup
theorem vq {is:List Int}{j:Nat}(h:j<is.length):is[j]?=some (is.getD j 0):=by
 rw[List.getD_eq_getElem?_getD,br h];rfl
theorem zr1 {S G:Int->Nat}{n:Nat}{is:List Int}:nc S G n is↔is≠[]/\∀j,j<is.length->JM S G n is j:=by
 constructor
 ·rintro⟨h1,h2,h3,h4⟩
  refine⟨h1,λj hj=>?_⟩
  have hp:pI is.length j<is.length:=by unfold pI;split<;>omega
  have m1:=h2 _ (bG.mpr ⟨j,vq hj⟩)
  have m2:=h2 _ (bG.mpr ⟨_,vq hp⟩)
  have hs:(is.map S)[j]?=(o4 (is.map G))[j]?:=by rw[h3]
  rw[RZ _ (by rw[ak];exact hj),ak,aX,aX,vq hj]at hs
  have mR:some (S (is.getD j 0))=(is[pI is.length j]?).map G:=hs
  rw[vq hp]at mR
  refine⟨m1,m2,Option.some.inj mR,λi hi e=>?_⟩
  have nd:(is.map S).Nodup:=by rw[h3];exact(Jk _).nodup_iff.mpr h4
  have:=(nw.mp nd) i j (by rw[ak];omega) (by rw[ak];omega) hi
  rw[iy,iy]at this
  have e1:is[i]=is.getD i 0:=by have:=vq (is:=is) (j:=i) (by omega);rw[br (by omega)]at this;exact Option.some.inj this
  have e2:is[j]=is.getD j 0:=by have:=vq hj;rw[br hj]at this;exact Option.some.inj this
  rw[e1,e2]at this
  exact this e
 ·rintro⟨h1,h2⟩
  have kK:is.map S=o4 (is.map G):=by
   apply fK
   intro j
   by_cases hj:j<is.length
   ·have hp:pI is.length j<is.length:=by unfold pI;split<;>omega
    rw[RZ _ (by rw[ak];exact hj),ak,aX,aX,vq hj]
    show some (S (is.getD j 0))=(is[pI is.length j]?).map G
    rw[vq hp,(h2 j hj).2.2.1]
    rfl
   ·rw[dS (by rw[ak];omega),dS (by rw[zr0,ak];omega)]
  refine⟨h1,λi hi=>?_,kK,?_⟩
  ·obtain⟨j,hj⟩:=bG.mp hi
   have hl:=(aV.mp hj).1
   have:=vq hl
   rw[hj]at this
   rw[Option.some.inj this]
   exact(h2 j hl).1
  ·have nd:(is.map S).Nodup:=nw.mpr λi j hi hj pZ=>by
    rw[ak]at hi hj
    rw[iy,iy]
    have e1:is[i]=is.getD i 0:=by have:=vq hi;rw[br hi]at this;exact Option.some.inj this
    have e2:is[j]=is.getD j 0:=by have:=vq hj;rw[br hj]at this;exact Option.some.inj this
    rw[e1,e2]
    exact(h2 j hj).2.2.2 i pZ
   rw[kK]at nd
   exact(Jk _).nodup_iff.mp nd
theorem Hn {g:D->L3.Env->Option L3.Env}{b:SF}{n:Nat}(I:Nat->L3.Env->Prop)(R:D->Prop)(st:∀i ρ,i<n->I i ρ->∃ρ1,g (.int (i:Int)) ρ=some ρ1/\((∃ρ2,b ρ1=some (.nx ρ2)/\I (i+1) ρ2)\/∃w,b ρ1=some (.rt w)/\R w)) :
  ∀(m k:Nat) (ρ:L3.Env),k+m=n->I k ρ->(∃ρ',fT g b ((hJ k m).map λ(i:Nat)=>D.int (i:Int)) ρ=some (.nx ρ')/\I n ρ')\/∃w,fT g b ((hJ k m).map λ(i:Nat)=>D.int (i:Int)) ρ=some (.rt w)/\R w
 |0,k,ρ,hk,hI=>by
  have:k=n:=by omega
  subst this
  exact .inl ⟨ρ,rfl,hI⟩
 |m+1,k,ρ,hk,hI=>by
  obtain⟨ρ1,h1,h2⟩:=st k ρ (by omega) hI
  have wU:fT g b ((hJ k (m+1)).map λ(i:Nat)=>D.int (i:Int)) ρ=(g (.int (k:Int)) ρ).bind λρ1=>(b ρ1).bind λo=>match o with
    |.nx ρ'=>fT g b ((hJ (k+1) m).map λ(i:Nat)=>D.int (i:Int)) ρ'
    |.ct ρ'=>fT g b ((hJ (k+1) m).map λ(i:Nat)=>D.int (i:Int)) ρ'
    |.bk ρ'=>some (.nx ρ')
    |.rt d=>some (.rt d):=rfl
  rw[wU,h1,dr]
  rcases h2 with⟨ρ2,h2,h3⟩|⟨w,h2,h3⟩
  ·rw[h2]
   exact Hn I R st m (k+1) ρ2 (by omega) h3
  ·rw[h2]
   exact .inr ⟨w,rfl,h3⟩
def aN (as:List cO)(n:Nat):cO:=(as[n]?).getD ⟨.wait,0,0,0,0⟩
theorem wZ {as:List cO}{n:Nat}(h:n<as.length):as[n]?=some (aN as n):=by
 unfold aN
 rw[br h]
 rfl
def sI (as:List cO)(i:Int):Nat:=(aN as i.toNat).s
def gI (as:List cO)(i:Int):Nat:=(aN as i.toNat).g
theorem zt8 {as:List cO}{i:Int}(h0:0<=i)(h1:i<(as.length:Int)):cH (.lst (as.map bV)) (.int i)=some (bV (aN as i.toNat)):=by
 obtain⟨n,rfl⟩:∃n:Nat,i=(n:Int):=⟨i.toNat,by omega⟩
 rw[hX]
 exact j5 (by rw[aX,wZ (by omega)];rfl)
theorem HG {ns:List D}{as:List cO}{is:List Int}{fld:aQ}{f:cO->Int}{q:EF}(hq:q=d5 (lsD (eV 1)) 1 [0] (gV 0) e9 (e1 (cV [0,1,2,3] fld) (e2 cH (e1 (cV [4] "arrows") (eV 1)) (eV 0))))(hf:∀a,cV [0,1,2,3] fld (bV a)=some (.int (f a)))(hl:is.length<=1000)(hr:∀i∈is,0<=i/\i<(as.length:Int))(r:L3.Env)(h0:r[0]?.join=some (bU ns as))(h1:r[1]?.join=some (.lst (is.map .int))) :
  q r=some (.lst ((is.map λi=>f (aN as i.toNat)).map .int)):=by
 rw[hq,bF]
 refine jy D.int (λi=>D.int (f (aN as i.toNat))) is (by unfold lsD;have:eV 1 r=_:=h1;rw[this];rfl) (by omega) λi hi=>⟨_,rfl,?_⟩
 have gz:fF r [0]=[some (bU ns as)]:=by unfold fF;simp[h0]
 rw[gz]
 have i1:=zt8 (hr i hi).1 (hr i hi).2
 have f1:=hf (aN as i.toNat)
 have f4:=Bx ns as
 generalize f (aN as i.toNat)=v,bV (aN as i.toNat)=ea,as.map bV=al,bU ns as=net at *
 clear gz h0 h1 hr hi hl hf hq
 walk_at "mir"
theorem zt9 (gs:List Int):(qJ gs).length=gs.length↔gs.Nodup:=by
 have e:(ax gs.length).map (λi=>gs.getD i 0)=gs:=by
  apply fK
  intro i
  rw[aX]
  by_cases hi:i<gs.length
  ·rw[jJ hi,vq hi];rfl
  ·rw[dS (by rw[bD];omega),dS (by omega)];rfl
 have:=(Nr (step:=kU) (λ_ _=>rfl) gs []).2 (by simp)
 rw[tV,tT,pz]at this
 show((((ax gs.length).map λi=>gs.getD i 0).foldl kU []).length=gs.length)↔_
 rw[e]
 exact this
theorem zmh (xs:List D):cutD xs (some (-1)) none=xs.drop (xs.length-1):=by
 unfold cutD
 rw[HT.sIx_none]
 have:HT.sIx xs.length 0 (some (-1))=xs.length-1:=by
  show(if(-1:Int)<0 then(-1+(xs.length:Int)).toNat else min (-1:Int).toNat xs.length)=_
  rw[if_pos (by decide)]
  omega
 rw[this,er (by rw[cJ];omega)]
theorem zmj (xs:List D):cutD xs none (some (-1))=xs.take (xs.length-1):=by
 unfold cutD
 rw[HT.sIx_none]
 have:HT.sIx xs.length xs.length (some (-1))=xs.length-1:=by
  show(if(-1:Int)<0 then(-1+(xs.length:Int)).toNat else min (-1:Int).toNat xs.length)=_
  rw[if_pos (by decide)]
  omega
 rw[this,List.drop_zero,Nat.sub_zero]
theorem zot (a b:List Int):eK false (.lst (a.map .int)) (.lst (b.map .int))=some (.bl (decide (a=b))):=by
 have:=(El Ei).eq (by decide) (neg:=false) a b
 rw[if_neg (by decide)]at this
 exact this
theorem zr2 {is:List Int}(h:is≠[]):∃mn mx:Int,Aq [.lst (is.map .int)]=some (.int mn)/\tf [.lst (is.map .int)]=some (.int mx)/\(mn∈is/\∀z∈is,mn<=z)/\(mx∈is/\∀z∈is,z<=mx):=by
 cases is with
 |nil=>exact absurd rfl h
 |cons x xs=>
  refine⟨_,_,?_,?_,Rb (ns:=x::xs) rfl,Ni (ns:=x::xs) rfl⟩
  ·show(fG ((x::xs).map .int)).bind _=_
   rw[Bw]
   rfl
  ·show(fG ((x::xs).map .int)).bind _=_
   rw[Bw]
   rfl
theorem zmk {ns:List D}{as:List cO}{is:List Int}(hl:is.length<=1000)(gu:as.length<=1000):∃b:Bool,qj [bU ns as,.lst (is.map .int)]=some (.bl b)/\(b=true↔nc (sI as) (gI as) as.length is):=by
 have ln:dg [.lst (is.map .int)]=some (.int (is.length:Int)):=(v7 _).trans (by rw[ak])
 have la:dg [.lst (as.map bV)]=some (.int (as.length:Int)):=(v7 _).trans (by rw[ak])
 have f4:=Bx ns as
 by_cases h0:is=[]
 ·refine⟨false,?_,by simp[nc,h0]⟩
  subst h0
  have ln:dg [.lst []]=some (.int 0):=rfl
  rw[kA]
  generalize bU ns as=net at *
  unfold qj
  clear hl gu la f4
  walk_at "mir"
 ·have LD:¬(is.length:Int)=0:=by
   have:=eY.mpr h0
   omega
  obtain⟨mn,mx,e1,tZ,⟨a1,a2⟩,⟨b1,b2⟩⟩:=zr2 h0
  by_cases h1:mn<0
  ·refine⟨false,?_,?_⟩
   ·generalize bU ns as=net at *
    generalize is.map D.int=il at *
    unfold qj
    clear hl gu la f4 tZ a1 a2 b1 b2 LD
    walk_at "mir"
   ·constructor
    ·intro z;cases z
    ·intro z;have:=(z.2.1 mn a1).1;omega
  ·by_cases h2:mx >= (as.length:Int)
   ·refine⟨false,?_,?_⟩
    ·generalize bU ns as=net at *
     generalize is.map D.int=il,as.map bV=al at *
     unfold qj
     clear hl gu a1 a2 b1 b2 LD
     walk_at "mir"
    ·constructor
     ·intro z;cases z
     ·intro z;have:=(z.2.1 mx b1).2;omega
   ·have hr:∀i∈is,0<=i/\i<(as.length:Int):=λi hi=>⟨by have:=a2 i hi;omega,by have:=b2 i hi;omega⟩
    have q1:=λr=>HG (ns:=ns) (as:=as) (is:=is) (fld:="start") (f:=λa=>(a.s:Int)) (q:=Qs) rfl fs hl hr r
    have q2:=λr=>HG (ns:=ns) (as:=as) (is:=is) (fld:="goal") (f:=λa=>(a.g:Int)) (q:=Qr) rfl fg hl hr r
    have es:(is.map λi=>((aN as i.toNat).s:Int))=(is.map (sI as)).map λ(x:Nat)=>(x:Int):=by rw[bF];rfl
    have eg:(is.map λi=>((aN as i.toNat).g:Int))=(is.map (gI as)).map λ(x:Nat)=>(x:Int):=by rw[bF];rfl
    generalize hS:(is.map λi=>((aN as i.toNat).s:Int))=ss at *
    generalize hG:(is.map λi=>((aN as i.toNat).g:Int))=gs at *
    have vZ:gs.length=is.length:=by rw[←hG,ak]
    refine⟨decide (ss=o4 gs)&&decide ((qJ gs).length=gs.length),?_,?_⟩
    ·have k1:=q1 [some (bU ns as),some (.lst (is.map .int)),none,none] rfl rfl
     have k2:=q2 [some (bU ns as),some (.lst (is.map .int)),some (.lst (ss.map .int)),none] rfl rfl
     have c1:cutD (gs.map .int) (some (-1)) none=(gs.drop (gs.length-1)).map .int:=by rw[zmh,ak,gb]
     have c2:cutD (gs.map .int) none (some (-1))=(gs.take (gs.length-1)).map .int:=by rw[zmj,ak,nR]
     have ad:ej (.lst ((gs.drop (gs.length-1)).map .int)) (.lst ((gs.take (gs.length-1)).map .int))=some (.lst ((o4 gs).map .int)):=by
      rw[Ra (by rw[ak,ak,cJ,ei];omega),←dc]
      rfl
     have q:=zot ss (o4 gs)
     have ls:oe (.lst (gs.map .int))=some (.int ((qJ gs).length:Int)):=by
      show(fG (gs.map .int)).bind _=_
      rw[Bw]
      show(if gs.length<4000 then _ else _)=_
      rw[if_pos (by omega)]
     have lg:dg [.lst (gs.map .int)]=some (.int (gs.length:Int)):=(v7 _).trans (by rw[ak])
     have qq:eK false (.int ((qJ gs).length:Int)) (.int (gs.length:Int))=some (.bl (decide ((qJ gs).length=gs.length))):=(zdr _ _).trans (by rw[if_neg (by decide),show decide (((qJ gs).length:Int)=(gs.length:Int))=decide ((qJ gs).length=gs.length)from decide_eq_decide.mpr (by omega)])
     generalize decide ((qJ gs).length=gs.length)=bb2,decide (ss=o4 gs)=Uu,((qJ gs).length:Int)=dl,(gs.length:Int)=gl,(gs.drop (gs.length-1)).map D.int=l1,(gs.take (gs.length-1)).map D.int=l2,(o4 gs).map D.int=l3,gs.map D.int=gd,ss.map D.int=sd,is.map D.int=il,as.map bV=al,bU ns as=net at *
     unfold qj
     clear hl gu a1 a2 b1 b2 q1 q2 vZ hr es eg hS hG LD
     cases Uu
     ·walk_at "mir"
     ·walk_at "mir"
    ·rw[bE,decide_eq_true_iff,decide_eq_true_iff,zt9]
     unfold nc
     have inj:∀a b:List Nat,(a.map λ(x:Nat)=>(x:Int))=b.map (λ(x:Nat)=>(x:Int))↔a=b:=λa b=>qY (λx y h=>by omega)
     have rm:o4 ((is.map (gI as)).map λ(x:Nat)=>(x:Int))=(o4 (is.map (gI as))).map λ(x:Nat)=>(x:Int):=by
      unfold o4
      rw[ak (f:=λ(x:Nat)=>(x:Int)),dc,gb,nR]
     rw[es,eg,rm,inj]
     have nd:((is.map (gI as)).map λ(x:Nat)=>(x:Int)).Nodup↔(is.map (gI as)).Nodup:=by
      constructor
      ·intro h;exact(rZ.mp h).imp λh e=>h (by rw[e])
      ·intro h;exact rZ.mpr (h.imp λh e=>h (by omega))
     rw[nd]
     exact⟨λz=>⟨h0,hr,z.1,z.2⟩,λz=>⟨z.2.2.1,z.2.2.2⟩⟩
theorem HH (xs:List Int):oA [.lst (xs.map .int)]=some (.int xs.sum):=by
 show(fG (xs.map .int)).bind _=_
 rw[Bw]
 rfl
def tI (as:List cO)(i:Int):Int:=(aN as i.toNat).t
def bI (as:List cO)(i:Int):Int:=((aN as i.toNat).b:Int)
theorem Sv {f:Int->Int}{m:Int}(hm:0<=m):∀is:List Int,(∀i∈is,0<=f i/\f i<=m)->0<=(is.map f).sum/\(is.map f).sum<=m*(is.length:Int)
 |[],_=>by simp
 |i::is,h=>by
  obtain⟨h1,h2⟩:=Sv hm is λj hj=>h j (aj _ hj)
  obtain⟨h3,h4⟩:=h i af
  rw[aO,bu,aI]
  refine⟨by omega,?_⟩
  rw[show((is.length+1:Nat):Int)=(is.length:Int)+1 by omega,Int.mul_add,lV]
  omega
theorem Sw {ns:List D}{as:List cO}{is:List Int}(hl:is.length<=1000)(hb:∀a∈as,a.b<=4)(hr:∀i∈is,0<=i/\i<(as.length:Int))(h0:(is.map (bI as)).sum≠0):uD [bU ns as,.lst (is.map .int)]=some (fr (Fq.mk (is.map (tI as)).sum (is.map (bI as)).sum)):=by
 have k1:=HG (ns:=ns) (as:=as) (is:=is) (fld:="time") (f:=λa=>a.t) (q:=Nn) rfl ft hl hr [some (bU ns as),some (.lst (is.map .int)),none,none] rfl rfl
 have k2:=HG (ns:=ns) (as:=as) (is:=is) (fld:="behind") (f:=λa=>(a.b:Int)) (q:=Nm) rfl fb hl hr [some (bU ns as),some (.lst (is.map .int)),some (.int (is.map (tI as)).sum),none] rfl rfl
 have s1:=HH (is.map (tI as))
 have s2:=HH (is.map (bI as))
 have bd:=Sv (f:=bI as) (m:=4) (by decide) is λi hi=>by
  have:=hb (aN as i.toNat) (bG.mpr ⟨i.toNat,wZ (by have:=hr i hi;omega)⟩)
  unfold bI
  omega
 have ra:=BI (t:=(is.map (tI as)).sum) h0 (jz (w:=4000) (by omega) (by omega) (by decide))
 replace k1:Nn _=some (.lst ((is.map (tI as)).map .int)):=k1
 replace k2:Nm _=some (.lst ((is.map (bI as)).map .int)):=k2
 generalize fr (Fq.mk (is.map (tI as)).sum (is.map (bI as)).sum)=F,(is.map (tI as)).map D.int=tl,(is.map (bI as)).map D.int=bl at *
 generalize (is.map (tI as)).sum=T,(is.map (bI as)).sum=Bh,bU ns as=net,is.map D.int=il at *
 unfold uD
 clear bd hl hb hr h0
 walk_at "mir"
theorem zou {as:List cO}{is:List Int}{rank:Nat->Nat}(n9:∀a∈as,a.b=0->rank a.s<rank a.g)(h:nc (sI as) (gI as) as.length is):1<=(is.map (bI as)).sum:=by
 obtain⟨h1,h2,h3,h4⟩:=h
 have hm:∀i∈is,aN as i.toNat∈as:=λi hi=>bG.mpr ⟨i.toNat,wZ (by have:=h2 i hi;omega)⟩
 have pe:((is.map (sI as)).map rank).sum=((is.map (gI as)).map rank).sum:=by
  rw[h3]
  exact((Jk _).map _).sum_nat
 have key:∀js:List Int,(∀i∈js,aN as i.toNat∈as)->0<=(js.map (bI as)).sum/\((js.map (bI as)).sum=0->((js.map (sI as)).map rank).sum+js.length<=((js.map (gI as)).map rank).sum):=by
  intro js
  induction js with
  |nil=>intro _;simp
  |cons i js ih=>
   intro hj
   obtain⟨q1,q2⟩:=ih λj Vg=>hj j (aj _ Vg)
   simp only[aO,bu,aI]
   have q3:0<=bI as i:=by unfold bI;omega
   refine⟨by omega,λe=>?_⟩
   have q4:=q2 (by omega)
   have q9:bI as i=0:=by omega
   have q5:=n9 _ (hj i af) (by unfold bI at q9;omega)
   have q6:sI as i=(aN as i.toNat).s:=rfl
   have q7:gI as i=(aN as i.toNat).g:=rfl
   rw[q6,q7]
   omega
 obtain⟨k1,k2⟩:=key is hm
 by_cases e:(is.map (bI as)).sum=0
 ·have:=k2 e
  have:=eY.mpr h1
  omega
 ·omega
structure eu (d:D)(ch:Nat->Option Nat)(m:Nat):Prop where
 is:∃ks ds,d=.dK ks ds/\ks.length=ds.length/\ks.length<=m/\∀x:Nat,iX ks ds (.inl (x:Int))=(ch x).map λ(n:Nat)=>D.int (n:Int)
theorem eu.get {d:D}{ch:Nat->Option Nat}{m:Nat}(h:eu d ch m){x n:Nat}(e:ch x=some n):(hZ d (.int (x:Int))).join=some (.int (n:Int)):=by
 obtain⟨ks,ds,rfl,_,_,h3⟩:=h.is
 show iX ks ds (.inl (x:Int))=_
 rw[h3,e]
 rfl
theorem eu.put {d:D}{ch:Nat->Option Nat}{m:Nat}(h:eu d ch m)(hm:m<16777216)(x n:Nat):∃d',(∀(ρ:L3.Env) (i:Nat) (fj f:EF),f ρ=some (.int (n:Int))->eV i ρ=some d->fj ρ=some (.int (x:Int))->ko i fj f ρ=some (.nx (ρ.set i (some d'))))/\eu d' (λy=>if y=x then some n else ch y) (m+1):=by
 obtain⟨ks,ds,rfl,h1,h2,h3⟩:=h.is
 refine⟨.dK (fH ks ds (.inl (x:Int)) (.int (n:Int))).1 (fH ks ds (.inl (x:Int)) (.int (n:Int))).2,λρ i fj f e1 e2 e3=>?_,⟨_,_,rfl,(RY h1 _ _).1,by have:=(RY h1 (.inl (x:Int)) (.int (n:Int))).2;omega,λy=>?_⟩⟩
 ·unfold ko
  rw[e1]
  show(eV i ρ).bind _=_
  rw[e2]
  show(fj ρ).bind _=_
  rw[e3]
  show(if ks.length<16777216 then some (Out.nx (ρ.set i (some (.dK (fH ks ds (.inl (x:Int)) (.int (n:Int))).1 (fH ks ds (.inl (x:Int)) (.int (n:Int))).2))))else none)=_
  rw[if_pos (by omega)]
 ·rw[zor h1]
  by_cases e:y=x
  ·subst e
   rw[if_pos rfl,if_pos rfl]
   rfl
  ·rw[if_neg (λz=>e (by have:=Sum.inl.inj z;omega)),if_neg e]
   exact h3 y
theorem Q6 {c:BF}{b:SF}(I:L3.Env->Prop)(μ:L3.Env->Nat)(R:D->Prop)(st:∀ρ,I ρ->∃t,c ρ=some t/\(t=true->(∃ρ',b ρ=some (.nx ρ')/\I ρ'/\μ ρ' < μ ρ)\/∃d,b ρ=some (.rt d)/\R d)) :
  ∀(n:Nat) (ρ:L3.Env),I ρ->μ ρ<n->(∃ρ',hE c b n ρ=some (.nx ρ')/\I ρ'/\c ρ'=some false)\/∃d,hE c b n ρ=some (.rt d)/\R d
 |0,_,_,h=>absurd h (by omega)
 |n+1,ρ,hI,h=>by
  obtain⟨t,h1,h2⟩:=st ρ hI
  cases t with
  |false=>exact .inl ⟨ρ,by show(c ρ).bind _=_;rw[h1];rfl,hI,h1⟩
  |true=>
   rcases h2 rfl with⟨ρ',h3,h4,h5⟩|⟨d,h3,h4⟩
   ·rcases Q6 I μ R st n ρ' h4 (by omega)with⟨ρ2,h6,h7,h8⟩|⟨d,h6,h7⟩
    ·refine .inl ⟨ρ2,?_,h7,h8⟩
     show(c ρ).bind _=_
     rw[h1]
     show(b ρ).bind _=_
     rw[h3];exact h6
    ·refine .inr ⟨d,?_,h7⟩
     show(c ρ).bind _=_
     rw[h1]
     show(b ρ).bind _=_
     rw[h3];exact h6
   ·refine .inr ⟨d,?_,h4⟩
    show(c ρ).bind _=_
    rw[h1]
    show(b ρ).bind _=_
    rw[h3];rfl
theorem R3 {p q:Int×Int}(h1:Fz 9000 p)(h2:Fz 9000 q):AW [fr p,fr q]=some (.bl (Fq.under p q)):=by
 have e1:=u6 h1.1 h2.2 (by decide) (by decide)
 have e2:=u6 h2.1 h1.2 (by decide) (by decide)
 unfold AW
 have f0:=t4
 have f1:=mz
 walk_at "mir"
 rfl
theorem NL {n:Nat}{x y:Int×Int}(lx:Fq.Low x)(ly:Fq.Low y)(hx:Fz n x)(hy:Fz n y):Fz (n+n+1) (Fq.plus x y) :=
 HL (lx.mul_ne ly) (Sz.add (hx.1.mul hy.2) (hy.1.mul hx.2)) ((hx.2.mul hy.2).mono (by omega))
theorem M2 {n m:Nat}{x:Int×Int}{k:Int}(lx:Fq.Low x)(hx:Fz n x)(hk:Sz m k):Fz (n+m) (Fq.scaled x k):=HL lx.ne (hx.1.mul hk) (hx.2.mono (Nat.le_add_right _ _))
theorem N3 {n:Nat}{p q:Int×Int}(hn:n<=2000)(lp:Fq.Low p)(lq:Fq.Low q)(h1:Fz n p)(h2:Fz n q):zev [fr p,fr q]=some (fr (Fq.plus p q)):=by
 have e1:=u6 h1.1 h2.2 (by omega) (by omega)
 have e2:=u6 h2.1 h1.2 (by omega) (by omega)
 have e3:=u6 h1.2 h2.2 (by omega) (by omega)
 have r:=BI (t:=p.1*q.2+q.1*p.2) (lp.mul_ne lq) ((h1.2.mul h2.2).mono (by omega))
 have f0:=t4
 have f1:=mz
 unfold zev Fq.plus
 clear h1 h2 lp lq hn
 generalize fr (Fq.mk (p.1*q.2+q.1*p.2) (p.2*q.2))=rr at *
 walk_at "mir"
theorem Ru {n m:Nat}{p:Int×Int}{k:Int}(hn:n<=2000)(hm:m<=2000)(lp:Fq.Low p)(h1:Fz n p)(hk:Sz m k):Hr [fr p,.int k]=some (fr (Fq.scaled p k)):=by
 have e1:=u6 h1.1 hk (by omega) (by omega)
 have r:=BI (t:=p.1*k) lp.ne (h1.2.mono (by omega))
 have f0:=t4
 have f1:=mz
 unfold Hr Fq.scaled
 clear h1 hk lp hn hm
 generalize fr (Fq.mk (p.1*k) p.2)=rr at *
 walk_at "mir"
theorem N4:Sz 1 (-1):=by unfold Sz;decide
theorem R4 {n:Nat}{p q:Int×Int}(hn:n<=1000)(lp:Fq.Low p)(lq:Fq.Low q)(h1:Fz n p)(h2:Fz n q):AV [fr p,fr q]=some (fr (Fq.minus p q)):=by
 have e1:=Ru (by omega) (by decide) lq h2 N4
 have e2:=N3 (n:=n+1) (by omega) lp (Fq.scaled_low lq (-1)) (h1.mono (by omega)) (M2 lq h2 N4)
 unfold AV Fq.minus
 clear h1 h2 lp lq hn
 generalize fr (Fq.plus p (Fq.scaled q (-1)))=rr,fr (Fq.scaled q (-1))=sq at *
 walk_at "mir"
theorem Rv {n:Nat}{x y:Int×Int}(lx:Fq.Low x)(ly:Fq.Low y)(hx:Fz n x)(hy:Fz n y):Fz (n+1+(n+1)+1) (Fq.minus x y) :=
 NL lx (Fq.scaled_low ly (-1)) (hx.mono (by omega)) (M2 ly hy N4)
def early (pace:Int×Int)(tm:Nat->Int×Int)(a:cO):Int×Int:=Fq.minus (Fq.plus (tm a.s) (a.t,1)) (Fq.scaled pace (a.b:Int))
theorem BJ (t:Int):Fq.Low (t,1):=⟨fv 1,by show dm t 1=1;simp⟩
theorem zmp {pace:Int×Int}{tm:Nat->Int×Int}{a:cO}(lp:Fq.Low pace)(lt:Fq.Low (tm a.s)):Fq.Low (early pace tm a):=Fq.minus_low (Fq.plus_low lt (BJ _)) (Fq.scaled_low lp _)
def lK (many:Nat)(tm:Nat->Int×Int):List D:=(ax many).map λg=>fr (tm g)
theorem Sx {many:Nat}(tm:Nat->Int×Int){g:Nat}(h:g<many):cH (.lst (lK many tm)) (.int (g:Int))=some (fr (tm g)):=j5 (by simp[lK,h])
theorem zua {many:Nat}{pace:Int×Int}{tm:Nat->Int×Int}{a:cO}(hr:Right many a)(lp:Fq.Low pace)(lt:∀g,Fq.Low (tm g))(zp:Fz 300 pace)(zt:∀g,Fz 300 (tm g)):IX [bV a,fr pace,.lst (lK many tm)]=some (.bl (!Fq.under (tm a.g) (early pace tm a))):=by
 have g1:=fs a
 have g2:=fg a
 have g3:=ft a
 have g4:=fb a
 have i1:=Sx tm hr.s
 have i2:=Sx tm hr.g
 have st:Sz 300 a.t:=jz (w:=1000000000) (by have:=hr.t0;omega) hr.t1 (by decide)
 have sb:Sz 10 (a.b:Int):=jz (w:=4) (by omega) (by have:=hr.b;omega) (by decide)
 have zo:Fz 300 (a.t,1):=⟨st,jz (i:=1) (w:=1) (by decide) (by decide) (by decide)⟩
 have p1:=N3 (n:=300) (by decide) (lt a.s) (BJ a.t) (zt a.s) zo
 have z1:=NL (lt a.s) (BJ a.t) (zt a.s) zo
 have s1:=Ru (n:=300) (m:=10) (by decide) (by decide) lp zp sb
 have z2:=M2 lp zp sb
 have l1:=Fq.plus_low (lt a.s) (BJ a.t)
 have l2:=Fq.scaled_low lp (a.b:Int)
 have m1:=R4 (n:=601) (by decide) l1 l2 z1 (z2.mono (by decide))
 have z3:=Rv l1 l2 z1 (z2.mono (by decide))
 have u1:=R3 (p:=tm a.g) (q:=early pace tm a) ((zt a.g).mono (by decide)) (z3.mono (by decide))
 have f2:(.tup [.int a.t,.int 1]:D)=fr (a.t,1):=rfl
 unfold early at u1 ⊢
 clear zp zt lt lp hr st sb zo z1 z2 z3 l1 l2
 generalize fr (Fq.minus (Fq.plus (tm a.s) (a.t,1)) (Fq.scaled pace (a.b:Int)))=fm,Fq.under (tm a.g) (Fq.minus (Fq.plus (tm a.s) (a.t,1)) (Fq.scaled pace (a.b:Int)))=ub,fr (Fq.plus (tm a.s) (a.t,1))=fp,fr (Fq.scaled pace (a.b:Int))=fsc,fr (tm a.s)=fts,fr (tm a.g)=ftg,fr pace=UA,lK many tm=fl at *
 unfold IX
 rw[←f2]at p1
 clear f2
 walk_at "mir"
theorem Sy (bs:List Bool):rC [.lst (bs.map .bl)]=some (.bl (bs.all id)):=by
 show(iV (bs.map .bl)).bind _=_
 have:iV (bs.map .bl)=some bs:=by
  induction bs with
  |nil=>rfl
  |cons b bs ih=>show(iV (bs.map .bl)).bind _=_;rw[ih];rfl
 rw[this]
 rfl
theorem zub {ns:List D}{many:Nat}{as:List cO}{pace:Int×Int}{tm:Nat->Int×Int}(h:lh many as)(hn:ns.length=many)(lp:Fq.Low pace)(lt:∀g,Fq.Low (tm g))(zp:Fz 300 pace)(zt:∀g,Fz 300 (tm g)) :
  HB [bU ns as,fr pace,.lst (lK many tm)]=some (.bl (as.all λa=>!Fq.under (tm a.g) (early pace tm a))):=by
 have eS:=h.len
 have hq:Np [some (bU ns as),some (fr pace),some (.lst (lK many tm))]=some (.lst ((as.map λa=>!Fq.under (tm a.g) (early pace tm a)).map .bl)):=by
  rw[bF]
  refine jy (own:=1) (cap:=[1,2]) (g:=gV 0) bV (D.bl ∘ λa=>!Fq.under (tm a.g) (early pace tm a)) as (by rfl) (by omega) λa ha=>⟨_,rfl,?_⟩
  exact zua (h.right a ha) lp lt zp zt
 have al:=Sy (as.map λa=>!Fq.under (tm a.g) (early pace tm a))
 rw[List.all_map]at al
 have JW:rC [.lst ((as.map λa=>!Fq.under (tm a.g) (early pace tm a)).map .bl)]=some (.bl (as.all λa=>!Fq.under (tm a.g) (early pace tm a))):=al
 clear al
 have f5:=Nq ns as
 have l1:dg [.lst ns]=some (.int (many:Int)):=(v7 _).trans (by rw[hn])
 have l2:dg [.lst (lK many tm)]=some (.int (many:Int)):=(v7 _).trans (by unfold lK;simp)
 have q1:eK true (.int (many:Int)) (.int (many:Int))=some (.bl false):=(zdr _ _).trans (by simp)
 generalize ((as.map λa=>!Fq.under (tm a.g) (early pace tm a)).map D.bl)=bl,(as.all λa=>!Fq.under (tm a.g) (early pace tm a))=ab,bU ns as=net,fr pace=UA,lK many tm=fl at *
 clear h eS lp lt zp zt hn
 unfold HB
 generalize Np=qq at *
 walk_at "mir"
theorem zr3 {pace:Int×Int}{tm:Nat->Int×Int}{a:cO}{T W:Int}(lp:Fq.Low pace)(lt:Fq.Low (tm a.s))(hW:0<W)(hT:(tm a.s).1*W=T*(tm a.s).2) :
  (early pace tm a).1*(W*pace.2)=(T*pace.2+(a.t*W*pace.2-pace.1*(a.b:Int)*W))*(early pace tm a).2:=by
 have l1:=Fq.plus_low lt (BJ a.t)
 have l2:=Fq.scaled_low lp (a.b:Int)
 have v1:=Fq.plus_v (tm a.s) (a.t,1)
 have v2:=Fq.scaled_v pace (a.b:Int)
 have v3:=Fq.minus_v (p:=Fq.plus (tm a.s) (a.t,1)) l2
 unfold early
 generalize Fq.minus (Fq.plus (tm a.s) (a.t,1)) (Fq.scaled pace (a.b:Int))=q at *
 have p1:=l1.gt
 have p2:=l2.gt
 have p3:=lt.gt
 generalize Fq.plus (tm a.s) (a.t,1)=A,Fq.scaled pace (a.b:Int)=S at *
 generalize tm a.s=t at *
 obtain⟨q1,q2⟩:=q
 obtain⟨A1,A2⟩:=A
 obtain⟨S1,S2⟩:=S
 obtain⟨t1,t2⟩:=t
 obtain⟨P,Q⟩:=pace
 dsimp only at *
 generalize (a.b:Int)=b,a.t=u at *
 have iY:A2*S2*t2≠0:=mI (mI (by omega) (by omega)) (by omega)
 apply eU iY
 grind
theorem zov {pace:Int×Int}{tm:Nat->Int×Int}{a:cO}{W:Int}{top:Nat->Int}(lp:Fq.Low pace)(lt:∀g,Fq.Low (tm g))(hW:0<W)(hT:∀g,(tm g).1*W=top g*(tm g).2) :
  (!Fq.under (tm a.g) (early pace tm a))=decide (top a.g*pace.2 >= top a.s*pace.2+(a.t*W*pace.2-pace.1*(a.b:Int)*W)):=by
 have hQ:=lp.gt
 have e:=Fq.lt_congr (lt a.g).gt hW (zmp (tm:=tm) (a:=a) lp (lt a.s)).gt (cU hW hQ) (hT a.g) (zr3 lp (lt a.s) hW (hT a.s))
 have e2:top a.g*(W*pace.2)<(top a.s*pace.2+(a.t*W*pace.2-pace.1*(a.b:Int)*W))*W↔top a.g*pace.2<top a.s*pace.2+(a.t*W*pace.2-pace.1*(a.b:Int)*W):=by
  generalize top a.s*pace.2+(a.t*W*pace.2-pace.1*(a.b:Int)*W)=Z
  have:top a.g*(W*pace.2)=(top a.g*pace.2)*W:=by grind
  rw[this]
  exact⟨λh=>Int.lt_of_mul_lt_mul_right h (by omega),λh=>Int.mul_lt_mul_of_pos_right h hW⟩
 rw[e2]at e
 unfold Fq.under
 rw[decide_eq_decide.mpr e]
 by_cases h:top a.g*pace.2<top a.s*pace.2+(a.t*W*pace.2-pace.1*(a.b:Int)*W)
 ·rw[decide_eq_true h,decide_eq_false (by omega)];rfl
 ·rw[decide_eq_false h,decide_eq_true (by omega)];rfl
theorem eu.has {d:D}{ch:Nat->Option Nat}{m:Nat}(h:eu d ch m)(x:Nat):hZ d (.int (x:Int))=some ((ch x).map λ(n:Nat)=>D.int (n:Int)):=by
 obtain⟨ks,ds,rfl,_,_,h3⟩:=h.is
 show some (iX ks ds (.inl (x:Int)))=_
 rw[h3]
def dI (as:List cO)(p:Int×Int)(n:Nat):Int:=(aN as n).t*p.2-((aN as n).b:Int)*p.1
def aS (as:List cO)(n:Nat):Nat:=(aN as n).s
def aG (as:List cO)(n:Nat):Nat:=(aN as n).g
structure xA (many:Nat)(a:cO):Prop where
 s:a.s<many
 g:a.g<many
 t0:0<=a.t
 t1:a.t<=1000000000
 b:a.b<=4
theorem qo {as:List cO}{n:Nat}(hn:n<as.length):aN as n∈as:=bG.mpr ⟨n,wZ hn⟩
def jV (T:Nat->Int)(x:Nat)(v:Int):Nat->Int:=λy=>if y=x then v else T y
def MH (T:Nat->Option Nat)(x v:Nat):Nat->Option Nat:=λy=>if y=x then some v else T y
def kO (T:Nat->Nat)(x v:Nat):Nat->Nat:=λy=>if y=x then v else T y
structure nD (aT:List Nat)(S G:Nat->Nat)(c:Nat->Int)(r:Nat)(dn:List Nat)(T:Nat->Int)(ch:Nat->Option Nat)(lr ts:Nat->Nat)(k:Nat):Prop where
 le:∀x,lr x<=r
 st:∀x,ts x<k
 ch:∀x,0<lr x->∃n,ch x=some n/\n∈aT/\G n=x/\lr x<=lr (S n)+1/\T x<=T (S n)+c n/\(T x<T (S n)+c n\/ts (S n)<ts x)
 old:∀n∈aT,lr (S n)+1<r->T (S n)+c n<=T (G n)
 dn:∀n∈dn,lr (S n)<r->T (S n)+c n<=T (G n)
 pos:∀x,0<=T x
section
variable {aT:List Nat}{S G:Nat->Nat}{c:Nat->Int}{r:Nat}{dn:List Nat}{T:Nat->Int}{ch:Nat->Option Nat}{lr ts:Nat->Nat}{k:Nat}
theorem nD.start:nD aT S G c 1 [] (λ_=>0) (λ_=>none) (λ_=>0) (λ_=>0) 1 where
 le:=λ_=>de _
 st:=λ_=>Nat.zero_lt_one
 ch:=λ_ h=>absurd h (eh 0)
 old:=λ_ _ h=>absurd h (by omega)
 dn:=λ_ h=>by cases h
 pos:=λ_=>fv 0
theorem nD.next (h:nD aT S G c r aT T ch lr ts k):nD aT S G c (r+1) [] T ch lr ts k where
 le:=λx=>Nat.le_succ_of_le (h.le x)
 st:=h.st
 ch:=h.ch
 old:=λn hn h1=>h.dn n hn (by omega)
 dn:=λ_ h=>by cases h
 pos:=h.pos
theorem nD.stay (h:nD aT S G c r dn T ch lr ts k){n:Nat}(hn:T (S n)+c n<=T (G n)):nD aT S G c r (dn++[n]) T ch lr ts k where
 le:=h.le
 st:=h.st
 ch:=h.ch
 old:=h.old
 dn:=λm hm h1=>by
  rcases aY.mp hm with hm|hm
  ·exact h.dn m hm h1
  ·rw[aD.mp hm];exact hn
 pos:=h.pos
theorem nD.push (h:nD aT S G c r dn T ch lr ts k){n:Nat}(hn:n∈aT)(hp:T (G n)<T (S n)+c n) :
  nD aT S G c r (dn++[n]) (jV T (G n) (T (S n)+c n)) (MH ch (G n) n) (kO lr (G n) r) (kO ts (G n) k) (k+1) where
 le:=λx=>by
  unfold kO
  split
  ·exact aM _
  ·exact h.le x
 st:=λx=>by
  unfold kO
  have:=h.st x
  split<;>omega
 ch:=λx hx=>by
  have up:∀y,T y<=jV T (G n) (T (S n)+c n) y:=λy=>by
   unfold jV
   split
   ·rename_i e;rw[e];omega
   ·exact fv _
  have ul:∀y,lr y<=kO lr (G n) r y:=λy=>by
   unfold kO
   split
   ·exact h.le y
   ·exact aM _
  by_cases e:x=G n
  ·subst e
   refine⟨n,by simp[MH],hn,rfl,?_,?_,?_⟩
   ·have h1:¬lr (S n)+1<r:=λz=>by have:=h.old n hn z;omega
    have h2:=ul (S n)
    have h3:kO lr (G n) r (G n)=r:=by simp[kO]
    omega
   ·have h2:=up (S n)
    have h3:jV T (G n) (T (S n)+c n) (G n)=T (S n)+c n:=by simp[jV]
    omega
   ·have h3:jV T (G n) (T (S n)+c n) (G n)=T (S n)+c n:=by simp[jV]
    by_cases e2:S n=G n
    ·left
     rw[e2]at hp h3 ⊢
     omega
    ·right
     have h4:kO ts (G n) k (G n)=k:=by simp[kO]
     have h5:kO ts (G n) k (S n)=ts (S n):=by simp[kO,e2]
     have:=h.st (S n)
     omega
  ·have Bq:kO lr (G n) r x=lr x:=by simp[kO,e]
   have ht:jV T (G n) (T (S n)+c n) x=T x:=by simp[jV,e]
   rw[Bq]at hx
   obtain⟨m,h1,h2,h3,h4,h5,h6⟩:=h.ch x hx
   refine⟨m,by simp[MH,e,h1],h2,h3,?_,?_,?_⟩
   ·have:=ul (S m);omega
   ·have:=up (S m);omega
   ·by_cases e2:S m=G n
    ·left
     have h7:jV T (G n) (T (S n)+c n) (S m)=T (S n)+c n:=by simp[jV,e2]
     rw[e2]at h5
     omega
    ·have h7:jV T (G n) (T (S n)+c n) (S m)=T (S m):=by simp[jV,e2]
     have h8:kO ts (G n) k (S m)=ts (S m):=by simp[kO,e2]
     have h9:kO ts (G n) k x=ts x:=by simp[kO,e]
     rw[h7,h8,h9,ht]
     exact h6
 old:=λm hm h1=>by
  have e2:S m≠G n:=λe=>by
   have:kO lr (G n) r (S m)=r:=by simp[kO,e]
   omega
  have h7:jV T (G n) (T (S n)+c n) (S m)=T (S m):=by simp[jV,e2]
  have h8:kO lr (G n) r (S m)=lr (S m):=by simp[kO,e2]
  rw[h8]at h1
  have h9:=h.old m hm h1
  have:T (G m)<=jV T (G n) (T (S n)+c n) (G m):=by
   unfold jV
   split
   ·rename_i e;rw[e];omega
   ·exact fv _
  omega
 dn:=λm hm h1=>by
  have e2:S m≠G n:=λe=>by
   have:kO lr (G n) r (S m)=r:=by simp[kO,e]
   omega
  have h7:jV T (G n) (T (S n)+c n) (S m)=T (S m):=by simp[jV,e2]
  have h8:kO lr (G n) r (S m)=lr (S m):=by simp[kO,e2]
  rw[h8]at h1
  rcases aY.mp hm with hm|hm
  ·have h9:=h.dn m hm h1
   have:T (G m)<=jV T (G n) (T (S n)+c n) (G m):=by
    unfold jV
    split
    ·rename_i e;rw[e];omega
    ·exact fv _
   omega
  ·have hm:=aD.mp hm
   subst hm
   have h3:jV T (G m) (T (S m)+c m) (G m)=T (S m)+c m:=by simp[jV]
   omega
 pos:=λx=>by
  unfold jV
  split
  ·have:=h.pos (G n);omega
  ·exact h.pos x
theorem nD.cost {Q:Nat->Prop}(h:∀n,Q n->T (G n)<=T (S n)+c n/\(T (G n)<T (S n)+c n\/ts (S n)<ts (G n))):∀{w:List Nat} {a b:Nat},nh S G a w b->(∀n∈w,Q n)->T b<=T a+(w.map c).sum/\(w=[]\/T b<T a+(w.map c).sum\/ts a<ts b)
 |[],a,b,hw,_=>by
  have hw:a=b:=hw
  subst hw
  simp
 |n::w,a,b,hw,hq=>by
  obtain⟨h1,h2⟩:=hw
  obtain⟨i1,i2⟩:=nD.cost h h2 λm hm=>hq m (aj _ hm)
  obtain⟨j1,j2⟩:=h n (hq n af)
  rw[aO,bu]
  rw[←h1]
  refine⟨by omega,.inr ?_⟩
  rcases i2 with i2|i2|i2
  ·subst i2
   have h2:G n=b:=h2
   subst h2
   simp at i1 ⊢
   rcases j2 with j2|j2
   ·left;omega
   ·right;exact j2
  ·left;omega
  ·rcases j2 with j2|j2
   ·left;omega
   ·right;omega
end
def pF (S G:Nat->Nat):Nat->List Nat->Nat->Prop
 |a,[],b=>a=b
 |a,n::l,b=>G n=a/\pF S G (S n) l b
theorem pF.snoc {S G:Nat->Nat}{n:Nat}:∀{w:List Nat} {a b:Nat},pF S G a w b->G n=b->pF S G a (w++[n]) (S n)
 |[],a,b,h,e=>by
  have h:a=b:=h
  exact⟨by rw[e,h],rfl⟩
 |m::w,a,b,h,e=>⟨h.1,pF.snoc h.2 e⟩
theorem pF.wlk {S G:Nat->Nat}:∀{w:List Nat} {a b:Nat},pF S G a w b->nh S G b w.reverse a
 |[],a,b,h=>by
  have h:a=b:=h
  exact h.symm
 |n::w,a,b,h=>by
  rw[kB]
  exact nh.app (h.1▸nh.one S G n) (pF.wlk h.2)
theorem pF.drop {S G:Nat->Nat}:∀{w:List Nat} {a b:Nat} {j n:Nat},pF S G a w b->w[j]?=some n->pF S G (G n) (w.drop j) b
 |[],a,b,j,n,h,e=>by simp at e
 |m::w,a,b,0,n,h,e=>by
  have e:m=n:=by simpa using e
  subst e
  exact⟨rfl,h.2⟩
 |m::w,a,b,j+1,n,h,e=>by
  rw[List.drop_succ_cons]
  exact pF.drop h.2 (by simpa using e)
structure Wk (ch:Nat->Option Nat)(S G:Nat->Nat)(lr:Nat->Nat)(v here:Nat)(ws:List Nat):Prop where
 ch:∀n∈ws,ch (G n)=some n/\0<lr (G n)
 way:pF S G v ws here
 nd:(ws.map G).Nodup
 lr:lr v<=lr here+ws.length
def Pu (many:Nat)(lr:Nat->Nat)(r:Nat)(pu:D):Prop:=(pu=.non/\∀x,lr x<r)\/∃v:Nat,pu=.int (v:Int)/\v<many/\lr v=r
theorem NM {many:Nat}{as:List cO}{ns:List D}{p:Int×Int}{aT:List Nat}{r:Nat}{M:Int}(gu:∀a∈as,xA many a)(hM:∀n,n<as.length->dI as p n<=M)(lS:0<=M)(hr:0<r)(hn:∀n∈aT,n<as.length){e2:Option D} :
  ∀(post pre:List Nat) (T:Nat->Int) (d:D) (ch:Nat->Option Nat) (lr ts:Nat->Nat) (k m:Nat) (C:Int) (pu:D) (y6 y7 y8:Option D),aT=pre++post->nD aT (aS as) (aG as) (dI as p) r pre T ch lr ts k->eu d ch m->m+post.length<=1000000->(∀x,T x<=C)->Pu many lr r pu ->
  ∃(T':Nat->Int) (d':D) (oW:Nat->Option Nat) (rM tO:Nat->Nat) (k':Nat) (qQ:D) (z6 z7 z8:Option D),fT (gV 6) x9 (aB post) [some (bU ns as),some (fr p),e2,some (.lst (eF many T)),some d,some pu,y6,y7,y8]=some (.nx [some (bU ns as),some (fr p),e2,some (.lst (eF many T')),some d',some qQ,z6,z7,z8]) /\
   nD aT (aS as) (aG as) (dI as p) r aT T' oW rM tO k'/\eu d' oW (m+post.length)/\(∀x,T' x<=C+(post.length:Int)*M)/\Pu many rM r qQ
 |[],pre,T,d,ch,lr,ts,k,m,C,pu,y6,y7,y8,e,hP,hD,_,hC,hu=>by
  rw[cz]at e
  subst e
  exact⟨T,d,ch,lr,ts,k,pu,y6,y7,y8,rfl,hP,hD,λx=>by have:=hC x;simp;omega,hu⟩
 |n::post,pre,T,d,ch,lr,ts,k,m,C,pu,y6,y7,y8,e,hP,hD,hm,hC,hu=>by
  rw[aI]at hm
  have Iu:n∈aT:=by rw[e];simp
  have EC:=hn n Iu
  have ok:=gu _ (qo EC)
  have f4:=Bx ns as
  have i1:cH (.lst (as.map bV)) (.int (n:Int))=some (bV (aN as n)):=j5 (by rw[aX,wZ EC];rfl)
  have f1:=fs (aN as n)
  have f2:=fg (aN as n)
  have f3:=ft (aN as n)
  have f5:=fb (aN as n)
  have v1:cH (.lst (eF many T)) (.int ((aN as n).s:Int))=some (.int (T (aN as n).s)):=HF T ok.s
  have v2:cH (.lst (eF many T)) (.int ((aN as n).g:Int))=some (.int (T (aN as n).g)):=HF T ok.g
  have m1:cT (.int (aN as n).t) (.int p.2)=some (.int ((aN as n).t*p.2)):=zdq (by have:=ok.t0;omega) (by have:=ok.t1;omega)
  have m2:cT (.int ((aN as n).b:Int)) (.int p.1)=some (.int (((aN as n).b:Int)*p.1)):=zdq (by omega) (by have:=ok.b;omega)
  have e8:T (aN as n).s+(aN as n).t*p.2-((aN as n).b:Int)*p.1=T (aS as n)+dI as p n:=by unfold dI aS;omega
  have eg:(aN as n).g=aG as n:=rfl
  have p0:=t4 p
  have p1:=mz p
  have wU:fT (gV 6) x9 (aB (n::post)) [some (bU ns as),some (fr p),e2,some (.lst (eF many T)),some d,some pu,y6,y7,y8]=(x9 [some (bU ns as),some (fr p),e2,some (.lst (eF many T)),some d,some pu,some (.int (n:Int)),y7,y8]).bind λo=>match o with
    |.nx ρ'=>fT (gV 6) x9 (aB post) ρ'
    |.ct ρ'=>fT (gV 6) x9 (aB post) ρ'
    |.bk ρ'=>some (.nx ρ')
    |.rt d=>some (.rt d):=rfl
  have pe:aT=(pre++[n])++post:=by rw[e];simp
  by_cases hg:T (aG as n)<T (aS as n)+dI as p n
  ·obtain⟨d2,put,hd2⟩:=hD.put (by omega) (aG as n) n
   have gt:sO (.int (T (aS as n)+dI as p n)) (.int (T (aN as n).g))=some (.bl true):=(zhy _ _).trans (by rw[decide_eq_true (by rw[eg];omega)])
   have ps:o8 (eF many T) ((aN as n).g:Int) (.int (T (aS as n)+dI as p n))=some (eF many (jV T (aG as n) (T (aS as n)+dI as p n))):=RJ T ok.g _
   have st:x9 [some (bU ns as),some (fr p),e2,some (.lst (eF many T)),some d,some pu,some (.int (n:Int)),y7,y8]=some (.nx [some (bU ns as),some (fr p),e2,some (.lst (eF many (jV T (aG as n) (T (aS as n)+dI as p n)))),some d2,some (.int ((aG as n:Nat):Int)),some (.int (n:Int)),some (bV (aN as n)),some (.int (T (aS as n)+dI as p n))]):=by
    have put:=put [some (bU ns as),some (fr p),e2,some (.lst (eF many (jV T (aG as n) (T (aS as n)+dI as p n)))),some d,some pu,some (.int (n:Int)),some (bV (aN as n)),some (.int (T (aS as n)+dI as p n))] 4 (e1 (cV [0,1,2,3] "goal") (eV 7)) (eV 6) rfl rfl f2
    have pl:o7 3 (e1 (cV [0,1,2,3] "goal") (eV 7)) (eV 8) [some (bU ns as),some (fr p),e2,some (.lst (eF many T)),some d,some pu,some (.int (n:Int)),some (bV (aN as n)),some (.int (T (aS as n)+dI as p n))]=some (.nx [some (bU ns as),some (fr p),e2,some (.lst (eF many (jV T (aG as n) (T (aS as n)+dI as p n)))),some d,some pu,some (.int (n:Int)),some (bV (aN as n)),some (.int (T (aS as n)+dI as p n))]):=by
     unfold o7 e1 eV
     generalize bV (aN as n)=ea at *
     simp[f2,ps]
    have mQ:T (aN as n).g<T (aS as n)+dI as p n:=hg
    generalize T (aS as n)+dI as p n=w at *
    generalize eF many (jV T (aG as n) w)=v',T (aN as n).g=tg at *
    rw[←eg]
    generalize eF many T=v0,fr p=F,as.map bV=al,bU ns as=net,bV (aN as n)=ea at *
    unfold x9
    generalize o7 3 (e1 (cV [0,1,2,3] "goal") (eV 7)) (eV 8)=PL,ko 4 (e1 (cV [0,1,2,3] "goal") (eV 7)) (eV 6)=PD at *
    clear wU pe hP hD hm hC hu e Iu EC ok hg hd2 eg gu hM lS hn ps
    walk_at "mir"
   obtain⟨T',d',oW,rM,tO,k',qQ,z6,z7,z8,h1,h2,h3,h4,h5⟩:=NM (ns:=ns) gu hM lS hr hn (e2:=e2) post (pre++[n]) _ d2 _ _ _ _ (m+1) (C+M) (.int ((aG as n:Nat):Int)) (some (.int (n:Int))) (some (bV (aN as n))) (some (.int (T (aS as n)+dI as p n))) pe (hP.push Iu hg) hd2 (by omega) (λx=>by
     unfold jV
     have h1:=hC x
     have h2:=hC (aS as n)
     have h3:=hM n EC
     split<;>omega) (.inr ⟨aG as n,rfl,ok.g,by simp[kO]⟩)
   refine⟨T',d',oW,rM,tO,k',qQ,z6,z7,z8,?_,h2,?_,λx=>?_,h5⟩
   ·rw[wU,st]
    exact h1
   ·rw[aI,show m+(post.length+1)=m+1+post.length by omega];exact h3
   ·have:=h4 x
    rw[aI,show((post.length+1:Nat):Int)=(post.length:Int)+1 by omega,qC,lX]
    omega
  ·have gt:sO (.int (T (aS as n)+dI as p n)) (.int (T (aN as n).g))=some (.bl false):=(zhy _ _).trans (by rw[decide_eq_false (by rw[eg];omega)])
   have st:x9 [some (bU ns as),some (fr p),e2,some (.lst (eF many T)),some d,some pu,some (.int (n:Int)),y7,y8]=some (.nx [some (bU ns as),some (fr p),e2,some (.lst (eF many T)),some d,some pu,some (.int (n:Int)),some (bV (aN as n)),some (.int (T (aS as n)+dI as p n))]):=by
    have mQ:¬T (aN as n).g<T (aS as n)+dI as p n:=hg
    generalize T (aS as n)+dI as p n=w,T (aN as n).g=tg,eF many T=v0,fr p=F,as.map bV=al,bU ns as=net,bV (aN as n)=ea at *
    unfold x9
    clear wU pe hP hD hm hC hu e Iu EC ok hg eg gu hM lS hn
    walk_at "mir"
   obtain⟨T',d',oW,rM,tO,k',qQ,z6,z7,z8,h1,h2,h3,h4,h5⟩:=NM (ns:=ns) gu hM lS hr hn (e2:=e2) post (pre++[n]) T d ch lr ts k m C pu (some (.int (n:Int))) (some (bV (aN as n))) (some (.int (T (aS as n)+dI as p n))) pe (hP.stay (by omega)) hD (by omega) hC hu
   refine⟨T',d',oW,rM,tO,k',qQ,z6,z7,z8,?_,h2,?_,λx=>?_,h5⟩
   ·rw[wU,st]
    exact h1
   ·obtain⟨ks,ds,q1,q2,q3,q4⟩:=h3.is
    exact⟨ks,ds,q1,q2,by rw[aI];omega,q4⟩
   ·have:=h4 x
    rw[aI,show((post.length+1:Nat):Int)=(post.length:Int)+1 by omega,qC,lX]
    omega
theorem zuc {many:Nat}{as:List cO}{ns:List D}{p:Int×Int}{aT:List Nat}{r:Nat}{M:Int}(gu:∀a∈as,xA many a)(hM:∀n,n<as.length->dI as p n<=M)(lS:0<=M)(hr:0<r)(hn:∀n∈aT,n<as.length){T:Nat->Int}{d:D}{ch:Nat->Option Nat}{lr ts:Nat->Nat}{k m:Nat}{C:Int}(hP:nD aT (aS as) (aG as) (dI as p) r [] T ch lr ts k)(hD:eu d ch m)(hm:m+aT.length<=1000000)(hC:∀x,T x<=C)(hl:∀x,lr x<r) :
  ∃(T':Nat->Int) (d':D) (oW:Nat->Option Nat) (rM tO:Nat->Nat) (k':Nat) (qQ:D),ua [bU ns as,fr p,.lst (aB aT),.lst (eF many T),d]=some (.tup [qQ,.lst (eF many T'),d']) /\
   nD aT (aS as) (aG as) (dI as p) r aT T' oW rM tO k'/\eu d' oW (m+aT.length)/\(∀x,T' x<=C+(aT.length:Int)*M)/\Pu many rM r qQ:=by
 obtain⟨T',d',oW,rM,tO,k',qQ,z6,z7,z8,h1,h2,h3,h4,h5⟩:=NM (ns:=ns) gu hM lS hr hn (e2:=some (.lst (aB aT))) aT [] T d ch lr ts k m C .non none none none rfl hP hD hm hC (.inl ⟨rfl,hl⟩)
 refine⟨T',d',oW,rM,tO,k',qQ,?_,h2,h3,h4,h5⟩
 unfold ua Ao uV Ap
 generalize eF many T=v0 at *
 generalize eF many T'=v1,fr p=F,bU ns as=net,aB aT=nl at *
 clear hP hD hm hC hl gu hM lS hn h2 h3 h4 h5
 walk_at "mir"
theorem eu.congr {d:D}{ch oW:Nat->Option Nat}{m:Nat}(h:eu d ch m)(e:∀x,ch x=oW x):eu d oW m:=by
 have:ch=oW:=funext e
 rw[←this];exact h
theorem eu.mono {d:D}{ch:Nat->Option Nat}{m m':Nat}(h:eu d ch m)(e:m<=m'):eu d ch m':=by
 obtain⟨ks,ds,q1,q2,q3,q4⟩:=h.is
 exact⟨ks,ds,q1,q2,by omega,q4⟩
theorem eu.nil:eu (.dK [] []) (λ_=>none) 0:=⟨[],[],rfl,rfl,by simp,λ_=>rfl⟩
def sY (us:List Nat)(y:Nat):Option Nat:=if y∈us then some (us.idxOf y)else none
theorem zr4 (us:List Nat){x:Nat}(h:x∉us)(y:Nat):(if y=x then some us.length else sY us y)=sY (us++[x]) y:=by
 unfold sY
 by_cases e:y=x
 ·subst e
  rw[if_pos rfl,if_pos (by simp),rY,if_neg h]
  simp
 ·rw[if_neg e]
  by_cases hy:y∈us
  ·rw[if_pos hy,if_pos (by simp[hy]),rY,if_pos hy]
  ·rw[if_neg hy,if_neg (by simp[hy,e])]
def VO (ρ:L3.Env):Nat:=match ρ[5]?.join with
 |some (D.lst ds)=>1000-ds.length
 |_=>0
def cR:BF:=tb (λρ=>((eV 3) ρ).bind λx=>((eV 4) ρ).bind λy=>(hZ y x).bind λr=>some (.bl (!r.isSome)))
theorem zvb {as:List cO}{many m v:Nat}{d:D}{ch:Nat->Option Nat}{lr:Nat->Nat}(hD:eu d ch m)(kl:∀x,0<lr x->∃n,ch x=some n/\n<as.length/\aG as n=x/\lr x<=lr (aS as n)+1)(gu:∀a∈as,xA many a)(hv:v<many)(O0:many<=lr v)(hm:many<=900) :
  ∃(R:List Nat) (x:Nat),ur [.lst (as.map bV),d,.int (v:Int)]=some (.lst (aB R))/\R≠[]/\nh (aS as) (aG as) x R x/\(R.map (aG as)).Nodup/\∀n∈R,ch (aG as n)=some n/\0<lr (aG as n):=by
 have tY:∀(here:Nat) (us:List Nat) (d2:D) (k:Nat) (y0 y1 y2 y5:Option D),eu d2 (sY us) k->cR [y0,y1,y2,some (.int (here:Int)),some d2,y5]=some (!decide (here∈us)):=by
  intro here us d2 k y0 y1 y2 y5 h
  have g1:=h.has here
  have tZ:((sY us here).map λ(n:Nat)=>D.int (n:Int)).isSome=decide (here∈us):=by
   unfold sY
   by_cases hh:here∈us
   ·rw[if_pos hh,decide_eq_true hh];rfl
   ·rw[if_neg hh,decide_eq_false hh];rfl
  rw[←tZ]
  generalize (sY us here).map (λ(n:Nat)=>D.int (n:Int))=o at *
  unfold cR
  clear h tZ kl gu hD
  walk_at "mir"
 have lp:=Q6 (c:=cR) (b:=u7)
  (λρ=>∃(ws:List Nat) (here:Nat) (d2:D),ρ=[some (.lst (as.map bV)),some d,some (.int (v:Int)),some (.int (here:Int)),some d2,some (.lst (aB ws))]/\Wk ch (aS as) (aG as) lr v here ws/\here<many/\(∀n∈ws,n<as.length)/\eu d2 (sY (ws.map (aG as))) ws.length) VO
  (λ_=>False) (by
   rintro ρ ⟨ws,here,d2,rfl,hw,hh,hn,h2⟩
   have EQ:ws.length<=many:=by
    rw[←ak (f:=aG as)]
    refine Kahn.len_le hw.nd λx hx=>?_
    obtain⟨n,h1,rfl⟩:=bM.mp hx
    exact(gu _ (qo (hn n h1))).g
   refine⟨_,tY here _ d2 _ _ _ _ _ h2,λht=>.inl ?_⟩
   have n8:here∉ws.map (aG as):=by simpa using ht
   have uW:(ws.map (aG as)++[here]).Nodup:=aW.mpr ⟨hw.nd,by simp,λa ha b hb e=>n8 (by rw[←aD.mp hb,←e];exact ha)⟩
   have zU:=Kahn.len_le (many:=many) uW λx hx=>by
    rcases aY.mp hx with hx|hx
    ·obtain⟨n,h1,rfl⟩:=bM.mp hx
     exact(gu _ (qo (hn n h1))).g
    ·rw[aD.mp hx];exact hh
   rw[bg,ak,cN]at zU
   have hl:=hw.lr
   obtain⟨n,c1,c2,c3,c4⟩:=kl here (by omega)
   obtain⟨d3,put,OU⟩:=h2.put (by omega) here ws.length
   have put:=put [some (.lst (as.map bV)),some d,some (.int (v:Int)),some (.int (here:Int)),some d2,some (.lst (aB ws))] 4 (eV 3) (eN dg (aCons (eV 5) aNil)) (by
    show dg [.lst (aB ws)]=_
    rw[v7];unfold aB;rw[ak]) rfl rfl
   have g1:=hD.get c1
   have f1:=fs (aN as n)
   have i1:cH (.lst (as.map bV)) (.int (n:Int))=some (bV (aN as n)):=j5 (by rw[aX,wZ c2];rfl)
   refine⟨[some (.lst (as.map bV)),some d,some (.int (v:Int)),some (.int ((aN as n).s:Int)),some d3,some (.lst (aB (ws++[n])))],?_,⟨ws++[n],(aN as n).s,d3,rfl,⟨λk hk=>?_,hw.way.snoc c3,?_,?_⟩,(gu _ (qo c2)).s,λk hk=>?_,?_⟩,?_⟩
   ·have e3:aB (ws++[n])=aB ws++[.int (n:Int)]:=by unfold aB;rw[dc];rfl
    have hz:(aB ws).length<16777216:=by unfold aB;rw[ak];omega
    rw[e3]
    generalize as.map bV=al,aB ws=wl,bV (aN as n)=ea at *
    unfold u7
    generalize ko 4 (eV 3) (eN dg (aCons (eV 5) aNil))=PP at *
    clear e3 OU c1 c2 c3 c4 hl zU uW n8 ht EQ h2 hn hh hw tY hD kl gu hv O0 hm
    walk_at "mir"
   ·rcases aY.mp hk with hk|hk
    ·exact hw.ch k hk
    ·rw[aD.mp hk,c3];exact⟨c1,by omega⟩
   ·rw[dc,jX,c3];exact uW
   ·rw[bg,cN]
    have:(aN as n).s=aS as n:=rfl
    rw[this]
    omega
   ·rcases aY.mp hk with hk|hk
    ·exact hn k hk
    ·rw[aD.mp hk];exact c2
   ·rw[bg,cN,dc,jX,c3]
    refine OU.congr λy=>?_
    have:=zr4 (ws.map (aG as)) n8 y
    rw[ak]at this
    exact this
   ·show 1000-(aB (ws++[n])).length<1000-(aB ws).length
    unfold aB
    rw[ak,ak,bg,cN]
    omega) lH [some (.lst (as.map bV)),some d,some (.int (v:Int)),some (.int (v:Int)),some (.dK [] []),some (.lst (aB []))]
  ⟨[],v,.dK [] [],rfl,⟨λn hn=>(by cases hn),rfl,by simp,by simp⟩,hv,λn hn=>(by cases hn),eu.nil.congr λ_=>by simp[sY]⟩ (NE (by show 1000-(aB []).length<1048576;omega))
 have n0:aB []=[]:=rfl
 rw[n0]at lp
 rcases lp with⟨ρ',l1,⟨ws,here,d2,rfl,hw,hh,hn,h2⟩,hc⟩|⟨_,_,f⟩
 ·rw[tY here _ d2 _ _ _ _ _ h2]at hc
  have zS:here∈ws.map (aG as):=by simpa using hc
  have hj:sY (ws.map (aG as)) here=some ((ws.map (aG as)).idxOf here):=by unfold sY;rw[if_pos zS]
  have rH:=nQ.mpr zS
  have t5:(ws.map (aG as))[(ws.map (aG as)).idxOf here]?=some here:=by
   rw[br rH,qX]
  generalize (ws.map (aG as)).idxOf here=j at *
  rw[ak]at rH
  rw[aX,br rH]at t5
  replace t5:aG as ws[j]=here:=by simpa using t5
  have wlk:pF (aS as) (aG as) here (ws.drop j) here:=by
   have:=hw.way.drop (j:=j) (n:=ws[j]) (br rH)
   rw[t5]at this
   exact this
  refine⟨(ws.drop j).reverse,here,?_,?_,wlk.wlk,?_,λn EB=>?_⟩
  ·have gv:=h2.get hj
   have ct:cutD (aB ws) (some (j:Int)) none=aB (ws.drop j):=by
    rw[zlm]
    unfold aB
    rw[gb]
   have lv:sZ (.lst (aB (ws.drop j)))=some (.lst (aB (ws.drop j).reverse)):=by
    show some (D.lst (aB (ws.drop j)).reverse)=_
    unfold aB
    rw[←lE]
   unfold cR at l1
   generalize aB (ws.drop j).reverse=wr at *
   generalize aB (ws.drop j)=wd,as.map bV=al,aB ws=wl at *
   unfold ur fV
   generalize (tb (λρ=>((eV 3) ρ).bind λx=>((eV 4) ρ).bind λy=>(hZ y x).bind λr=>some (.bl (!r.isSome))))=cc at *
   clear wlk t5 rH hj zS hc h2 hn hh hw tY hD kl gu hv O0 hm
   walk_at "mir"
  ·intro e
   have:=congrArg lN e
   rw[eZ,cJ]at this
   simp at this
   omega
  ·rw[lE,gb]
   exact pv.mpr ((jQ.sublist (rT _ _) hw.nd).imp λh e=>h e.symm)
  ·exact hw.ch n (pM (sC.mp EB))
 ·exact f.elim
def hV (many:Nat)(p:Int×Int)(T:Nat->Int):D:=.lst ((ax many).map λg=>fr (Fq.mk (T g) p.2))
def JU (many:Nat)(as:List cO)(p:Int×Int)(aT:List Nat)(B:Int)(d:D):Prop :=
 (∃T:Nat->Int,d=.tup [.str "times",hV many p T]/\(∀n∈aT,T (aS as n)+dI as p n<=T (aG as n))/\∀x,0<=T x/\T x<=B) \/
 ∃(R:List Nat) (x:Nat),d=.tup [.str "ring",.lst (aB R)]/\R≠[]/\nh (aS as) (aG as) x R x/\(R.map (aG as)).Nodup/\(∀n∈R,n∈aT)/\0<(R.map (dI as p)).sum
theorem zr5 (many:Nat):(az many [D.int 0]).flatten=eF many λ_=>0:=by
 unfold eF
 rw[tR,bD]
 induction many with
 |zero=>rfl
 |succ n ih=>rw[cM,d9,ih,cM];rfl
theorem zow {many:Nat}{p:Int×Int}{T:Nat->Int}(hm:many<=1000)(hp:p.2≠0)(jC:Sz 8000 p.2)(r:L3.Env)(h1:r[1]?.join=some (fr p))(h3:r[3]?.join=some (.lst (eF many T))):u9 r=some (hV many p T):=by
 unfold hV
 refine jy (λ(g:Nat)=>D.int (T g)) (λg=>fr (Fq.mk (T g) p.2)) (ax many) (by unfold lsD;have:eV 3 r=_:=h3;rw[this];rfl) (by rw[bD];omega) λg _=>⟨_,rfl,?_⟩
 have gz:fF r [1]=[some (fr p)]:=by unfold fF;simp[h1]
 rw[gz]
 have p1:=mz p
 have ra:=BI (t:=T g) hp jC
 generalize fr (Fq.mk (T g) p.2)=F,fr p=fp at *
 clear gz h1 h3 hm jC
 walk_at "mir"
theorem Nf {many:Nat}{as:List cO}{ns:List D}{p:Int×Int}{aT:List Nat}{M:Int}(gB:ns.length=many)(sV:1<=many)(hm:many<=900)(zY:aT.length<=1000)(gu:∀a∈as,xA many a)(hp:p.2≠0)(jC:Sz 8000 p.2)(hM:∀n,n<as.length->dI as p n<=M)(lS:0<=M)(hn:∀n∈aT,n<as.length) :
  ∃d,yu [bU ns as,fr p,.lst (aB aT)]=some d/\JU many as p aT ((many:Int)*((aT.length:Int)*M)) d:=by
 have ln:dg [.lst ns]=some (.int (many:Int)):=(v7 _).trans (by rw[gB])
 have K5:=Nq ns as
 have Ee:=Bx ns as
 have Bg:0<=(aT.length:Int)*M:=fN (by omega) lS
 have lp:=Hn (g:=gV 6) (b:=wp) (n:=many)
  (λi ρ=>∃(T:Nat->Int) (d:D) (ch:Nat->Option Nat) (lr ts:Nat->Nat) (k:Nat) (pu:D) (y6:Option D),ρ=[some (bU ns as),some (fr p),some (.lst (aB aT)),some (.lst (eF many T)),some d,some pu,y6]/\nD aT (aS as) (aG as) (dI as p) (i+1) [] T ch lr ts k/\eu d ch (i*aT.length)/\(∀x,T x<=(i:Int)*((aT.length:Int)*M))/\(∀x,lr x<=i)/\(i=0\/∃v:Nat,pu=.int (v:Int)/\v<many/\lr v=i))
  (JU many as p aT ((many:Int)*((aT.length:Int)*M))) (by
   rintro i ρ hi ⟨T,d,ch,lr,ts,k,pu,y6,rfl,hP,hD,hC,hl,_⟩
   have Bn:i*aT.length+aT.length<=1000000:=by
    have:i*aT.length<=900*1000:=vN (by omega) zY
    omega
   obtain⟨T',d',oW,rM,tO,k',qQ,h1,h2,h3,h4,h5⟩:=zuc (ns:=ns) (aT:=aT) gu hM lS (Nat.succ_pos i) hn hP hD Bn hC (λx=>by have:=hl x;omega)
   have zN:iD d=true/\iD (.lst (eF many T))=true:=by
    obtain⟨ks,ds,rfl,_⟩:=hD.is
    exact⟨rfl,rfl⟩
   have hB:∀x,T' x<=((i+1:Nat):Int)*((aT.length:Int)*M):=λx=>by
    have:=h4 x
    rw[show((i+1:Nat):Int)=(i:Int)+1 by omega,qC,lX]
    omega
   have Lu:mw 3 4 (aCons (eV 0) (aCons (eV 1) (aCons (eV 2) aNil))) ua [some (bU ns as),some (fr p),some (.lst (aB aT)),some (.lst (eF many T)),some d,some pu,some (.int (i:Int))]=some (qQ,[some (bU ns as),some (fr p),some (.lst (aB aT)),some (.lst (eF many T')),some d',some pu,some (.int (i:Int))]):=by
    obtain⟨c1,c2⟩:=zN
    generalize eF many T=v0 at *
    generalize eF many T'=v1,fr p=F,bU ns as=net,aB aT=nl at *
    unfold mw
    clear hP hD hC hl Bn h2 h3 h4 h5 hB gu jC hM lS hn Bg ln K5 Ee
    walk_at "mir"
   have ss:nM 5 (mw 3 4 (aCons (eV 0) (aCons (eV 1) (aCons (eV 2) aNil))) ua) [some (bU ns as),some (fr p),some (.lst (aB aT)),some (.lst (eF many T)),some d,some pu,some (.int (i:Int))]=some (.nx [some (bU ns as),some (fr p),some (.lst (aB aT)),some (.lst (eF many T')),some d',some qQ,some (.int (i:Int))]):=by
    unfold nM
    rw[Lu]
    rfl
   refine⟨[some (bU ns as),some (fr p),some (.lst (aB aT)),some (.lst (eF many T)),some d,some pu,some (.int (i:Int))],rfl,?_⟩
   rcases h5 with⟨rfl,O3⟩|⟨v,rfl,hv,Ip⟩
   ·refine .inr ⟨.tup [.str "times",hV many p T'],?_,.inl ⟨T',rfl,λn hn=>h2.dn n hn (O3 _),λx=>⟨h2.pos x,?_⟩⟩⟩
    ·have q:=zow (T:=T') (p:=p) (many:=many) (by omega) hp jC [some (bU ns as),some (fr p),some (.lst (aB aT)),some (.lst (eF many T')),some d',some .non,some (.int (i:Int))] rfl rfl
     have sc:(D.str "times").sc=true:=rfl
     generalize eF many T=v0 at *
     generalize eF many T'=v1,fr p=F,bU ns as=net,aB aT=nl,hV many p T'=TM at *
     unfold wp qK
     generalize nM 5 (mw 3 4 (aCons (eV 0) (aCons (eV 1) (aCons (eV 2) aNil))) ua)=SM at *
     clear hP hD hC hl Bn h1 h2 h3 h4 O3 hB gu jC hM lS hn Bg ln K5 Ee zN Lu
     walk_at "mir"
    ·have h6:=hB x
     have h7:((i+1:Nat):Int)*((aT.length:Int)*M)<=(many:Int)*((aT.length:Int)*M):=aU (by omega) Bg
     omega
   ·refine .inl ⟨[some (bU ns as),some (fr p),some (.lst (aB aT)),some (.lst (eF many T')),some d',some (.int (v:Int)),some (.int (i:Int))],?_,⟨T',d',oW,rM,tO,k',_,_,rfl,h2.next,?_,hB,h2.le,.inr ⟨v,rfl,hv,Ip⟩⟩⟩
    ·generalize eF many T=v0 at *
     generalize eF many T'=v1,fr p=F,bU ns as=net,aB aT=nl at *
     unfold wp
     generalize nM 5 (mw 3 4 (aCons (eV 0) (aCons (eV 1) (aCons (eV 2) aNil))) ua)=SM at *
     clear hP hD hC hl Bn h1 h2 h3 h4 Ip hB gu jC hM lS hn Bg ln K5 Ee zN Lu hv
     walk_at "mir"
    ·rw[Nat.add_mul,Nat.one_mul];exact h3)
  many 0 [some (bU ns as),some (fr p),some (.lst (aB aT)),some (.lst (eF many λ_=>0)),some (.dK [] []),some .non,none] (by omega)
  ⟨λ_=>0,.dK [] [],λ_=>none,λ_=>0,λ_=>0,1,.non,none,rfl,nD.start,eu.nil.mono (by omega),λx=>by simp,λx=>aM 0,.inl rfl⟩
 have O6:iE [.int (many:Int)]=some ((ax many).map λ(t:Nat)=>D.int (t:Int)):=by
  rw[AN (by omega) (by omega)]
  unfold eE
  simp
 have rp:p9 (.lst [.int 0]) (.int (many:Int))=some (.lst (eF many λ_=>0)):=by
  show(if -1000000<(many:Int)/\(many:Int)<1000000/\[D.int 0].length<=16 then some (D.lst (az (many:Int).toNat [D.int 0]).flatten)else none)=_
  rw[if_pos ⟨by omega,by omega,by simp⟩,hX,zr5 many]
 rw[←eO]at lp
 rcases lp with⟨ρ',l1,⟨T,d,ch,lr,ts,k,pu,y6,rfl,hP,hD,hC,hl,hv⟩⟩|⟨w,l1,hw⟩
 ·rcases hv with hv|⟨v,rfl,hv,Ip⟩
  ·omega
  obtain⟨R,x,r1,r2,r3,r4,r5⟩:=zvb (as:=as) (many:=many) (v:=v) hD (λx hx=>by
   obtain⟨n,c1,c2,c3,c4,_⟩:=hP.ch x hx
   exact⟨n,c1,hn n c2,c3,c4⟩) gu hv (by omega) hm
  have key:∀n∈R,n∈aT/\T (aG as n)<=T (aS as n)+dI as p n/\(T (aG as n)<T (aS as n)+dI as p n\/ts (aS as n)<ts (aG as n)):=λn Vk=>by
   obtain⟨q1,q2⟩:=r5 n Vk
   obtain⟨n',c1,c2,c3,c4,c5,c6⟩:=hP.ch _ q2
   rw[q1]at c1
   have:=Option.some.inj c1
   subst this
   exact⟨c2,c5,c6⟩
  obtain⟨_,k2⟩:=nD.cost (T:=T) (ts:=ts) (S:=aS as) (G:=aG as) (c:=dI as p) (Q:=λn=>n∈R) (λn h=>(key n h).2) r3 (λn h=>h)
  refine⟨.tup [.str "ring",.lst (aB R)],?_,.inr ⟨R,x,rfl,r2,r3,r4,λn h=>(key n h).1,?_⟩⟩
  ·have sc:(D.str "ring").sc=true:=rfl
   clear hP hD hC hl Ip hv key k2 r2 r3 r4 r5 gu jC hM lS hn Bg
   generalize eF many T=v0,(eF many λ_=>0)=v1,fr p=F,as.map bV=al,bU ns as=net,aB aT=nl,aB R=rl,(ax many).map (λ(t:Nat)=>D.int (t:Int))=II at *
   unfold yu qK
   walk_at "mir"
  ·rcases k2 with k2|k2|k2
   ·exact absurd k2 r2
   ·omega
   ·omega
 ·refine⟨w,?_,hw⟩
  clear hw gu jC hM lS hn Bg
  generalize (eF many λ_=>0)=v1,fr p=F,as.map bV=al,bU ns as=net,aB aT=nl,(ax many).map (λ(t:Nat)=>D.int (t:Int))=II at *
  unfold yu qK
  walk_at "mir"
theorem R5 {many:Nat}{as:List cO}{ns:List D}{p:Int×Int}{M:Int}(gB:ns.length=many)(sV:1<=many)(hm:many<=900)(zY:as.length<=1000)(gu:∀a∈as,xA many a)(hp:p.2≠0)(jC:Sz 8000 p.2)(hM:∀n,n<as.length->dI as p n<=M)(lS:0<=M) :
  ∃d,xt [bU ns as,fr p]=some d/\JU many as p (ax as.length) ((many:Int)*((as.length:Int)*M)) d:=by
 obtain⟨d,h1,h2⟩:=Nf (ns:=ns) (aT:=ax as.length) gB sV hm (by rw[bD];exact zY) gu hp jC hM lS (λn h=>bx.mp h)
 rw[bD]at h2
 refine⟨d,?_,h2⟩
 have la:dg [.lst (as.map bV)]=some (.int (as.length:Int)):=(v7 _).trans (by rw[ak])
 have Ee:=Bx ns as
 have lr:iI [.int (as.length:Int)]=some (.lst (aB (ax as.length))):=by
  show(if 0<=(as.length:Int)/\(as.length:Int)<=16777216 then some (D.lst (eE 0 (as.length:Int).toNat))else none)=_
  rw[if_pos ⟨by omega,by omega⟩]
  unfold eE aB
  simp
 generalize fr p=F,as.map bV=al,bU ns as=net,aB (ax as.length)=nl at *
 unfold xt
 clear h2 gu jC hM lS zY
 walk_at "mir"
theorem zvc {as:List cO}{n:Nat}(h1:n<as.length):cH (.lst (as.map bL)) (.int (n:Int))=some (.tup [.int ((aN as n).s:Int),.int ((aN as n).g:Int),.int (aN as n).t,.int ((aN as n).b:Int)]):=j5 (by rw[aX,wZ h1];rfl)
def tN (as:List cO)(n:Nat):Int:=(aN as n).t
def bN (as:List cO)(n:Nat):Int:=((aN as n).b:Int)
theorem Hu {as:List cO}{p:Int×Int}:∀w:List Nat,(w.map (dI as p)).sum=(w.map (tN as)).sum*p.2-(w.map (bN as)).sum*p.1
 |[]=>by simp
 |n::w=>by
  rw[aO,aO,aO,bu,bu,bu,Hu w]
  unfold dI tN bN
  grind
theorem Jp {f:Nat->Int}{m:Int}(hm:0<=m):∀is:List Nat,(∀i∈is,0<=f i/\f i<=m)->0<=(is.map f).sum/\(is.map f).sum<=m*(is.length:Int)
 |[],_=>by simp
 |i::is,h=>by
  obtain⟨h1,h2⟩:=Jp hm is λj hj=>h j (aj _ hj)
  obtain⟨h3,h4⟩:=h i af
  rw[aO,bu,aI]
  refine⟨by omega,?_⟩
  rw[show((is.length+1:Nat):Int)=(is.length:Int)+1 by omega,Int.mul_add,lV]
  omega
theorem Rw {as:List cO}{rank:Nat->Nat}(n9:∀a∈as,a.b=0->rank a.s<rank a.g):∀{w:List Nat} {a b:Nat},nh (aS as) (aG as) a w b->(∀n∈w,n<as.length)->0<=(w.map (bN as)).sum/\((w.map (bN as)).sum=0->rank a+w.length<=rank b)
 |[],a,b,h,_=>by
  have h:a=b:=h
  subst h
  simp
 |n::w,a,b,h,hn=>by
  obtain⟨i1,i2⟩:=Rw n9 h.2 λm hm=>hn m (aj _ hm)
  rw[aO,bu,aI]
  have h0:0<=bN as n:=by unfold bN;omega
  refine⟨by omega,λe=>?_⟩
  have h1:bN as n=0:=by omega
  have h2:=n9 _ (qo (hn n af)) (by unfold bN at h1;omega)
  have h3:=i2 (by omega)
  have e1:a=(aN as n).s:=h.1.symm
  have e2:aG as n=(aN as n).g:=rfl
  rw[e2]at h3
  rw[e1]
  omega
theorem SA {as:List cO}{w:List Nat}{j:Int}{f:cO->Int}{q:EF}{fi:L3.Env->Option (List D)}(hq:q=d5 fi 1 [0] (gV 0) e9 (e2 cH (e2 cH (eV 1) (eV 0)) (eC (.int j))))(hf:∀a:cO,cH (.tup [.int (a.s:Int),.int (a.g:Int),.int a.t,.int (a.b:Int)]) (.int j)=some (.int (f a)))(hl:w.length<=1000)(hr:∀n∈w,n<as.length)(r:L3.Env)(h0:r[0]?.join=some (.lst (as.map bL)))(hi:fi r=some (aB w)) :
  q r=some (.lst ((w.map λn=>f (aN as n)).map .int)):=by
 rw[hq,bF]
 refine jy (λ(n:Nat)=>D.int (n:Int)) (λn=>D.int (f (aN as n))) w hi (by omega) λn hn=>⟨_,rfl,?_⟩
 have gz:fF r [0]=[some (.lst (as.map bL))]:=by unfold fF;simp[h0]
 rw[gz]
 have i1:=zvc (as:=as) (hr n hn)
 have f1:=hf (aN as n)
 generalize f (aN as n)=v,as.map bL=al,(D.tup [.int ((aN as n).s:Int),.int ((aN as n).g:Int),.int (aN as n).t,.int ((aN as n).b:Int)])=tp at *
 clear gz h0 hr hn hl hf hq hi
 walk_at "mir"
def A7 (pace:Int×Int)(tm:Nat->Int×Int)(as:List cO):Bool:=as.all λa=>!Fq.under (tm a.g) (early pace tm a)
theorem ZC {ns:List D}{as:List cO}{is:List Int}{pace:Int×Int}{rank:Nat->Nat}(hl:is.length<=1000)(gu:as.length<=1000)(hb:∀a∈as,a.b<=4)(n9:∀a∈as,a.b=0->rank a.s<rank a.g) :
  ∃b:Bool,Ho [bU ns as,.lst (is.map .int),fr pace]=some (.bl b)/\(b=true↔nc (sI as) (gI as) as.length is/\Fq.mk (is.map (tI as)).sum (is.map (bI as)).sum=pace):=by
 obtain⟨b,h1,h2⟩:=zmk (ns:=ns) (as:=as) (is:=is) hl gu
 cases b with
 |false=>
  refine⟨false,?_,?_⟩
  ·generalize bU ns as=net at *
   generalize is.map D.int=il,fr pace=F at *
   clear h2 hl gu hb n9
   unfold Ho
   walk_at "mir"
  ·constructor
   ·intro z;cases z
   ·intro z;exact h2.mpr z.1
 |true=>
  have rg:=h2.mp rfl
  have pos:=zou n9 rg
  have mn:=Sw (ns:=ns) (as:=as) (is:=is) hl hb rg.2.1 (by omega)
  have e:=OL (neg:=false) (Fq.mk (is.map (tI as)).sum (is.map (bI as)).sum) pace
  rw[if_neg (by decide)]at e
  refine⟨decide (Fq.mk (is.map (tI as)).sum (is.map (bI as)).sum=pace),?_,?_⟩
  ·generalize decide (Fq.mk (is.map (tI as)).sum (is.map (bI as)).sum=pace)=bb at *
   generalize fr (Fq.mk (is.map (tI as)).sum (is.map (bI as)).sum)=M,bU ns as=net,is.map D.int=il,fr pace=F at *
   clear h2 hl gu hb n9 pos rg
   unfold Ho
   walk_at "mir"
  ·rw[decide_eq_true_iff]
   exact⟨λz=>⟨rg,z⟩,λz=>z.2⟩
theorem zr6 {ns:List D}{many:Nat}{as:List cO}{is:List Int}{pace:Int×Int}{tm:Nat->Int×Int}{rank:Nat->Nat}(h:lh many as)(hn:ns.length=many)(hl:is.length<=1000)(gu:as.length<=1000)(hb:∀a∈as,a.b<=4)(n9:∀a∈as,a.b=0->rank a.s<rank a.g)(lp:Fq.Low pace)(lt:∀g,Fq.Low (tm g))(zp:Fz 300 pace)(zt:∀g,Fz 300 (tm g)) :
  ∃b:Bool,wW [bU ns as,.tup [fr pace,.lst (is.map .int),.lst (lK many tm)]]=some (.bl b)/\(b=true↔nc (sI as) (gI as) as.length is/\Fq.mk (is.map (tI as)).sum (is.map (bI as)).sum=pace/\A7 pace tm as=true):=by
 obtain⟨b,h1,h2⟩:=ZC (ns:=ns) (as:=as) (is:=is) (pace:=pace) hl gu hb n9
 have ft:=zub (ns:=ns) (pace:=pace) h hn lp lt zp zt
 replace ft:HB [bU ns as,fr pace,.lst (lK many tm)]=some (.bl (A7 pace tm as)):=ft
 refine⟨b&&A7 pace tm as,?_,?_⟩
 ·have i0:∀a b c:D,cH (.tup [a,b,c]) (.int 0)=some a:=λ_ _ _=>rfl
  have i1:∀a b c:D,cH (.tup [a,b,c]) (.int 1)=some b:=λ_ _ _=>rfl
  have i2:∀a b c:D,cH (.tup [a,b,c]) (.int 2)=some c:=λ_ _ _=>rfl
  generalize A7 pace tm as=bb,bU ns as=net,is.map D.int=il,lK many tm=fl,fr pace=F at *
  clear h2 hl gu hb n9 lp lt zp zt h
  unfold wW
  cases b
  ·walk_at "mir"
  ·walk_at "mir"
 ·rw[bE,h2,and_assoc]
theorem zud {l1 l2:List Int}(p:l1.Perm l2):l1.sum=l2.sum:=by
 induction p with
 |nil=>rfl
 |cons x _ ih=>rw[bu,bu,ih]
 |swap x y l=>rw[bu,bu,bu,bu];omega
 |trans _ _ LQ LR=>exact LQ.trans LR
theorem zox {as:List cO}{p:Int×Int}{T:Nat->Int}(hk:∀n∈ax as.length,T (aS as n)+dI as p n<=T (aG as n)):∀{w:List Nat} {a b:Nat},nh (aS as) (aG as) a w b->(∀n∈w,n<as.length)->T a+(w.map (dI as p)).sum<=T b
 |[],a,b,h,_=>by
  have h:a=b:=h
  subst h
  simp
 |n::w,a,b,h,hn=>by
  have i1:=zox hk h.2 λm hm=>hn m (aj _ hm)
  have i2:=hk n (bx.mpr (hn n af))
  rw[h.1]at i2
  rw[aO,bu]
  omega
theorem zr7 {T B c1 c2 m1 m2 S P:Int}(hc:0<c2)(hm:0<m2)(v:m1*(2*B*c2)=(T*c2+c1*B)*m2)(h:(c1*B-T*c2)*P<=S*c2*B):(m1*B-T*m2)*(2*P)<=S*m2*B:=by
 have e:(m1*B-T*m2)*(2*P)*c2=(c1*B-T*c2)*P*m2:=by
  have:(m1*B-T*m2)*(2*P)*c2=(m1*(2*B*c2)-2*T*c2*m2)*P:=by grind
  rw[this,v];grind
 have h1:=aU h (cK hm)
 rw[←e]at h1
 have e2:S*c2*B*m2=S*m2*B*c2:=by grind
 rw[e2]at h1
 exact eW h1 hc
theorem zvd {T B T2 B2 c1 c2 m1 m2 S P:Int}(hc:0<c2)(hm:0<m2)(hB:0<B)(UP:0<B2)(hP:0<P)(v:m1*(2*B*c2)=(T*c2+c1*B)*m2)(ha:m1*B2<T2*m2)(h:(c1*B-T*c2)*P<=S*c2*B):(c1*B2-T2*c2)*(2*P)<=S*c2*B2:=by
 have k1:(c1*B2-T2*c2)*m2<=B2*(c1*m2-m1*c2):=by
  have:=aU (cK ha) (cK hc)
  grind
 have k2:(c1*m2-m1*c2)*(2*B)=m2*(c1*B-T*c2):=by grind
 have k3:(c1*B2-T2*c2)*m2*(2*B)<=B2*(m2*(c1*B-T*c2)):=by
  have:=aU k1 (show(0:Int)<=2*B by omega)
  rw[Int.mul_assoc B2,k2]at this
  exact this
 have k4:=aU k3 (cK hP)
 have k5:=cv h (cK (cU UP hm))
 have k6:(c1*B2-T2*c2)*(2*P)*(m2*B)<=S*c2*B2*(m2*B):=by
  have e1:(c1*B2-T2*c2)*(2*P)*(m2*B)=(c1*B2-T2*c2)*m2*(2*B)*P:=by grind
  have e2:B2*(m2*(c1*B-T*c2))*P=B2*m2*((c1*B-T*c2)*P):=by grind
  have e3:B2*m2*(S*c2*B)=S*c2*B2*(m2*B):=by grind
  rw[e1]
  rw[e2]at k4
  rw[e3]at k5
  exact Int.le_trans k4 k5
 exact eW k6 (cU hm hB)
theorem zue {T B T' B' c1 c2 D:Int}(hc:0<c2)(hB:0<B)(UQ:B<=D)(Lg:0<B')(Lh:B'<=D)(h:(c1*B-T*c2)*(D*D)<c2*B)(hu:T' * c2<=c1*B'):T' * B<=T*B':=by
 apply Int.not_lt.mp
 intro hn
 have k1:c2<=B' * (c1*B-T*c2):=by
  have a1:c2<=(T' * B-T*B')*c2:=by
   have:1*c2<=(T' * B-T*B')*c2:=aU (by omega) (cK hc)
   omega
  have a2:=cv hu (cK hB)
  grind
 have hx:0<=c1*B-T*c2:=by
  apply Int.not_lt.mp
  intro z
  have:=Int.mul_lt_mul_of_pos_left z Lg
  omega
 generalize c1*B-T*c2=x at *
 have k2:=aU k1 (cK hB)
 have k3:B' * x*B<=x*(D*D):=by
  have b1:B' * B<=D*D:=dR Lh UQ (cK hB) (by omega)
  have b2:=cv b1 hx
  have e:B' * x*B=x*(B' * B):=by grind
  rw[e];exact b2
 omega
theorem zr8 {T B c1 c2 S P D:Int}(hx:c2*B<=(c1*B-T*c2)*(D*D))(hc:0<c2)(hB:0<B)(hS:0<=S)(hP:0<P)(h:(c1*B-T*c2)*P<=S*c2*B):P<=S*(D*D):=by
 have pos:0<c2*B:=cU hc hB
 have Vy:0<c1*B-T*c2:=by
  apply Int.not_le.mp
  intro z
  have hD:0<=D*D:=by
   rcases pf 0 D with h|h
   ·exact fN h h
   ·exact ku h h
  have:(c1*B-T*c2)*(D*D)<=0:=Int.mul_nonpos_of_nonpos_of_nonneg z hD
  omega
 generalize c1*B-T*c2=x at *
 have k1:=cv hx hS
 have e1:S*(c2*B)=S*c2*B:=by grind
 rw[e1]at k1
 have k2:x*P<=x*(S*(D*D)):=by
  have e2:S*(x*(D*D))=x*(S*(D*D)):=by grind
  rw[e2]at k1
  exact Int.le_trans h k1
 exact Int.le_of_mul_le_mul_left k2 Vy
theorem zuf {T B c1 c2 m1 m2 S:Int}(hc:0<c2)(hB:0<B)(hm:0<m2)(hT:T<=S*B)(h:c1<=S*c2)(v:m1*(2*B*c2)=(T*c2+c1*B)*m2):m1<=S*m2:=by
 have k1:=aU hT (cK hc)
 have k2:=aU h (cK hB)
 have k3:T*c2+c1*B<=S*(2*B*c2):=by grind
 have k4:=aU k3 (cK hm)
 rw[←v]at k4
 have e:S*(2*B*c2)*m2=S*m2*(2*B*c2):=by grind
 rw[e]at k4
 have pos:0<2*B*c2:=cU (by omega) hc
 exact eW k4 pos
theorem zug {T B T' B' q1 q2:Int}(hB:0<B)(hq:0<q2)(e:q1*B=T*q2)(h:T' * B<=T*B'):T' * q2<=q1*B':=by
 have k:=aU h (cK hq)
 have e1:T' * B*q2=T' * q2*B:=by grind
 have e2:T*B' * q2=q1*B' * B:=by
  have:T*B' * q2=T*q2*B':=by grind
  rw[this,←e];grind
 rw[e1,e2]at k
 exact eW k hB
def sT (as:List cO)(R:List Nat):Int:=(R.map (tN as)).sum
def sB (as:List cO)(R:List Nat):Int:=(R.map (bN as)).sum
structure RG (as:List cO)(aT:List Nat)(R:List Nat):Prop where
 ne:R≠[]
 w:∃x,nh (aS as) (aG as) x R x
 nd:(R.map (aG as)).Nodup
 m:∀n∈R,n∈aT
structure GN (many:Nat)(as:List cO)(aT:List Nat)(rk:Nat->Nat)(mb:Nat):Prop where
 m1:1<=many
 m:many<=40
 al:as.length<=120
 ok:∀a∈as,xA many a
 n:∀n∈aT,n<as.length
 nl:aT.length<=120
 r:∀a∈as,a.b=0->rk a.s<rk a.g
 b1:1<=mb
 b4:mb<=4
 b:∀a∈as,a.b<=mb
theorem SC {f:Nat->Int}:∀aT:List Nat,(∀n∈aT,0<=f n)->0<=(aT.map f).sum
 |[],_=>by simp
 |n::aT,h0=>by
  rw[aO,bu]
  have:=SC aT λm hm=>h0 m (aj _ hm)
  have:=h0 n af
  omega
theorem zoy {l1 l2:List Int}(p:l1.Perm l2):l1.sum=l2.sum:=by
 induction p with
 |nil=>rfl
 |cons x _ ih=>rw[bu,bu,ih]
 |swap x y l=>rw[bu,bu,bu,bu];omega
 |trans _ _ LQ LR=>exact LQ.trans LR
theorem Rx {f:Nat->Int}:∀(R aT:List Nat),(∀n∈aT,0<=f n)->R.Nodup->(∀n∈R,n∈aT)->(R.map f).sum<=(aT.map f).sum
 |[],aT,h0,_,_=>by
  have:=SC aT h0
  simpa using this
 |n::R,aT,h0,nd,hs=>by
  have hn:=hs n af
  have p:=List.perm_cons_erase hn
  have e:(aT.map f).sum=f n+((aT.erase n).map f).sum:=by
   have p2:=p.map f
   rw[aO]at p2
   rw[zoy p2,bu]
  obtain⟨n1,n2⟩:=bv.mp nd
  have ih:=Rx R (aT.erase n) (λm hm=>h0 m (List.mem_of_mem_erase hm)) n2 λm hm=>(List.mem_erase_of_ne (λ(z:m=n)=>n1 (by rw[←z];exact hm))).mpr (hs m (aj _ hm))
  rw[aO,bu,e]
  omega
section
variable {many:Nat}{as:List cO}{aT:List Nat}{rk:Nat->Nat}{mb:Nat}
theorem RG.lt (h:RG as aT R)(g:GN many as aT rk mb):∀n∈R,n<as.length:=λn hn=>g.n n (h.m n hn)
theorem RG.len {R:List Nat}(h:RG as aT R)(g:GN many as aT rk mb):R.length<=many:=by
 rw[←ak (f:=aG as)]
 refine Kahn.len_le h.nd λy hy=>?_
 obtain⟨n,q1,rfl⟩:=bM.mp hy
 exact(g.ok _ (qo (h.lt g n q1))).g
theorem RG.bds {R:List Nat}(h:RG as aT R)(g:GN many as aT rk mb):(0<=sT as R/\sT as R<=sT as aT)/\1<=sB as R/\sB as R<=(many:Int)*(mb:Int):=by
 have hn:=h.lt g
 have hl:=h.len g
 obtain⟨x,hx⟩:=h.w
 obtain⟨r1,r2⟩:=Rw (rank:=rk) g.r hx hn
 have hwp:=eY.mpr h.ne
 have bt:=Jp (f:=tN as) (m:=1000000000) (by decide) R λn h=>⟨(g.ok _ (qo (hn n h))).t0,(g.ok _ (qo (hn n h))).t1⟩
 have bb:=Jp (f:=bN as) (m:=(mb:Int)) (by omega) R λn h=>by
  have:=g.b _ (qo (hn n h))
  unfold bN
  omega
 have vW:1<=(R.map (bN as)).sum:=by
  by_cases e:(R.map (bN as)).sum=0
  ·have:=r2 e;omega
  ·omega
 have nd:R.Nodup:=jQ.of_map (S:=(·≠·)) (aG as) (λa b h e=>h (by rw[e])) h.nd
 refine⟨⟨bt.1,?_⟩,vW,?_⟩
 ·exact Rx R aT (λn hn=>(g.ok _ (qo (g.n n hn))).t0) nd h.m
 ·have:(mb:Int)*(R.length:Int)<=(mb:Int)*(many:Int):=cv (by omega) (by omega)
  have e:(mb:Int)*(many:Int)=(many:Int)*(mb:Int):=iP _ _
  have:=bb.2
  unfold sB
  omega
theorem GN.st (g:GN many as aT rk mb):0<=sT as aT/\sT as aT<=120000000000:=by
 have bt:=Jp (f:=tN as) (m:=1000000000) (by decide) aT λn h=>⟨(g.ok _ (qo (g.n n h))).t0,(g.ok _ (qo (g.n n h))).t1⟩
 have:=g.nl
 exact⟨bt.1,by have:=bt.2;unfold sT;omega⟩
theorem GN.D (g:GN many as aT rk mb):1<=(many:Int)*(mb:Int)/\(many:Int)*(mb:Int)<=160:=by
 have h1:=g.m1
 have h2:=g.b1
 have a:(1:Int)*1<=(many:Int)*(mb:Int):=dR (by omega) (by omega) (by decide) (by omega)
 have b:(many:Int)*(mb:Int)<=40*4:=dR (by have:=g.m;omega) (by have:=g.b4;omega) (by omega) (by decide)
 omega
theorem Q7 {p:Int×Int}{T:Nat->Int}(hk:∀n∈aT,T (aS as n)+dI as p n<=T (aG as n)):∀{w:List Nat} {a b:Nat},nh (aS as) (aG as) a w b->(∀n∈w,n∈aT)->T a+(w.map (dI as p)).sum<=T b
 |[],a,b,h,_=>by
  have h:a=b:=h
  subst h
  simp
 |n::w,a,b,h,hn=>by
  have i1:=Q7 hk h.2 λm hm=>hn m (aj _ hm)
  have i2:=hk n (hn n af)
  rw[h.1]at i2
  rw[aO,bu]
  omega
def Kp (as:List cO)(aT:List Nat)(p:Int×Int):Prop:=∃T:Nat->Int,∀n∈aT,T (aS as n)+dI as p n<=T (aG as n)
theorem Kp.le {p:Int×Int}(h:Kp as aT p){R:List Nat}(hR:RG as aT R):sT as R*p.2<=p.1*sB as R:=by
 obtain⟨T,hT⟩:=h
 obtain⟨x,hx⟩:=hR.w
 have:=Q7 hT hx hR.m
 rw[Hu]at this
 unfold sT sB
 rw[iP p.1]
 omega
theorem Jq (as:List cO)(p:Int×Int):∀k:Nat,∃M:Int,0<=M/\∀n,n<k->dI as p n<=M
 |0=>⟨0,fv 0,λn h=>absurd h (by omega)⟩
 |k+1=>by
  obtain⟨M,h1,h2⟩:=Jq as p k
  refine⟨max M (dI as p k),by omega,λn hn=>?_⟩
  by_cases e:n=k
  ·rw[e];omega
  ·have:=h2 n (by omega);omega
theorem R6 {ns:List D}{p:Int×Int}(g:GN many as aT rk mb)(gB:ns.length=many)(hp:0<p.2)(hz:Sz 8000 p.2) :
  ∃d,uc [bU ns as,fr p,.lst (aB aT)]=some d/\((d=.non/\Kp as aT p)\/∃R,d=.lst (aB R)/\RG as aT R/\p.1*sB as R<sT as R*p.2):=by
 obtain⟨M,lS,hM⟩:=Jq as p as.length
 obtain⟨d,h1,h2⟩:=Nf (ns:=ns) (aT:=aT) (p:=p) gB g.m1 (by have:=g.m;omega) (by have:=g.nl;omega) g.ok (by omega) hz hM lS g.n
 have i0:∀(a b:D),cH (.tup [a,b]) (.int 0)=some a:=λ_ _=>rfl
 have i1:∀(a b:D),cH (.tup [a,b]) (.int 1)=some b:=λ_ _=>rfl
 rcases h2 with⟨T,rfl,h3,_⟩|⟨R,x,rfl,r1,r2,r3,r4,r5⟩
 ·refine⟨.non,?_,.inl ⟨rfl,T,h3⟩⟩
  have e1:eK false (.str "times") (.str "ring")=some (.bl false):=by with_unfolding_all rfl
  generalize hV many p T=TM at *
  clear h3 hM lS hz hp g
  generalize fr p=F,bU ns as=net,aB aT=nl at *
  have Xm:(D.str "times").sc=true:=rfl
  have PK:D.non.sc=true:=rfl
  unfold uc qK
  walk_at "mir"
 ·refine⟨.lst (aB R),?_,.inr ⟨R,rfl,⟨r1,⟨x,r2⟩,r3,r4⟩,?_⟩⟩
  ·have e1:eK false (.str "ring") (.str "ring")=some (.bl true):=by with_unfolding_all rfl
   generalize aB R=rl at *
   clear r1 r2 r3 r4 r5 hM lS hz hp g
   generalize fr p=F,bU ns as=net,aB aT=nl at *
   have Xm:(D.str "ring").sc=true:=rfl
   unfold uc qK
   walk_at "mir"
  ·rw[Hu]at r5
   unfold sT sB
   rw[iP p.1]
   omega
theorem NN {ns:List D}{R:List Nat}(g:GN many as aT rk mb)(h:RG as aT R):uD [bU ns as,.lst (aB R)]=some (fr (Fq.mk (sT as R) (sB as R))):=by
 have hb:=h.bds g
 have e1:((R.map λ(n:Nat)=>(n:Int)).map (tI as))=R.map (tN as):=by rw[bF];exact dM λn _=>by simp[tI,tN]
 have e2:((R.map λ(n:Nat)=>(n:Int)).map (bI as))=R.map (bN as):=by rw[bF];exact dM λn _=>by simp[bI,bN]
 have en:(R.map λ(n:Nat)=>(n:Int)).map D.int=aB R:=by rw[bF];rfl
 have m:=Sw (ns:=ns) (as:=as) (is:=R.map λ(n:Nat)=>(n:Int)) (by rw[ak];have:=h.len g;have:=g.m;omega) (λa ha=>(g.ok a ha).b) (λi hi=>by
  obtain⟨n,h1,rfl⟩:=bM.mp hi
  have:=h.lt g n h1
  omega) (by rw[e2];have:=hb.2.1;unfold sB at this;omega)
 rw[e1,e2,en]at m
 exact m
theorem zr9 {ns:List D}(hl:as.length<=120):∃mb:Nat,nn 4 "most_behind" yy (bU ns as) []=some (.int (mb:Int))/\1<=mb/\(∀a∈as,a.b<=mb)/\∀k:Nat,1<=k->(∀a∈as,a.b<=k)->mb<=k:=by
 have q:qh [some (bU ns as)]=some (.lst ((as.map λa=>(a.b:Int)).map .int)):=by
  rw[bF]
  refine jy (own:=1) (cap:=[]) (g:=gV 0) bV (λa=>D.int (a.b:Int)) as (by rfl) (by omega) λa _=>⟨_,rfl,?_⟩
  exact fb a
 have ad:ej (.lst [.int 1]) (.lst ((as.map λa=>(a.b:Int)).map .int))=some (.lst ((1::as.map λa=>(a.b:Int)).map .int)):=by rw[Ra (by simp;omega)];rfl
 have mx:∃v:Int,tf [.lst ((1::as.map λa=>(a.b:Int)).map .int)]=some (.int v)/\v∈(1::as.map λa=>(a.b:Int))/\∀z∈(1::as.map λa=>(a.b:Int)),z<=v:=by
  refine⟨_,?_,Ni (ns:=1::as.map λa=>(a.b:Int)) rfl⟩
  show(fG ((1::as.map λa=>(a.b:Int)).map .int)).bind _=_
  rw[Bw]
  rfl
 obtain⟨v,v1,v2,v3⟩:=mx
 have Vu:=v3 1 af
 refine⟨v.toNat,?_,by omega,λa ha=>?_,λk hk Vh=>?_⟩
 ·have e:((v.toNat:Nat):Int)=v:=by omega
  rw[e]
  show yy [bU ns as]=_
  generalize (1::as.map λa=>(a.b:Int)).map D.int=l1 at *
  generalize (as.map λa=>(a.b:Int)).map D.int=l2,bU ns as=net at *
  clear hl v2 v3 Vu e
  unfold yy
  walk_at "mir"
 ·have:=v3 (a.b:Int) (aj _ (bM.mpr ⟨a,ha,rfl⟩))
  omega
 ·rcases aF.mp v2 with h|h
  ·omega
  ·obtain⟨a,ha,e⟩:=bM.mp h
   have:=Vh a ha
   omega
theorem zve {ns:List D}(gB:ns.length=many){mb:Nat}(p4:nn 4 "most_behind" yy (bU ns as) []=some (.int (mb:Int)))(h1:1<=(many:Int)*(mb:Int))(h2:(many:Int)*(mb:Int)<=160)(h3:mb<=4):IV [bU ns as]=some (fr (Fq.mk 1 ((many:Int)*(mb:Int)*((many:Int)*(mb:Int))))):=by
 have ln:dg [.lst ns]=some (.int (many:Int)):=(v7 _).trans (by rw[gB])
 have f5:=Nq ns as
 have m1:cT (.int (many:Int)) (.int (mb:Int))=some (.int ((many:Int)*(mb:Int))):=zb1 (by omega) (by omega)
 have hD:0<(many:Int)*(mb:Int)*((many:Int)*(mb:Int))/\(many:Int)*(mb:Int)*((many:Int)*(mb:Int))<=160*160:=⟨cU (by omega) (by omega),dR h2 h2 (by omega) (by decide)⟩
 generalize (many:Int)*(mb:Int)=D0 at *
 have m2:cT (.int D0) (.int D0)=some (.int (D0*D0)):=zb1 (by omega) (by omega)
 have ra:=BI (t:=1) (b:=D0*D0) (by omega) (jz (w:=25600) (by omega) (by omega) (by decide))
 generalize fr (Fq.mk 1 (D0*D0))=F,bU ns as=net at *
 clear hD h1 h2 h3
 unfold IV
 walk_at "mir"
theorem zuh {p q:Int×Int}{a b c d:Int}(lp:Fq.Low p)(lq:Fq.Low q)(h1:p.1*b=a*p.2)(h2:q.1*d=c*q.2):(Fq.plus p q).1*(b*d)=(a*d+c*b)*(Fq.plus p q).2:=by
 have v:=Fq.plus_v p q
 generalize Fq.plus p q=s at *
 have iY:p.2*q.2≠0:=lp.mul_ne lq
 obtain⟨p1,p2⟩:=p
 obtain⟨q1,q2⟩:=q
 obtain⟨s1,s2⟩:=s
 dsimp only at *
 apply eU iY
 have e:(a*d+c*b)*s2*(p2*q2)=(a*p2*(d*q2)+c*q2*(b*p2))*s2:=by grind
 rw[e,←h1,←h2]
 have e2:(p1*b*(d*q2)+q1*d*(b*p2))*s2=(p1*q2+q1*p2)*s2*(b*d):=by grind
 rw[e2,←v]
 grind
def oh (p q:Int×Int):Int×Int:=Fq.mk (Fq.plus p q).1 ((Fq.plus p q).2*2)
theorem zoz {p q:Int×Int}{n:Nat}(hn:n<=2000)(lp:Fq.Low p)(lq:Fq.Low q)(zp:Fz n p)(zq:Fz n q):Jj [fr p,fr q]=some (fr (oh p q)):=by
 have pl:=N3 hn lp lq zp zq
 have zz:=NL lp lq zp zq
 have ll:=Fq.plus_low lp lq
 unfold oh
 generalize Fq.plus p q=s at *
 have f0:=t4 s
 have f1:=mz s
 have m1:cT (.int s.2) (.int 2)=some (.int (s.2*2)):=zb1 (by decide) (by decide)
 have two:Sz 2 (2:Int):=jz (w:=2) (by decide) (by decide) (by decide)
 have ra:=BI (t:=s.1) (b:=s.2*2) (by have:=ll.gt;omega) ((zz.2.mul two).mono (by omega))
 generalize fr (Fq.mk s.1 (s.2*2))=F,fr s=S,fr p=Fp,fr q=Fq' at *
 clear zz ll lp lq zp zq two hn
 unfold Jj
 walk_at "mir"
theorem zui {p q:Int×Int}{a b c d:Int}(lp:Fq.Low p)(lq:Fq.Low q)(h1:p.1*b=a*p.2)(h2:q.1*d=c*q.2):(oh p q).1*(2*b*d)=(a*d+c*b)*(oh p q).2:=by
 have v:=zuh lp lq h1 h2
 have m:=Fq.mk_cross (Fq.plus p q).1 ((Fq.plus p q).2*2)
 have g:=(Fq.plus_low lp lq).gt
 unfold oh
 generalize Fq.mk (Fq.plus p q).1 ((Fq.plus p q).2*2)=m' at *
 generalize Fq.plus p q=s at *
 obtain⟨m1,m2⟩:=m'
 obtain⟨s1,s2⟩:=s
 dsimp only at *
 apply eU (show s2≠0 by omega)
 have e1:m1*(2*b*d)*s2=m1*(s2*2)*(b*d):=by grind
 have e2:(a*d+c*b)*m2*s2=(a*d+c*b)*s2*m2:=by grind
 rw[e1,e2,←v,m]
 grind
theorem Ry {p q:Int×Int}(lp:Fq.Low p)(lq:Fq.Low q):Fq.Low (oh p q):=Fq.mk_low (by have:=(Fq.plus_low lp lq).gt;omega)
theorem zsa {p q:Int×Int}(lp:Fq.Low p)(lq:Fq.Low q):(oh p q).2<=p.2*q.2*2:=by
 have h1:=Fq.mk_le_two (t:=(Fq.plus p q).1) (b:=(Fq.plus p q).2*2) (by have:=(Fq.plus_low lp lq).gt;omega)
 have h2:=Fq.mk_le_two (t:=p.1*q.2+q.1*p.2) (b:=p.2*q.2) (lp.mul_ne lq)
 have g1:=(Fq.plus_low lp lq).gt
 have g2:=(Ry lp lq).gt
 have g3:=cU lp.gt lq.gt
 have e:(Fq.mk (p.1*q.2+q.1*p.2) (p.2*q.2))=Fq.plus p q:=rfl
 rw[e]at h2
 have e2:Fq.mk (Fq.plus p q).1 ((Fq.plus p q).2*2)=oh p q:=rfl
 rw[e2]at h1
 omega
end
theorem QD {c:BF}{b:SF}(N:Nat)(I:Nat->L3.Env->Prop)(st:∀i ρ,I i ρ->∃t,c ρ=some t/\(t=true->i<N/\∃ρ',b ρ=some (.nx ρ')/\I (i+1) ρ')) :
  ∀(k i:Nat) (ρ:L3.Env),I i ρ->i<=N->N<i+k->∃i' ρ',hE c b k ρ=some (.nx ρ')/\I i' ρ'/\c ρ'=some false
 |0,i,ρ,_,h1,h2=>absurd h2 (by omega)
 |k+1,i,ρ,hI,hi,h=>by
  obtain⟨t,h1,h2⟩:=st i ρ hI
  cases t with
  |false=>exact⟨i,ρ,by show(c ρ).bind _=_;rw[h1];rfl,hI,h1⟩
  |true=>
   obtain⟨wA,ρ',h3,h4⟩:=h2 rfl
   obtain⟨i',ρ2,h6,h7,h8⟩:=QD N I st k (i+1) ρ' h4 (by omega) (by omega)
   refine⟨i',ρ2,?_,h7,h8⟩
   show(c ρ).bind _=_
   rw[h1]
   show(b ρ).bind _=_
   rw[h3]
   exact h6
def cG:BF:=bNot (tb (λρ=>((aCons (λρ=>((aCons (eV 3) (aCons (λρ=>((aCons (eV 0) (aCons (eV 2) aNil)) ρ).bind λds=>uD (ds++[])) aNil)) ρ).bind λds=>AV (ds++[])) (aCons (eV 4) aNil)) ρ).bind λds=>AW (ds++[])))
section
variable {many:Nat}{as:List cO}{aT:List Nat}{rk:Nat->Nat}{mb:Nat}
structure GI (as:List cO)(aT:List Nat)(i:Nat)(R:List Nat)(c:Int×Int):Prop where
 r:RG as aT R
 low:Fq.Low c
 up:∀R',RG as aT R'->sT as R' * c.2<=c.1*sB as R'
 le:c.1<=sT as aT*c.2
 sz:c.2<=((320 ^ i:Nat):Int)
 d:(c.1*sB as R-sT as R*c.2)*((2 ^ i:Nat):Int)<=sT as aT*c.2*sB as R
theorem GI.pos {i:Nat}{R:List Nat}{c:Int×Int}(h:GI as aT i R c)(g:GN many as aT rk mb):0<=c.1:=by
 have hb:=h.r.bds g
 have h1:=h.up R h.r
 have h2:0<=sT as R*c.2:=fN hb.1.1 (by have:=h.low.gt;omega)
 exact lW (b:=sB as R) (by omega) (by omega)
theorem tE {i:Nat}(h:i<=60):((320 ^ i:Nat):Int)<=((320 ^ 60:Nat):Int):=by
 have:=dG (n:=320) (by decide) h
 exact Int.ofNat_le.mpr this
theorem qP:120000000000*((320 ^ 60:Nat):Int)<2 ^ 700:=by decide +kernel
theorem GI.fz {i:Nat}{R:List Nat}{c:Int×Int}(h:GI as aT i R c)(g:GN many as aT rk mb)(hi:i<=60):Fz 700 c:=by
 have h0:=h.pos g
 have h1:=h.low.gt
 have h2:=h.sz
 have h3:=tE hi
 have h4:=qP
 have h5:=h.le
 have h6:sT as aT*c.2<=120000000000*((320 ^ 60:Nat):Int):=dR g.st.2 (by omega) (by omega) (by decide)
 generalize ((320 ^ 60:Nat):Int)=K at *
 exact⟨jz (w:=120000000000*K) (by omega) (by omega) h4,jz (w:=120000000000*K) (by omega) (by omega) h4⟩
theorem Jr {R:List Nat}(h:RG as aT R)(g:GN many as aT rk mb):Fq.Low (Fq.mk (sT as R) (sB as R))/\Fz 700 (Fq.mk (sT as R) (sB as R))/\(Fq.mk (sT as R) (sB as R)).2<=160/\(0<=(Fq.mk (sT as R) (sB as R)).1/\(Fq.mk (sT as R) (sB as R)).1<=120000000000):=by
 obtain⟨⟨t1,t2⟩,b1,b2⟩:=h.bds g
 have hD:=g.D
 have hS:=g.st
 have l:=Fq.mk_low (t:=sT as R) (b:=sB as R) (by omega)
 have k1:=Fq.mk_le_one (t:=sT as R) (b:=sB as R) (by omega)
 have k2:=Fq.mk_le_two (t:=sT as R) (b:=sB as R) (by omega)
 have c:=Fq.mk_cross (sT as R) (sB as R)
 have gg:=l.gt
 have n0:0<=(Fq.mk (sT as R) (sB as R)).1:=by
  refine lW (b:=sB as R) ?_ (by omega)
  rw[c]
  exact fN t1 (by omega)
 exact⟨l,HL (by omega) (jz (w:=120000000000) (by omega) (by omega) (by decide)) (jz (w:=160) (by omega) (by omega) (by decide)),by omega,n0,by omega⟩
theorem zuj {T B D0:Int}{c:Int×Int}(lc:Fq.Low c)(hB:0<B)(hD:0<D0):Fq.under (Fq.minus c (Fq.mk T B)) (Fq.mk 1 (D0*D0))=decide ((c.1*B-T*c.2)*(D0*D0)<c.2*B):=by
 have lm:=Fq.mk_low (t:=T) (b:=B) (by omega)
 have zH:0<D0*D0:=cU hD hD
 have lg:=Fq.mk_low (t:=1) (b:=D0*D0) (by omega)
 have cm:=Fq.mk_cross T B
 have cg:=Fq.mk_cross 1 (D0*D0)
 have v:=Fq.minus_v (p:=c) (q:=Fq.mk T B) lm
 have ll:=Fq.minus_low lc lm
 generalize Fq.mk T B=m,Fq.mk 1 (D0*D0)=gp at *
 generalize Fq.minus c m=d at *
 have hm:=lm.gt
 have hc:=lc.gt
 have v2:d.1*(c.2*B)=(c.1*B-T*c.2)*d.2:=by
  obtain⟨d1,d2⟩:=d
  obtain⟨m1,m2⟩:=m
  obtain⟨c1,c2⟩:=c
  dsimp only at *
  apply eU (show m2≠0 by omega)
  have e1:d1*(c2*B)*m2=d1*(c2*m2)*B:=by grind
  have e2:(c1*B-T*c2)*d2*m2=(c1*m2*B-T*m2*c2)*d2:=by grind
  rw[e1,v,e2,←cm]
  grind
 have e:=Fq.lt_congr (n:=d.1) (d:=d.2) (m:=c.1*B-T*c.2) (e:=c.2*B) (n':=gp.1) (d':=gp.2) (m':=1) (e':=D0*D0) ll.gt (cU hc hB) lg.gt zH v2 cg
 unfold Fq.under
 refine decide_eq_decide.mpr (e.trans ?_)
 rw[lX]
theorem zsb {ns:List D}(g:GN many as aT rk mb)(gB:ns.length=many)(p4:nn 4 "most_behind" yy (bU ns as) []=some (.int (mb:Int))) :
  ∃d,ud [bU ns as,.lst (aB aT)]=some d/\((d=.non/\∀R,¬RG as aT R)\/∃R,d=.lst (aB R)/\RG as aT R/\∀R',RG as aT R'->sT as R' * sB as R<=sT as R*sB as R'):=by
 obtain⟨d0,a1,a2⟩:=R6 (ns:=ns) (p:=(-1,1)) g gB (by decide) (jz (w:=1) (by decide) (by decide) (by decide))
 replace a1:uc [bU ns as,.tup [.int (-1),.int 1],.lst (aB aT)]=some d0:=a1
 have hD:=g.D
 have hS:=g.st
 rcases a2 with⟨rfl,hK⟩|⟨R0,rfl,Bi,_⟩
 ·refine⟨.non,?_,.inl ⟨rfl,λR hR=>?_⟩⟩
  ·generalize bU ns as=net at *
   generalize aB aT=nl at *
   clear g hK hD hS gB p4
   have PK:D.non.sc=true:=rfl
   unfold ud qK
   walk_at "mir"
  ·have h1:=hK.le hR
   have h2:=hR.bds g
   dsimp only at h1
   omega
 ·have gp:=zve (as:=as) gB p4 hD.1 hD.2 g.b4
  obtain⟨D0,Ej⟩:∃D0:Int,D0=(many:Int)*(mb:Int):=⟨_,rfl⟩
  rw[←Ej]at gp hD
  have zH:0<D0*D0/\D0*D0<=160*160:=⟨cU (by omega) (by omega),dR hD.2 hD.2 (by omega) (by decide)⟩
  have zg:Fz 700 (Fq.mk 1 (D0*D0)):=HL (by omega) (jz (w:=1) (by decide) (by decide) (by decide)) (jz (w:=25600) (by omega) (by omega) (by decide))
  have tY:∀(i:Nat) (R:List Nat) (c:Int×Int) (y1 y5 y6:Option D),GI as aT i R c->i<=60->cG [some (bU ns as),y1,some (.lst (aB R)),some (fr c),some (fr (Fq.mk 1 (D0*D0))),y5,y6]=some (!decide ((c.1*sB as R-sT as R*c.2)*(D0*D0)<c.2*sB as R)):=by
   intro i R c y1 y5 y6 h hi
   have hb:=h.r.bds g
   obtain⟨lm,zm,_⟩:=Jr h.r g
   have me:=NN (ns:=ns) g h.r
   have zc:=h.fz g hi
   have mi:=R4 (n:=700) (by decide) h.low lm zc zm
   have R1:=Rv h.low lm zc zm
   have un:=R3 (p:=Fq.minus c (Fq.mk (sT as R) (sB as R))) (q:=Fq.mk 1 (D0*D0)) (R1.mono (by decide)) (zg.mono (by decide))
   rw[zuj h.low (by omega) (by omega)]at un
   generalize decide ((c.1*sB as R-sT as R*c.2)*(D0*D0)<c.2*sB as R)=bb,fr (Fq.minus c (Fq.mk (sT as R) (sB as R)))=F1,fr (Fq.mk (sT as R) (sB as R))=F2,fr (Fq.mk 1 (D0*D0))=F3,fr c=F4,aB R=rl,bU ns as=net at *
   clear R1 zc zm lm hb h hi gp zg zH hD Ej Bi a1 hS g p4 gB
   unfold cG
   walk_at "mir"
  have lp:=QD (c:=cG) (b:=ug) 55
   (λi ρ=>i<=55/\∃(R:List Nat) (c:Int×Int) (y5 y6:Option D),ρ=[some (bU ns as),some (.lst (aB aT)),some (.lst (aB R)),some (fr c),some (fr (Fq.mk 1 (D0*D0))),y5,y6]/\GI as aT i R c) (by
    rintro i ρ ⟨hi,R,c,y5,y6,rfl,h⟩
    refine⟨_,tY i R c _ y5 y6 h (by omega),λht=>?_⟩
    obtain⟨⟨t1,t2⟩,b1,b2⟩:=h.r.bds g
    have hc:=h.low.gt
    have Pp:¬(c.1*sB as R-sT as R*c.2)*(D0*D0)<c.2*sB as R:=by simpa using ht
    have stop:=zr8 (D:=D0) (P:=((2 ^ i:Nat):Int)) (by omega) hc (by omega) hS.1 (by have:=Nat.pow_pos (n:=i) (show 0<2 by decide);omega) h.d
    have wA:i<55:=by
     apply Nat.not_le.mp
     intro z
     have h1:=dG (n:=2) (by decide) z
     have h2:sT as aT*(D0*D0)<=120000000000*(160*160):=dR hS.2 zH.2 (by omega) (by decide)
     have h3:(2:Nat) ^ 55=36028797018963968:=by decide
     omega
    refine⟨wA,?_⟩
    obtain⟨lm,zm,p5,_⟩:=Jr h.r g
    have me:=NN (ns:=ns) g h.r
    have zc:=h.fz g (by omega)
    have md:=zoz (n:=700) (by decide) lm h.low zm zc
    have cm:=Fq.mk_cross (sT as R) (sB as R)
    have v:=zui (a:=sT as R) (b:=sB as R) (c:=c.1) (d:=c.2) lm h.low cm rfl
    have lw:=Ry lm h.low
    have PX:=zsa lm h.low
    have Pk:=lm.gt
    generalize Fq.mk (sT as R) (sB as R)=m at *
    generalize oh m c=w at *
    have hw:=lw.gt
    have AM:w.2<=((320 ^ (i+1):Nat):Int):=by
     have e1:m.2*c.2*2<=160*c.2*2:=by
      have:=aU p5 (cK hc)
      omega
     have e2:=h.sz
     rw[iR]
     omega
    have xM:c.2<=((320 ^ (i+1):Nat):Int):=by
     have e2:=h.sz
     rw[iR]
     omega
    have p2:((2 ^ (i+1):Nat):Int)=2*((2 ^ i:Nat):Int):=by rw[iR];omega
    have LM:Sz 8000 w.2:=by
     have h3:=tE (i:=i+1) (by omega)
     have h4:=qP
     generalize ((320 ^ 60:Nat):Int)=K at *
     exact(jz (n:=700) (w:=120000000000*K) (by omega) (by omega) h4).mono (by decide)
    obtain⟨d,ab,uO⟩:=R6 (ns:=ns) (p:=w) g gB hw LM
    rcases uO with⟨rfl,hK⟩|⟨R2,rfl,Lk,sP⟩
    ·refine⟨[some (bU ns as),some (.lst (aB aT)),some (.lst (aB R)),some (fr w),some (fr (Fq.mk 1 (D0*D0))),some (fr w),some .non],?_,by omega,R,w,_,_,rfl,⟨h.r,lw,λR' vV=>hK.le vV,?_,AM,?_⟩⟩
     ·generalize fr (Fq.mk 1 (D0*D0))=F3 at *
      generalize fr c=F4,fr w=F5,fr m=F6,aB R=rl,aB aT=nl,bU ns as=net at *
      clear LM p2 xM AM hw PX lw v cm Pk zc p5 zm lm wA stop Pp hc t1 t2 b1 b2 ht h hi tY zg zH Ej gp Bi a1 hS g p4 gB hD hK
      unfold ug
      walk_at "mir"
     ·refine zuf (T:=sT as R) (B:=sB as R) hc (by omega) hw ?_ h.le v
      have:sT as aT*1<=sT as aT*sB as R:=cv (by omega) hS.1
      omega
     ·rw[p2]
      exact zr7 hc hw v h.d
    ·refine⟨[some (bU ns as),some (.lst (aB aT)),some (.lst (aB R2)),some (fr c),some (fr (Fq.mk 1 (D0*D0))),some (fr w),none],?_,by omega,R2,c,_,_,rfl,⟨Lk,h.low,h.up,h.le,xM,?_⟩⟩
     ·generalize fr (Fq.mk 1 (D0*D0))=F3 at *
      generalize fr c=F4,fr w=F5,fr m=F6,aB R=rl at *
      generalize aB R2=rl2,aB aT=nl,bU ns as=net at *
      clear LM p2 xM AM hw PX lw v cm Pk zc p5 zm lm wA stop Pp hc t1 t2 b1 b2 ht h hi tY zg zH Ej gp Bi a1 hS g p4 gB hD sP Lk
      unfold ug Ml
      walk_at "mir"
     ·rw[p2]
      have U2:=Lk.bds g
      exact zvd hc hw (by omega) (by omega) (by have:=Nat.pow_pos (n:=i) (show 0<2 by decide);omega) v sP h.d) lH 0 [some (bU ns as),some (.lst (aB aT)),some (.lst (aB R0)),some (fr (sT as aT,1)),some (fr (Fq.mk 1 (D0*D0))),none,none]
   ⟨by omega,R0,(sT as aT,1),none,none,rfl,⟨Bi,BJ _,λR' vV=>by
    have hb:=vV.bds g
    have:sT as aT*1<=sT as aT*sB as R':=cv (by omega) hS.1
    dsimp only
    omega,by dsimp only;omega,by simp,by
    have hb:=Bi.bds g
    dsimp only
    simp
    omega⟩⟩ (by omega) (by have:=NE (n:=60) (by omega);omega)
  obtain⟨i,ρ',l1,⟨hi,R,c,y5,y6,rfl,h⟩,hc⟩:=lp
  rw[tY i R c _ y5 y6 h (by omega)]at hc
  have lt:(c.1*sB as R-sT as R*c.2)*(D0*D0)<c.2*sB as R:=by simpa using hc
  have hb:=h.r.bds g
  refine⟨.lst (aB R),?_,.inr ⟨R,rfl,h.r,λR' vV=>?_⟩⟩
  ·have sm:=HH (aT.map (tN as))
   have en:(aT.map λ(n:Nat)=>(n:Int)).map D.int=aB aT:=by rw[bF];rfl
   have e1:((aT.map λ(n:Nat)=>(n:Int)).map λi=>(aN as i.toNat).t)=aT.map (tN as):=by rw[bF];exact dM λn _=>by simp[tN]
   have q1:=HG (ns:=ns) (as:=as) (is:=aT.map λ(n:Nat)=>(n:Int)) (fld:="time") (f:=λa=>a.t) (q:=P8) rfl ft (by rw[ak];have:=g.nl;omega) (λi hi=>by
    obtain⟨n,h1,rfl⟩:=bM.mp hi
    have:=g.n n h1
    omega) [some (bU ns as),some (.lst (aB aT)),some (.lst (aB R0)),none,none,none,none] rfl (by rw[en];rfl)
   rw[e1]at q1
   have es:(aT.map (tN as)).sum=sT as aT:=rfl
   rw[es]at sm
   have ef:fr (sT as aT,1)=.tup [.int (sT as aT),.int 1]:=rfl
   rw[ef]at l1
   unfold cG at l1
   clear e1 en es ef hb lt hc h hi tY zg zH Ej Bi hS g p4 gB hD
   generalize fr (Fq.mk 1 (D0*D0))=F3,fr c=F4,sT as aT=S,(aT.map (tN as)).map D.int=tl,aB R=rl at *
   generalize aB R0=rl0,aB aT=nl,bU ns as=net at *
   unfold ud fV
   generalize (bNot (tb (λρ=>((aCons (λρ=>((aCons (eV 3) (aCons (λρ=>((aCons (eV 0) (aCons (eV 2) aNil)) ρ).bind λds=>uD (ds++[])) aNil)) ρ).bind λds=>AV (ds++[])) (aCons (eV 4) aNil)) ρ).bind λds=>AW (ds++[]))))=cc at *
   walk_at "mir"
  ·have zK:=vV.bds g
   exact zue (D:=D0) h.low.gt (by omega) (by omega) (by omega) (by omega) lt (h.up R' vV)
theorem zsc {ns:List D}(g:GN many as aT rk mb)(gB:ns.length=many)(p4:nn 4 "most_behind" yy (bU ns as) []=some (.int (mb:Int))) :
  ∃d,uh [bU ns as,.lst (aB aT)]=some d/\((d=.non/\∀R,¬RG as aT R)\/∃(R:List Nat) (q:Int×Int) (T:Nat->Int),d=.tup [fr q,.lst (aB R),hV many q T]/\RG as aT R/\q=Fq.mk (sT as R) (sB as R)/\(∀R',RG as aT R'->sT as R' * q.2<=q.1*sB as R')/\(∀n∈aT,T (aS as n)+dI as q n<=T (aG as n))/\∀x,0<=T x/\T x<=1000000000000000):=by
 obtain⟨d0,a1,a2⟩:=zsb g gB p4
 rcases a2 with⟨rfl,hN⟩|⟨R,rfl,hR,Ey⟩
 ·refine⟨.non,?_,.inl ⟨rfl,hN⟩⟩
  generalize bU ns as=net,aB aT=nl at *
  clear g hN gB p4
  have PK:D.non.sc=true:=rfl
  unfold uh qK
  walk_at "mir"
 ·have me:=NN (ns:=ns) g hR
  obtain⟨lm,zm,p5,n0,n1⟩:=Jr hR g
  have cm:=Fq.mk_cross (sT as R) (sB as R)
  have hb:=hR.bds g
  obtain⟨q,hq⟩:∃q,q=Fq.mk (sT as R) (sB as R):=⟨_,rfl⟩
  rw[←hq]at me lm zm p5 n0 n1 cm
  have lg:=lm.gt
  have hM:∀n,n<as.length->dI as q n<=160000000000:=λn hn=>by
   have o:=g.ok _ (qo hn)
   unfold dI
   have g1:(aN as n).t*q.2<=1000000000*160:=dR o.t1 p5 (by omega) (by decide)
   have g2:0<=((aN as n).b:Int)*q.1:=fN (by omega) n0
   omega
  obtain⟨d,t1,t2⟩:=Nf (ns:=ns) (aT:=aT) (p:=q) gB g.m1 (by have:=g.m;omega) (by have:=g.nl;omega) g.ok (by omega) (zm.2.mono (by decide)) hM (by decide) g.n
  have rJ:∀R',RG as aT R'->sT as R' * q.2<=q.1*sB as R':=λR' vV=>zug (by omega) lg cm (Ey R' vV)
  rcases t2 with⟨T,rfl,k1,k2⟩|⟨R2,x,rfl,r1,r2,r3,r4,r5⟩
  ·refine⟨.tup [fr q,.lst (aB R),hV many q T],?_,.inr ⟨R,q,T,rfl,hR,hq,rJ,k1,λx=>⟨(k2 x).1,?_⟩⟩⟩
   ·have i1:∀(a b:D),cH (.tup [a,b]) (.int 1)=some b:=λ_ _=>rfl
    generalize hV many q T=TM at *
    unfold fr at *
    generalize aB R=rl,aB aT=nl,bU ns as=net at *
    clear k1 k2 rJ hM lg hb cm n0 n1 p5 zm lm Ey hR hq g p4 gB
    unfold uh zC
    walk_at "mir"
   ·have:=(k2 x).2
    have b1:(aT.length:Int)*160000000000<=120*160000000000:=by have:=g.nl;omega
    have b2:(many:Int)*((aT.length:Int)*160000000000)<=40*(120*160000000000):=dR (by have:=g.m;omega) b1 (by omega) (by decide)
    omega
  ·exfalso
   rw[Hu]at r5
   have:=rJ R2 ⟨r1,⟨x,r2⟩,r3,r4⟩
   unfold sT sB at this
   rw[iP q.1]at this
   omega
theorem zsd {ns:List D}{as:List cO}(g:GN many as (ax as.length) rk mb)(gB:ns.length=many){d:D}(h:uh [bU ns as,.lst (aB (ax as.length))]=some d):vp [bU ns as]=some d:=by
 have la:dg [.lst (as.map bV)]=some (.int (as.length:Int)):=(v7 _).trans (by rw[ak])
 have Ee:=Bx ns as
 have lr:iI [.int (as.length:Int)]=some (.lst (aB (ax as.length))):=by
  show(if 0<=(as.length:Int)/\(as.length:Int)<=16777216 then some (D.lst (eE 0 (as.length:Int).toNat))else none)=_
  rw[if_pos ⟨by omega,by have:=g.al;omega⟩]
  unfold eE aB
  simp
 generalize as.map bV=al,bU ns as=net,aB (ax as.length)=nl at *
 clear g
 unfold vp
 walk_at "mir"
end
theorem Rz {α:Type}{g:D->L3.Env->Option L3.Env}{b:SF}(enc:α->D)(f:α->Bool)(I:L3.Env->Prop)(w:D):∀(xs:List α) (ρ:L3.Env),I ρ->(∀x∈xs,∀ρ,I ρ->∃ρ1,g (enc x) ρ=some ρ1/\((f x=true/\∃ρ2,b ρ1=some (.nx ρ2)/\I ρ2)\/(f x=false/\b ρ1=some (.rt w)))) ->
  (xs.all f=true/\∃ρ',fT g b (xs.map enc) ρ=some (.nx ρ')/\I ρ')\/(xs.all f=false/\fT g b (xs.map enc) ρ=some (.rt w))
 |[],ρ,h,_=>.inl ⟨rfl,ρ,rfl,h⟩
 |x::xs,ρ,h,st=>by
  obtain⟨ρ1,h1,h2⟩:=st x af ρ h
  have wU:fT g b ((x::xs).map enc) ρ=(g (enc x) ρ).bind λρ1=>(b ρ1).bind λo=>match o with
    |.nx ρ'=>fT g b (xs.map enc) ρ'
    |.ct ρ'=>fT g b (xs.map enc) ρ'
    |.bk ρ'=>some (.nx ρ')
    |.rt d=>some (.rt d):=rfl
  rw[wU,h1,dr,dE]
  rcases h2 with⟨e,ρ2,h2,h3⟩|⟨e,h2⟩
  ·rw[h2,e]
   exact Rz enc f I w xs ρ2 h3 λy hy=>st y (aj _ hy)
  ·rw[h2,e]
   exact .inr ⟨rfl,rfl⟩
theorem EX {as:List cO}{i:Int}(h0:0<=i)(h1:i<(as.length:Int)):cH (.lst (as.map bL)) (.int i)=some (.tup [.int ((aN as i.toNat).s:Int),.int ((aN as i.toNat).g:Int),.int (aN as i.toNat).t,.int ((aN as i.toNat).b:Int)]):=by
 obtain⟨n,rfl⟩:∃n:Nat,i=(n:Int):=⟨i.toNat,by omega⟩
 rw[hX]
 exact j5 (by rw[aX,wZ (by omega)];rfl)
theorem Ng (neg:Bool)(n:Nat)(out:List Nat):inD neg (.int (n:Int)) (.lst (aB out))=some (.bl (if neg then !decide (n∈out)else decide (n∈out))):=by
 have hs:(aB out).all D.sc=true:=by
  unfold aB
  rw[List.all_map]
  exact fY.mpr λx _=>rfl
 have hi:wH (.int (n:Int)) (aB out)=decide (n∈out):=by
  unfold wH aB
  rw[List.any_map]
  clear hs
  induction out with
  |nil=>rfl
  |cons x out ih=>
   rw[eD,ih]
   have e:((λy=>rF y (.int (n:Int))) ∘ λ(x:Nat)=>D.int (x:Int)) x=decide (n=x):=by
    show rF (.int (x:Int)) (.int (n:Int))=_
    simp only[rF]
    exact decide_eq_decide.mpr (by omega)
   rw[e]
   by_cases h:n=x
   ·simp[h]
   ·simp[h]
 show(if _/\_ then _ else _)=_
 rw[if_pos ⟨rfl,hs⟩,hi]
theorem N5 {S G:Nat->Nat}:∀{w:List Nat} {a b:Nat},nh S G a w b->w.map S++[b]=a::w.map G
 |[],a,b,h=>by
  have h:a=b:=h
  subst h
  rfl
 |n::w,a,b,h=>by
  have ih:=N5 h.2
  rw[aO,lC,ih,h.1,aO]
theorem zse {as:List cO}{w:List Nat}{x:Nat}(h:nh (aS as) (aG as) x w x)(hw:w≠[])(hn:∀n∈w,n<as.length)(nd:(w.map (aG as)).Nodup):nc (sI as) (gI as) as.length (w.map λ(n:Nat)=>(n:Int)):=by
 have e1:(w.map λ(n:Nat)=>(n:Int)).map (sI as)=w.map (aS as):=by rw[bF];exact dM λn _=>by simp[sI,aS]
 have e2:(w.map λ(n:Nat)=>(n:Int)).map (gI as)=w.map (aG as):=by rw[bF];exact dM λn _=>by simp[gI,aG]
 refine⟨by simpa using hw,λi hi=>?_,?_,by rw[e2];exact nd⟩
 ·obtain⟨n,h1,rfl⟩:=bM.mp hi
  have:=hn n h1
  omega
 ·rw[e1,e2]
  have h1:=N5 h
  have iY:w.map (aG as)≠[]:=by simpa using hw
  have h2:=(lY iY).symm
  generalize (w.map (aG as)).dropLast=gi at h2
  generalize (w.map (aG as)).getLast iY=gl at h2
  rw[h2,←lC]at h1
  obtain⟨h3,h4⟩:=sA h1 rfl
  rw[h3,h2]
  unfold o4
  have h5:gl=x:=by simpa using h4.symm
  subst h5
  have hl:(gi++[gl]).length-1=gi.length:=by simp
  rw[hl,List.drop_left,List.take_left]
  rfl
theorem zo0 {as:List cO}{is:List Int}(hl:is.length<=1000)(h:nc (sI as) (gI as) as.length is):jx [.lst (as.map bL),.lst (is.map .int)]=some (.bl true):=by
 have la:dg [.lst (as.map bL)]=some (.int (as.length:Int)):=(v7 _).trans (by rw[ak])
 have li:dg [.lst (is.map .int)]=some (.int (is.length:Int)):=(v7 _).trans (by rw[ak])
 obtain⟨h1,h2⟩:=zr1.mp h
 have wh:∀v:Int,uv [.int v]=some (.bl true):=λv=>rfl
 have EY:∀k,k<is.length->cH (.lst (is.map .int)) (.int (k:Int))=some (.int (is.getD k 0)):=λk hk=>j5 (by rw[aX,vq hk];rfl)
 have L5:=Hn (g:=gV 3) (b:=qm) (n:=is.length) (λk ρ=>∃y3,ρ=[some (.lst (as.map bL)),some (.lst (is.map .int)),some (.lst []),y3]) (λ_=>False) (by
  rintro k ρ hk ⟨y3,rfl⟩
  refine⟨_,rfl,.inl ⟨[some (.lst (as.map bL)),some (.lst (is.map .int)),some (.lst []),some (.int (k:Int))],?_,_,rfl⟩⟩
  have i1:=EY k hk
  obtain⟨⟨c1,c2⟩,_⟩:=h2 k hk
  generalize is.getD k 0=v at *
  have w1:=wh v
  generalize as.map bL=al,is.map D.int=il at *
  unfold qm
  clear h h1 h2 hl hk wh EY li
  walk_at "mir") is.length 0 [some (.lst (as.map bL)),some (.lst (is.map .int)),some (.lst []),none] (by omega) ⟨none,rfl⟩
 have L4:=λy=>Hn (g:=gV 3) (b:=ql) (n:=is.length) (λk ρ=>∃y3,ρ=[some (.lst (as.map bL)),some (.lst (is.map .int)),some (.lst (aB ((ax k).map λj=>sI as (is.getD j 0)))),y3]) (λ_=>False) (by
  rintro k ρ hk ⟨y3,rfl⟩
  obtain⟨⟨c1,c2⟩,⟨c3,c4⟩,c5,c6⟩:=h2 k hk
  have e3:aB ((ax (k+1)).map λj=>sI as (is.getD j 0))=aB ((ax k).map λj=>sI as (is.getD j 0))++[.int ((aN as (is.getD k 0).toNat).s:Int)]:=by
   unfold aB;rw[List.range_succ,dc,dc];rfl
  refine⟨_,rfl,.inl ⟨[some (.lst (as.map bL)),some (.lst (is.map .int)),some (.lst (aB ((ax (k+1)).map λj=>sI as (is.getD j 0)))),some (.int (k:Int))],?_,_,rfl⟩⟩
  have hz:(aB ((ax k).map λj=>sI as (is.getD j 0))).length<16777216:=by unfold aB;rw[ak,ak,bD];omega
  have n8:(aN as (is.getD k 0).toNat).s∉(ax k).map λj=>sI as (is.getD j 0):=λz=>by
   obtain⟨i,hi,e⟩:=bM.mp z
   exact c6 i (bx.mp hi) e
  have q2:=Ng false (aN as (is.getD k 0).toNat).s ((ax k).map λj=>sI as (is.getD j 0))
  rw[if_neg (by decide),decide_eq_false n8]at q2
  rw[e3]
  clear e3 n8 c6
  generalize aB ((ax k).map λj=>sI as (is.getD j 0))=gd at *
  have i1:=EY k hk
  have hp:pI is.length k<is.length:=by unfold pI;split<;>omega
  have i2:cH (.lst (is.map .int)) (.int ((k:Int)-1))=some (.int (is.getD (pI is.length k) 0)):=by
   by_cases h0:k=0
   ·subst h0
    have e:pI is.length 0=is.length-1:=rfl
    rw[e]at hp ⊢
    show atI _ _=_
    unfold atI
    have:ixN (is.map D.int).length (((0:Nat):Int)-1)=some (is.length-1):=by
     rw[ak]
     unfold ixN
     rw[if_neg (by omega),if_pos (by omega)]
     congr 1
     omega
    rw[this]
    show(is.map D.int)[is.length-1]?=_
    rw[aX,vq hp]
    rfl
   ·have e:pI is.length k=k-1:=by unfold pI;rw[if_neg h0]
    rw[e]at hp ⊢
    rw[show(k:Int)-1=((k-1:Nat):Int)by omega]
    exact j5 (by rw[aX,vq hp];rfl)
  have t1:=EX (as:=as) c1 c2
  have t2:=EX (as:=as) c3 c4
  have e0:∀(a b c d:D),cH (.tup [a,b,c,d]) (.int 0)=some a:=λ_ _ _ _=>rfl
  have e1:∀(a b c d:D),cH (.tup [a,b,c,d]) (.int 1)=some b:=λ_ _ _ _=>rfl
  generalize is.getD (pI is.length k) 0=u,is.getD k 0=v at *
  have q:eK true (.int ((aN as v.toNat).s:Int)) (.int ((aN as u.toNat).g:Int))=some (.bl false):=(zdr _ _).trans (by
   rw[if_pos rfl,decide_eq_true (by have:(aN as v.toNat).s=(aN as u.toNat).g:=c5;omega)];rfl)
  generalize as.map bL=al,is.map D.int=il at *
  unfold ql
  clear h h1 h2 hl hk wh EY li la hp c1 c2 c3 c4 c5 L5
  walk_at "mir") is.length 0 [some (.lst (as.map bL)),some (.lst (is.map .int)),some (.lst []),y] (by omega) ⟨y,rfl⟩
 rw[←eO]at L5
 simp only[←eO]at L4
 rcases L5 with⟨ρ2,l2,y2,rfl⟩|⟨_,_,f⟩
 ·rcases L4 y2 with⟨ρ1,l1,y1,rfl⟩|⟨_,_,f⟩
  ·have q:=(El Ei).eq (by decide) (neg:=true) is []
   replace q:eK true (.lst (is.map .int)) (.lst [])=some (.bl (!decide (is=[]))):=q
   rw[decide_eq_false h1]at q
   have O6:iE [.int (is.length:Int)]=some ((ax is.length).map λ(t:Nat)=>D.int (t:Int)):=by
    rw[AN (by omega) (by omega)]
    unfold eE
    simp
   generalize aB ((ax is.length).map λj=>sI as (is.getD j 0))=gd at *
   clear h h1 h2 wh EY la L4 hl
   generalize (ax is.length).map (λ(t:Nat)=>D.int (t:Int))=II,as.map bL=al,is.map D.int=il at *
   unfold jx
   walk_at "mir"
  ·exact f.elim
 ·exact f.elim
theorem SD {q:Int×Int}(hq:Fq.Low q)(hz:Sz 8000 q.2):jo [fr q]=some (.bl true):=by
 have EE:=hq.gt
 obtain⟨s',h1,h2,h3,_⟩:=IT (c:=tb (e2 (eK true) (eV 2) (eC (D.int 0)))) (b:=qz) (λs:Int×Int=>[some (fr q),some (.int s.1),some (.int s.2)]) (λs=>!decide (s.2=0)) (λs=>(s.2,s.1.fmod s.2)) (λs=>s.2.natAbs) (λs=>dm s.1 s.2=dm q.1 q.2)
  (λs hp=>by
   generalize fr q=F
   walk_at "mir") (λs hp ht=>by
   have hs:s.2≠0:=by simpa using ht
   refine⟨.inl ?_,(Fq.gcd_step s.1 s.2).trans hp,Fq.fmod_less s.1 hs⟩
   unfold qz
   have:=NF (i:=s.1) hs
   generalize fr q=F
   walk_at "mir") lH q rfl (Ju hz (by decide))
 have h3:s'.2=0:=by simpa using h3
 have h4:=Fq.gcd_end s'.1
 rw[h3]at h2
 rw[h2,hq.cop]at h4
 have ab:oV [.int s'.1]=some (.int 1):=by
  rw[zfe]
  exact congrArg (λx=>some (D.int x)) h4
 have gt:q.2 > 0:=EE
 have w1:uv [.int q.1]=some (.bl true):=rfl
 have w2:uv [.int q.2]=some (.bl true):=rfl
 have t1:iZ "tuple" (.tup [.int q.1,.int q.2])=some (.bl true):=rfl
 have l2:dg [.tup [.int q.1,.int q.2]]=some (.int 2):=rfl
 have f0:cH (.tup [.int q.1,.int q.2]) (.int 0)=some (.int q.1):=rfl
 have f1:cH (.tup [.int q.1,.int q.2]) (.int 1)=some (.int q.2):=rfl
 obtain⟨s1,s2⟩:=s'
 dsimp only at h1 h3 ab
 subst h3
 unfold fr at *
 unfold jo fV
 clear h2 h4 hq EE hz
 generalize (tb (e2 (eK true) (eV 2) (eC (D.int 0))))=cc at *
 walk_at "mir"
theorem zsf {x1 x2 y1 y2 P1 P2 t b Ts Tg:Int}(hx:0<x2)(hy:0<y2)(ex:x1*P2=Ts*x2)(ey:y1*P2=Tg*y2)(h:Ts+(t*P2-b*P1)<=Tg):(x1*P2+t*x2*P2-P1*b*x2)*y2<=y1*x2*P2:=by
 have e1:(x1*P2+t*x2*P2-P1*b*x2)*y2=(Ts+(t*P2-b*P1))*(x2*y2):=by
  rw[ex];grind
 have e2:y1*x2*P2=Tg*(x2*y2):=by
  have:y1*x2*P2=(y1*P2)*x2:=by grind
  rw[this,ey];grind
 rw[e1,e2]
 exact aU h (fN (by omega) (by omega))
theorem zuk {many:Nat}{as:List cO}{p:Int×Int}{T:Nat->Int}(gu:∀a∈as,xA many a)(hl:as.length<=1000)(hp:0<p.2)(pH:Sz 300 p.1)(jC:Sz 300 p.2)(hT:∀x,Sz 300 (T x))(hk:∀n∈ax as.length,T (aS as n)+dI as p n<=T (aG as n)):IY [.lst (as.map bL),fr p,hV many p T]=some (.bl true):=by
 have lp:=Rz (g:=gT (gsCons (gV 3) (gsCons (gV 4) (gsCons (gV 5) (gsCons (gV 6) gsNil))))) (b:=MX) bL (λ_=>true) (λρ=>∃y3 y4 y5 y6 y7 y8 y9,ρ=[some (.lst (as.map bL)),some (fr p),some (hV many p T),y3,y4,y5,y6,y7,y8,y9]) (.bl false) as [some (.lst (as.map bL)),some (fr p),some (hV many p T),none,none,none,none,none,none,none] ⟨_,_,_,_,_,_,_,rfl⟩ (by
  rintro a ha ρ ⟨y3,y4,y5,y6,y7,y8,y9,rfl⟩
  obtain⟨n,hn⟩:=bG.mp ha
  have zY:=(aV.mp hn).1
  have ea:aN as n=a:=by unfold aN;rw[hn];rfl
  have hk:=hk n (bx.mpr zY)
  unfold dI aS aG at hk
  rw[ea]at hk
  have ok:=gu a ha
  have ix:∀g,g<many->cH (hV many p T) (.int (g:Int))=some (fr (Fq.mk (T g) p.2)):=λg hg=>j5 (by rw[aX,jJ hg];rfl)
  have i1:=ix a.s ok.s
  have i2:=ix a.g ok.g
  have xc:=Fq.mk_cross (T a.s) p.2
  have yc:=Fq.mk_cross (T a.g) p.2
  have xl:Fq.Low (Fq.mk (T a.s) p.2):=Fq.mk_low (by omega)
  have yl:Fq.Low (Fq.mk (T a.g) p.2):=Fq.mk_low (by omega)
  have MJ:=(hT a.s).le (Fq.mk_le_one (t:=T a.s) (b:=p.2) (by omega))
  have ML:=(hT a.g).le (Fq.mk_le_one (t:=T a.g) (b:=p.2) (by omega))
  have wV:=jC.le (Fq.mk_le_two (t:=T a.s) (b:=p.2) (by omega))
  have P0:=jC.le (Fq.mk_le_two (t:=T a.g) (b:=p.2) (by omega))
  generalize Fq.mk (T a.s) p.2=x,Fq.mk (T a.g) p.2=y at *
  have tz:Sz 300 a.t:=jz (w:=1000000000) (by have:=ok.t0;omega) ok.t1 (by decide)
  have bz:Sz 300 (a.b:Int):=jz (w:=4) (by omega) (by have:=ok.b;omega) (by decide)
  have m1:cT (.int x.1) (.int p.2)=some (.int (x.1*p.2)):=u6 MJ jC (by decide) (by decide)
  have m2:cT (.int a.t) (.int x.2)=some (.int (a.t*x.2)):=u6 tz wV (by decide) (by decide)
  have m3:cT (.int (a.t*x.2)) (.int p.2)=some (.int (a.t*x.2*p.2)):=u6 (tz.mul wV) jC (by decide) (by decide)
  have m4:cT (.int p.1) (.int (a.b:Int))=some (.int (p.1*(a.b:Int))):=u6 pH bz (by decide) (by decide)
  have m5:cT (.int (p.1*(a.b:Int))) (.int x.2)=some (.int (p.1*(a.b:Int)*x.2)):=u6 (pH.mul bz) wV (by decide) (by decide)
  have m6:cT (.int y.1) (.int x.2)=some (.int (y.1*x.2)):=u6 ML wV (by decide) (by decide)
  have m7:cT (.int (y.1*x.2)) (.int p.2)=some (.int (y.1*x.2*p.2)):=u6 (ML.mul wV) jC (by decide) (by decide)
  have lz:Sz 902 (x.1*p.2+a.t*x.2*p.2-p.1*(a.b:Int)*x.2):=((((MJ.mul jC).mono (by decide:300+300<=900)).add ((tz.mul wV).mul jC)).sub (((pH.mul bz).mul wV).mono (by decide)))
  have m8:cT (.int (x.1*p.2+a.t*x.2*p.2-p.1*(a.b:Int)*x.2)) (.int y.2)=some (.int ((x.1*p.2+a.t*x.2*p.2-p.1*(a.b:Int)*x.2)*y.2)):=u6 lz P0 (by decide) (by decide)
  have TB:=zsf (P1:=p.1) (P2:=p.2) (t:=a.t) (b:=(a.b:Int)) xl.gt yl.gt xc yc hk
  have lt:og (.int (y.1*x.2*p.2)) (.int ((x.1*p.2+a.t*x.2*p.2-p.1*(a.b:Int)*x.2)*y.2))=some (.bl false):=(zlj _ _).trans (by rw[decide_eq_false (by omega)])
  refine⟨[some (.lst (as.map bL)),some (fr p),some (hV many p T),some (.int (a.s:Int)),some (.int (a.g:Int)),some (.int a.t),some (.int (a.b:Int)),y7,y8,y9],rfl,.inl ⟨rfl,[some (.lst (as.map bL)),some (fr p),some (hV many p T),some (.int (a.s:Int)),some (.int (a.g:Int)),some (.int a.t),some (.int (a.b:Int)),some (fr x),some (fr y),some (.int (x.1*p.2+a.t*x.2*p.2-p.1*(a.b:Int)*x.2))],?_,_,_,_,_,_,_,_,rfl⟩⟩
  have a0:=t4 x
  have a1:=mz x
  have b0:=t4 y
  have b1:=mz y
  have p0:=t4 p
  have p1:=mz p
  clear TB lz xc yc xl yl MJ ML wV P0 tz bz hk ok ix ea zY hn ha hT pH jC gu hl hp
  generalize fr x=X,fr y=Y,fr p=F,hV many p T=TM,as.map bL=al,(x.1*p.2+a.t*x.2*p.2-p.1*(a.b:Int)*x.2)*y.2=w1 at *
  generalize hw2:y.1*x.2*p.2=w2 at *
  generalize y.1*x.2=w3,a.t*x.2*p.2=w4 at *
  generalize a.t*x.2=w5,p.1*(a.b:Int)*x.2=w6 at *
  generalize p.1*(a.b:Int)=w7,x.1*p.2=w8 at *
  unfold MX
  walk_at "mir")
 have lsd:lsD (eV 0) [some (.lst (as.map bL)),some (fr p),some (hV many p T),none,none,none,none,none,none,none]=some (as.map bL):=rfl
 rcases lp with⟨_,ρ',lp,y3,y4,y5,y6,y7,y8,y9,rfl⟩|⟨h1,_⟩
 ·clear hT pH jC gu hl hp hk
  generalize hV many p T=TM,fr p=F at *
  unfold IY sFor
  generalize lsD (eV 0)=LS,as.map bL=al at *
  walk_at "mir"
 ·have:as.all (λ_=>true)=true:=by simp
  rw[this]at h1;cases h1
theorem R7 (neg:Bool)(w:List Nat):eK neg (.lst (aB w)) (.lst [])=some (.bl (if neg then !decide (w=[])else decide (w=[]))):=by
 have:=(El Ei).eq (by decide) (neg:=neg) (w.map λ(x:Nat)=>(x:Int)) []
 have e:(El Ei).enc (w.map λ(x:Nat)=>(x:Int))=.lst (aB w):=by
  show D.lst ((w.map λ(x:Nat)=>(x:Int)).map D.int)=_
  rw[bF];rfl
 rw[e]at this
 have hd:decide ((w.map λ(x:Nat)=>(x:Int))=[])=decide (w=[]):=decide_eq_decide.mpr (by simp)
 rw[hd]at this
 exact this
theorem zo1 (neg:Bool)(A B:List Nat):eK neg (.lst (aB A)) (.lst (aB B))=some (.bl (if neg then !decide (A=B)else decide (A=B))):=by
 have:=(El Ei).eq (by decide) (neg:=neg) (A.map λ(x:Nat)=>(x:Int)) (B.map λ(x:Nat)=>(x:Int))
 have e:∀w:List Nat,(El Ei).enc (w.map λ(x:Nat)=>(x:Int))=.lst (aB w):=λw=>by
  show D.lst ((w.map λ(x:Nat)=>(x:Int)).map D.int)=_
  rw[bF];rfl
 rw[e,e]at this
 have hd:decide ((A.map λ(x:Nat)=>(x:Int))=B.map λ(x:Nat)=>(x:Int))=decide (A=B):=decide_eq_decide.mpr (qY (λx y h=>by omega))
 rw[hd]at this
 exact this
theorem R8 {as:List cO}{many:Nat}{left:List Nat}(mQ:∀x∈left,x<many)(zS:∀x∈left,∃n,n<as.length/\aG as n=x/\aS as n∈left)(v:Nat):∀(f:Nat) (ws:List Nat) (here:Nat),many<ws.length+f->pF (aS as) (aG as) v ws here->(ws.map (aG as)).Nodup->(∀n∈ws,n<as.length/\aG as n∈left)->here∈left->∃(R:List Nat) (x:Nat),R≠[]/\nh (aS as) (aG as) x R x/\(R.map (aG as)).Nodup/\∀n∈R,n<as.length/\aG as n∈left
 |0,ws,here,hf,_,nd,hw,_=>by
  have:=Kahn.len_le (many:=many) nd λx hx=>by
   obtain⟨n,h1,rfl⟩:=bM.mp hx
   exact mQ _ (hw n h1).2
  rw[ak]at this
  omega
 |f+1,ws,here,hf,hc,nd,hw,hh=>by
  by_cases hm:here∈ws.map (aG as)
  ·have rH:=nQ.mpr hm
   have t5:(ws.map (aG as))[(ws.map (aG as)).idxOf here]?=some here:=by rw[br rH,qX]
   generalize (ws.map (aG as)).idxOf here=j at *
   rw[ak]at rH
   rw[aX,br rH]at t5
   replace t5:aG as ws[j]=here:=by simpa using t5
   have wlk:pF (aS as) (aG as) here (ws.drop j) here:=by
    have:=hc.drop (j:=j) (n:=ws[j]) (br rH)
    rw[t5]at this
    exact this
   refine⟨(ws.drop j).reverse,here,?_,wlk.wlk,?_,λn hn=>hw n (pM (sC.mp hn))⟩
   ·intro e
    have:=congrArg lN e
    rw[eZ,cJ]at this
    simp at this
    omega
   ·rw[lE,gb]
    exact pv.mpr ((jQ.sublist (rT _ _) nd).imp λh e=>h e.symm)
  ·obtain⟨n,n1,n2,n3⟩:=zS here hh
   refine R8 mQ zS v f (ws++[n]) (aS as n) (by rw[bg,cN];omega) (hc.snoc n2) ?_ (λk hk=>?_) n3
   ·rw[dc,jX,n2]
    exact aW.mpr ⟨nd,by simp,λa ha b hb e=>hm (by rw[←aD.mp hb,←e];exact ha)⟩
   ·rcases aY.mp hk with hk|hk
    ·exact hw k hk
    ·rw[aD.mp hk,n2];exact⟨n1,hh⟩
theorem RG.starts {as:List cO}{aT R:List Nat}(h:RG as aT R):∀n∈R,aS as n∈R.map (aG as):=by
 obtain⟨x,hx⟩:=h.w
 have e:=N5 hx
 have Vx:x∈R.map (aG as):=by
  have iY:R.map (aG as)≠[]:=by simpa using h.ne
  have h2:=(lY iY).symm
  rw[h2,←lC]at e
  obtain⟨_,h4⟩:=sA e rfl
  have h5:x=(R.map (aG as)).getLast iY:=by simpa using h4
  rw[h5]
  exact List.getLast_mem iY
 intro n hn
 have:aS as n∈R.map (aS as)++[x]:=bc _ (bM.mpr ⟨n,hn,rfl⟩)
 rw[e]at this
 rcases aF.mp this with h|h
 ·rw[h];exact Vx
 ·exact h
def pG (as:List cO)(left:List Nat):List Nat:=(as.filter λa=>decide (a.s∈left)).map (·.g)
def stay (as:List cO)(left:List Nat):List Nat:=left.filter λx=>decide (x∈pG as left)
theorem R9 {as:List cO}{left:List Nat}{x:Nat}:x∈pG as left↔∃n,n<as.length/\aG as n=x/\aS as n∈left:=by
 unfold pG
 rw[bM]
 constructor
 ·rintro⟨a,ha,rfl⟩
  obtain⟨h1,h2⟩:=ce.mp ha
  obtain⟨n,hn⟩:=bG.mp h1
  have e:aN as n=a:=by unfold aN;rw[hn];rfl
  refine⟨n,(aV.mp hn).1,?_,?_⟩
  ·unfold aG;rw[e]
  ·unfold aS;rw[e];exact of_decide_eq_true h2
 ·rintro⟨n,hn,h1,h2⟩
  exact⟨aN as n,ce.mpr ⟨qo hn,decide_eq_true h2⟩,h1⟩
theorem zmw {n:Nat}(h1:1<=n)(h2:n<=40):qf [.lst (nm n)]=some (.bl true):=by
 have key:∀n,n<40->LU (qf [.lst (nm (n+1))])=true:=by decide +kernel
 obtain⟨k,rfl⟩:∃k,n=k+1:=⟨n-1,by omega⟩
 exact zt7 (key k (by omega))
theorem zo2 {many:Nat}{rk:Nat->Nat}{as:List cO}(k:cO->Int)(h1:1<=many)(h2:many<=40)(h3:as.length<=120)(h:∀a∈as,Drawn many rk a):lh many (as.map λa=>nJ a (k a)):=by
 refine⟨h1,by omega,by rw[ak];exact h3,λb hb=>?_,rk,λb hb vW=>?_⟩
 ·obtain⟨a,ha,rfl⟩:=bM.mp hb
  exact(h a ha).right _
 ·obtain⟨a,ha,rfl⟩:=bM.mp hb
  exact(h a ha).r vW
theorem zul {c:Int}{many k:Nat}{as:List cO}(hm:20<=many/\many<=40)(hk:k<120)(hl:as.length=k)(e3 y4 y5 y6 y7:Option D) :
  ∃(a:cO) (z4 z5 z6 z7:Option D),Drawn many id a/\qk [some (.int c),some (.int (many:Int)),some (.lst (as.map bL)),e3,some (.int (k:Int)),y4,y5,y6,y7]=some (.nx [some (.int c),some (.int (many:Int)),some (.lst ((as++[a]).map bL)),e3,some (.int (k:Int)),z4,z5,z6,z7]):=by
 obtain⟨z,mx,hz⟩:=RX c (k:=3+(k:Int)) (by omega) (by omega)
 have pH:(z:Int)%(many:Int)=((z%many:Nat):Int):=by simp
 have m1:cX (.int (z:Int)) (.int (many:Int))=some (.int ((z%many:Nat):Int)):=(jg (by omega)).trans (by rw[pH])
 have jC:(z:Int)/64%(many:Int)=((z/64%many:Nat):Int):=by simp
 have m2:cX (.int ((z:Int)/64)) (.int (many:Int))=some (.int ((z/64%many:Nat):Int)):=(jg (by omega)).trans (by rw[jC])
 have wG:((k:Int)+1)%(many:Int)=(((k+1)%many:Nat):Int):=by simp
 have m3:cX (.int ((k:Int)+1)) (.int (many:Int))=some (.int (((k+1)%many:Nat):Int)):=(jg (by omega)).trans (by rw[wG])
 have l1:=gQ z (show 0<many by omega)
 have l2:=gQ (z/64) (show 0<many by omega)
 have l3:=gQ (k+1) (show 0<many by omega)
 have Ux:∃s g:Nat,s<many/\g<many/\(sIf (bAnd (tb (e2 og (eV 4) (eV 1))) (tb (e2 (eK false) (e2 cX (e2 ed (eV 0) (eC (.int 21))) (eC (.int 2))) (eC (.int 1))))) (sSeq (sSet 6 (eV 4))
  (sSet 7 (e2 cX (e2 ej (eV 4) (eC (.int 1))) (eV 1)))) sSkip) [some (.int c),some (.int (many:Int)),some (.lst (as.map bL)),e3,some (.int (k:Int)),some (.int (z:Int)),some (.int ((z%many:Nat):Int)),some (.int ((z/64%many:Nat):Int)),y7]=some (.nx [some (.int c),some (.int (many:Int)),some (.lst (as.map bL)),e3,some (.int (k:Int)),some (.int (z:Int)),some (.int (s:Int)),some (.int (g:Int)),y7]):=by
  by_cases h1:k<many
  ·have Bf:(k:Int)<(many:Int):=by omega
   by_cases h2:c/21%2=1
   ·refine⟨k,(k+1)%many,h1,l3,?_⟩
    clear m1 m2 pH jC wG l1 l2 l3 mx hz hl hk hm h1
    generalize as.map bL=al,(((k+1)%many:Nat):Int)=k1 at *
    walk_at "mir"
   ·refine⟨z%many,z/64%many,l1,l2,?_⟩
    clear m1 m2 m3 pH jC wG l1 l2 l3 mx hz hl hk hm h1
    generalize as.map bL=al at *
    walk_at "mir"
  ·have Bf:¬(k:Int)<(many:Int):=by omega
   refine⟨z%many,z/64%many,l1,l2,?_⟩
   clear m1 m2 m3 pH jC wG l1 l2 l3 mx hz hl hk hm h1
   generalize as.map bL=al at *
   walk_at "mir"
 obtain⟨s,g,hs,hg,k1⟩:=Ux
 have J1:∃b:Nat,b<=4/\(b=0->s<g)/\(sIf (bAnd (tb (e2 (eK false) (eV 8) (eC (.int 0)))) (tb (e2 vU (eV 6) (eV 7)))) (sSet 8 (eC (.int 1))) sSkip) [some (.int c),some (.int (many:Int)),some (.lst (as.map bL)),e3,some (.int (k:Int)),some (.int (z:Int)),some (.int (s:Int)),some (.int (g:Int)),some (.int ((z:Int)/5000%4))]=some (.nx [some (.int c),some (.int (many:Int)),some (.lst (as.map bL)),e3,some (.int (k:Int)),some (.int (z:Int)),some (.int (s:Int)),some (.int (g:Int)),some (.int (b:Int))]):=by
  obtain⟨b,hb,uP⟩:∃b:Nat,(z:Int)/5000%4=(b:Int)/\b<4:=⟨((z:Int)/5000%4).toNat,by omega,by omega⟩
  rw[hb]
  by_cases h0:b=0
  ·subst h0
   have e0:((0:Nat):Int)=0:=rfl
   by_cases h1:s<g
   ·have Bf:¬(g:Int)<=(s:Int):=by omega
    refine⟨0,by omega,λ_=>h1,?_⟩
    clear k1 m1 m2 m3 pH jC wG l1 l2 l3 mx hz hl hk hm h1 hs hg hb uP
    generalize as.map bL=al at *
    walk_at "mir"
   ·have Bf:(g:Int)<=(s:Int):=by omega
    refine⟨1,by omega,λz=>by omega,?_⟩
    have e1:((1:Nat):Int)=1:=rfl
    clear k1 m1 m2 m3 pH jC wG l1 l2 l3 mx hz hl hk hm h1 hs hg hb uP
    generalize as.map bL=al at *
    walk_at "mir"
  ·have h0':¬(b:Int)=0:=by omega
   refine⟨b,by omega,λz=>absurd z h0,?_⟩
   clear k1 m1 m2 m3 pH jC wG l1 l2 l3 mx hz hl hk hm hs hg hb uP
   generalize as.map bL=al at *
   walk_at "mir"
 obtain⟨b,uP,vW,k2⟩:=J1
 refine⟨⟨.wait,s,g,(z:Int)/20000%1000,b⟩,some (.int (z:Int)),some (.int (s:Int)),some (.int (g:Int)),some (.int (b:Int)),⟨hs,hg,by dsimp only;omega,by dsimp only;omega,uP,vW⟩,?_⟩
 have e3:(as++[(⟨.wait,s,g,(z:Int)/20000%1000,b⟩:cO)]).map bL=as.map bL++[.tup [.int (s:Int),.int (g:Int),.int ((z:Int)/20000%1000),.int (b:Int)]]:=by rw[dc];rfl
 have VC:(as.map bL).length<16777216:=by rw[ak];omega
 rw[e3]
 generalize as.map bL=al,((z%many:Nat):Int)=zm,((z/64%many:Nat):Int)=zm2 at *
 clear pH jC wG m3 l1 l2 l3 hz hl hk hm hs hg uP vW e3
 unfold qk
 generalize (sIf (bAnd (tb (e2 og (eV 4) (eV 1))) (tb (e2 (eK false) (e2 cX (e2 ed (eV 0) (eC (.int 21))) (eC (.int 2))) (eC (.int 1))))) (sSeq (sSet 6 (eV 4))
  (sSet 7 (e2 cX (e2 ej (eV 4) (eC (.int 1))) (eV 1)))) sSkip)=B1 at *
 generalize (sIf (bAnd (tb (e2 (eK false) (eV 8) (eC (.int 0)))) (tb (e2 vU (eV 6) (eV 7)))) (sSet 8 (eC (.int 1))) sSkip)=B2 at *
 walk_at "mir"
theorem zvf (c:Int):∃(many:Nat) (as:List cO),ja [.int c]=some (.tup [.int (many:Int),.lst (as.map bL)])/\(20<=many/\many<=40)/\as.length<=120/\∀a∈as,Drawn many id a:=by
 have fin:∀(many size:Nat),20<=many/\many<=40->size<=120->∃(as:List cO) (y4 y5 y6 y7 y8:Option D),fT (gV 4) qk (eE 0 size) [some (.int c),some (.int (many:Int)),some (.lst []),some (.int (size:Int)),none,none,none,none,none]=some (.nx [some (.int c),some (.int (many:Int)),some (.lst (as.map bL)),some (.int (size:Int)),y4,y5,y6,y7,y8])/\as.length=size/\∀a∈as,Drawn many id a:=by
  intro many size hm hsz
  obtain⟨ρ',h1,hI⟩:=Qu (g:=gV 4) (b:=qk) (lo:=0) (n:=size) (ρ:=[some (.int c),some (.int (many:Int)),some (.lst []),some (.int (size:Int)),none,none,none,none,none])
   (λk ρ=>∃(as:List cO) (y3 y4 y5 y6 y7:Option D),ρ=[some (.int c),some (.int (many:Int)),some (.lst (as.map bL)),some (.int (size:Int)),y3,y4,y5,y6,y7]/\as.length=k/\∀a∈as,Drawn many id a)
   ⟨[],_,_,_,_,_,rfl,rfl,λa ha=>by cases ha⟩ (by
    rintro k ρ hk ⟨as,y3,y4,y5,y6,y7,rfl,hl,hd⟩
    obtain⟨a,z4,z5,z6,z7,da,st⟩:=zul (c:=c) hm (by omega) hl (some (.int (size:Int))) y4 y5 y6 y7
    refine⟨_,_,rfl,.inl (by rw[show(0:Int)+(k:Int)=(k:Int)by omega];exact st),as++[a],_,_,_,_,_,rfl,by simp[hl],λb hb=>?_⟩
    rcases aY.mp hb with hb|hb
    ·exact hd b hb
    ·rw[aD.mp hb];exact da)
  obtain⟨as,y3,y4,y5,y6,y7,rfl,hl,hd⟩:=hI
  exact⟨as,y3,y4,y5,y6,y7,h1,hl,hd⟩
 by_cases h:c/42%3=1
 ·obtain⟨as,y4,y5,y6,y7,y8,h1,hl,hd⟩:=fin 20 120 (by omega) (by omega)
  refine⟨20,as,?_,by omega,by omega,hd⟩
  have r1:iE [.int 120]=some (eE 0 120):=AN (by decide) (by decide)
  have OK:((20:Nat):Int)=20:=rfl
  have Kj:((120:Nat):Int)=120:=rfl
  rw[OK,Kj]at h1
  rw[OK]
  clear hd hl fin
  generalize as.map bL=al at *
  unfold ja
  walk_at "mir"
 ·obtain⟨many,Ex,hm⟩:∃m:Nat,20+c%21=(m:Int)/\20<=m/\m<=40:=⟨(20+c%21).toNat,by omega,by omega,by omega⟩
  obtain⟨as,y4,y5,y6,y7,y8,h1,hl,hd⟩:=fin many 60 hm (by omega)
  refine⟨many,as,?_,hm,by omega,hd⟩
  have r1:iE [.int 60]=some (eE 0 60):=AN (by decide) (by decide)
  have Uy:((60:Nat):Int)=60:=rfl
  rw[Uy]at h1
  clear hd hl hm fin
  generalize as.map bL=al at *
  unfold ja
  walk_at "mir"
theorem ZV {as:List cO}{many:Nat}(gu:as.length<=120)(hm:many<=40)(hg:∀a∈as,a.g<many):∃b:Bool,ui [.lst (as.map bL),.int (many:Int)]=some (.bl b)/\(b=true↔∀R,¬RG as (ax as.length) R):=by
 have i7:∀left:List Nat,left=[]->(∀R,RG as (ax as.length) R->∀n∈R,aG as n∈left)->∀R,¬RG as (ax as.length) R:=by
  intro left hl h R hR
  obtain⟨n,hn⟩:∃n,n∈R:=nv _ hR.ne
  have:=h R hR n hn
  rw[hl]at this
  cases this
 have lp:=Hn (g:=gV 3) (b:=jb) (n:=many)
  (λk ρ=>∃(left:List Nat) (y3 y4 y5:Option D),ρ=[some (.lst (as.map bL)),some (.int (many:Int)),some (.lst (aB left)),y3,y4,y5]/\(∀x∈left,x<many)/\left.length+k<=many/\∀R,RG as (ax as.length) R->∀n∈R,aG as n∈left)
  (λd=>∃b:Bool,d=.bl b/\(b=true↔∀R,¬RG as (ax as.length) R)) (by
   rintro k ρ hk ⟨left,y3,y4,y5,rfl,nj,eS,jH⟩
   have q2:P5 [some (.lst (as.map bL)),some (.int (many:Int)),some (.lst (aB left)),some (.int (k:Int)),y4,y5]=some (.lst (aB (pG as left))):=by
    have e:aB (pG as left)=(as.filter λa=>decide (a.s∈left)).map λa=>D.int (a.g:Int):=by unfold aB pG;rw[bF];rfl
    rw[e]
    refine BH (own:=1) (cap:=[2]) (g:=gV 0) bL (λa=>decide (a.s∈left)) (λa=>D.int (a.g:Int)) as rfl (by omega) λa _=>⟨[some (bL a),some (.lst (aB left))],rfl,?_,λ_=>rfl⟩
    have q:=Ng false a.s left
    rw[if_neg (by decide)]at q
    have i0:cH (bL a) (.int 0)=some (.int (a.s:Int)):=rfl
    generalize decide (a.s∈left)=bb,bL a=ea,aB left=nl at *
    clear nj eS jH i7 e
    walk_at "mir"
   have q1:P4 [some (.lst (as.map bL)),some (.int (many:Int)),some (.lst (aB left)),some (.int (k:Int)),some (.lst (aB (pG as left))),y5]=some (.lst (aB (stay as left))):=by
    refine BH (own:=1) (cap:=[4]) (g:=gV 0) (λ(x:Nat)=>D.int (x:Int)) (λx=>decide (x∈pG as left)) (λ(x:Nat)=>D.int (x:Int)) left rfl (by omega) λx _=>⟨[some (.int (x:Int)),some (.lst (aB (pG as left)))],rfl,?_,λ_=>rfl⟩
    have q:=Ng false x (pG as left)
    rw[if_neg (by decide)]at q
    generalize decide (x∈pG as left)=bb,aB (pG as left)=nl at *
    clear nj eS jH i7 q2
    walk_at "mir"
   have e1:=zo1 false (stay as left) left
   rw[if_neg (by decide)]at e1
   have tZ:=R7 false left
   rw[if_neg (by decide)]at tZ
   refine⟨[some (.lst (as.map bL)),some (.int (many:Int)),some (.lst (aB left)),some (.int (k:Int)),y4,y5],rfl,?_⟩
   by_cases he:stay as left=left
   ·rw[decide_eq_true he]at e1
    refine .inr ⟨.bl (decide (left=[])),?_,decide (left=[]),rfl,?_⟩
    ·generalize decide (left=[])=bb at *
     generalize aB (stay as left)=ns,aB (pG as left)=ng,aB left=nf,as.map bL=al at *
     clear he jH eS nj i7 hk hm gu hg
     unfold jb
     walk_at "mir"
    ·rw[decide_eq_true_iff]
     constructor
     ·intro h;exact i7 left h jH
     ·intro h
      apply Classical.byContradiction
      intro iY
      obtain⟨v,hv⟩:∃v,v∈left:=nv _ iY
      obtain⟨R,x,r1,r2,r3,r4⟩:=R8 (as:=as) (many:=many) (left:=left) nj (λx hx=>by
       rw[←he]at hx
       exact R9.mp (of_decide_eq_true (ce.mp hx).2)) v (many+1) [] v (by simp) rfl (by simp) (λn hn=>by cases hn) hv
      exact h R ⟨r1,⟨x,r2⟩,r3,λn hn=>bx.mpr (r4 n hn).1⟩
   ·rw[decide_eq_false he]at e1
    refine .inl ⟨[some (.lst (as.map bL)),some (.int (many:Int)),some (.lst (aB (stay as left))),some (.int (k:Int)),some (.lst (aB (pG as left))),some (.lst (aB (stay as left)))],?_,stay as left,_,_,_,rfl,λx hx=>nj x (ce.mp hx).1,?_,λR hR n hn=>?_⟩
    ·generalize aB (stay as left)=ns at *
     generalize aB (pG as left)=ng,aB left=nf,as.map bL=al at *
     clear he jH eS nj i7 hk hm gu hg tZ
     unfold jb
     walk_at "mir"
    ·have h1:=pq (λx=>decide (x∈pG as left)) left
     have h2:(stay as left).length≠left.length:=λz=>he (qD.mpr (List.length_filter_eq_length_iff.mp z))
     have h3:(stay as left).length<=left.length:=h1
     omega
    ·refine ce.mpr ⟨jH R hR n hn,decide_eq_true (R9.mpr ⟨n,bx.mp (hR.m n hn),rfl,?_⟩)⟩
     obtain⟨m,sV,mB⟩:=bM.mp (hR.starts n hn)
     rw[←mB]
     exact jH R hR m sV) many 0 [some (.lst (as.map bL)),some (.int (many:Int)),some (.lst (aB (ax many))),none,none,none] (by omega) ⟨ax many,none,none,none,rfl,λx hx=>bx.mp hx,by rw[bD];omega,λR hR n hn=>bx.mpr (hg _ (qo (bx.mp (hR.m n hn))))⟩
 rw[←eO]at lp
 have O6:iE [.int (many:Int)]=some ((ax many).map λ(t:Nat)=>D.int (t:Int)):=by
  rw[AN (by omega) (by omega)]
  unfold eE
  simp
 have lr:iI [.int (many:Int)]=some (.lst (aB (ax many))):=by
  show(if 0<=(many:Int)/\(many:Int)<=16777216 then some (D.lst (eE 0 (many:Int).toNat))else none)=_
  rw[if_pos ⟨by omega,by omega⟩]
  unfold eE aB
  simp
 rcases lp with⟨ρ',l1,left,y3,y4,y5,rfl,nj,eS,jH⟩|⟨d,l1,b,rfl,hb⟩
 ·have zX:left=[]:=gh (by omega)
  have tZ:=R7 false left
  rw[if_neg (by decide),decide_eq_true zX]at tZ
  refine⟨true,?_,⟨λ_=>i7 left zX jH,λ_=>rfl⟩⟩
  generalize (ax many).map (λ(t:Nat)=>D.int (t:Int))=II,aB (ax many)=nr,aB left=nf,as.map bL=al at *
  clear jH eS nj i7 hm gu zX hg
  unfold ui
  walk_at "mir"
 ·refine⟨b,?_,hb⟩
  generalize (ax many).map (λ(t:Nat)=>D.int (t:Int))=II,aB (ax many)=nr,as.map bL=al at *
  clear i7 hm gu hb hg
  unfold ui
  walk_at "mir"
structure An (many:Nat)(as:List cO)(R:List Nat)(q:Int×Int)(T:Nat->Int):Prop where
 r:RG as (ax as.length) R
 qe:q=Fq.mk (sT as R) (sB as R)
 mx:∀R',RG as (ax as.length) R'->sT as R' * q.2<=q.1*sB as R'
 k:∀n∈ax as.length,T (aS as n)+dI as q n<=T (aG as n)
 t:∀x,0<=T x/\T x<=1000000000000000
section
variable {many:Nat}{as:List cO}{R:List Nat}{q:Int×Int}{T:Nat->Int}{rk:Nat->Nat}{mb:Nat}
theorem An.low (h:An many as R q T)(g:GN many as (ax as.length) rk mb):Fq.Low q/\Fz 300 q/\q.2<=160/\0<=q.1/\q.1<=120000000000:=by
 obtain⟨l,_,z2,n0,n1⟩:=Jr h.r g
 rw[←h.qe]at l z2 n0 n1
 have:=l.gt
 exact⟨l,⟨jz (w:=120000000000) (by omega) n1 (by decide),jz (w:=160) (by omega) z2 (by decide)⟩,z2,n0,n1⟩
theorem An.tz (h:An many as R q T)(hq:Fq.Low q)(h2:q.2<=160)(g:Nat):Fq.Low (Fq.mk (T g) q.2)/\Fz 300 (Fq.mk (T g) q.2):=by
 have:=hq.gt
 exact⟨Fq.mk_low (by omega),HL (by omega) (jz (w:=1000000000000000) (by have:=h.t g;omega) (h.t g).2 (by decide)) (jz (w:=160) (by omega) h2 (by decide))⟩
theorem An.rng (h:An many as R q T):nc (sI as) (gI as) as.length (R.map λ(n:Nat)=>(n:Int)):=by
 obtain⟨x,hx⟩:=h.r.w
 exact zse hx h.r.ne (λn hn=>bx.mp (h.r.m n hn)) h.r.nd
theorem An.kpt (h:An many as R q T)(hq:Fq.Low q)(hT:∀g,Fq.Low (Fq.mk (T g) q.2)):A7 q (λg=>Fq.mk (T g) q.2) as=true:=by
 unfold A7
 refine fY.mpr λa ha=>?_
 obtain⟨n,hn⟩:=bG.mp ha
 have ea:aN as n=a:=by unfold aN;rw[hn];rfl
 have hk:=h.k n (bx.mpr (aV.mp hn).1)
 unfold aS aG dI at hk
 rw[ea]at hk
 have Bp:=hq.gt
 have ki:=zov (pace:=q) (tm:=λg=>Fq.mk (T g) q.2) (a:=a) (W:=q.2) (top:=T) hq hT Bp (λg=>Fq.mk_cross (T g) q.2)
 rw[ki]
 refine decide_eq_true ?_
 have h2:=aU hk (cK Bp)
 have e2:(T a.s+(a.t*q.2-(a.b:Int)*q.1))*q.2=T a.s*q.2+(a.t*q.2*q.2-q.1*(a.b:Int)*q.2):=by grind
 rw[e2]at h2
 exact h2
theorem ZW (h:An many as R q T)(gn:GN many as (ax as.length) rk mb):ux [.lst (as.map bL),.int (many:Int),.tup [fr q,.lst (aB R),hV many q T]]=some (.bl true):=by
 obtain⟨lq,zq,mD,n0,n1⟩:=h.low gn
 have Bp:=lq.gt
 have lo:=SD lq (zq.2.mono (by decide))
 have UW:=h.r.len gn
 have hm:=gn.m
 have ri:=zo0 (as:=as) (is:=R.map λ(n:Nat)=>(n:Int)) (by rw[ak];omega) h.rng
 have en:(R.map λ(n:Nat)=>(n:Int)).map D.int=aB R:=by rw[bF];rfl
 rw[en]at ri
 have ft:=zuk (many:=many) (as:=as) (p:=q) (T:=T) gn.ok (by have:=gn.al;omega) Bp zq.1 zq.2 (λx=>jz (w:=1000000000000000) (by have:=h.t x;omega) (h.t x).2 (by decide)) h.k
 have ln:dg [hV many q T]=some (.int (many:Int)):=by
  unfold hV
  rw[v7,ak,bD]
 have eqn:eK true (.int (many:Int)) (.int (many:Int))=some (.bl false):=(zdr _ _).trans (by simp)
 have VG:iZ "list" (.lst (aB R))=some (.bl true):=rfl
 have VH:iZ "list" (hV many q T)=some (.bl true):=rfl
 have VI:iZ "tuple" (.tup [fr q,.lst (aB R),hV many q T])=some (.bl true):=rfl
 have l3:dg [.tup [fr q,.lst (aB R),hV many q T]]=some (.int 3):=rfl
 have j0:cH (.tup [fr q,.lst (aB R),hV many q T]) (.int 0)=some (fr q):=rfl
 have Ll:∀n∈R,n<as.length:=λn hn=>bx.mp (h.r.m n hn)
 have k3':Qa [some (.lst (as.map bL)),some (.int (many:Int)),some (.tup [fr q,.lst (aB R),hV many q T]),some (fr q),some (.lst (aB R)),some (hV many q T),none,none]=some (.lst (((ax many).map λ_=>true).map .bl)):=by
  rw[bF]
  refine jy (own:=1) (cap:=[]) (g:=gV 0) (fi:=lsD (eV 5)) (r:=[some (.lst (as.map bL)),some (.int (many:Int)),some (.tup [fr q,.lst (aB R),hV many q T]),some (fr q),some (.lst (aB R)),some (hV many q T),none,none]) (λg=>fr (Fq.mk (T g) q.2)) (λ_=>D.bl true) (ax many) rfl (by rw[bD];omega) λg _=>⟨[some (fr (Fq.mk (T g) q.2))],rfl,?_⟩
  have:=SD (h.tz lq mD g).1 ((h.tz lq mD g).2.2.mono (by decide))
  generalize fr (Fq.mk (T g) q.2)=F at *
  clear ft ri lo
  walk_at "mir"
 have al:=Sy ((ax many).map λ_=>true)
 have JW:((ax many).map λ_=>true).all id=true:=by simp
 rw[JW]at al
 have k2:=SA (as:=as) (w:=R) (j:=2) (f:=λa=>a.t) (q:=MU) (fi:=lsD (eV 4)) rfl (λ_=>rfl) (by omega) Ll [some (.lst (as.map bL)),some (.int (many:Int)),some (.tup [fr q,.lst (aB R),hV many q T]),some (fr q),some (.lst (aB R)),some (hV many q T),none,none] rfl rfl
 have k3:=SA (as:=as) (w:=R) (j:=3) (f:=λa=>(a.b:Int)) (q:=MT) (fi:=lsD (eV 4)) rfl (λ_=>rfl) (by omega) Ll [some (.lst (as.map bL)),some (.int (many:Int)),some (.tup [fr q,.lst (aB R),hV many q T]),some (fr q),some (.lst (aB R)),some (hV many q T),some (.int (sT as R)),none] rfl rfl
 replace k2:MU _=some (.lst ((R.map (tN as)).map .int)):=k2
 replace k3:MT _=some (.lst ((R.map (bN as)).map .int)):=k3
 have u2:oA [.lst ((R.map (tN as)).map .int)]=some (.int (sT as R)):=HH (R.map (tN as))
 have u3:oA [.lst ((R.map (bN as)).map .int)]=some (.int (sB as R)):=HH (R.map (bN as))
 have bds:=h.r.bds gn
 have hD:=gn.D
 have cr:=Fq.mk_cross (sT as R) (sB as R)
 rw[←h.qe]at cr
 have m1:cT (.int (sT as R)) (.int q.2)=some (.int (sT as R*q.2)):=zb1 (by omega) (by omega)
 have m2:cT (.int q.1) (.int (sB as R))=some (.int (sT as R*q.2)):=(zb1 (by omega) (by omega)).trans (by rw[cr])
 have p0:=t4 q
 have p1:=mz q
 have asg:sAsg (gT (gsCons (gV 3) (gsCons (gV 4) (gsCons (gV 5) gsNil)))) (eV 2) [some (.lst (as.map bL)),some (.int (many:Int)),some (.tup [fr q,.lst (aB R),hV many q T]),none,none,none,none,none]=some (.nx [some (.lst (as.map bL)),some (.int (many:Int)),some (.tup [fr q,.lst (aB R),hV many q T]),some (fr q),some (.lst (aB R)),some (hV many q T),none,none]):=rfl
 clear cr hD bds Ll en h gn Bp lq zq mD n0 n1 UW JW
 generalize ((ax many).map λ_=>true).map D.bl=tls,(R.map (tN as)).map D.int=tl,(R.map (bN as)).map D.int=bl,(D.tup [fr q,.lst (aB R),hV many q T])=PD at *
 generalize hV many q T=TM,sT as R*q.2=w1 at *
 generalize sT as R=sTR,sB as R=sBR,aB R=rl,fr q=F,as.map bL=al' at *
 unfold ux
 generalize sAsg (gT (gsCons (gV 3) (gsCons (gV 4) (gsCons (gV 5) gsNil)))) (eV 2)=AS at *
 walk_at "mir"
theorem zmx {ns:List D}(ok:lh many as)(gB:ns.length=many)(h:An many as R q T)(gn:GN many as (ax as.length) rk mb):wW [bU ns as,.tup [fr q,.lst (aB R),hV many q T]]=some (.bl true):=by
 obtain⟨lq,zq,mD,n0,n1⟩:=h.low gn
 have en:(R.map λ(n:Nat)=>(n:Int)).map D.int=aB R:=by rw[bF];rfl
 have e1:((R.map λ(n:Nat)=>(n:Int)).map (tI as))=R.map (tN as):=by rw[bF];exact dM λn _=>by simp[tI,tN]
 have e2:((R.map λ(n:Nat)=>(n:Int)).map (bI as))=R.map (bN as):=by rw[bF];exact dM λn _=>by simp[bI,bN]
 obtain⟨b,h1,h2⟩:=zr6 (ns:=ns) (is:=R.map λ(n:Nat)=>(n:Int)) (pace:=q) (tm:=λg=>Fq.mk (T g) q.2) (rank:=rk) ok gB (by rw[ak];have:=h.r.len gn;have:=gn.m;omega) (by have:=gn.al;omega) (λa ha=>(gn.ok a ha).b) gn.r lq (λg=>(h.tz lq mD g).1) zq (λg=>(h.tz lq mD g).2)
 rw[en]at h1
 have:b=true:=h2.mpr ⟨h.rng,by rw[e1,e2];exact h.qe.symm,h.kpt lq λg=>(h.tz lq mD g).1⟩
 rw[this]at h1
 exact h1
theorem zum (lq:Fq.Low q)(h2:q.2<=160)(h0:0<=q.1)(h1:q.1<=120000000000):vn [fr q]=some (fr (Fq.mk (q.1*100-1) (q.2*100))):=by
 have hg:=lq.gt
 have hz:Sz 8000 (q.2*100):=jz (w:=16000) (by omega) (by omega) (by decide)
 obtain⟨s',w1,w2,w3,_⟩:=IT (c:=tb (e2 (eK true) (eV 2) (eC (D.int 0)))) (b:=uw) (λs:Int×Int=>[some (fr q),some (.int s.1),some (.int s.2)]) (λs=>!decide (s.2=0)) (λs=>(s.2,s.1.fmod s.2)) (λs=>s.2.natAbs) (λs=>dm s.1 s.2=dm (q.1*100-1) (q.2*100))
  (λs hp=>by
   generalize fr q=F
   walk_at "mir") (λs hp ht=>by
   have hs:s.2≠0:=by simpa using ht
   refine⟨.inl ?_,(Fq.gcd_step s.1 s.2).trans hp,Fq.fmod_less s.1 hs⟩
   unfold uw
   have:=NF (i:=s.1) hs
   generalize fr q=F
   walk_at "mir") lH (q.1*100-1,q.2*100) rfl (Ju hz (by decide))
 have w3:s'.2=0:=by simpa using w3
 have w4:=Fq.gcd_end s'.1
 rw[w3]at w2
 rw[w2]at w4
 have Vf:=Fq.gcd_pos (t:=q.1*100-1) (b:=q.2*100) (by omega)
 have vZ:=Fq.dv_le (t:=q.1*100-1) (b:=q.2*100) (by omega)
 rw[Fq.dv_abs]at vZ
 have OV:Fq.dv (q.1*100-1) (q.2*100)=((dm (q.1*100-1) (q.2*100):Nat):Int):=by unfold Fq.dv;rw[if_neg (by omega)]
 have t6:fr (Fq.mk (q.1*100-1) (q.2*100))=.tup [.int ((q.1*100-1).fdiv ((dm (q.1*100-1) (q.2*100):Nat):Int)),.int ((q.2*100).fdiv ((dm (q.1*100-1) (q.2*100):Nat):Int))]:=by
  unfold fr Fq.mk
  rw[OV]
 rw[t6]
 have UR:(q.2*100).natAbs<=16000:=by omega
 obtain⟨G,hG⟩:∃G:Int,((dm (q.1*100-1) (q.2*100):Nat):Int)=G:=⟨_,rfl⟩
 have US:0<G/\G<=16000:=by omega
 rw[hG]at w4 ⊢
 have zG:Sz 9000 G:=jz (w:=16000) (by omega) (by omega) (by decide)
 have ab:oV [.int s'.1]=some (.int G):=by
  rw[zfe]
  exact congrArg (λx=>some (D.int x)) w4
 have d1:=Jg (i:=q.1*100-1) (j:=G) (by omega) zG
 have d2:=Jg (i:=q.2*100) (j:=G) (by omega) zG
 have m1:cT (.int q.1) (.int 100)=some (.int (q.1*100)):=zb1 (by decide) (by decide)
 have m2:cT (.int q.2) (.int 100)=some (.int (q.2*100)):=zb1 (by decide) (by decide)
 have p0:=t4 q
 have p1:=mz q
 obtain⟨s1,s2⟩:=s'
 dsimp only at w1 w3 ab
 subst w3
 clear w2 w4 t6 OV vZ Vf hG UR US zG hz hg lq h0 h1 h2
 generalize (q.1*100-1).fdiv G=u1,(q.2*100).fdiv G=u2 at *
 generalize q.1*100=u3,q.2*100=u4,fr q=F at *
 unfold vn fV
 generalize (tb (e2 (eK true) (eV 2) (eC (D.int 0))))=cc at *
 walk_at "mir"
theorem zvg {ns:List D}(gB:ns.length=many)(h:An many as R q T)(gn:GN many as (ax as.length) rk mb):∃d1 d2:D,xt [bU ns as,fr q]=some (.tup [.str "times",d1])/\xt [bU ns as,fr (Fq.mk (q.1*100-1) (q.2*100))]=some (.tup [.str "ring",d2]):=by
 obtain⟨lq,zq,mD,n0,n1⟩:=h.low gn
 have Bp:=lq.gt
 obtain⟨M,lS,hM⟩:=Jq as q as.length
 obtain⟨d,t1,t2⟩:=R5 (ns:=ns) (p:=q) gB gn.m1 (by have:=gn.m;omega) (by have:=gn.al;omega) gn.ok (by omega) (zq.2.mono (by decide)) hM lS
 have lp:Fq.Low (Fq.mk (q.1*100-1) (q.2*100)):=Fq.mk_low (by omega)
 have Vq:=lp.gt
 have z2:Sz 8000 (Fq.mk (q.1*100-1) (q.2*100)).2:=(jz (n:=8000) (i:=q.2*100) (w:=16000) (by omega) (by omega) (by decide)).le (Fq.mk_le_two (by omega))
 have cr:=Fq.mk_cross (q.1*100-1) (q.2*100)
 generalize Fq.mk (q.1*100-1) (q.2*100)=p at *
 obtain⟨M',Lj,UV⟩:=Jq as p as.length
 obtain⟨d',s1,s2⟩:=R5 (ns:=ns) (p:=p) gB gn.m1 (by have:=gn.m;omega) (by have:=gn.al;omega) gn.ok (by omega) z2 UV Lj
 have e1:∃d1,d=.tup [.str "times",d1]:=by
  rcases t2 with⟨T',rfl,_⟩|⟨R2,x,rfl,r1,r2,r3,r4,r5⟩
  ·exact⟨_,rfl⟩
  ·exfalso
   rw[Hu]at r5
   have:=h.mx R2 ⟨r1,⟨x,r2⟩,r3,r4⟩
   unfold sT sB at this
   rw[iP q.1]at this
   omega
 have e2:∃d2,d'=.tup [.str "ring",d2]:=by
  rcases s2 with⟨T',rfl,hk,_⟩|⟨R2,x,rfl,_⟩
  ·exfalso
   have rJ:=(show Kp as (ax as.length) p from⟨T',hk⟩).le h.r
   have bds:=h.r.bds gn
   have cm:=Fq.mk_cross (sT as R) (sB as R)
   rw[←h.qe]at cm
   have h3:sT as R*p.2*(q.2*100)<=p.1*sB as R*(q.2*100):=aU rJ (by omega)
   have h4:p.1*sB as R*(q.2*100)=(q.1*100-1)*p.2*sB as R:=by rw[←cr];grind
   have h5:sT as R*p.2*(q.2*100)=q.1*100*p.2*sB as R:=by
    have:sT as R*p.2*(q.2*100)=(sT as R*q.2)*(p.2*100):=by grind
    rw[this,←cm]
    grind
   have h6:(q.1*100-1)*p.2*sB as R=q.1*100*p.2*sB as R-p.2*sB as R:=by grind
   have h7:0<p.2*sB as R:=cU Vq (by omega)
   omega
  ·exact⟨_,rfl⟩
 obtain⟨d1,rfl⟩:=e1
 obtain⟨d2,rfl⟩:=e2
 exact⟨d1,d2,t1,s1⟩
end
theorem zvh {many:Nat}{rk:Nat->Nat}{as:List cO}{ns:List D}(h1:1<=many)(h2:many<=40)(h3:as.length<=120)(lL:∀a∈as,Drawn many rk a):∃mb:Nat,nn 4 "most_behind" yy (bU ns (as.map λa=>nJ a (a.s:Int))) []=some (.int (mb:Int))/\(∀aT:List Nat,(∀n∈aT,n<as.length)->aT.length<=120->GN many (as.map λa=>nJ a (a.s:Int)) aT rk mb)/\∀aT:List Nat,(∀n∈aT,n<as.length)->aT.length<=120->GN many as aT rk mb:=by
 obtain⟨mb,m1,m2,m3,m4⟩:=zr9 (ns:=ns) (as:=as.map λa=>nJ a (a.s:Int)) (by rw[ak];exact h3)
 have uP:mb<=4:=m4 4 (by decide) λa ha=>by
  obtain⟨a',h,rfl⟩:=bM.mp ha
  exact(lL a' h).b
 refine⟨mb,m1,λaT hn hl=>⟨h1,h2,by rw[ak];exact h3,λa ha=>?_,λn hx=>by rw[ak];exact hn n hx,hl,λa ha=>?_,m2,uP,m3⟩,λaT hn hl=>⟨h1,h2,h3,λa ha=>⟨(lL a ha).s,(lL a ha).g,(lL a ha).t0,(lL a ha).t1,(lL a ha).b⟩,hn,hl,λa ha=>(lL a ha).r,m2,uP,λa ha=>m3 (nJ a (a.s:Int)) (bM.mpr ⟨a,ha,rfl⟩)⟩⟩
 ·obtain⟨a',h,rfl⟩:=bM.mp ha
  exact⟨(lL a' h).s,(lL a' h).g,(lL a' h).t0,(lL a' h).t1,(lL a' h).b⟩
 ·obtain⟨a',h,rfl⟩:=bM.mp ha
  exact(lL a' h).r
def mE:SF:=(sSeq (sSet 6 (λρ=>((aCons (eV 5) aNil) ρ).bind λds=>vp (ds++[])))
  (sSeq (sIf (tb (λρ=>((aCons (eV 3) (aCons (eV 1) aNil)) ρ).bind λds=>ui (ds++[]))) (sRet (e2 (oX false) (eV 6) (eC .non))) sSkip)
  (sSeq (sIf (bOr (bNot (tb (λρ=>((aCons (eV 3) (aCons (eV 1) (aCons (eV 6) aNil))) ρ).bind λds=>ux (ds++[])))) (tb (e2 (oX true) (λρ=>((aCons (eV 5) (aCons (eV 6) aNil)) ρ).bind λds=>wW (ds++[])) (eC (.bl true))))) (sRet (eC (.bl false))) sSkip)
  (sSeq (sSet 7 (zC (e2 cH (eV 6) (eC (.int 0)))))
  (sSeq (sIf (tb (eV 4)) (sSeq (sSet 8 (λρ=>((aCons (eV 7) aNil) ρ).bind λds=>vn (ds++[])))
  (sRet (eB (bAnd (tb (e2 (eK false) (e2 cH (λρ=>((aCons (eV 5) (aCons (eV 7) aNil)) ρ).bind λds=>xt (ds++[])) (eC (.int 0))) (eC (.str "times")))) (tb (e2 (eK false) (e2 cH (λρ=>((aCons (eV 5) (aCons (eV 8) aNil)) ρ).bind λds=>xt (ds++[])) (eC (.int 0))) (eC (.str "ring")))))))) sSkip)
  (sSeq (ou 6 (eC (.int 1)))
  (sSeq (oo 6 (eC (.int 2)) (λρ=>((aCons (eC (.int 7)) (aCons (eC (.int 1)) aNil)) ρ).bind λds=>some (.tup ds)))
  (sSeq (sSet 9 (λρ=>((aCons (eV 5) aNil) ρ).bind λds=>vp (ds++[])))
  (sRet (eB (bAnd (tb (λρ=>((aCons (eV 3) (aCons (eV 1) (aCons (eV 9) aNil))) ρ).bind λds=>ux (ds++[]))) (bAnd (tb (e2 (eK false) (e2 cH (eV 9) (eC (.int 0))) (eV 7))) (tb (e2 (oX false) (λρ=>((aCons (eV 5) (aCons (eV 9) aNil)) ρ).bind λds=>wW (ds++[])) (eC (.bl true))))))))))))))))
theorem LV {a c:D}{rl:List D}:Ai (λ_=>some []) (.tup [a,.lst rl,c]) (.int 1)=some (.tup [a,.lst [],c]):=rfl
theorem LW {a b d:D}{tl:List D}(h:tl.length<16777216):Ai (pW d) (.tup [a,b,.lst tl]) (.int 2)=some (.tup [a,b,.lst (tl++[d])]):=by
 have:pW d tl=some (tl++[d]):=by unfold pW;rw[if_pos h]
 show((pW d tl).bind _)=_
 rw[this]
 rfl
theorem zo3 {e0 e2:Option D}{ns:List D}{many:Nat}{as:List cO}{rk:Nat->Nat}{big:Bool}(h1:1<=many)(h2:many<=40)(h3:as.length<=120)(gB:ns.length=many)(lL:∀a∈as,Drawn many rk a)(hok:lh many (as.map λa=>nJ a (a.s:Int))) :
  mE [e0,some (.int (many:Int)),e2,some (.lst (as.map bL)),some (.bl big),some (bU ns (as.map λa=>nJ a (a.s:Int))),none,none,none,none]=some (.rt (.bl true)):=by
 obtain⟨mb,p4,gn,_⟩:=zvh (ns:=ns) h1 h2 h3 lL
 have OX:as.map bL=(as.map λa=>nJ a (a.s:Int)).map bL:=by rw[bF];rfl
 have Lp:(as.map λa=>nJ a (a.s:Int)).length=as.length:=ak ..
 rw[OX]
 have ga:GN many (as.map λa=>nJ a (a.s:Int)) (ax (as.map λa=>nJ a (a.s:Int)).length) rk mb:=by
  rw[Lp]
  exact gn _ (λn hn=>bx.mp hn) (by rw[bD];exact h3)
 have vZ:∀a∈(as.map λa=>nJ a (a.s:Int)),a.g<many:=λa ha=>(hok.right a ha).g
 rw[←Lp]at h3
 clear OX Lp gn lL
 generalize (as.map λa=>nJ a (a.s:Int))=bs at *
 obtain⟨d,p1,p2⟩:=zsc ga gB p4
 have le:=zsd ga gB p1
 obtain⟨b,nr,hb⟩:=ZV (as:=bs) (many:=many) h3 h2 vZ
 rcases p2 with⟨rfl,hN⟩|⟨R,q,T,rfl,hR,O5,O2,hk,hT⟩
 ·have:b=true:=hb.mpr hN
  rw[this]at nr
  have isn:oX false .non .non=some (.bl true):=rfl
  generalize bU ns bs=net,bs.map bL=al at *
  clear hb hN this p1 ga p4 hok vZ
  unfold mE
  walk_at "mir"
 ·have:b=false:=by
   cases b with
   |false=>rfl
   |true=>exact absurd hR (hb.mp rfl R)
  rw[this]at nr
  have an:An many bs R q T:=⟨hR,O5,O2,hk,hT⟩
  have ri:=ZW an ga
  have ho:=zmx hok gB an ga
  obtain⟨lq,zq,mD,n0,n1⟩:=an.low ga
  have ls:=zum lq mD n0 n1
  obtain⟨d1,d2,t1,t2⟩:=zvg gB an ga
  have i1:oX true (.bl true) (.bl true)=some (.bl false):=rfl
  have i2:oX false (.bl true) (.bl true)=some (.bl true):=rfl
  have tp:∀a b c:D,cH (.tup [a,b,c]) (.int 0)=some a:=λ_ _ _=>rfl
  have j0:∀a b:D,cH (.tup [a,b]) (.int 0)=some a:=λ_ _=>rfl
  have e1:eK false (.str "times") (.str "times")=some (.bl true):=by with_unfolding_all rfl
  have tZ:eK false (.str "ring") (.str "ring")=some (.bl true):=by with_unfolding_all rfl
  have ef:=OL (neg:=false) q q
  rw[if_neg (by decide),decide_eq_true rfl]at ef
  have hl:((ax many).map λg=>fr (Fq.mk (T g) q.2)).length<16777216:=by rw[ak,bD];omega
  have c1:=LV (a:=fr q) (c:=hV many q T) (rl:=aB R)
  have c2:=LW (a:=fr q) (b:=.lst []) (d:=.tup [.int 7,.int 1]) hl
  replace c2:Ai (pW (.tup [.int 7,.int 1])) (.tup [fr q,.lst [],hV many q T]) (.int 2)=_:=c2
  clear hb this p1 ga p4 hok vZ an hR O5 O2 hk hT lq zq mD n0 n1 hl
  generalize ((ax many).map λg=>fr (Fq.mk (T g) q.2))++[.tup [.int 7,.int 1]]=Yn,fr (Fq.mk (q.1*100-1) (q.2*100))=FL,hV many q T=TM,aB R=rl,bU ns bs=net,bs.map bL=al at *
  unfold fr at *
  unfold mE zC ou oo
  cases big
  ·walk_at "mir"
  ·walk_at "mir"
theorem zvi {ns:List Int}{bW:Int}{many:Nat}{mk:Int->cO}(t6:∀c,ve [.int c,.int (many:Int),.int bW]=some (bL (mk c)))(r:L3.Env)(h0:r[0]?.join=some (.lst (ns.map .int)))(h1:r[1]?.join=some (.int (many:Int)))(h2:r[2]?.join=some (.int bW)):Jz r=some (.lst ((((ns.drop 4).take 16).map mk).map bL)):=by
 rw[bF]
 refine jy D.int (λc=>bL (mk c)) ((ns.drop 4).take 16) (zos 0 4 20 h0) (by rw[ei];omega) λc _=>⟨_,rfl,?_⟩
 have gz:fF r [1,2]=[some (.int (many:Int)),some (.int bW)]:=by unfold fF;simp[h1,h2]
 rw[gz]
 have:=t6 c
 clear gz t6 h0 h1 h2
 walk_at "mir"
def fwd (bW:Int)(many:Nat)(a:cO):Bool:=decide (((a.s:Int)+bW)%(many:Int)<((a.g:Int)+bW)%(many:Int))
theorem zvj {as:List cO}{bW:Int}{many:Nat}(hm:1<=many)(hl:as.length<=1000)(r:L3.Env)(h1:r[1]?.join=some (.int (many:Int)))(h2:r[2]?.join=some (.int bW))(h3:r[3]?.join=some (.lst (as.map bL))):Jy r=some (.lst ((as.filter (fwd bW many)).map bL)):=by
 refine BH (own:=1) (cap:=[2,1]) (g:=gV 0) (fi:=lsD (eV 3)) bL (fwd bW many) bL as (by unfold lsD;have:eV 3 r=_:=h3;rw[this];rfl) (by omega) λa _=>⟨_,rfl,?_,λ_=>rfl⟩
 have gz:fF r [2,1]=[some (.int bW),some (.int (many:Int))]:=by unfold fF;simp[h1,h2]
 rw[gz]
 have i0:cH (bL a) (.int 0)=some (.int (a.s:Int)):=rfl
 have i1:cH (bL a) (.int 1)=some (.int (a.g:Int)):=rfl
 have m1:cX (.int ((a.s:Int)+bW)) (.int (many:Int))=some (.int (((a.s:Int)+bW)%(many:Int))):=jg (by omega)
 have m2:cX (.int ((a.g:Int)+bW)) (.int (many:Int))=some (.int (((a.g:Int)+bW)%(many:Int))):=jg (by omega)
 unfold fwd
 generalize ((a.s:Int)+bW)%(many:Int)=u1,((a.g:Int)+bW)%(many:Int)=u2,bL a=ea at *
 clear gz h1 h2 h3 hl hm
 walk_at "mir"
theorem zvk {many:Nat}(hm:many<=40)(r:L3.Env)(h1:r[1]?.join=some (.int (many:Int))):NI r=some (.lst (nm many)):=by
 refine jy (λ(t:Nat)=>D.int (t:Int)) (λ(k:Nat)=>D.str ("a"++wI (k:Int))) (ax many) (Su h1 (by omega)) (by rw[bD];omega) λg hg=>⟨_,rfl,?_⟩
 have hg:=bx.mp hg
 obtain⟨s1,s2⟩:=zrz g (by omega)
 clear hg h1 hm
 walk_at "mir"
theorem zvl {as:List cO}(hl:as.length<=1000)(r:L3.Env)(h3:r[3]?.join=some (.lst (as.map bL))):NH r=some (.lst ((as.map λa=>nJ a (a.s:Int)).map bV)):=by
 rw[bF]
 refine jy bL (λa=>bV (nJ a (a.s:Int))) as (by unfold lsD;have:eV 3 r=_:=h3;rw[this];rfl) (by omega) λa _=>⟨_,rfl,?_⟩
 have i0:cH (bL a) (.int 0)=some (.int (a.s:Int)):=rfl
 have:=zt6 a a.s
 clear hl h3
 walk_at "mir"
def kN:SF:=(sSeq (sSet 5 (λρ=>((aCons NI (aCons NH aNil)) ρ).bind λds=>jl 4 (ds++[]))) mE)
theorem N6 {e0 e2:Option D}{m:Nat}{bs:List cO}{rk:Nat->Nat}{big:Bool}(m1:1<=m)(Am:m<=40)(bl:bs.length<=120)(bd:∀a∈bs,Drawn m rk a):kN [e0,some (.int (m:Int)),e2,some (.lst (bs.map bL)),some (.bl big),none,none,none,none,none]=some (.rt (.bl true)):=by
 have ok:=zo2 (rk:=rk) (λa=>(a.s:Int)) m1 Am (as:=bs) bl bd
 have Ir:(nm m).length=m:=by unfold nm;rw[ak,bD]
 have Vl:=zva ok Ir (zmw m1 Am)
 have k2:=zvk Am [e0,some (.int (m:Int)),e2,some (.lst (bs.map bL)),some (.bl big),none,none,none,none,none] rfl
 have k1:=zvl (as:=bs) (by omega) [e0,some (.int (m:Int)),e2,some (.lst (bs.map bL)),some (.bl big),none,none,none,none,none] rfl
 have re:=zo3 (e0:=e0) (e2:=e2) (ns:=nm m) (as:=bs) (big:=big) m1 Am bl Ir bd ok
 clear ok Ir bd bl
 generalize bU (nm m) (bs.map λa=>nJ a (a.s:Int))=net,(bs.map λa=>nJ a (a.s:Int)).map bV=mks,bs.map bL=Uw at *
 generalize nm m=nml at *
 unfold kN
 generalize mE=RS at *
 walk_at "mir"
theorem zo4 (ns:List Int)(hl:ns.length<=63):JK [.lst (ns.map .int)]=some (.bl true):=by
 obtain⟨c0,hc0⟩:=N1 ns 0 (by decide)
 obtain⟨c1,Lr⟩:=N1 ns 1 (by decide)
 obtain⟨c2,Bj⟩:=N1 ns 2 (by decide)
 obtain⟨many,Ex,sV,O1⟩:∃m:Nat,1+c0%8=(m:Int)/\1<=m/\m<=8:=⟨(1+c0%8).toNat,by omega,by omega,by omega⟩
 obtain⟨mk,rk,t6,Il⟩:=drawn (c0/8) sV (by omega:many<=1000)
 generalize has:((ns.drop 4).take 16).map mk=as
 have gu:as.length<=16:=by rw[←has,ak,ei];omega
 have lL:∀a∈as,Drawn many rk a:=λa ha=>by
  rw[←has]at ha
  obtain⟨c,_,rfl⟩:=bM.mp ha
  exact Il c
 have k4:=zvi (ns:=ns) (many:=many) t6 [some (.lst (ns.map .int)),some (.int (many:Int)),some (.int (c0/8)),none,none,none,none,none,none,none] rfl rfl rfl
 rw[has]at k4
 have k3:=zvj (as:=as) (bW:=c0/8) (many:=many) sV (by omega) [some (.lst (ns.map .int)),some (.int (many:Int)),some (.int (c0/8)),some (.lst (as.map bL)),none,none,none,none,none,none] rfl rfl rfl
 have fd8:∀z:Int,ed (.int z) (.int 8)=some (.int (z/8)):=λz=>zgt (by decide) (by decide)
 have Io:(as.filter (fwd (c0/8) many)).length<=120:=by have:=pq (fwd (c0/8) many) as;omega
 have Im:∀a∈as.filter (fwd (c0/8) many),Drawn many rk a:=λa ha=>lL a (ce.mp ha).1
 by_cases U5:c1%9=5
 ·obtain⟨m,bs,big,⟨VN,Am⟩,bl,bd⟩:=zvf c2
  have tl:=N6 (e0:=some (.lst (ns.map .int))) (e2:=some (.int (c0/8))) (big:=true) (by omega) Am bl bd
  have asg:∀z3:Option D,sAsg (gT (gsCons (gV 1) (gsCons (gV 3) gsNil))) (λρ=>((aCons (λρ=>((aCons (eV 0) (aCons (eC (.int 2)) aNil)) ρ).bind λds=>zl (ds++[])) aNil) ρ).bind λds=>ja (ds++[])) [some (.lst (ns.map .int)),some (.int (many:Int)),some (.int (c0/8)),z3,some (.bl true),none,none,none,none,none]=some (.nx [some (.lst (ns.map .int)),some (.int (m:Int)),some (.int (c0/8)),some (.lst (bs.map bL)),some (.bl true),none,none,none,none,none]):=by
   intro z3
   have e:(λρ=>((aCons (λρ=>((aCons (eV 0) (aCons (eC (.int 2)) aNil)) ρ).bind λds=>zl (ds++[])) aNil) ρ).bind λds=>ja (ds++[])) [some (.lst (ns.map .int)),some (.int (many:Int)),some (.int (c0/8)),z3,some (.bl true),none,none,none,none,none]=some (.tup [.int (m:Int),.lst (bs.map bL)]):=by
    show((aCons (λρ=>((aCons (eV 0) (aCons (eC (.int 2)) aNil)) ρ).bind λds=>zl (ds++[])) aNil) [some (.lst (ns.map .int)),some (.int (many:Int)),some (.int (c0/8)),z3,some (.bl true),none,none,none,none,none]).bind _=_
    have e1:(aCons (λρ=>((aCons (eV 0) (aCons (eC (.int 2)) aNil)) ρ).bind λds=>zl (ds++[])) aNil) [some (.lst (ns.map .int)),some (.int (many:Int)),some (.int (c0/8)),z3,some (.bl true),none,none,none,none,none]=some [.int c2]:=by
     generalize ns.map D.int=nl at *
     clear tl k3 k4 t6 Il has lL Io Im big bd
     walk_at "mir"
    rw[e1]
    exact big
   unfold sAsg
   rw[e]
   rfl
  generalize (as.filter (fwd (c0/8) many)).map bL=fl,as.map bL=al,bs.map bL=Uw at *
  generalize Eh:sAsg (gT (gsCons (gV 1) (gsCons (gV 3) gsNil))) (λρ=>((aCons (λρ=>((aCons (eV 0) (aCons (eC (.int 2)) aNil)) ρ).bind λds=>zl (ds++[])) aNil) ρ).bind λds=>ja (ds++[]))=AS at *
  have EA:JK=mOf ["_law_script","_law_many","_law_turn","_law_arrows","_law_is_big","_law_net","_law_found","_law_beat","_law_lesser","_law_again"] (sSeq (sSet 1 (e2 ej (eC (.int 1)) (e2 cX (λρ=>((aCons (eV 0) (aCons (eC (.int 0)) aNil)) ρ).bind λds=>zl (ds++[])) (eC (.int 8))))) (sSeq (sSet 2 (e2 ed (λρ=>((aCons (eV 0) (aCons (eC (.int 0)) aNil)) ρ).bind λds=>zl (ds++[])) (eC (.int 8)))) (sSeq (sSet 3 Jz) (sSeq (sIf (tb (e2 (eK false) (e2 cX (λρ=>((aCons (eV 0) (aCons (eC (.int 1)) aNil)) ρ).bind λds=>zl (ds++[])) (eC (.int 4))) (eC (.int 1)))) (sSet 3 Jy) sSkip) (sSeq (sSet 4 (e2 (eK false) (e2 cX (λρ=>((aCons (eV 0) (aCons (eC (.int 1)) aNil)) ρ).bind λds=>zl (ds++[])) (eC (.int 9))) (eC (.int 5)))) (sSeq (sIf (tb (eV 4)) AS sSkip) kN)))))):=by rw[←Eh];rfl
  rw[EA]
  clear EA Eh t6 Il has gu lL Io Im sV O1 hl big bd bl VN Am
  generalize kN=TT at *
  by_cases h4:c1%4=1<;>walk_at "mir"
 ·have tl1:=N6 (e0:=some (.lst (ns.map .int))) (e2:=some (.int (c0/8))) (big:=false) sV (by omega) (by omega:as.length<=120) lL
  have Yn:=N6 (e0:=some (.lst (ns.map .int))) (e2:=some (.int (c0/8))) (big:=false) sV (by omega) Io Im
  generalize (as.filter (fwd (c0/8) many)).map bL=fl,as.map bL=al at *
  generalize Eh:sAsg (gT (gsCons (gV 1) (gsCons (gV 3) gsNil))) (λρ=>((aCons (λρ=>((aCons (eV 0) (aCons (eC (.int 2)) aNil)) ρ).bind λds=>zl (ds++[])) aNil) ρ).bind λds=>ja (ds++[]))=AS at *
  have EA:JK=mOf ["_law_script","_law_many","_law_turn","_law_arrows","_law_is_big","_law_net","_law_found","_law_beat","_law_lesser","_law_again"] (sSeq (sSet 1 (e2 ej (eC (.int 1)) (e2 cX (λρ=>((aCons (eV 0) (aCons (eC (.int 0)) aNil)) ρ).bind λds=>zl (ds++[])) (eC (.int 8))))) (sSeq (sSet 2 (e2 ed (λρ=>((aCons (eV 0) (aCons (eC (.int 0)) aNil)) ρ).bind λds=>zl (ds++[])) (eC (.int 8)))) (sSeq (sSet 3 Jz) (sSeq (sIf (tb (e2 (eK false) (e2 cX (λρ=>((aCons (eV 0) (aCons (eC (.int 1)) aNil)) ρ).bind λds=>zl (ds++[])) (eC (.int 4))) (eC (.int 1)))) (sSet 3 Jy) sSkip) (sSeq (sSet 4 (e2 (eK false) (e2 cX (λρ=>((aCons (eV 0) (aCons (eC (.int 1)) aNil)) ρ).bind λds=>zl (ds++[])) (eC (.int 9))) (eC (.int 5)))) (sSeq (sIf (tb (eV 4)) AS sSkip) kN)))))):=by rw[←Eh];rfl
  rw[EA]
  clear EA Eh t6 Il has gu lL Io Im sV O1 hl
  generalize kN=TT at *
  by_cases h4:c1%4=1<;>walk_at "mir"
section
variable {P:bB}{w:cj}{K:aa}{mg:aQ->Option ae}{base:aZ}{a:BV}
theorem zun (T:Txt K mg a):cx P w K mg base ez 8 a.f_law a.d_law ["_law_script"] (nN K):=ztq (zt0 T) zo4
end
abbrev cA (x q:aQ)(s:bP):=gq x q (lR s) (gx s) (aL s)
theorem all_mk {l:kW}{w:cj}{K:aa}{h:aZ}{mg:aQ->Option ae}(X:K.In h)(G:h.Ns ap mg)(Vb:mg "law"=some (.ref fa))
  
  (aC_Arrow:ar K ap "Arrow"=some (some (.ref c_Arrow))) (pg_Arrow:dk K c_Arrow aQ.empty=true) (hd_Arrow:dF K c_Arrow=true) (po_Arrow:dY K c_Arrow=true) (sa_Arrow:aA K (.ref c_Arrow) "__setattr__"=some (some (.builtin "object.__setattr__"))) (mk_Arrow:dX K c_Arrow=true) (kc_Arrow:ao K (.ref c_Arrow)=true)
  (aC_Ride:ar K ap "Ride"=some (some (.ref c_Ride))) (pg_Ride:dk K c_Ride aQ.empty=true) (hd_Ride:dF K c_Ride=true) (po_Ride:dY K c_Ride=true) (sa_Ride:aA K (.ref c_Ride) "__setattr__"=some (some (.builtin "object.__setattr__"))) (mk_Ride:dX K c_Ride=true) (kc_Ride:ao K (.ref c_Ride)=true)
  (aC_Wait:ar K ap "Wait"=some (some (.ref c_Wait))) (pg_Wait:dk K c_Wait aQ.empty=true) (hd_Wait:dF K c_Wait=true) (po_Wait:dY K c_Wait=true) (sa_Wait:aA K (.ref c_Wait) "__setattr__"=some (some (.builtin "object.__setattr__"))) (mk_Wait:dX K c_Wait=true) (kc_Wait:ao K (.ref c_Wait)=true)
  (aC_Back:ar K ap "Back"=some (some (.ref c_Back))) (pg_Back:dk K c_Back aQ.empty=true) (hd_Back:dF K c_Back=true) (po_Back:dY K c_Back=true) (sa_Back:aA K (.ref c_Back) "__setattr__"=some (some (.builtin "object.__setattr__"))) (mk_Back:dX K c_Back=true) (kc_Back:ao K (.ref c_Back)=true)
  (aC_Net:ar K ap "Net"=some (some (.ref c_Net))) (pg_Net:dk K c_Net aQ.empty=true) (hd_Net:dF K c_Net=true) (po_Net:dY K c_Net=true) (sa_Net:aA K (.ref c_Net) "__setattr__"=some (some (.builtin "object.__setattr__"))) (mk_Net:dX K c_Net=true) (kc_Net:ao K (.ref c_Net)=true)
  (a0:aA K (.ref c_Arrow) "__init__"=some (some (.ref f0))) (i0:el K (.ref f0)=true)
  (l0:K.lookup f0=some ⟨oc0,od0,.func (cA "__init__" "Arrow.__init__" yw .none O9 OC Pq Of J2 Ot),sl0⟩) (c0:aw K J2 "Arrow.__init__"=true) (k0:ao K (.ref f0)=true)
  (a1:aA K (.ref c_Ride) "__init__"=some (some (.ref f1))) (i1:el K (.ref f1)=true)
  (l1:K.lookup f1=some ⟨oc1,od1,.func (cA "__init__" "Ride.__init__" xi .none Pa OD Ps Og J3 Ou),sl1⟩) (c1:aw K J3 "Ride.__init__"=true) (k1:ao K (.ref f1)=true)
  (a2:aA K (.ref c_Wait) "__init__"=some (some (.ref f2))) (i2:el K (.ref f2)=true)
  (l2:K.lookup f2=some ⟨oc2,od2,.func (cA "__init__" "Wait.__init__" yj (.ref Bt) LY Kf Mc JX HW Kb),G4⟩) (c2:aw K HW "Wait.__init__"=true) (k2:ao K (.ref f2)=true)
  (t2:K.lookup Bt=some ⟨tc2,Yl,.seq #[.int 0 Hh] tn2,Yo⟩)
  (a3:aA K (.ref c_Back) "__init__"=some (some (.ref f3))) (i3:el K (.ref f3)=true)
  (l3:K.lookup f3=some ⟨oc3,od3,.func (cA "__init__" "Back.__init__" yk (.ref Bu) LZ Kg Md JY HX Kc),sl3⟩) (c3:aw K HX "Back.__init__"=true) (k3:ao K (.ref f3)=true)
  (t3:K.lookup Bu=some ⟨tc3,Ym,.seq #[.int 1 Hi] IM,Yp⟩)
  (a4:ar K ap "is_letter"=some (some (.ref f4)))
  (l4:K.lookup f4=some ⟨oc4,od4,.func (cA "is_letter" "is_letter" wb .none Pb OE Pt Oh J4 Ov),sl4⟩) (c4:aw K J4 "is_letter"=true) (k4:ao K (.ref f4)=true)
  (a5:ar K ap "is_figure"=some (some (.ref f5)))
  (l5:K.lookup f5=some ⟨oc5,od5,.func (cA "is_figure" "is_figure" wc .none Pc OF Pv Oi J5 Ox),sl5⟩) (c5:aw K J5 "is_figure"=true) (k5:ao K (.ref f5)=true)
  (a6:ar K ap "is_name"=some (some (.ref f6)))
  (l6:K.lookup f6=some ⟨oc6,od6,.func (cA "is_name" "is_name" vt .none Pd OG Pw Oj J6 Oy),sl6⟩) (c6:aw K J6 "is_name"=true) (k6:ao K (.ref f6)=true)
  (a7:ar K ap "are_names"=some (some (.ref f7)))
  (l7:K.lookup f7=some ⟨oc7,od7,.func (cA "are_names" "are_names" we .none Pe OH Px Ol J7 Oz),sl7⟩) (c7:aw K J7 "are_names"=true) (k7:ao K (.ref f7)=true)
  (a8:ar K ap "lies_within"=some (some (.ref f8)))
  (l8:K.lookup f8=some ⟨oc8,od8,.func (cA "lies_within" "lies_within" xj .none Pf OI Py Om J8 OA),sl8⟩) (c8:aw K J8 "lies_within"=true) (k8:ao K (.ref f8)=true)
  (a9:ar K ap "is_right"=some (some (.ref f9)))
  (l9:K.lookup f9=some ⟨oc9,od9,.func (cA "is_right" "is_right" wu .none Pg OJ Pz On J9 OB),sl9⟩) (c9:aw K J9 "is_right"=true) (k9:ao K (.ref f9)=true)
  (a10:ar K ap "placed_goings"=some (some (.ref Km)))
  (l10:K.lookup Km=some ⟨VQ,Ww,.func (cA "placed_goings" "placed_goings" yo .none EZ Dz FY B5 xN CO),Xo⟩) (c10:aw K xN "placed_goings"=true) (k10:ao K (.ref Km)=true)
  (a11:ar K ap "ring_back_from"=some (some (.ref Kn)))
  (l11:K.lookup Kn=some ⟨VR,Wx,.func (cA "ring_back_from" "ring_back_from" ye .none E1 DA FZ B6 xO CP),Xp⟩) (c11:aw K xO "ring_back_from"=true) (k11:ao K (.ref Kn)=true)
  (a12:aA K (.ref c_Net) "__init__"=some (some (.ref Ib))) (i12:el K (.ref Ib)=true)
  (l12:K.lookup Ib=some ⟨VS,Wy,.func (cA "__init__" "Net.__init__" xv .none E3 DB Ga B7 xP CQ),Xq⟩) (c12:aw K xP "Net.__init__"=true) (k12:ao K (.ref Ib)=true)
  (a13:aA K (.ref c_Net) "most_behind"=some (some (.ref Ie))) (i13:el K (.ref Ie)=true)
  (l13:K.lookup Ie=some ⟨VT,Wz,.func (cA "most_behind" "Net.most_behind" ya .none E4 DC Gb B8 xQ CS),Xr⟩) (c13:aw K xQ "Net.most_behind"=true) (k13:ao K (.ref Ie)=true)
  (a14:ar K ap "common_divisor"=some (some (.ref Ko)))
  (l14:K.lookup Ko=some ⟨VU,WA,.func (cA "common_divisor" "common_divisor" yf .none E5 DD Gc B9 xR CT),Xt⟩) (c14:aw K xR "common_divisor"=true) (k14:ao K (.ref Ko)=true)
  (a15:ar K ap "ratio"=some (some (.ref Kq)))
  (l15:K.lookup Kq=some ⟨VV,WB,.func (cA "ratio" "ratio" jp .none E6 DE Gd Ca xS CU),Xu⟩) (c15:aw K xS "ratio"=true) (k15:ao K (.ref Kq)=true)
  (a16:ar K ap "scaled"=some (some (.ref Kr)))
  (l16:K.lookup Kr=some ⟨VW,WC,.func (cA "scaled" "scaled" uo .none E7 DF Ge Cb xT CV),Xv⟩) (c16:aw K xT "scaled"=true) (k16:ao K (.ref Kr)=true)
  (a17:ar K ap "plus"=some (some (.ref Ks)))
  (l17:K.lookup Ks=some ⟨VX,WD,.func (cA "plus" "plus" By .none E8 DG Gf Cc xU CW),Xw⟩) (c17:aw K xU "plus"=true) (k17:ao K (.ref Ks)=true)
  (a18:ar K ap "minus"=some (some (.ref Kt)))
  (l18:K.lookup Kt=some ⟨VY,WE,.func (cA "minus" "minus" jq .none E9 DH Gg Cd xV CY),Xx⟩) (c18:aw K xV "minus"=true) (k18:ao K (.ref Kt)=true)
  (a19:ar K ap "under"=some (some (.ref Ku)))
  (l19:K.lookup Ku=some ⟨VZ,WF,.func (cA "under" "under" jr .none Fa DI Gh Ce xW CZ),Xy⟩) (c19:aw K xW "under"=true) (k19:ao K (.ref Ku)=true)
  (a20:ar K ap "is_ring"=some (some (.ref Kv)))
  (l20:K.lookup Kv=some ⟨V0,WG,.func (cA "is_ring" "is_ring" vv .none Fb DJ Gi Cf xX C0),Xz⟩) (c20:aw K xX "is_ring"=true) (k20:ao K (.ref Kv)=true)
  (a21:ar K ap "mean"=some (some (.ref Kw)))
  (l21:K.lookup Kw=some ⟨V1,WH,.func (cA "mean" "mean" Bz .none Fc DK Gj Cg xY C1),XB⟩) (c21:aw K xY "mean"=true) (k21:ao K (.ref Kw)=true)
  (a22:ar K ap "is_kept"=some (some (.ref Kx)))
  (l22:K.lookup Kx=some ⟨V2,WI,.func (cA "is_kept" "is_kept" vw .none Fd DL Gk Ci xZ C2),XC⟩) (c22:aw K xZ "is_kept"=true) (k22:ao K (.ref Kx)=true)
  (a23:ar K ap "fits"=some (some (.ref Ky)))
  (l23:K.lookup Ky=some ⟨V3,WJ,.func (cA "fits" "fits" BA .none Fe DM Gm Cj yA C3),XD⟩) (c23:aw K yA "fits"=true) (k23:ao K (.ref Ky)=true)
  (a24:ar K ap "push_once"=some (some (.ref Kz)))
  (l24:K.lookup Kz=some ⟨V4,WK,.func (cA "push_once" "push_once" wf .none Ff DN Gn Ck yB C4),XF⟩) (c24:aw K yB "push_once"=true) (k24:ao K (.ref Kz)=true)
  (a25:ar K ap "times_or_ring_along"=some (some (.ref KA)))
  (l25:K.lookup KA=some ⟨V5,WL,.func (cA "times_or_ring_along" "times_or_ring_along" zk .none Fg DO Gp Cm yC C5),XH⟩) (c25:aw K yC "times_or_ring_along"=true) (k25:ao K (.ref KA)=true)
  (a26:ar K ap "times_or_ring"=some (some (.ref KB)))
  (l26:K.lookup KB=some ⟨V6,WM,.func (cA "times_or_ring" "times_or_ring" yp .none Fh DP Gq Co yD C6),XJ⟩) (c26:aw K yD "times_or_ring"=true) (k26:ao K (.ref KB)=true)
  (a27:ar K ap "ring_above"=some (some (.ref KC)))
  (l27:K.lookup KC=some ⟨V7,WN,.func (cA "ring_above" "ring_above" xw .none Fi DQ Gr Cp yE C7),XN⟩) (c27:aw K yE "ring_above"=true) (k27:ao K (.ref KC)=true)
  (a28:ar K ap "midway"=some (some (.ref KD)))
  (l28:K.lookup KD=some ⟨V8,WO,.func (cA "midway" "midway" uq .none Fj DR Gs Cq yF C8),XQ⟩) (c28:aw K yF "midway"=true) (k28:ao K (.ref KD)=true)
  (a29:ar K ap "least_gap"=some (some (.ref KE)))
  (l29:K.lookup KE=some ⟨V9,WP,.func (cA "least_gap" "least_gap" wg .none Fk DS Gu Cr yG C9),XR⟩) (c29:aw K yG "least_gap"=true) (k29:ao K (.ref KE)=true)
  (a30:ar K ap "greatest_ring"=some (some (.ref KF)))
  (l30:K.lookup KF=some ⟨Wa,WQ,.func (cA "greatest_ring" "greatest_ring" yq .none Fl DT Gv Cs yH Dd),XU⟩) (c30:aw K yH "greatest_ring"=true) (k30:ao K (.ref KF)=true)
  (a31:ar K ap "paper_along"=some (some (.ref KG)))
  (l31:K.lookup KG=some ⟨Wb,WR,.func (cA "paper_along" "paper_along" xk .none Fm DU Gw Ct yI De),XX⟩) (c31:aw K yI "paper_along"=true) (k31:ao K (.ref KG)=true)
  (a32:ar K ap "least_round"=some (some (.ref KH)))
  (l32:K.lookup KH=some ⟨Wc,WS,.func (cA "least_round" "least_round" xm .none Fo DV Gx Cu yJ Df),XY⟩) (c32:aw K yJ "least_round"=true) (k32:ao K (.ref KH)=true)
  (a33:ar K ap "has_mean"=some (some (.ref KI)))
  (l33:K.lookup KI=some ⟨Wd,WT,.func (cA "has_mean" "has_mean" wv .none Fs DW Gy Cv yK Dg),XZ⟩) (c33:aw K yK "has_mean"=true) (k33:ao K (.ref KI)=true)
  (a34:ar K ap "holds"=some (some (.ref KJ)))
  (l34:K.lookup KJ=some ⟨We,WU,.func (cA "holds" "holds" jt .none Ft DX Gz Cw yL Dh),X0⟩) (c34:aw K yL "holds"=true) (k34:ao K (.ref KJ)=true)
  (a35:ar K ap "_law_cell_at"=some (some (.ref KL)))
  (l35:K.lookup KL=some ⟨Wf,WV,.func (cA "_law_cell_at" "_law_cell_at" xn .none Fu DY GA Cy yM Di),X1⟩) (c35:aw K yM "_law_cell_at"=true) (k35:ao K (.ref KL)=true)
  (a36:ar K ap "_law_whole"=some (some (.ref KM)))
  (l36:K.lookup KM=some ⟨Wg,WW,.func (cA "_law_whole" "_law_whole" wj .none Fv DZ GB Cz yN Dj),X2⟩) (c36:aw K yN "_law_whole"=true) (k36:ao K (.ref KM)=true)
  (a37:ar K ap "_law_is_row"=some (some (.ref KN)))
  (l37:K.lookup KN=some ⟨Wi,WX,.func (cA "_law_is_row" "_law_is_row" xx .none Fw D1 GC CA yO Dk),X3⟩) (c37:aw K yO "_law_is_row"=true) (k37:ao K (.ref KN)=true)
  (a38:ar K ap "_law_mixed"=some (some (.ref KO)))
  (l38:K.lookup KO=some ⟨Wj,WY,.func (cA "_law_mixed" "_law_mixed" wk .none Fx D2 GD CB yP Dl),X4⟩) (c38:aw K yP "_law_mixed"=true) (k38:ao K (.ref KO)=true)
  (a39:ar K ap "_law_rank"=some (some (.ref KP)))
  (l39:K.lookup KP=some ⟨Wl,WZ,.func (cA "_law_rank" "_law_rank" ww .none Fy D3 GF CC yQ Dn),X5⟩) (c39:aw K yQ "_law_rank"=true) (k39:ao K (.ref KP)=true)
  (a40:ar K ap "_law_arrow"=some (some (.ref KQ)))
  (l40:K.lookup KQ=some ⟨Wm,W1,.func (cA "_law_arrow" "_law_arrow" wm .none FA D4 GG CD yR Do),X6⟩) (c40:aw K yR "_law_arrow"=true) (k40:ao K (.ref KQ)=true)
  (a41:ar K ap "_law_big"=some (some (.ref KR)))
  (l41:K.lookup KR=some ⟨Wn,W2,.func (cA "_law_big" "_law_big" vx .none FB D5 GH CF yS Dp),X7⟩) (c41:aw K yS "_law_big"=true) (k41:ao K (.ref KR)=true)
  (a42:ar K ap "_law_made"=some (some (.ref KS)))
  (l42:K.lookup KS=some ⟨Wo,W3,.func (cA "_law_made" "_law_made" wx .none FC D6 GJ CG yT Dr),X8⟩) (c42:aw K yT "_law_made"=true) (k42:ao K (.ref KS)=true)
  (a43:ar K ap "_law_little_less"=some (some (.ref KU)))
  (l43:K.lookup KU=some ⟨Wp,W4,.func (cA "_law_little_less" "_law_little_less" yb .none FD D7 GK CH yU Ds),X9⟩) (c43:aw K yU "_law_little_less"=true) (k43:ao K (.ref KU)=true)
  (a44:ar K ap "_law_no_ring"=some (some (.ref KW)))
  (l44:K.lookup KW=some ⟨Wq,W5,.func (cA "_law_no_ring" "_law_no_ring" xo .none FE D8 GL CI yV Du),Ya⟩) (c44:aw K yV "_law_no_ring"=true) (k44:ao K (.ref KW)=true)
  (a45:ar K ap "_law_lowest"=some (some (.ref KY)))
  (l45:K.lookup KY=some ⟨Wr,W6,.func (cA "_law_lowest" "_law_lowest" xy .none FF D9 GM CJ yW Dv),Yb⟩) (c45:aw K yW "_law_lowest"=true) (k45:ao K (.ref KY)=true)
  (a46:ar K ap "_law_is_ring"=some (some (.ref KZ)))
  (l46:K.lookup KZ=some ⟨Ws,W7,.func (cA "_law_is_ring" "_law_is_ring" xp .none FG Ea GO CK yX Dw),Yc⟩) (c46:aw K yX "_law_is_ring"=true) (k46:ao K (.ref KZ)=true)
  (a47:ar K ap "_law_fit"=some (some (.ref K0)))
  (l47:K.lookup K0=some ⟨Wt,W8,.func (cA "_law_fit" "_law_fit" vz .none FH Ec GP CL yY Dx),Yd⟩) (c47:aw K yY "_law_fit"=true) (k47:ao K (.ref K0)=true)
  (a48:ar K ap "_law_right"=some (some (.ref K1)))
  (l48:K.lookup K1=some ⟨Wu,W9,.func (cA "_law_right" "_law_right" wn .none FI Ed GQ CM yZ Dy),Ye⟩) (c48:aw K yZ "_law_right"=true) (k48:ao K (.ref K1)=true)
  (a49:ar K ap "law"=some (some (.ref OM)))
  (l49:K.lookup OM=some ⟨Wv,Xa,.func (cA "law" "law" AU .none Aj zB Aw xK uM zA),Yf⟩) (c49:aw K uM "law"=true) (k49:ao K (.ref OM)=true)
  (qs_Arrow:dZ K (.ref c_Arrow) "__getattribute__"=some (some (.builtin "type.__getattribute__"))) (qr_Arrow:iB K c_Arrow (.type "type")=true) (qf_Arrow:iA K (.ref c_Arrow) (.type "type") "__init__"=some (.val (.ref f0)))
  (n_Net_arrows:aA K (.ref c_Net) "arrows"=some none)
  (n_Arrow_behind:aA K (.ref c_Arrow) "behind"=some none)
  (n_Ride_behind:aA K (.ref c_Ride) "behind"=some none)
  (n_Wait_behind:aA K (.ref c_Wait) "behind"=some none)
  (n_Back_behind:aA K (.ref c_Back) "behind"=some none)
  (n_Arrow_goal:aA K (.ref c_Arrow) "goal"=some none)
  (n_Ride_goal:aA K (.ref c_Ride) "goal"=some none)
  (n_Wait_goal:aA K (.ref c_Wait) "goal"=some none)
  (n_Back_goal:aA K (.ref c_Back) "goal"=some none)
  (n_Net_names:aA K (.ref c_Net) "names"=some none)
  (n_Arrow_start:aA K (.ref c_Arrow) "start"=some none)
  (n_Ride_start:aA K (.ref c_Ride) "start"=some none)
  (n_Wait_start:aA K (.ref c_Wait) "start"=some none)
  (n_Back_start:aA K (.ref c_Back) "start"=some none)
  (n_Arrow_time:aA K (.ref c_Arrow) "time"=some none)
  (n_Ride_time:aA K (.ref c_Ride) "time"=some none)
  (n_Wait_time:aA K (.ref c_Wait) "time"=some none)
  (n_Back_time:aA K (.ref c_Back) "time"=some none)
  (ign:dZ K (.builtin "object.__class__") "__get__"=some (some (.builtin "getset_descriptor.__get__"))) (igt:kY K (.builtin "object.__class__")=some true)
  (iga_Arrow:aA K (.ref c_Arrow) "__class__"=some (some (.builtin "object.__class__"))) (igm_Arrow:eX K c_Arrow (.type "object")=some true)
  (kit_Arrow_Back:bO K (.ref c_Arrow) (.ref c_Back)=some false)
  (kit_Arrow_Ride:bO K (.ref c_Arrow) (.ref c_Ride)=some false)
  (iga_Ride:aA K (.ref c_Ride) "__class__"=some (some (.builtin "object.__class__"))) (igm_Ride:eX K c_Ride (.type "object")=some true)
  (kit_Ride_Back:bO K (.ref c_Ride) (.ref c_Back)=some false)
  (kit_Ride_Ride:bO K (.ref c_Ride) (.ref c_Ride)=some true)
  (iga_Wait:aA K (.ref c_Wait) "__class__"=some (some (.builtin "object.__class__"))) (igm_Wait:eX K c_Wait (.type "object")=some true)
  (kit_Wait_Back:bO K (.ref c_Wait) (.ref c_Back)=some false)
  (kit_Wait_Ride:bO K (.ref c_Wait) (.ref c_Ride)=some false)
  (iga_Back:aA K (.ref c_Back) "__class__"=some (some (.builtin "object.__class__"))) (igm_Back:eX K c_Back (.type "object")=some true)
  (kit_Back_Back:bO K (.ref c_Back) (.ref c_Back)=some true)
  (kit_Back_Ride:bO K (.ref c_Back) (.ref c_Ride)=some false)
  (iga_Net:aA K (.ref c_Net) "__class__"=some (some (.builtin "object.__class__"))) (igm_Net:eX K c_Net (.type "object")=some true)
  (kit_Net_Back:bO K (.ref c_Net) (.ref c_Back)=some false)
  (kit_Net_Ride:bO K (.ref c_Net) (.ref c_Ride)=some false)
  (z0:ar K ap "abs"=some none)
  (z1:ar K ap "all"=some none)
  (z2:ar K ap "bool"=some none)
  (z3:ar K ap "enumerate"=some none)
  (z4:ar K ap "int"=some none)
  (z5:ar K ap "isinstance"=some none)
  (z6:ar K ap "len"=some none)
  (z7:ar K ap "list"=some none)
  (z8:ar K ap "max"=some none)
  (z9:ar K ap "min"=some none)
  (z10:ar K ap "range"=some none)
  (z11:ar K ap "reversed"=some none)
  (z12:ar K ap "set"=some none)
  (z13:ar K ap "str"=some none)
  (z14:ar K ap "sum"=some none)
  (z15:ar K ap "tuple"=some none)
  (gc0:ar K ap "MOST_ARROWS"=some (some (.int 120 gt0)))
  (gc1:ar K ap "MOST_BEHIND"=some (some (.int 4 gt1)))
  (gc2:ar K ap "MOST_NAMES"=some (some (.int 40 gt2)))
  (gc3:ar K ap "MOST_SIGNS"=some (some (.int 8 gt3)))
  (gc4:ar K ap "MOST_TIME"=some (some (.int 1000000000 gt4))) :
  ∃fd:aH,(∀(s:am) (v:ae),oN s fd ⟨[v],[]⟩ [("_law_script",v)])/\∀base:aZ,K.In base->base.Ns ap mg->cx l.prog w K mg base ez 8 fa fd ["_law_script"] (nN K):=by
 have e:=Vb.symm.trans (ay X G a49)
 cases e
 have F0:=zw (st:=yw) l0 c0 k0
 have b0:bH K (cA "__init__" "Arrow.__init__" yw .none O9 OC Pq Of J2 Ot) ["self","start","goal","time","behind"] []:=.all (Pj λ_ _ _ _ _=>rfl)
 have F1:=zw (st:=xi) l1 c1 k1
 have b1:bH K (cA "__init__" "Ride.__init__" xi .none Pa OD Ps Og J3 Ou) ["self","start","goal","time"] []:=.all (Ph λ_ _ _ _=>rfl)
 have F2:=zw (st:=yj) l2 c2 k2
 have b2:bH K (cA "__init__" "Wait.__init__" yj (.ref Bt) LY Kf Mc JX HW Kb) ["self","start","goal","time","behind"] []:=Jw (T:=Bt) rfl t2 rfl λus hl=>by
  have hl:us.length=5:=by simpa using hl
  exact match us,hl with|[_,_,_,_,_],_=>⟨_,rfl,rfl⟩
 have JZ:bH K (cA "__init__" "Wait.__init__" yj (.ref Bt) LY Kf Mc JX HW Kb) ["self","start","goal","time","behind"] [.int 0 Hh]:=Jw (T:=Bt) rfl t2 rfl λus hl=>by
  have hl:us.length=4:=by simpa using hl
  exact match us,hl with|[_,_,_,_],_=>⟨_,rfl,rfl⟩
 have F3:=zw (st:=yk) l3 c3 k3
 have b3:bH K (cA "__init__" "Back.__init__" yk (.ref Bu) LZ Kg Md JY HX Kc) ["self","start","goal","time","behind"] []:=Jw (T:=Bu) rfl t3 rfl λus hl=>by
  have hl:us.length=5:=by simpa using hl
  exact match us,hl with|[_,_,_,_,_],_=>⟨_,rfl,rfl⟩
 have J0:bH K (cA "__init__" "Back.__init__" yk (.ref Bu) LZ Kg Md JY HX Kc) ["self","start","goal","time","behind"] [.int 1 Hi]:=Jw (T:=Bu) rfl t3 rfl λus hl=>by
  have hl:us.length=4:=by simpa using hl
  exact match us,hl with|[_,_,_,_],_=>⟨_,rfl,rfl⟩
 have F4:=zw (st:=wb) l4 c4 k4
 have b4:bH K (cA "is_letter" "is_letter" wb .none Pb OE Pt Oh J4 Ov) ["sign"] []:=.all (qO λ_=>rfl)
 have F5:=zw (st:=wc) l5 c5 k5
 have b5:bH K (cA "is_figure" "is_figure" wc .none Pc OF Pv Oi J5 Ox) ["sign"] []:=.all (qO λ_=>rfl)
 have F6:=zw (st:=vt) l6 c6 k6
 have b6:bH K (cA "is_name" "is_name" vt .none Pd OG Pw Oj J6 Oy) ["word"] []:=.all (qO λ_=>rfl)
 have F7:=zw (st:=we) l7 c7 k7
 have b7:bH K (cA "are_names" "are_names" we .none Pe OH Px Ol J7 Oz) ["names"] []:=.all (qO λ_=>rfl)
 have F8:=zw (st:=xj) l8 c8 k8
 have b8:bH K (cA "lies_within" "lies_within" xj .none Pf OI Py Om J8 OA) ["number","least","most"] []:=.all (rL λ_ _ _=>rfl)
 have F9:=zw (st:=wu) l9 c9 k9
 have b9:bH K (cA "is_right" "is_right" wu .none Pg OJ Pz On J9 OB) ["arrow","many"] []:=.all (nk λ_ _=>rfl)
 have SI:=zw (st:=yo) l10 c10 k10
 have TD:bH K (cA "placed_goings" "placed_goings" yo .none EZ Dz FY B5 xN CO) ["many","arrows"] []:=.all (nk λ_ _=>rfl)
 have SJ:=zw (st:=ye) l11 c11 k11
 have TF:bH K (cA "ring_back_from" "ring_back_from" ye .none E1 DA FZ B6 xO CP) ["arrows","chosen","going"] []:=.all (rL λ_ _ _=>rfl)
 have SK:=zw (st:=xv) l12 c12 k12
 have TH:bH K (cA "__init__" "Net.__init__" xv .none E3 DB Ga B7 xP CQ) ["self","names","arrows"] []:=.all (rL λ_ _ _=>rfl)
 have SN:=zw (st:=ya) l13 c13 k13
 have TJ:bH K (cA "most_behind" "Net.most_behind" ya .none E4 DC Gb B8 xQ CS) ["self"] []:=.all (qO λ_=>rfl)
 have SO:=zw (st:=yf) l14 c14 k14
 have TK:bH K (cA "common_divisor" "common_divisor" yf .none E5 DD Gc B9 xR CT) ["one","other"] []:=.all (nk λ_ _=>rfl)
 have SQ:=zw (st:=jp) l15 c15 k15
 have TL:bH K (cA "ratio" "ratio" jp .none E6 DE Gd Ca xS CU) ["top","bottom"] []:=.all (nk λ_ _=>rfl)
 have SR:=zw (st:=uo) l16 c16 k16
 have TN:bH K (cA "scaled" "scaled" uo .none E7 DF Ge Cb xT CV) ["one","whole"] []:=.all (nk λ_ _=>rfl)
 have SS:=zw (st:=By) l17 c17 k17
 have TQ:bH K (cA "plus" "plus" By .none E8 DG Gf Cc xU CW) ["one","other"] []:=.all (nk λ_ _=>rfl)
 have SU:=zw (st:=jq) l18 c18 k18
 have TR:bH K (cA "minus" "minus" jq .none E9 DH Gg Cd xV CY) ["one","other"] []:=.all (nk λ_ _=>rfl)
 have SV:=zw (st:=jr) l19 c19 k19
 have TU:bH K (cA "under" "under" jr .none Fa DI Gh Ce xW CZ) ["one","other"] []:=.all (nk λ_ _=>rfl)
 have SW:=zw (st:=vv) l20 c20 k20
 have TV:bH K (cA "is_ring" "is_ring" vv .none Fb DJ Gi Cf xX C0) ["net","ring"] []:=.all (nk λ_ _=>rfl)
 have SX:=zw (st:=Bz) l21 c21 k21
 have TX:bH K (cA "mean" "mean" Bz .none Fc DK Gj Cg xY C1) ["net","ring"] []:=.all (nk λ_ _=>rfl)
 have SY:=zw (st:=vw) l22 c22 k22
 have TY:bH K (cA "is_kept" "is_kept" vw .none Fd DL Gk Ci xZ C2) ["arrow","pace","times"] []:=.all (rL λ_ _ _=>rfl)
 have SZ:=zw (st:=BA) l23 c23 k23
 have TZ:bH K (cA "fits" "fits" BA .none Fe DM Gm Cj yA C3) ["net","pace","times"] []:=.all (rL λ_ _ _=>rfl)
 have S3:=zw (st:=wf) l24 c24 k24
 have T1:bH K (cA "push_once" "push_once" wf .none Ff DN Gn Ck yB C4) ["net","pace","numbers","times","chosen"] []:=.all (Pj λ_ _ _ _ _=>rfl)
 have S4:=zw (st:=zk) l25 c25 k25
 have T3:bH K (cA "times_or_ring_along" "times_or_ring_along" zk .none Fg DO Gp Cm yC C5) ["net","pace","numbers"] []:=.all (rL λ_ _ _=>rfl)
 have S5:=zw (st:=yp) l26 c26 k26
 have T4:bH K (cA "times_or_ring" "times_or_ring" yp .none Fh DP Gq Co yD C6) ["net","pace"] []:=.all (nk λ_ _=>rfl)
 have S6:=zw (st:=xw) l27 c27 k27
 have T5:bH K (cA "ring_above" "ring_above" xw .none Fi DQ Gr Cp yE C7) ["net","pace","numbers"] []:=.all (rL λ_ _ _=>rfl)
 have S7:=zw (st:=uq) l28 c28 k28
 have T6:bH K (cA "midway" "midway" uq .none Fj DR Gs Cq yF C8) ["one","other"] []:=.all (nk λ_ _=>rfl)
 have S8:=zw (st:=wg) l29 c29 k29
 have T7:bH K (cA "least_gap" "least_gap" wg .none Fk DS Gu Cr yG C9) ["net"] []:=.all (qO λ_=>rfl)
 have S9:=zw (st:=yq) l30 c30 k30
 have T8:bH K (cA "greatest_ring" "greatest_ring" yq .none Fl DT Gv Cs yH Dd) ["net","numbers"] []:=.all (nk λ_ _=>rfl)
 have Ta:=zw (st:=xk) l31 c31 k31
 have T9:bH K (cA "paper_along" "paper_along" xk .none Fm DU Gw Ct yI De) ["net","numbers"] []:=.all (nk λ_ _=>rfl)
 have Tb:=zw (st:=xm) l32 c32 k32
 have Ua:bH K (cA "least_round" "least_round" xm .none Fo DV Gx Cu yJ Df) ["net"] []:=.all (qO λ_=>rfl)
 have Tc:=zw (st:=wv) l33 c33 k33
 have Ub:bH K (cA "has_mean" "has_mean" wv .none Fs DW Gy Cv yK Dg) ["net","ring","pace"] []:=.all (rL λ_ _ _=>rfl)
 have Td:=zw (st:=jt) l34 c34 k34
 have Uc:bH K (cA "holds" "holds" jt .none Ft DX Gz Cw yL Dh) ["net","paper"] []:=.all (nk λ_ _=>rfl)
 have Te:=zw (st:=xn) l35 c35 k35
 have Ud:bH K (cA "_law_cell_at" "_law_cell_at" xn .none Fu DY GA Cy yM Di) ["_law_script","_law_k"] []:=.all (nk λ_ _=>rfl)
 have Tf:=zw (st:=wj) l36 c36 k36
 have Ue:bH K (cA "_law_whole" "_law_whole" wj .none Fv DZ GB Cz yN Dj) ["_law_found"] []:=.all (qO λ_=>rfl)
 have Th:=zw (st:=xx) l37 c37 k37
 have Ug:bH K (cA "_law_is_row" "_law_is_row" xx .none Fw D1 GC CA yO Dk) ["_law_cell"] []:=.all (qO λ_=>rfl)
 have Ti:=zw (st:=wk) l38 c38 k38
 have Uh:bH K (cA "_law_mixed" "_law_mixed" wk .none Fx D2 GD CB yP Dl) ["_law_cell","_law_k"] []:=.all (nk λ_ _=>rfl)
 have Tj:=zw (st:=ww) l39 c39 k39
 have Ui:bH K (cA "_law_rank" "_law_rank" ww .none Fy D3 GF CC yQ Dn) ["_law_turn","_law_many","_law_going"] []:=.all (rL λ_ _ _=>rfl)
 have Tl:=zw (st:=wm) l40 c40 k40
 have Uj:bH K (cA "_law_arrow" "_law_arrow" wm .none FA D4 GG CD yR Do) ["_law_cell","_law_many","_law_turn"] []:=.all (rL λ_ _ _=>rfl)
 have Tn:=zw (st:=vx) l41 c41 k41
 have Uk:bH K (cA "_law_big" "_law_big" vx .none FB D5 GH CF yS Dp) ["_law_cell"] []:=.all (qO λ_=>rfl)
 have To:=zw (st:=wx) l42 c42 k42
 have Ul:bH K (cA "_law_made" "_law_made" wx .none FC D6 GJ CG yT Dr) ["_law_arrow_here","_law_kind"] []:=.all (nk λ_ _=>rfl)
 have Tp:=zw (st:=yb) l43 c43 k43
 have Um:bH K (cA "_law_little_less" "_law_little_less" yb .none FD D7 GK CH yU Ds) ["_law_beat"] []:=.all (qO λ_=>rfl)
 have Tq:=zw (st:=xo) l44 c44 k44
 have Uo:bH K (cA "_law_no_ring" "_law_no_ring" xo .none FE D8 GL CI yV Du) ["_law_arrows","_law_many"] []:=.all (nk λ_ _=>rfl)
 have Tr:=zw (st:=xy) l45 c45 k45
 have Up:bH K (cA "_law_lowest" "_law_lowest" xy .none FF D9 GM CJ yW Dv) ["_law_found"] []:=.all (qO λ_=>rfl)
 have Tt:=zw (st:=xp) l46 c46 k46
 have Uq:bH K (cA "_law_is_ring" "_law_is_ring" xp .none FG Ea GO CK yX Dw) ["_law_arrows","_law_ring"] []:=.all (nk λ_ _=>rfl)
 have Tu:=zw (st:=vz) l47 c47 k47
 have Ur:bH K (cA "_law_fit" "_law_fit" vz .none FH Ec GP CL yY Dx) ["_law_arrows","_law_beat","_law_times"] []:=.all (rL λ_ _ _=>rfl)
 have Tv:=zw (st:=wn) l48 c48 k48
 have Us:bH K (cA "_law_right" "_law_right" wn .none FI Ed GQ CM yZ Dy) ["_law_arrows","_law_many","_law_found"] []:=.all (rL λ_ _ _=>rfl)
 have Tw:=zw (st:=AU) l49 c49 k49
 have Ut:bH K (cA "law" "law" AU .none Aj zB Aw xK uM zA) ["_law_script"] []:=.all (qO λ_=>rfl)
 have T:Txt K mg ⟨c_Arrow,c_Ride,c_Wait,c_Back,c_Net,f0,cA "__init__" "Arrow.__init__" yw .none O9 OC Pq Of J2 Ot,f1,cA "__init__" "Ride.__init__" xi .none Pa OD Ps Og J3 Ou,f2,cA "__init__" "Wait.__init__" yj (.ref Bt) LY Kf Mc JX HW Kb,f3,cA "__init__" "Back.__init__" yk (.ref Bu) LZ Kg Md JY HX Kc,f4,cA "is_letter" "is_letter" wb .none Pb OE Pt Oh J4 Ov,f5,cA "is_figure" "is_figure" wc .none Pc OF Pv Oi J5 Ox,f6,cA "is_name" "is_name" vt .none Pd OG Pw Oj J6 Oy,f7,cA "are_names" "are_names" we .none Pe OH Px Ol J7 Oz,f8,cA "lies_within" "lies_within" xj .none Pf OI Py Om J8 OA,f9,cA "is_right" "is_right" wu .none Pg OJ Pz On J9 OB,Km,cA "placed_goings" "placed_goings" yo .none EZ Dz FY B5 xN CO,Kn,cA "ring_back_from" "ring_back_from" ye .none E1 DA FZ B6 xO CP,Ib,cA "__init__" "Net.__init__" xv .none E3 DB Ga B7 xP CQ,Ie,cA "most_behind" "Net.most_behind" ya .none E4 DC Gb B8 xQ CS,Ko,cA "common_divisor" "common_divisor" yf .none E5 DD Gc B9 xR CT,Kq,cA "ratio" "ratio" jp .none E6 DE Gd Ca xS CU,Kr,cA "scaled" "scaled" uo .none E7 DF Ge Cb xT CV,Ks,cA "plus" "plus" By .none E8 DG Gf Cc xU CW,Kt,cA "minus" "minus" jq .none E9 DH Gg Cd xV CY,Ku,cA "under" "under" jr .none Fa DI Gh Ce xW CZ,Kv,cA "is_ring" "is_ring" vv .none Fb DJ Gi Cf xX C0,Kw,cA "mean" "mean" Bz .none Fc DK Gj Cg xY C1,Kx,cA "is_kept" "is_kept" vw .none Fd DL Gk Ci xZ C2,Ky,cA "fits" "fits" BA .none Fe DM Gm Cj yA C3,Kz,cA "push_once" "push_once" wf .none Ff DN Gn Ck yB C4,KA,cA "times_or_ring_along" "times_or_ring_along" zk .none Fg DO Gp Cm yC C5,KB,cA "times_or_ring" "times_or_ring" yp .none Fh DP Gq Co yD C6,KC,cA "ring_above" "ring_above" xw .none Fi DQ Gr Cp yE C7,KD,cA "midway" "midway" uq .none Fj DR Gs Cq yF C8,KE,cA "least_gap" "least_gap" wg .none Fk DS Gu Cr yG C9,KF,cA "greatest_ring" "greatest_ring" yq .none Fl DT Gv Cs yH Dd,KG,cA "paper_along" "paper_along" xk .none Fm DU Gw Ct yI De,KH,cA "least_round" "least_round" xm .none Fo DV Gx Cu yJ Df,KI,cA "has_mean" "has_mean" wv .none Fs DW Gy Cv yK Dg,KJ,cA "holds" "holds" jt .none Ft DX Gz Cw yL Dh,KL,cA "_law_cell_at" "_law_cell_at" xn .none Fu DY GA Cy yM Di,KM,cA "_law_whole" "_law_whole" wj .none Fv DZ GB Cz yN Dj,KN,cA "_law_is_row" "_law_is_row" xx .none Fw D1 GC CA yO Dk,KO,cA "_law_mixed" "_law_mixed" wk .none Fx D2 GD CB yP Dl,KP,cA "_law_rank" "_law_rank" ww .none Fy D3 GF CC yQ Dn,KQ,cA "_law_arrow" "_law_arrow" wm .none FA D4 GG CD yR Do,KR,cA "_law_big" "_law_big" vx .none FB D5 GH CF yS Dp,KS,cA "_law_made" "_law_made" wx .none FC D6 GJ CG yT Dr,KU,cA "_law_little_less" "_law_little_less" yb .none FD D7 GK CH yU Ds,KW,cA "_law_no_ring" "_law_no_ring" xo .none FE D8 GL CI yV Du,KY,cA "_law_lowest" "_law_lowest" xy .none FF D9 GM CJ yW Dv,KZ,cA "_law_is_ring" "_law_is_ring" xp .none FG Ea GO CK yX Dw,K0,cA "_law_fit" "_law_fit" vz .none FH Ec GP CL yY Dx,K1,cA "_law_right" "_law_right" wn .none FI Ed GQ CM yZ Dy,fa,cA "law" "law" AU .none Aj zB Aw xK uM zA⟩:=by
  constructor
  ·exact⟨⟨pg_Arrow,hd_Arrow,po_Arrow,sa_Arrow⟩,ay X G aC_Arrow,mk_Arrow,kc_Arrow⟩
  ·exact⟨⟨pg_Ride,hd_Ride,po_Ride,sa_Ride⟩,ay X G aC_Ride,mk_Ride,kc_Ride⟩
  ·exact⟨⟨pg_Wait,hd_Wait,po_Wait,sa_Wait⟩,ay X G aC_Wait,mk_Wait,kc_Wait⟩
  ·exact⟨⟨pg_Back,hd_Back,po_Back,sa_Back⟩,ay X G aC_Back,mk_Back,kc_Back⟩
  ·exact⟨⟨pg_Net,hd_Net,po_Net,sa_Net⟩,ay X G aC_Net,mk_Net,kc_Net⟩
  ·exact⟨F0,⟨a0,i0,k0⟩,b0⟩
  ·exact⟨F1,⟨a1,i1,k1⟩,b1⟩
  ·exact⟨F2,⟨a2,i2,k2⟩,b2⟩
  ·exact⟨_,trivial,(.cons ⟨_,rfl⟩ .nil),JZ⟩
  ·exact⟨F3,⟨a3,i3,k3⟩,b3⟩
  ·exact⟨_,trivial,(.cons ⟨_,rfl⟩ .nil),J0⟩
  ·exact⟨F4,ay X G a4,b4⟩
  ·exact⟨F5,ay X G a5,b5⟩
  ·exact⟨F6,ay X G a6,b6⟩
  ·exact⟨F7,ay X G a7,b7⟩
  ·exact⟨F8,ay X G a8,b8⟩
  ·exact⟨F9,ay X G a9,b9⟩
  ·exact⟨SI,ay X G a10,TD⟩
  ·exact⟨SJ,ay X G a11,TF⟩
  ·exact⟨SK,⟨a12,i12,k12⟩,TH⟩
  ·exact⟨SN,⟨a13,i13,k13⟩,TJ⟩
  ·exact⟨SO,ay X G a14,TK⟩
  ·exact⟨SQ,ay X G a15,TL⟩
  ·exact⟨SR,ay X G a16,TN⟩
  ·exact⟨SS,ay X G a17,TQ⟩
  ·exact⟨SU,ay X G a18,TR⟩
  ·exact⟨SV,ay X G a19,TU⟩
  ·exact⟨SW,ay X G a20,TV⟩
  ·exact⟨SX,ay X G a21,TX⟩
  ·exact⟨SY,ay X G a22,TY⟩
  ·exact⟨SZ,ay X G a23,TZ⟩
  ·exact⟨S3,ay X G a24,T1⟩
  ·exact⟨S4,ay X G a25,T3⟩
  ·exact⟨S5,ay X G a26,T4⟩
  ·exact⟨S6,ay X G a27,T5⟩
  ·exact⟨S7,ay X G a28,T6⟩
  ·exact⟨S8,ay X G a29,T7⟩
  ·exact⟨S9,ay X G a30,T8⟩
  ·exact⟨Ta,ay X G a31,T9⟩
  ·exact⟨Tb,ay X G a32,Ua⟩
  ·exact⟨Tc,ay X G a33,Ub⟩
  ·exact⟨Td,ay X G a34,Uc⟩
  ·exact⟨Te,ay X G a35,Ud⟩
  ·exact⟨Tf,ay X G a36,Ue⟩
  ·exact⟨Th,ay X G a37,Ug⟩
  ·exact⟨Ti,ay X G a38,Uh⟩
  ·exact⟨Tj,ay X G a39,Ui⟩
  ·exact⟨Tl,ay X G a40,Uj⟩
  ·exact⟨Tn,ay X G a41,Uk⟩
  ·exact⟨To,ay X G a42,Ul⟩
  ·exact⟨Tp,ay X G a43,Um⟩
  ·exact⟨Tq,ay X G a44,Uo⟩
  ·exact⟨Tr,ay X G a45,Up⟩
  ·exact⟨Tt,ay X G a46,Uq⟩
  ·exact⟨Tu,ay X G a47,Ur⟩
  ·exact⟨Tv,ay X G a48,Us⟩
  ·exact⟨Tw,ay X G a49,Ut⟩
  ·exact⟨qs_Arrow,qr_Arrow,qf_Arrow⟩
  ·exactλc hc=>by
    simp only[aF,dB,or_false]at hc
    rcases hc with rfl
    all_goals first|exact⟨⟨pg_Net,hd_Net,po_Net,sa_Net⟩,n_Net_arrows⟩
  ·exactλc hc=>by
    simp only[aF,dB,or_false]at hc
    rcases hc with rfl|rfl|rfl|rfl
    all_goals first|exact⟨⟨pg_Arrow,hd_Arrow,po_Arrow,sa_Arrow⟩,n_Arrow_behind⟩|exact⟨⟨pg_Ride,hd_Ride,po_Ride,sa_Ride⟩,n_Ride_behind⟩|exact⟨⟨pg_Wait,hd_Wait,po_Wait,sa_Wait⟩,n_Wait_behind⟩|exact⟨⟨pg_Back,hd_Back,po_Back,sa_Back⟩,n_Back_behind⟩
  ·exactλc hc=>by
    simp only[aF,dB,or_false]at hc
    rcases hc with rfl|rfl|rfl|rfl
    all_goals first|exact⟨⟨pg_Arrow,hd_Arrow,po_Arrow,sa_Arrow⟩,n_Arrow_goal⟩|exact⟨⟨pg_Ride,hd_Ride,po_Ride,sa_Ride⟩,n_Ride_goal⟩|exact⟨⟨pg_Wait,hd_Wait,po_Wait,sa_Wait⟩,n_Wait_goal⟩|exact⟨⟨pg_Back,hd_Back,po_Back,sa_Back⟩,n_Back_goal⟩
  ·exactλc hc=>by
    simp only[aF,dB,or_false]at hc
    rcases hc with rfl
    all_goals first|exact⟨⟨pg_Net,hd_Net,po_Net,sa_Net⟩,n_Net_names⟩
  ·exactλc hc=>by
    simp only[aF,dB,or_false]at hc
    rcases hc with rfl|rfl|rfl|rfl
    all_goals first|exact⟨⟨pg_Arrow,hd_Arrow,po_Arrow,sa_Arrow⟩,n_Arrow_start⟩|exact⟨⟨pg_Ride,hd_Ride,po_Ride,sa_Ride⟩,n_Ride_start⟩|exact⟨⟨pg_Wait,hd_Wait,po_Wait,sa_Wait⟩,n_Wait_start⟩|exact⟨⟨pg_Back,hd_Back,po_Back,sa_Back⟩,n_Back_start⟩
  ·exactλc hc=>by
    simp only[aF,dB,or_false]at hc
    rcases hc with rfl|rfl|rfl|rfl
    all_goals first|exact⟨⟨pg_Arrow,hd_Arrow,po_Arrow,sa_Arrow⟩,n_Arrow_time⟩|exact⟨⟨pg_Ride,hd_Ride,po_Ride,sa_Ride⟩,n_Ride_time⟩|exact⟨⟨pg_Wait,hd_Wait,po_Wait,sa_Wait⟩,n_Wait_time⟩|exact⟨⟨pg_Back,hd_Back,po_Back,sa_Back⟩,n_Back_time⟩
  ·exactλc hc=>by
    simp only[aF,dB,or_false]at hc
    rcases hc with rfl|rfl|rfl|rfl|rfl
    all_goals first|exact⟨⟨⟨pg_Arrow,hd_Arrow,po_Arrow,sa_Arrow⟩,iga_Arrow,ign,igt,igm_Arrow⟩,kit_Arrow_Back⟩|exact⟨⟨⟨pg_Ride,hd_Ride,po_Ride,sa_Ride⟩,iga_Ride,ign,igt,igm_Ride⟩,kit_Ride_Back⟩|exact⟨⟨⟨pg_Wait,hd_Wait,po_Wait,sa_Wait⟩,iga_Wait,ign,igt,igm_Wait⟩,kit_Wait_Back⟩|exact⟨⟨⟨pg_Back,hd_Back,po_Back,sa_Back⟩,iga_Back,ign,igt,igm_Back⟩,kit_Back_Back⟩|exact⟨⟨⟨pg_Net,hd_Net,po_Net,sa_Net⟩,iga_Net,ign,igt,igm_Net⟩,kit_Net_Back⟩
  ·exactλc hc=>by
    simp only[aF,dB,or_false]at hc
    rcases hc with rfl|rfl|rfl|rfl|rfl
    all_goals first|exact⟨⟨⟨pg_Arrow,hd_Arrow,po_Arrow,sa_Arrow⟩,iga_Arrow,ign,igt,igm_Arrow⟩,kit_Arrow_Ride⟩|exact⟨⟨⟨pg_Ride,hd_Ride,po_Ride,sa_Ride⟩,iga_Ride,ign,igt,igm_Ride⟩,kit_Ride_Ride⟩|exact⟨⟨⟨pg_Wait,hd_Wait,po_Wait,sa_Wait⟩,iga_Wait,ign,igt,igm_Wait⟩,kit_Wait_Ride⟩|exact⟨⟨⟨pg_Back,hd_Back,po_Back,sa_Back⟩,iga_Back,ign,igt,igm_Back⟩,kit_Back_Ride⟩|exact⟨⟨⟨pg_Net,hd_Net,po_Net,sa_Net⟩,iga_Net,ign,igt,igm_Net⟩,kit_Net_Ride⟩
  ·exact bC X G z0
  ·exact bC X G z1
  ·exact bC X G z2
  ·exact bC X G z3
  ·exact bC X G z4
  ·exact bC X G z5
  ·exact bC X G z6
  ·exact bC X G z7
  ·exact bC X G z8
  ·exact bC X G z9
  ·exact bC X G z10
  ·exact bC X G z11
  ·exact bC X G z12
  ·exact bC X G z13
  ·exact bC X G z14
  ·exact bC X G z15
  ·exact⟨_,ay X G gc0⟩
  ·exact⟨_,ay X G gc1⟩
  ·exact⟨_,ay X G gc2⟩
  ·exact⟨_,ay X G gc3⟩
  ·exact⟨_,ay X G gc4⟩
 exact⟨cA "law" "law" AU .none Aj zB Aw xK uM zA,λs v=>.of_eq rfl,λbase _ _=>zun T⟩
theorem walk {l:kW}{q:bB}{loose:List aQ}{XP:(aQ->Option ae)->aZ->Prop}{YP:cj->aZ->Prop}{d:DefRec}{K:Params->aa}(hn:l.most=some 63)(Ep:d.params.defaults=[])
  (hY:∀(w:cj) (h:aZ),YP w h->(K w.params).In h)
  (F:∀(w:cj) (mg:aQ->Option ae) (fa:ah) (h:aZ),(K w.params).In h->h.Ns ap mg->mg d.name=some (.ref fa) ->
   ∃fd:aH,(∀(s:am) (u:ae),oN s fd ⟨[u],[]⟩ [("_law_script",u)])/\∀base:aZ,(K w.params).In base->base.Ns ap mg->cx l.prog w (K w.params) mg base ez 8 fa fd ["_law_script"] (nN (K w.params))) :
  sD q loose XP YP l.row.toRowW d [] (λf vs=>PySem.call f vs) :=
 L2.walk_of (n:=63) (k:=8) (x:="_law_script") (CX:=λ_=>ez) (sp:=λw=>nN (K w.params)) hn (by decide) Ep ⟨rfl,by decide,by decide⟩ hY F (λ_ _ a ns hl _ hS=>⟨a,ns,rfl,hS,hl,λ_=>rfl⟩) λ_ _ _ _ _ z=>z
end My
-- KEEP
namespace PySem.W.Fast
def tw2663827716141500422:=0
def tw17378581012390277296:=0
def tw11186633297255578512:=0
def tw6767367461808519776:=0
def tw15055721250845976455:=0
def tw12486770879049755088:=0
def tw18367769719104189168:=0
def tw4450057882132447424:=0
def tw5728201212037227086:=0
def tw10396295121850223221:=0
def tw15631010883391030192:=0
def tw16866330111542027782:=0
def tw10496055114154677410:=0
def tw17763390717518105523:=0
def tw6048244719573023290:=0
def tw3244997156766987570:=0
def tw7123168322759969713:=0
def tw2843048542198045315:=0
def tw1008094368108376713:=0
def tw7844124419688941156:=0
def tw16570231921746533262:=0
def tw6078723997250765449:=0
def tw2711961254299049711:=0
def tw9247536831040791925:=0
def tw16994532370277855238:=0
def tw3474388711131295272:=0
def tw17326462194372949859:=0
def tw15416969549419144190:=0
def tw5353957953902379465:=0
def tw10440108032293943850:=0
def tw1827416835595115126:=0
def tw11621819529036489755:=0
def tw2084340370824953949:=0
def tw9591006790705168290:=0
def tw13650634259527945009:=0
def tw10697158425536466108:=0
def tw10697381118663883024:=0
def tw14192685330892206251:=0
def tw7447052753603432660:=0
def tw1472960950785139779:=0
def tw5863929521539558528:=0
def tw13925157187597452069:=0
def tw11387121666323391326:=0
def tw13934591587573841662:=0
def tw2624558634359505915:=0
def tw14870701816866412838:=0
def tw11832106350036553108:=0
def tw3669608883173107646:=0
def tw11752057267543565214:=0
def tw4652696311787405236:=0
def tw633492856802117383:=0
def tw3729356700071513673:=0
def tw1702325544211652969:=0
def tw13250490074466789966:=0
def tw12366116102489308322:=0
def tw8592538757362809317:=0
def tw12441264216345531571:=0
def tw17264547413877091106:=0
def tw5949204382828992964:=0
def tw17623424943190913070:=0
def tw2037323407201675420:=0
def tw8479665348953444591:=0
def tw13092608904453139032:=0
def tw2203182241507755612:=0
def tw7330005066536977554:=0
def tw13691445019619086058:=0
def tw13190724342751604986:=0
def tw15996611488440465871:=0
def tw9940291320463823185:=0
def tw1024260508666104819:=0
def tw6596537689001518199:=0
def tw14616388772786631135:=0
def tw7285893812414066069:=0
def tw7896173831161710995:=0
def tw15105678810898024683:=0
def tw2799292067550254771:=0
def tw14756454950928842350:=0
def tw5094086662666745608:=0
def tw4504158295291591781:=0
def tw6202381672420602805:=0
def tw15234564715699743273:=0
def tw8091524095907969649:=0
def tw13585216995414789769:=0
def tw3335755316011848560:=0
def tw4076791879820782744:=0
def tw9027307741923902246:=0
def tw8403425421115754734:=0
def tw17670227644365255129:=0
def tw9511318858447921490:=0
def tw2684434801101444538:=0
def tw16225369944484663293:=0
def tw17497803252729973219:=0
def tw4600627881344647504:=0
def tw8412499024513398606:=0
def tw3861618914881163656:=0
def tw8508771480545634965:=0
def tw4452151969879429340:=0
def tw5369495917163421106:=0
def tw16146974080991518342:=0
def tw4826912367228601542:=0
def tw1752488871719990919:=0
def tw1312712629754835414:=0
def tw10617449281024381489:=0
def tw11110236740992281734:=0
def tw12110474773464855069:=0
def tw12212828558837142467:=0
def tw13316942041258283377:=0
def tw16133302945634645056:=0
def tw1014954983678223425:=0
def tw11130423124832555741:=0
def tw262712140806696747:=0
def tw7969626479439779240:=0
def tw1423831951005692392:=0
def tw14408841064813305087:=0
def tw11249885531492860636:=0
def tw17444077880251663623:=0
def tw14039203903929562596:=0
def tw9850210224865808844:=0
def tw7141527098635729933:=0
def tw8119570010643092813:=0
def tw16571985238436254724:=0
def tw10874252873093566237:=0
def tw1486819878232951632:=0
def tw9038033787393887566:=0
def tw9274269196727996993:=0
def tw5147337956188673895:=0
def tw6304918010523323720:=0
def tw3349180762882280246:=0
def tw7052600066200696930:=0
def tw15152212123612783845:=0
def tw3414528647014932399:=0
def tw17883619975497556841:=0
def tw2845042369056562602:=0
def tw17344303433025682725:=0
def tw7410783895404337498:=0
def tw2832410987011861631:=0
def tw16112866414770436463:=0
def tw18128398419212514824:=0
def tw11289601644993809750:=0
def tw1359487980507732352:=0
def tw840789189154345407:=0
def tw17803109095388025746:=0
def tw12497274634470799254:=0
def tw10702904614759194306:=0
def tw6928162991708968803:=0
def tw2283015420837942849:=0
def tw6908304357725637725:=0
def tw820016913734274627:=0
def tw3172160408840447170:=0
def tw13805714557600622141:=0
def tw9506652875086012406:=0
def tw4039607481586989752:=0
def tw6373892237626738334:=0
def tw16133624709798172631:=0
def tw12644289548628830639:=0
def tw10183578282737310480:=0
def tw8199424028444049031:=0
def tw181203018162017453:=0
def tw15395818491305591410:=0
def tw17984204759583228511:=0
def tw9667602916729093276:=0
def tw15094410077076959155:=0
def tw16736783465699529011:=0
def tw10619322203253138420:=0
def tw5687139383302520349:=0
def tw3931483025145624984:=0
def tw4263481619621965243:=0
def tw1349031826771211077:=0
def tw17356112691043354624:=0
def tw3022018637478291303:=0
def tw5551961163130010812:=0
def tw1912061763677407487:=0
def tw7121796281344308928:=0
def tw17981560907220748958:=0
def tw12745754385109423375:=0
def tw283063480886294778:=0
def tw6756211500319004803:=0
def tw14253261059433692073:=0
def tw5462241415842467196:=0
def tw16795504146368196387:=0
def tw12115604740613998182:=0
def tw78547484768531829:=0
def tw1266797075453942951:=0
def tw6644023891957360735:=0
def tw6179023868188301855:=0
def tw7181862133092807796:=0
def tw13799015560061442421:=0
def tw10639802232905082076:=0
def tw6449603301016286999:=0
def tw276920410231065410:=0
def tw4673165582090055695:=0
def tw12516987446333408926:=0
def tw16972586688748865599:=0
def tw15691482736422292574:=0
def tw3945688633597485486:=0
def tw2444975029469741081:=0
def tw12130457377813764:=0
def tw11133905562009005117:=0
def tw11090801097523559682:=0
def tw11675595654099774401:=0
def tw9894750409717194496:=0
def tw6629563191871060974:=0
def tw10525105482807496973:=0
def tw6992705702389402051:=0
def tw17840667295908038828:=0
def tw12990595264927575045:=0
def tw11738649418970452270:=0
def tw7493349295118459438:=0
def tw7179863084527062504:=0
def tw15236031594282503601:=0
def tw9321046947299604328:=0
def tw9429738634815118743:=0
def tw3303534665808839369:=0
def tw14824717033534748742:=0
def tw8550656982475846395:=0
def tw10056154756819665875:=0
def tw5468537377890175658:=0
def tw12512958303622999755:=0
def tw10348621760422818135:=0
def tw1337288284936472653:=0
def tw7814477446346130369:=0
def tw16425437429177311757:=0
def tw11939419195906904174:=0
def tw1200138743021005807:=0
def tw16867985217019849571:=0
def tw9885833962835406212:=0
def tw12216059639737960901:=0
def tw7682599522296474432:=0
def tw15352452243955420775:=0
def tw16177942259645736779:=0
def tw16451481034966756810:=0
def tw4075058160198501051:=0
def tw4166401048515511547:=0
def tw15090157848489749708:=0
def tw15381477177077599355:=0
def tw12310050442996407697:=0
def tw11184397894305209839:=0
def tw17706485328094170294:=0
def tw9967877043824666621:=0
def tw1307125887929919376:=0
def tw8472469416954111139:=0
def tw17219602244588303793:=0
def tw9000750354185299019:=0
def tw8334455877805797198:=0
def tw17639381997988769089:=0
def tw3316238724312353577:=0
def tw8070565910188020838:=0
def tw1306473663456004023:=0
def tw13718674065335764323:=0
def tw1299545918932301369:=0
def tw555298096003665171:=0
def tw16498242822268204876:=0
def tw8550468103881574922:=0
def tw16657128430925696855:=0
def tw2573131310956642191:=0
def tw6415902165723568568:=0
def tw2156022514375490944:=0
def tw13354059158320807322:=0
def tw2761995165666628527:=0
def tw465439357154739563:=0
def tw15887406835970045228:=0
def tw14366192164279515350:=0
def tw14440611219190362118:=0
def tw10792342393159637827:=0
def tw5090892407262083672:=0
def tw6899370047495590208:=0
def tw12904669601603103959:=0
def tw2975723982395185327:=0
def tw17615454091919753592:=0
def tw79937054782714266:=0
def tw6634499147558801471:=0
def tw4262406917440019313:=0
def tw5927164853010878136:=0
def tw11469654849538502780:=0
def tw5441913621526775231:=0
def tw11991545562236069553:=0
def tw8261636595918585259:=0
def tw11005135063598532259:=0
def tw1568735022040395176:=0
def tw1898702630128614261:=0
def tw2498600670413940815:=0
def tw8442520076031877117:=0
def tw5181013814271830305:=0
def tw10632446165042879362:=0
def tw2985685379970677625:=0
def tw3100891160732652215:=0
def tw1990357960314442033:=0
def tw10738972895491739098:=0
def tw13453873385568769942:=0
def tw3535942270060934798:=0
def tw393087280014674111:=0
def tw7917716968208666481:=0
def tw9584106826315899050:=0
def tw3276427171646027278:=0
def tw11198474519355625642:=0
def tw2399903617384708152:=0
def tw11002266582500763044:=0
def tw4241422303182743790:=0
def tw16429802464245624421:=0
def tw12046940909856884415:=0
def tw11758933433662232663:=0
def tw16791080034379944133:=0
def tw684139285337529934:=0
def tw14221984472965552698:=0
def tw1339206215791797564:=0
def tw2008411415445251251:=0
def tw15015935970407143535:=0
def tw251909515290142452:=0
def tw1690018121362544351:=0
def tw5372873020262917951:=0
def tw5155421826430548184:=0
def tw14069038650658710724:=0
def tw13443116598465454644:=0
def tw15948146200090995209:=0
def tw11861305201569139578:=0
def tw509994725683554462:=0
def tw3335568146860856161:=0
def tw1092615922665260625:=0
def tw17160911790326019034:=0
def tw2538228254053993508:=0
def tw9298163039688704114:=0
def tw13665671845101887439:=0
def tw6215689895724496089:=0
def tw208925593691623523:=0
def tw2421624179226960324:=0
def tw17284691473255277439:=0
def tw10872804027983873018:=0
def tw7345605519970059507:=0
def tw743753861733466605:=0
def tw7062335310395564906:=0
def tw13892953027572873472:=0
end PySem.W.Fast
open PySem PySem.W PyProof.Rows
set_option maxRecDepth 100000 in
set_option maxHeartbeats 0 in
theorem PySem.Challenge.cw_ringbeat_k36_whole_least_round_holds : PySem.Challenge.rw_ringbeat_k36_whole_least_round.Holds := by
  w_on; o_law; k_head; (case hw => w_witness2)
  k_fill
  refine My.walk (l := PySem.Challenge.rw_ringbeat_k36_whole_least_round) rfl rfl (fun w h Y => PySem.W.kIn_of Y) ?F
  case F =>
    intro w mg fa h KX G hmg
    refine' My.all_mk KX G hmg ?aC_Arrow ?pg_Arrow ?hd_Arrow ?po_Arrow ?sa_Arrow ?mk_Arrow ?kc_Arrow ?aC_Ride ?pg_Ride ?hd_Ride ?po_Ride ?sa_Ride ?mk_Ride ?kc_Ride ?aC_Wait ?pg_Wait ?hd_Wait ?po_Wait ?sa_Wait ?mk_Wait ?kc_Wait ?aC_Back ?pg_Back ?hd_Back ?po_Back ?sa_Back ?mk_Back ?kc_Back ?aC_Net ?pg_Net ?hd_Net ?po_Net ?sa_Net ?mk_Net ?kc_Net ?a0 ?i0 ?l0 ?c0 ?k0 ?a1 ?i1 ?l1 ?c1 ?k1 ?a2 ?i2 ?l2 ?c2 ?k2 ?t2 ?a3 ?i3 ?l3 ?c3 ?k3 ?t3 ?a4 ?l4 ?c4 ?k4 ?a5 ?l5 ?c5 ?k5 ?a6 ?l6 ?c6 ?k6 ?a7 ?l7 ?c7 ?k7 ?a8 ?l8 ?c8 ?k8 ?a9 ?l9 ?c9 ?k9 ?a10 ?l10 ?c10 ?k10 ?a11 ?l11 ?c11 ?k11 ?a12 ?i12 ?l12 ?c12 ?k12 ?a13 ?i13 ?l13 ?c13 ?k13 ?a14 ?l14 ?c14 ?k14 ?a15 ?l15 ?c15 ?k15 ?a16 ?l16 ?c16 ?k16 ?a17 ?l17 ?c17 ?k17 ?a18 ?l18 ?c18 ?k18 ?a19 ?l19 ?c19 ?k19 ?a20 ?l20 ?c20 ?k20 ?a21 ?l21 ?c21 ?k21 ?a22 ?l22 ?c22 ?k22 ?a23 ?l23 ?c23 ?k23 ?a24 ?l24 ?c24 ?k24 ?a25 ?l25 ?c25 ?k25 ?a26 ?l26 ?c26 ?k26 ?a27 ?l27 ?c27 ?k27 ?a28 ?l28 ?c28 ?k28 ?a29 ?l29 ?c29 ?k29 ?a30 ?l30 ?c30 ?k30 ?a31 ?l31 ?c31 ?k31 ?a32 ?l32 ?c32 ?k32 ?a33 ?l33 ?c33 ?k33 ?a34 ?l34 ?c34 ?k34 ?a35 ?l35 ?c35 ?k35 ?a36 ?l36 ?c36 ?k36 ?a37 ?l37 ?c37 ?k37 ?a38 ?l38 ?c38 ?k38 ?a39 ?l39 ?c39 ?k39 ?a40 ?l40 ?c40 ?k40 ?a41 ?l41 ?c41 ?k41 ?a42 ?l42 ?c42 ?k42 ?a43 ?l43 ?c43 ?k43 ?a44 ?l44 ?c44 ?k44 ?a45 ?l45 ?c45 ?k45 ?a46 ?l46 ?c46 ?k46 ?a47 ?l47 ?c47 ?k47 ?a48 ?l48 ?c48 ?k48 ?a49 ?l49 ?c49 ?k49 ?qs_Arrow ?qr_Arrow ?qf_Arrow ?n_Net_arrows ?n_Arrow_behind ?n_Ride_behind ?n_Wait_behind ?n_Back_behind ?n_Arrow_goal ?n_Ride_goal ?n_Wait_goal ?n_Back_goal ?n_Net_names ?n_Arrow_start ?n_Ride_start ?n_Wait_start ?n_Back_start ?n_Arrow_time ?n_Ride_time ?n_Wait_time ?n_Back_time ?ign ?igt ?iga_Arrow ?igm_Arrow ?kit_Arrow_Back ?kit_Arrow_Ride ?iga_Ride ?igm_Ride ?kit_Ride_Back ?kit_Ride_Ride ?iga_Wait ?igm_Wait ?kit_Wait_Back ?kit_Wait_Ride ?iga_Back ?igm_Back ?kit_Back_Back ?kit_Back_Ride ?iga_Net ?igm_Net ?kit_Net_Back ?kit_Net_Ride ?z0 ?z1 ?z2 ?z3 ?z4 ?z5 ?z6 ?z7 ?z8 ?z9 ?z10 ?z11 ?z12 ?z13 ?z14 ?z15 ?gc0 ?gc1 ?gc2 ?gc3 ?gc4
    (case aC_Arrow => k_is)
    (case pg_Arrow => k_is)
    (case hd_Arrow => k_is)
    (case po_Arrow => k_is)
    (case sa_Arrow => k_is)
    (case mk_Arrow => k_is)
    (case kc_Arrow => k_is)
    (case aC_Ride => k_is)
    (case pg_Ride => k_is)
    (case hd_Ride => k_is)
    (case po_Ride => k_is)
    (case sa_Ride => k_is)
    (case mk_Ride => k_is)
    (case kc_Ride => k_is)
    (case aC_Wait => k_is)
    (case pg_Wait => k_is)
    (case hd_Wait => k_is)
    (case po_Wait => k_is)
    (case sa_Wait => k_is)
    (case mk_Wait => k_is)
    (case kc_Wait => k_is)
    (case aC_Back => k_is)
    (case pg_Back => k_is)
    (case hd_Back => k_is)
    (case po_Back => k_is)
    (case sa_Back => k_is)
    (case mk_Back => k_is)
    (case kc_Back => k_is)
    (case aC_Net => k_is)
    (case pg_Net => k_is)
    (case hd_Net => k_is)
    (case po_Net => k_is)
    (case sa_Net => k_is)
    (case mk_Net => k_is)
    (case kc_Net => k_is)
    (case a0 => k_is)
    (case i0 => k_is)
    (case l0 => k_is)
    (case c0 => k_is)
    (case k0 => k_is)
    (case a1 => k_is)
    (case i1 => k_is)
    (case l1 => k_is)
    (case c1 => k_is)
    (case k1 => k_is)
    (case a2 => k_is)
    (case i2 => k_is)
    (case l2 => k_is)
    (case c2 => k_is)
    (case k2 => k_is)
    (case t2 => k_is)
    (case a3 => k_is)
    (case i3 => k_is)
    (case l3 => k_is)
    (case c3 => k_is)
    (case k3 => k_is)
    (case t3 => k_is)
    (case a4 => k_is)
    (case l4 => k_is)
    (case c4 => k_is)
    (case k4 => k_is)
    (case a5 => k_is)
    (case l5 => k_is)
    (case c5 => k_is)
    (case k5 => k_is)
    (case a6 => k_is)
    (case l6 => k_is)
    (case c6 => k_is)
    (case k6 => k_is)
    (case a7 => k_is)
    (case l7 => k_is)
    (case c7 => k_is)
    (case k7 => k_is)
    (case a8 => k_is)
    (case l8 => k_is)
    (case c8 => k_is)
    (case k8 => k_is)
    (case a9 => k_is)
    (case l9 => k_is)
    (case c9 => k_is)
    (case k9 => k_is)
    (case a10 => k_is)
    (case l10 => k_is)
    (case c10 => k_is)
    (case k10 => k_is)
    (case a11 => k_is)
    (case l11 => k_is)
    (case c11 => k_is)
    (case k11 => k_is)
    (case a12 => k_is)
    (case i12 => k_is)
    (case l12 => k_is)
    (case c12 => k_is)
    (case k12 => k_is)
    (case a13 => k_is)
    (case i13 => k_is)
    (case l13 => k_is)
    (case c13 => k_is)
    (case k13 => k_is)
    (case a14 => k_is)
    (case l14 => k_is)
    (case c14 => k_is)
    (case k14 => k_is)
    (case a15 => k_is)
    (case l15 => k_is)
    (case c15 => k_is)
    (case k15 => k_is)
    (case a16 => k_is)
    (case l16 => k_is)
    (case c16 => k_is)
    (case k16 => k_is)
    (case a17 => k_is)
    (case l17 => k_is)
    (case c17 => k_is)
    (case k17 => k_is)
    (case a18 => k_is)
    (case l18 => k_is)
    (case c18 => k_is)
    (case k18 => k_is)
    (case a19 => k_is)
    (case l19 => k_is)
    (case c19 => k_is)
    (case k19 => k_is)
    (case a20 => k_is)
    (case l20 => k_is)
    (case c20 => k_is)
    (case k20 => k_is)
    (case a21 => k_is)
    (case l21 => k_is)
    (case c21 => k_is)
    (case k21 => k_is)
    (case a22 => k_is)
    (case l22 => k_is)
    (case c22 => k_is)
    (case k22 => k_is)
    (case a23 => k_is)
    (case l23 => k_is)
    (case c23 => k_is)
    (case k23 => k_is)
    (case a24 => k_is)
    (case l24 => k_is)
    (case c24 => k_is)
    (case k24 => k_is)
    (case a25 => k_is)
    (case l25 => k_is)
    (case c25 => k_is)
    (case k25 => k_is)
    (case a26 => k_is)
    (case l26 => k_is)
    (case c26 => k_is)
    (case k26 => k_is)
    (case a27 => k_is)
    (case l27 => k_is)
    (case c27 => k_is)
    (case k27 => k_is)
    (case a28 => k_is)
    (case l28 => k_is)
    (case c28 => k_is)
    (case k28 => k_is)
    (case a29 => k_is)
    (case l29 => k_is)
    (case c29 => k_is)
    (case k29 => k_is)
    (case a30 => k_is)
    (case l30 => k_is)
    (case c30 => k_is)
    (case k30 => k_is)
    (case a31 => k_is)
    (case l31 => k_is)
    (case c31 => k_is)
    (case k31 => k_is)
    (case a32 => k_is)
    (case l32 => k_is)
    (case c32 => k_is)
    (case k32 => k_is)
    (case a33 => k_is)
    (case l33 => k_is)
    (case c33 => k_is)
    (case k33 => k_is)
    (case a34 => k_is)
    (case l34 => k_is)
    (case c34 => k_is)
    (case k34 => k_is)
    (case a35 => k_is)
    (case l35 => k_is)
    (case c35 => k_is)
    (case k35 => k_is)
    (case a36 => k_is)
    (case l36 => k_is)
    (case c36 => k_is)
    (case k36 => k_is)
    (case a37 => k_is)
    (case l37 => k_is)
    (case c37 => k_is)
    (case k37 => k_is)
    (case a38 => k_is)
    (case l38 => k_is)
    (case c38 => k_is)
    (case k38 => k_is)
    (case a39 => k_is)
    (case l39 => k_is)
    (case c39 => k_is)
    (case k39 => k_is)
    (case a40 => k_is)
    (case l40 => k_is)
    (case c40 => k_is)
    (case k40 => k_is)
    (case a41 => k_is)
    (case l41 => k_is)
    (case c41 => k_is)
    (case k41 => k_is)
    (case a42 => k_is)
    (case l42 => k_is)
    (case c42 => k_is)
    (case k42 => k_is)
    (case a43 => k_is)
    (case l43 => k_is)
    (case c43 => k_is)
    (case k43 => k_is)
    (case a44 => k_is)
    (case l44 => k_is)
    (case c44 => k_is)
    (case k44 => k_is)
    (case a45 => k_is)
    (case l45 => k_is)
    (case c45 => k_is)
    (case k45 => k_is)
    (case a46 => k_is)
    (case l46 => k_is)
    (case c46 => k_is)
    (case k46 => k_is)
    (case a47 => k_is)
    (case l47 => k_is)
    (case c47 => k_is)
    (case k47 => k_is)
    (case a48 => k_is)
    (case l48 => k_is)
    (case c48 => k_is)
    (case k48 => k_is)
    (case a49 => k_is)
    (case l49 => k_is)
    (case c49 => k_is)
    (case k49 => k_is)
    (case qs_Arrow => k_is)
    (case qr_Arrow => k_is)
    (case qf_Arrow => k_is)
    (case n_Net_arrows => k_is)
    (case n_Arrow_behind => k_is)
    (case n_Ride_behind => k_is)
    (case n_Wait_behind => k_is)
    (case n_Back_behind => k_is)
    (case n_Arrow_goal => k_is)
    (case n_Ride_goal => k_is)
    (case n_Wait_goal => k_is)
    (case n_Back_goal => k_is)
    (case n_Net_names => k_is)
    (case n_Arrow_start => k_is)
    (case n_Ride_start => k_is)
    (case n_Wait_start => k_is)
    (case n_Back_start => k_is)
    (case n_Arrow_time => k_is)
    (case n_Ride_time => k_is)
    (case n_Wait_time => k_is)
    (case n_Back_time => k_is)
    (case ign => k_is)
    (case igt => k_is)
    (case iga_Arrow => k_is)
    (case igm_Arrow => k_is)
    (case kit_Arrow_Back => kit_is)
    (case kit_Arrow_Ride => kit_is)
    (case iga_Ride => k_is)
    (case igm_Ride => k_is)
    (case kit_Ride_Back => kit_is)
    (case kit_Ride_Ride => kit_is)
    (case iga_Wait => k_is)
    (case igm_Wait => k_is)
    (case kit_Wait_Back => kit_is)
    (case kit_Wait_Ride => kit_is)
    (case iga_Back => k_is)
    (case igm_Back => k_is)
    (case kit_Back_Back => kit_is)
    (case kit_Back_Ride => kit_is)
    (case iga_Net => k_is)
    (case igm_Net => k_is)
    (case kit_Net_Back => kit_is)
    (case kit_Net_Ride => kit_is)
    (case z0 => k_is)
    (case z1 => k_is)
    (case z2 => k_is)
    (case z3 => k_is)
    (case z4 => k_is)
    (case z5 => k_is)
    (case z6 => k_is)
    (case z7 => k_is)
    (case z8 => k_is)
    (case z9 => k_is)
    (case z10 => k_is)
    (case z11 => k_is)
    (case z12 => k_is)
    (case z13 => k_is)
    (case z14 => k_is)
    (case z15 => k_is)
    (case gc0 => k_is)
    (case gc1 => k_is)
    (case gc2 => k_is)
    (case gc3 => k_is)
    (case gc4 => k_is)
